import PyProof.Rows.All
import Wide.All
import OpenK.AllK
import Wide.FinOn
import PyProof.EqAt
import PyProof.EqKinds
import PyProof.TupleCall
import PyProof.NeKinds
import PyProof.StrLawsTight
import PyProof.ExcClass3
import PyProof.StationsW
import PyProof.ExcBaseAll.ValueError
import PyProof.NsDelKeeps
import PyProof.RulesAs
import PyProof.ExcArgsOwn
import PyProof.ExcAttrAll.ValueError
import PyProof.ZipIter
import PyProof.ListMulRoad
import KE.KDictSum
import PyProof.ListRange
import PyProof.Draws
import PyProof.EnumMake
import PyProof.Rows.Range3
import PyProof.Rows.SortShell
import PyProof.Conv_int_bool
import PyProof.Rows.SetFrom
import PyProof.Rows.SetObj
import PyProof.WalksMore
import KE.IntBitsLaws
import KE.KRevSl
import PyProof.FitsBits
import PyProof.CollectIter
import PyProof.IsRules
import PyProof.AttrMissHeap
import PyProof.WalksS
import KE.KDictOf
import PyProof.PureStr
import PyProof.StrOps2
import PyProof.SliceStr2
import PyProof.StrBlockI
import PyProof.CompFree
import PyProof.Rows.StrSplitJoin
import PyProof.StrCalls6
import PyProof.ConsumeWalk
import PyProof.StrLawsReplace
import PyProof.DictItems
import PyProof.Rows.SortRuns
import KE.KFind
import PySem.Builtin.SetT
import PyProof.FactsAll.tuple_iterator_0
import PyProof.Rows.TupTab
import Lean
import PySem.Challenge.RW_shutpairs_k51_whole_pairs_cancel
set_option Elab.async false
set_option linter.all false
set_option maxRecDepth 100000
/-! THE HAND LAYER, for ints, bools, texts, own classes, LISTS and tuples (index, slices, in, append, pop ..), calls, loops. Paste it whole ahead of your own text; what your proof does not reach may be deleted. -/
namespace L2
open PySem PySem.Spec PyProof.Rows

/-- a key: an int or a str -/
abbrev Key := Sum Int Str
def keyIs : Key → Value → Bool
  | .inl k, v => Value.isInt k v
  | .inr x, v => Value.isStrOf x v
def keyH (w : World) : Key → Int
  | .inl k => hashInt k
  | .inr x => hashStr w x
theorem keyIs_shape : ∀ {k : Key} {v : Value}, keyIs k v = true → (∃ i t, k = Sum.inl i ∧ v = Value.int i t) ∨ (∃ x t, k = Sum.inr x ∧ v = Value.str x t)
  | .inl i, v, h => by
    obtain ⟨t, e⟩ := Value.isInt_shape (k := i) (v := v) h
    exact .inl ⟨i, t, rfl, e⟩
  | .inr x, v, h => by
    obtain ⟨t, e⟩ := Value.isStrOf_shape (x := x) (v := v) h
    exact .inr ⟨x, t, rfl, e⟩
theorem keyIs_int (i : Int) (t : Tok) : keyIs (.inl i) (.int i t) = true := by simp [keyIs, Value.isInt]
theorem keyIs_str (x : Str) (t : Tok) : keyIs (.inr x) (.str x t) = true := by simp [keyIs, Value.isStrOf]
theorem key_ll (a b : Int) : decide ((Sum.inl a : Key) = Sum.inl b) = (a == b) := by
  by_cases e : a = b
  · subst e; simp
  · have h : ¬ (Sum.inl a : Key) = Sum.inl b := fun q => e (Sum.inl.inj q)
    rw [decide_eq_false h]
    exact (beq_eq_false_iff_ne.mpr e).symm
theorem key_rr (a b : Str) : decide ((Sum.inr a : Key) = Sum.inr b) = decide (a = b) := by
  by_cases e : a = b
  · subst e; simp
  · have h : ¬ (Sum.inr a : Key) = Sum.inr b := fun q => e (Sum.inr.inj q)
    rw [decide_eq_false h, decide_eq_false e]
theorem key_lr (a : Int) (b : Str) : decide ((Sum.inl a : Key) = Sum.inr b) = false := decide_eq_false (fun q => nomatch q)
theorem key_rl (a : Str) (b : Int) : decide ((Sum.inr a : Key) = Sum.inl b) = false := decide_eq_false (fun q => nomatch q)

def mixKind (prog : Program) (w : World) : PySem.KeyKind prog w Key where
  is := keyIs
  hash := keyH w
  inj := fun v a b ha hb => by
    rcases keyIs_shape ha with ⟨i, t, rfl, rfl⟩ | ⟨x, t, rfl, rfl⟩
    · rcases keyIs_shape hb with ⟨j, u, rfl, e⟩ | ⟨y, u, rfl, e⟩
      · injection e with e1 _; rw [e1]
      · exact nomatch e
    · rcases keyIs_shape hb with ⟨j, u, rfl, e⟩ | ⟨y, u, rfl, e⟩
      · exact nomatch e
      · injection e with e1 _; rw [e1]
  byValue := fun k v h => by
    rcases keyIs_shape h with ⟨i, t, rfl, rfl⟩ | ⟨x, t, rfl, rfl⟩ <;> rfl
  pyHash := fun hv h => by
    rcases keyIs_shape hv with ⟨i, t, rfl, rfl⟩ | ⟨x, t, rfl, rfl⟩
    · exact wpAny_pyHash_int h
    · exact wpAny_pyHash_str h
  eqBool := fun hu hv h => by
    rcases keyIs_shape hu with ⟨i, t, rfl, rfl⟩ | ⟨x, t, rfl, rfl⟩
    · rcases keyIs_shape hv with ⟨j, u, rfl, rfl⟩ | ⟨y, u, rfl, rfl⟩
      · rw [key_ll] at h; exact wpAny_eqBool_int h
      · rw [key_lr] at h; exact SeqAt.EqAt.int_str i t y u _ _ _ _ h
    · rcases keyIs_shape hv with ⟨j, u, rfl, rfl⟩ | ⟨y, u, rfl, rfl⟩
      · rw [key_rl] at h; exact SeqAt.EqAt.str_int x t j u _ _ _ _ h
      · rw [key_rr] at h; exact wpAny_eqBool_str h
  «strs» := fun k x t v h => by
    rcases keyIs_shape h with ⟨i, u, rfl, e⟩ | ⟨y, u, rfl, e⟩
    · exact nomatch e
    · injection e with e1 _
      subst e1
      cases v <;> rfl

theorem mixKind_int (prog : Program) (w : World) (i : Int) (t : Tok) : (mixKind prog w).is (.inl i) (.int i t) = true := keyIs_int i t
theorem mixKind_str (prog : Program) (w : World) (x : Str) (t : Tok) : (mixKind prog w).is (.inr x) (.str x t) = true := keyIs_str x t
end L2

namespace L2
open PySem PySem.Spec PyProof.Rows

/-- a value, without the heap -/
inductive V where
  | non | bl (b : Bool) | int (i : Int) | str (x : Str) | byt (b : Array UInt8) | flt (b : UInt64) | ref (a : Addr) | ty (n : String)
  deriving DecidableEq

def RelV : V → Value → Prop
  | .non, u => u = Value.none
  | .bl b, u => u = Value.bool b
  | .int i, u => ∃ t, u = Value.int i t
  | .str x, u => ∃ t, u = Value.str x t
  | .byt b, u => ∃ t, u = Value.bytes b t
  | .flt b, u => ∃ t, u = Value.float b t
  | .ref a, u => u = Value.ref a
  | .ty n, u => u = Value.type n

abbrev Vals : List V → List Value → Prop := Paired RelV
theorem Vals.length {xs : List V} {us : List Value} (r : Vals xs us) : xs.length = us.length := Paired.length r
theorem Vals.get : ∀ {xs : List V} {us : List Value} {i : Nat} {x : V}, Vals xs us → xs[i]? = some x → ∃ u, us[i]? = some u ∧ RelV x u
  | _, _, _, _, .nil, e => by simp at e
  | _, _, 0, _, .cons r _, e => by simp at e; subst e; exact ⟨_, rfl, r⟩
  | _, _, i + 1, x, .cons _ t, e => by
    obtain ⟨u, h1, h2⟩ := Vals.get (i := i) (x := x) t (by simpa using e)
    exact ⟨u, by simpa using h1, h2⟩
theorem Vals.set {x : V} {u : Value} (r : RelV x u) : ∀ {xs : List V} {us : List Value} (i : Nat), Vals xs us → Vals (xs.set i x) (us.set i u)
  | _, _, _, .nil => .nil
  | _, _, 0, .cons _ t => .cons r t
  | _, _, i + 1, .cons q t => .cons q (Vals.set r i t)
theorem Vals.append : ∀ {xs ys : List V} {us ws : List Value}, Vals xs us → Vals ys ws → Vals (xs ++ ys) (us ++ ws)
  | _, _, _, _, .nil, s => s
  | _, _, _, _, .cons r t, s => .cons r (Vals.append t s)
theorem Vals.take : ∀ {xs : List V} {us : List Value} (n : Nat), Vals xs us → Vals (xs.take n) (us.take n)
  | _, _, 0, _ => .nil
  | _, _, _ + 1, .nil => .nil
  | _, _, n + 1, .cons r t => .cons r (Vals.take n t)
theorem Vals.drop : ∀ {xs : List V} {us : List Value} (n : Nat), Vals xs us → Vals (xs.drop n) (us.drop n)
  | _, _, 0, r => r
  | _, _, _ + 1, .nil => .nil
  | _, _, n + 1, .cons _ t => Vals.drop n t
def RelO : Option V → Option Value → Prop
  | some v, some u => RelV v u
  | none, none => True
  | _, _ => False
def KV {κ : Type} : List (κ × V) → List (κ × Value) → Prop := Paired fun (p : κ × V) (q : κ × Value) => p.1 = q.1 ∧ RelV p.2 q.2

/-- a key of a dict (00_mix): an int or a text -/
def kV : Key → V
  | .inl i => .int i
  | .inr x => .str x

/-- what stands at a tracked address -/
inductive HO where
  /-- a list -/
  | lst (xs : List V)
  /-- a tuple (never changes) -/
  | tup (xs : List V)
  /-- a dict whose keys are ints and texts; one whose keys are tuples of ints and texts (the empty one is both) -/
  | dK (kvs : List (Key × V)) | dT (kvs : List (List Key × V))
  /-- a set of ints: its members, its size -/
  | set (S : Int → Bool) (n : Nat)
  /-- an instance of the class at C, its dict at dx, its attributes -/
  | ins (C dx : Addr) (fs : List (Str × V))
  /-- the dict of the instance at x -/
  | own (x : Addr)
  /-- the dict of an exception -/
  | xd (fs : List (Str × V))
  /-- a bound method, f of x -/
  | met (f x : Addr)
  /-- a range object lo, lo + 1, .. below hi -/
  | rng (lo hi : Int)
  /-- a thing that is known to the object (the script; a dict while a loop walks it): read, never written while it is so -/
  | frz (o : Obj) (u : HO)
  /-- a code object's table -/
  | tbl (ps : Array Value)
  /-- any other thing, by what is true of its one object (a def of one's own: SetO a S n := HO.ext fun h => ..) -/
  | ext (φ : Heap → Prop)

abbrev Hp := Addr → Option HO
def upd (H : Hp) (a : Addr) (o : HO) : Hp := fun b => if b = a then some o else H b
theorem upd_same {H : Hp} {a : Addr} {o : HO} : upd H a o a = some o := by unfold upd; rw [if_pos rfl]
theorem upd_ne {H : Hp} {a b : Addr} {o : HO} (h : b ≠ a) : upd H a o b = H b := by unfold upd; rw [if_neg h]
/-- two objects of different content stand apart -/
theorem ne_of {H : Hp} {a b : Addr} {o u : HO} (h : H a = some o) (h' : H b = some u) (d : o ≠ u) : a ≠ b := by
  intro e; subst e; rw [h] at h'; exact d (Option.some.inj h')
theorem ne_of_none {H : Hp} {a b : Addr} {o : HO} (h : H a = some o) (h' : H b = none) : a ≠ b := by
  intro e; subst e; rw [h] at h'; cases h'

section
variable (P : Program) (w : World)
def ObjOk (H : Hp) (h : Heap) (a : Addr) : HO → Prop
  | .lst xs => xs.length ≤ sizeLine ∧ ∃ (its : List Value) (n : Nat), Vals xs its ∧ h.get? a = some { cls := .type "list", data := .seq its.toArray n }
  | .tup xs => xs.length ≤ sizeLine ∧ ∃ its : List Value, Vals xs its ∧ IsTup h a its.toArray ∧ ∀ o, h.get? a = some o → o.dict = none
  | .dK kvs => kvs.length ≤ sizeLine ∧ (a == sysModules) = false ∧ ∃ vs, KV kvs vs ∧ h.DictOf (mixKind P w) a vs
  | .dT kvs => kvs.length ≤ sizeLine ∧ (a == sysModules) = false ∧ ∃ xs : List (List Key × Addr × Value),
      Paired (fun (p : List Key × V) (q : List Key × Addr × Value) => p.1 = q.1 ∧ H q.2.1 = some (.tup (p.1.map kV)) ∧ RelV p.2 q.2.2) kvs xs ∧
      ∃ o es ep, h.get? a = some o ∧ o.ExactDict ∧ o.data = .dict es ep ∧ es.toList = xs.map (entryOfKey (tupleKind (mixKind P w))) ∧ (xs.map (·.1)).Nodup
  | .set S n => h.SetOf (intKind P w) a S n
  | .ins C dx fs => H dx = some (.own a) ∧ fs.length ≤ 1000 ∧ dx ≠ a ∧ h.get? a = some (PySem.W.instObj C dx) ∧
      ∃ mA, h.Ns1 dx mA ∧ (∀ f, RelO (fs.lookup f) (mA f)) ∧ PySem.Within mA (fs.map (·.1))
  | .own _ => ∃ o, h.get? a = some o
  | .xd fs => ∃ mA, h.Ns1 a mA ∧ ∀ f, RelO (fs.lookup f) (mA f)
  | .rng lo hi => ∃ t u v, h.get? a = some { cls := .type "range", data := .fields #[.int lo t, .int hi u, .int 1 v] }
  | .frz o u => h.get? a = some o ∧ ObjOk H h a u
  | .tbl ps => h.get? a = some { cls := .none, data := .fields ps }
  | .met f x => h.get? a = some (PySem.W.methodObj (.ref f) (.ref x))
  | .ext φ => φ h ∧ (∃ o, h.get? a = some o) ∧ ∀ h1 h2 : Heap, φ h1 → (∀ o, h1.get? a = some o → h2.get? a = some o) → φ h2
theorem tup_nodict {h : Heap} {its : Array Value} : ∀ o, (h.push { cls := .type "tuple", data := .seq its }).get? h.objs.size = some o → o.dict = none := by
  intro o e
  rw [Heap.get?_push_size _ rfl] at e
  cases e
  rfl
/-- the abstract heap is held -/
def HOk (H : Hp) (h : Heap) : Prop := ∀ a o, H a = some o → ObjOk P w H h a o
end

section
variable {P : Program} {w : World} {H H' : Hp} {h h' : Heap} {a : Addr} {o : HO}
theorem ObjOk.lt (x : ObjOk P w H h a o) : a < h.objs.size := by
  cases o with
  | lst xs => obtain ⟨_, _, _, _, e⟩ := x; exact Heap.lt_size e
  | tup xs => obtain ⟨_, _, _, p, _⟩ := x; exact p.lt
  | dK kvs => obtain ⟨_, _, _, _, o, _, _, e, _⟩ := x; exact Heap.lt_size e
  | dT kvs => obtain ⟨_, _, _, _, o, _, _, e, _⟩ := x; exact Heap.lt_size e
  | set S n => obtain ⟨o, _, _, _, e, _⟩ := x; exact Heap.lt_size e
  | ins C dx fs => obtain ⟨_, _, _, e, _⟩ := x; exact Heap.lt_size e
  | own y => obtain ⟨_, e⟩ := x; exact Heap.lt_size e
  | xd fs => obtain ⟨_, ⟨_, _, _, e, _⟩, _⟩ := x; exact Heap.lt_size e
  | rng lo hi => obtain ⟨_, _, _, e⟩ := x; exact Heap.lt_size e
  | frz ob u => obtain ⟨e, _⟩ := x; exact Heap.lt_size e
  | tbl ps => exact Heap.lt_size (show h.get? a = some _ from x)
  | met f y => exact Heap.lt_size (show h.get? a = some _ from x)
  | ext φ => obtain ⟨_, ⟨_, e⟩, _⟩ := x; exact Heap.lt_size e
theorem Paired.mapP {α β : Type} {F G : α → β → Prop} : ∀ {l₁ : List α} {l₂ : List β}, Paired F l₁ l₂ → (∀ a b, F a b → G a b) → Paired G l₁ l₂
  | _, _, .nil, _ => .nil
  | _, _, .cons r t, f => .cons (f _ _ r) (Paired.mapP t f)
/-- what an object's description leans on: its own object, its own dict, the tuples -/
theorem ObjOk.stay (x : ObjOk P w H h a o) (k : ∀ b u, (b = a ∨ H b = some (.own a)) → h.get? b = some u → h'.get? b = some u)
    (ho : ∀ b, H b = some (.own a) → H' b = some (.own a)) (ht : ∀ b xs, H b = some (.tup xs) → H' b = some (.tup xs)) : ObjOk P w H' h' a o := by
  induction o with
  | lst xs => obtain ⟨z, its, n, r, e⟩ := x; exact ⟨z, its, n, r, k _ _ (.inl rfl) e⟩
  | tup xs =>
    obtain ⟨z, its, r, ⟨ob, e, c⟩, nd⟩ := x
    have e' := k _ _ (.inl rfl) e
    exact ⟨z, its, r, ⟨ob, e', c⟩, fun o q => by rw [e'] at q; cases q; exact nd ob e⟩
  | dK kvs => obtain ⟨z, y, vs, r, ob, es, ep, e, c⟩ := x; exact ⟨z, y, vs, r, ob, es, ep, k _ _ (.inl rfl) e, c⟩
  | dT kvs =>
    obtain ⟨z, y, xs, r, ob, es, ep, e, c⟩ := x
    exact ⟨z, y, xs, Paired.mapP r fun p q z => ⟨z.1, ht _ _ z.2.1, z.2.2⟩, ob, es, ep, k _ _ (.inl rfl) e, c⟩
  | set S n => obtain ⟨ob, es, ep, t, e, c⟩ := x; exact ⟨ob, es, ep, t, k _ _ (.inl rfl) e, c⟩
  | ins C dx fs =>
    obtain ⟨d, z, ne, e, mA, ⟨od, es, ep, e2, c⟩, r⟩ := x
    exact ⟨ho _ d, z, ne, k _ _ (.inl rfl) e, mA, ⟨od, es, ep, k _ _ (.inr d) e2, c⟩, r⟩
  | own y => obtain ⟨ob, e⟩ := x; exact ⟨ob, k _ _ (.inl rfl) e⟩
  | xd fs => obtain ⟨mA, ⟨od, es, ep, e, c⟩, r⟩ := x; exact ⟨mA, ⟨od, es, ep, k _ _ (.inl rfl) e, c⟩, r⟩
  | rng lo hi => obtain ⟨t, u, v, e⟩ := x; exact ⟨t, u, v, k _ _ (.inl rfl) e⟩
  | frz ob u ih => obtain ⟨e, q⟩ := x; exact ⟨k _ _ (.inl rfl) e, ih q⟩
  | tbl ps =>
    have e : h.get? a = some { cls := .none, data := .fields ps } := x
    show h'.get? a = some { cls := .none, data := .fields ps }
    exact k a _ (.inl rfl) e
  | met f y =>
    have e : h.get? a = some (PySem.W.methodObj (.ref f) (.ref y)) := x
    show h'.get? a = some (PySem.W.methodObj (.ref f) (.ref y))
    exact k a _ (.inl rfl) e
  | ext φ => obtain ⟨p, ⟨o, e⟩, st⟩ := x; exact ⟨st _ _ p fun o q => k _ _ (.inl rfl) q, ⟨o, k _ _ (.inl rfl) e⟩, st⟩
theorem HOk.lt (x : HOk P w H h) (e : H a = some o) : a < h.objs.size := (x a o e).lt
theorem HOk.fresh (x : HOk P w H h) (e : h.objs.size ≤ a) : H a = none := by
  cases q : H a with
  | none => rfl
  | some u => exact absurd (Nat.lt_of_lt_of_le (x.lt q) e) (Nat.lt_irrefl _)
/-- every object of the heap is kept -/
theorem HOk.kept (x : HOk P w H h) (k : ∀ b u, h.get? b = some u → h'.get? b = some u) : HOk P w H h' := fun a o e =>
  (x a o e).stay (fun b u _ q => k b u q) (fun _ q => q) fun _ _ q => q
/-- a new object is laid and tracked -/
theorem HOk.laid (x : HOk P w H h) (k : ∀ b u, h.get? b = some u → h'.get? b = some u) (hp : h.objs.size ≤ a) (new : ObjOk P w (upd H a o) h' a o) : HOk P w (upd H a o) h' := fun b u e => by
  have hn := x.fresh hp
  by_cases hb : b = a
  · subst hb; rw [upd_same] at e; cases e; exact new
  · rw [upd_ne hb] at e
    exact (x b u e).stay (fun c v _ q => k c v q) (fun c q => by rw [upd_ne (ne_of_none q hn)]; exact q) fun c xs q => by rw [upd_ne (ne_of_none q hn)]; exact q
end

/-- what may be read as u: it is u, or a known u -/
def Rd (H : Hp) (a : Addr) (u : HO) : Prop := H a = some u ∨ ∃ o, H a = some (.frz o u)
theorem Rd.ok {P : Program} {w : World} {H : Hp} {h : Heap} {a : Addr} {u : HO} (r : Rd H a u) (x : HOk P w H h) : ObjOk P w H h a u := by
  rcases r with r | ⟨o, r⟩
  · exact x a u r
  · obtain ⟨_, q⟩ := x a _ r
    exact q
/-- what may be written -/
def Mut : Option HO → Prop
  | some (.lst _) => True
  | some (.dK _) => True
  | some (.dT _) => True
  | some (.set _ _) => True
  | some (.ins _ _ _) => True
  | some (.ext _) => True
  | _ => False
section
variable {P : Program} {w : World} {H : Hp} {h h' : Heap} {x e : Addr} {o' : HO}
/-- the object at e is changed: x itself, or the dict of the instance x -/
theorem HOk.write (ok : HOk P w H h) (mu : Mut (H x)) (he : e = x ∨ H e = some (.own x)) (k : ∀ b u, b ≠ e → h.get? b = some u → h'.get? b = some u) (heo : ∃ u, h'.get? e = some u)
    (new : ObjOk P w (upd H x o') h' x o') : HOk P w (upd H x o') h' := fun b u q => by
  have nown : ∀ c y, H c = some (.own y) → c ≠ x := fun c y r z => by subst z; rw [r] at mu; exact mu
  have ntup : ∀ c xs, H c = some (.tup xs) → c ≠ x := fun c xs r z => by subst z; rw [r] at mu; exact mu
  by_cases hb : b = x
  · subst hb; rw [upd_same] at q; cases q; exact new
  · rw [upd_ne hb] at q
    by_cases hbe : b = e
    · have q' : H b = some (.own x) := by
        rcases he with z | z
        · exact absurd (hbe.trans z) hb
        · rw [hbe]; exact z
      rw [q] at q'; cases q'
      obtain ⟨v, hv⟩ := heo
      exact ⟨v, by rw [hbe]; exact hv⟩
    · refine (ok b u q).stay (fun c v hc r => k c v ?_ r) (fun c r => by rw [upd_ne (nown c b r)]; exact r) fun c xs r => by rw [upd_ne (ntup c xs r)]; exact r
      rcases hc with rfl | hc
      · exact hbe
      · rintro rfl
        rcases he with z | z
        · exact nown c b hc z
        · rw [hc] at z; cases z; exact hb rfl
end

/-! ### kept unless tracked; of the frames at fs (the callers') the slots may change (an exception that passes writes there); of the records at ex (iterators) nothing is said -/
structure Un (fs ex : List Addr) (H H' : Hp) (h h' : Heap) : Prop where
  keep : ∀ b o, h.get? b = some o → H b = none → b ∉ fs → b ∉ ex → h'.get? b = some o
  slot : ∀ b o, h.get? b = some o → H b = none → b ∈ fs → b ∉ ex → ∃ sl, h'.get? b = some { o with slots := sl }
  free : ∀ b o, h.get? b = some o → H b = none → b ∉ ex → H' b = none
  there : ∀ b o, h.get? b = some o → b ∉ ex → ∃ o', h'.get? b = some o'
  tups : ∀ b xs, H b = some (.tup xs) → H' b = some (.tup xs)
  frzs : ∀ b o u, H b = some (.frz o u) → H' b = some (.frz o u)
  tbls : ∀ b ps, H b = some (.tbl ps) → ∃ more, H' b = some (.tbl (ps ++ more))
section
variable {fs fs' ex ex' : List Addr} {H H1 H2 : Hp} {h h1 h2 h' : Heap} {a x e : Addr} {o : HO}
theorem Un.any (u : Un fs ex H H1 h h1) {b : Addr} {ob : Obj} (q : h.get? b = some ob) (n : H b = none) (hx : b ∉ ex) : ∃ sl, h1.get? b = some { ob with slots := sl } := by
  by_cases hb : b ∈ fs
  · exact u.slot b ob q n hb hx
  · exact ⟨ob.slots, u.keep b ob q n hb hx⟩
theorem Un.trans (a : Un fs ex H H1 h h1) (b : Un fs ex H1 H2 h1 h2) : Un fs ex H H2 h h2 where
  keep := fun c ob q n hc hx => b.keep c ob (a.keep c ob q n hc hx) (a.free c ob q n hx) hc hx
  slot := fun c ob q n hc hx => by
    obtain ⟨sl, e1⟩ := a.slot c ob q n hc hx
    obtain ⟨sl', e2⟩ := b.slot c _ e1 (a.free c ob q n hx) hc hx
    exact ⟨sl', e2⟩
  free := fun c ob q n hx => by
    obtain ⟨o', e1⟩ := a.there c ob q hx
    exact b.free c o' e1 (a.free c ob q n hx) hx
  there := fun c ob q hx => by
    obtain ⟨o', e1⟩ := a.there c ob q hx
    exact b.there c o' e1 hx
  tups := fun c xs q => b.tups c xs (a.tups c xs q)
  frzs := fun c ob xs q => b.frzs c ob xs (a.frzs c ob xs q)
  tbls := fun c ps q => by
    obtain ⟨m1, e1⟩ := a.tbls c ps q
    obtain ⟨m2, e2⟩ := b.tbls c _ e1
    exact ⟨m1 ++ m2, by rw [e2, Array.append_assoc]⟩
theorem Un.kept (k : ∀ b u, h.get? b = some u → h'.get? b = some u) : Un fs ex H H h h' :=
  ⟨fun b ob q _ _ _ => k b ob q, fun b ob q _ _ _ => ⟨ob.slots, k b ob q⟩, fun _ _ _ n _ => n, fun b ob q _ => ⟨ob, k b ob q⟩, fun _ _ q => q, fun _ _ _ q => q, fun _ ps q => ⟨#[], by rw [q]; simp⟩⟩
theorem Un.refl : Un fs ex H H h h := Un.kept fun _ _ q => q
theorem Un.laid (k : ∀ b u, h.get? b = some u → h'.get? b = some u) (hp : h.objs.size ≤ a) (hn : H a = none) : Un fs ex H (upd H a o) h h' where
  keep := fun b u q _ _ _ => k b u q
  slot := fun b u q _ _ _ => ⟨u.slots, k b u q⟩
  free := fun b u q n _ => by rw [upd_ne (Nat.ne_of_lt (Nat.lt_of_lt_of_le (Heap.lt_size q) hp))]; exact n
  there := fun b u q _ => ⟨u, k b u q⟩
  tups := fun b xs q => by rw [upd_ne (ne_of_none q hn)]; exact q
  frzs := fun b u xs q => by rw [upd_ne (ne_of_none q hn)]; exact q
  tbls := fun b ps q => ⟨#[], by rw [upd_ne (ne_of_none q hn), q]; simp⟩
theorem Un.write (mu : Mut (H x)) (he : e = x ∨ H e = some (.own x)) (k : ∀ b u, b ≠ e → h.get? b = some u → h'.get? b = some u) (heo : ∃ u, h'.get? e = some u) : Un fs ex H (upd H x o) h h' := by
  have hx : ∀ b, H b = none → b ≠ x := fun b n z => by subst z; rw [n] at mu; exact mu
  have hb : ∀ b, H b = none → b ≠ e := fun b n z => by
    subst z
    rcases he with r | r
    · exact hx b n r
    · rw [n] at r; cases r
  have hm : ∀ b u, H b = some u → ¬ Mut (some u) → b ≠ x := fun b u q nm z => by subst z; rw [q] at mu; exact nm mu
  refine ⟨fun b u q n _ _ => k b u (hb b n) q, fun b u q n _ _ => ⟨u.slots, k b u (hb b n) q⟩, fun b u q n _ => by rw [upd_ne (hx b n)]; exact n, fun b u q _ => ?_,
    fun b xs q => by rw [upd_ne (hm b _ q fun z => z)]; exact q, fun b u xs q => by rw [upd_ne (hm b _ q fun z => z)]; exact q, fun b ps q => ⟨#[], by rw [upd_ne (hm b _ q fun z => z), q]; simp⟩⟩
  by_cases hbe : b = e
  · subst hbe; exact heo
  · exact ⟨u, k b u hbe q⟩
end

/-! ### the heap without what is tracked -/
def trk (h : Heap) (H : Hp) : List Addr := (List.range h.objs.size).filter fun a => (H a).isSome
def hidT (h : Heap) (H : Hp) : Heap := PySem.W.hideAll h (trk h H)
theorem hidT_size (h : Heap) (H : Hp) : (hidT h H).objs.size = h.objs.size := PySem.W.hideAll_size _ _
theorem hidT_get {h : Heap} {H : Hp} {b : Addr} {o : Obj} (e : h.get? b = some o) (n : H b = none) : (hidT h H).get? b = some o :=
  PySem.W.hideAll_get _ e fun hm => by
    have q : (H b).isSome = true := (List.mem_filter.mp hm).2
    rw [n] at q; simp at q
theorem of_hidT {h : Heap} {H : Hp} {b : Addr} {o : Obj} (e : (hidT h H).get? b = some o) : h.get? b = some o ∧ H b = none := by
  have e' : h.get? b = some o := PySem.W.of_hideAll (trk h H) e
  refine ⟨e', ?_⟩
  cases q : H b with
  | none => rfl
  | some x =>
    have hm : b ∈ trk h H := List.mem_filter.mpr ⟨List.mem_range.mpr (Heap.lt_size e'), by simp [q]⟩
    have z : (hidT h H).get? b = none := PySem.W.hideAll_none (trk h H) hm
    rw [z] at e; cases e

/-! ### OpenK's ledger, filled with every new object but one -/
def allNews (g h : Heap) (L : Addr) : List (Addr × Obj) := (List.range h.objs.size).filterMap fun a => if a = L ∨ (g.get? a).isSome = true then none else (h.get? a).map fun o => (a, o)
def rest (g h : Heap) (L d : Addr) : List (Addr × Obj) := (allNews g h L).filter fun p => decide (p.1 ≠ d)
end L2

namespace L2
open PySem PySem.Spec PyProof.Rows

/-- the module's facts, over the base: the heap at the law's entry without what is tracked there -/
structure Mod (K : PySem.W.Frag) (mg : Str → Option Value) (base : Heap) : Prop where
  kin : K.In base
  glob : base.Ns mainGlobals mg
  blt : ∃ mb, base.Ns builtinsNs mb ∧ ∀ x : Str, x ≠ "__name__" → mb x = bootBuiltins x
  nolimit : base.NoLimit

/-- the context: a def's body (or a comprehension's block) running. base: fixed through the whole law; s₀, H₀: the entry; outer: the frames whose slots others may change (a def's callers); stack: all frames that run;
   ex: iterators that were made ahead of the entry and are walked here (a comprehension's); fn: the names whose cells were made at the entry (a def: all; a comprehension's block: its own); calm: not within an except suite; pn: pins that every state bears; xe: what is wanted of an exception that leaves the code -/
structure Cx where
  prog : Program
  w : World
  K : PySem.W.Frag
  mg : Str → Option Value
  base : Heap
  A : Around
  N : List Str
  s₀ : Shared
  H₀ : Hp
  env : Env
  outer : List Env
  stack : List Env
  ex : List Addr
  fn : Str → Bool
  calm : Bool
  pn : List (Addr × Obj)
  xe : Value → Shared → Prop
/-- the callers' frames -/
def frs (l : List Env) : List Addr := l.filterMap (·.frame)
abbrev Cx.fs (X : Cx) : List Addr := frs X.outer

def Vis (sc : Scope) (x : Str) : Prop := sc.names.lookup x = some .local ∨ sc.names.lookup x = some .cell ∨ sc.names.lookup x = some .free
def Loc (sc : Scope) (x : Str) : Prop := sc.names.lookup x = some .local ∨ sc.names.lookup x = some .cell
def Look (env : Env) (h : Heap) (m : Str → Option Value) (x : Str) (u : Value) : Prop :=
  (env.kindOf x = some .local ∧ m x = some u) ∨ ((env.kindOf x = some .cell ∨ env.kindOf x = some .free) ∧ ∃ c, env.cells.lookup x = some c ∧ h.IsCell c (some u))

structure Cx.Ok (X : Cx) : Prop where
  mod : Mod X.K X.mg X.base
  kind : X.env.scope.kind = .function
  glob : X.env.globals = mainGlobals
  blt : X.env.builtins = builtinsNs
  above : X.s₀.heap.objs.size ≤ X.env.locals
  inj : ∀ x y c, X.env.cells.lookup x = some c → X.env.cells.lookup y = some c → x = y
  has : ∀ x, (X.env.kindOf x = some .cell ∨ X.env.kindOf x = some .free) → ∃ c, X.env.cells.lookup x = some c
  cab : ∀ x c, X.fn x = true → X.env.cells.lookup x = some c → X.s₀.heap.objs.size ≤ c
  hd : X.calm = true → X.A.handled = none
  frames : X.A.frames = some X.stack
  stk : X.stack = X.outer ∨ (X.stack = X.env :: X.outer ∧ X.env.frame = some X.env.locals)
  exf : ∀ b ∈ X.ex, b ≠ X.env.locals ∧ ∀ x c, X.env.cells.lookup x = some c → c ≠ b
  bs : ∀ b o, X.base.get? b = some o → X.s₀.heap.get? b = some o ∧ X.H₀ b = none
  bsz : X.base.objs.size ≤ X.s₀.heap.objs.size
  noex : ∀ b o, X.base.get? b = some o → b ∉ X.ex
  exfs : ∀ b ∈ X.ex, b ∉ X.fs
  funs : X.s₀.heap.FunFrames X.base X.outer
  frf : ∀ b ∈ X.fs, X.H₀ b = none

structure Inv (X : Cx) (pins : List (Addr × Obj)) (σ : List (Option V)) (H : Hp) (s : Shared) : Prop where
  ok : X.Ok
  os : s.os = X.s₀.os
  bare : AllBare s.gens
  base : Un X.fs X.ex X.H₀ H X.s₀.heap s.heap
  loc : ∃ m, s.heap.Ns X.env.locals m ∧ ∀ (i : Nat) (x : Str) (v : V), X.N[i]? = some x → σ[i]? = some (some v) → Vis X.env.scope x → ∃ u, RelV v u ∧ Look X.env s.heap m x u
  cell : ∀ x c, X.env.cells.lookup x = some c → ∃ v, s.heap.IsCell c v
  free : H X.env.locals = none
  freeC : ∀ x c, X.env.cells.lookup x = some c → H c = none
  pin : ∀ p ∈ X.pn ++ pins, s.heap.get? p.1 = some p.2 ∧ H p.1 = none ∧ p.1 ≠ X.env.locals ∧ p.1 ∉ X.fs ∧ ∀ v, p.2.data ≠ .cell v
  hok : HOk X.prog X.w H s.heap
  len : σ.length = X.N.length

section
variable {X : Cx} {pins : List (Addr × Obj)} {σ : List (Option V)} {H H' : Hp} {s : Shared} {h' : Heap}

theorem Cx.Ok.nofr (ok : X.Ok) {b : Addr} {o : Obj} (e : X.base.get? b = some o) : b ∉ X.fs := fun hb => by
  have := (ok.funs.mem hb).1
  rw [e] at this; cases this
theorem Inv.bs (I : Inv X pins σ H s) : ∀ b o, X.base.get? b = some o → s.heap.get? b = some o ∧ H b = none := fun b o e =>
  ⟨I.base.keep b o (I.ok.bs b o e).1 (I.ok.bs b o e).2 (I.ok.nofr e) (I.ok.noex b o e), I.base.free b o (I.ok.bs b o e).1 (I.ok.bs b o e).2 (I.ok.noex b o e)⟩
theorem Inv.bk (I : Inv X pins σ H s) : ∀ b o, X.base.get? b = some o → s.heap.get? b = some o := fun b o e => (I.bs b o e).1
theorem Inv.mod (I : Inv X pins σ H s) : Mod X.K X.mg X.base := I.ok.mod
theorem Inv.kIn (I : Inv X pins σ H s) : X.K.In s.heap := I.ok.mod.kin.keeps I.bk
theorem Inv.lt (I : Inv X pins σ H s) : X.env.locals < s.heap.objs.size := let ⟨_, hn, _⟩ := I.loc; hn.lt
theorem Inv.sz (I : Inv X pins σ H s) : X.s₀.heap.objs.size ≤ s.heap.objs.size := Nat.le_trans I.ok.above (Nat.le_of_lt I.lt)
theorem Inv.nofs (I : Inv X pins σ H s) {a : Addr} (h : s.heap.objs.size ≤ a) : a ∉ X.fs := fun hb => by
  obtain ⟨_, o, ho, _⟩ := I.ok.funs.mem hb
  exact absurd (Nat.lt_of_lt_of_le (Heap.lt_size ho) (Nat.le_trans I.sz h)) (Nat.lt_irrefl _)
theorem Inv.cne (I : Inv X pins σ H s) : ∀ x c, X.env.cells.lookup x = some c → c ≠ X.env.locals := fun x c e z => by
  obtain ⟨v, o, ho, hd⟩ := I.cell x c e
  obtain ⟨m, ⟨o', es, ep, ho', hd', _⟩, _⟩ := I.loc
  rw [z, ho'] at ho; cases ho; rw [hd'] at hd; cases hd
theorem Inv.funs (I : Inv X pins σ H s) : s.heap.FunFrames X.base X.outer := by
  have all : ∀ (l : List Env), (∀ b ∈ frs l, b ∈ X.fs) → X.s₀.heap.FunFrames X.base l → s.heap.FunFrames X.base l := by
    intro l
    induction l with
    | nil => intro _ _; trivial
    | cons env r ih =>
      intro hs hl
      obtain ⟨hk, ⟨L, o, hf, hn, ho, hd⟩, hr⟩ := hl
      have hL : L ∈ X.fs := hs L (by unfold frs; rw [List.filterMap_cons, hf]; exact List.mem_cons_self)
      obtain ⟨sl, e⟩ := I.base.slot L o ho (I.ok.frf L hL) hL fun z => I.ok.exfs L z hL
      exact ⟨hk, ⟨L, _, hf, hn, e, hd⟩, ih (fun b hb => hs b (by unfold frs; rw [List.filterMap_cons, hf]; exact List.mem_cons_of_mem _ hb)) hr⟩
  exact all X.outer (fun _ hb => hb) I.ok.funs

/-- the frames that run, for a call -/
theorem Inv.stack (I : Inv X pins σ H s) : s.heap.FunFrames X.base X.stack := by
  rcases I.ok.stk with e | ⟨e, hf⟩
  · rw [e]; exact I.funs
  · rw [e]
    obtain ⟨m, hn, _⟩ := I.loc
    refine .cons (by rw [I.ok.kind]; decide) hf hn ?_ I.funs
    exact Heap.get?_none_of_le (Nat.le_trans I.ok.bsz I.ok.above)
theorem Inv.stkSub (I : Inv X pins σ H s) : ∀ b ∈ frs X.stack, b ∈ X.env.locals :: X.fs := fun b hb => by
  rcases I.ok.stk with e | ⟨e, hf⟩
  · rw [e] at hb; exact List.mem_cons_of_mem _ hb
  · rw [e] at hb
    unfold frs at hb
    rw [List.filterMap_cons, hf] at hb
    exact hb
theorem Inv.stkFree (I : Inv X pins σ H s) : ∀ b ∈ frs X.stack, H b = none := fun b hb => by
  rcases List.mem_cons.mp (I.stkSub b hb) with e | hb
  · rw [e]; exact I.free
  · obtain ⟨_, o, ho, _⟩ := I.ok.funs.mem hb
    exact I.base.free b o ho (I.ok.frf b hb) fun z => I.ok.exfs b z hb

/-- THE STEP: the untracked objects but the frame and the records at ch are kept (the callers' frames up to slots), the frame's map is kept, the new abstract heap is held -/
theorem Inv.step {g' : Array GenState} {t' : Nat} {d' : Drawn} {ch : List Addr} (I : Inv X pins σ H s)
    (hch : ∀ b ∈ ch, (b ∈ X.ex ∨ X.s₀.heap.objs.size ≤ b) ∧ b ≠ X.env.locals ∧ (∀ x c, X.env.cells.lookup x = some c → c ≠ b) ∧ ∀ p ∈ X.pn ++ pins, p.1 ≠ b)
    (keep : ∀ b o, b ≠ X.env.locals → b ∉ X.fs → b ∉ ch → s.heap.get? b = some o → H b = none → h'.get? b = some o)
    (slot : ∀ b o, b ≠ X.env.locals → b ∈ X.fs → b ∉ ch → s.heap.get? b = some o → H b = none → ∃ sl, h'.get? b = some { o with slots := sl }) (free : ∀ b o, b ∉ ch → s.heap.get? b = some o → H b = none → H' b = none)
    (there : ∀ b o, b ∉ ch → s.heap.get? b = some o → ∃ o', h'.get? b = some o')
    (tups : ∀ b xs, H b = some (.tup xs) → H' b = some (.tup xs)) (frzs : ∀ b o u, H b = some (.frz o u) → H' b = some (.frz o u)) (tbls : ∀ b ps, H b = some (.tbl ps) → ∃ more, H' b = some (.tbl (ps ++ more)))
    (ns : ∀ m, s.heap.Ns X.env.locals m → h'.Ns X.env.locals m) (hok : HOk X.prog X.w H' h') (hg : AllBare g') :
    Inv X pins σ H' { s with heap := h', gens := g', drawn := d', toks := t' } := by
  have neL : ∀ b o, X.s₀.heap.get? b = some o → b ≠ X.env.locals := fun b o e => Nat.ne_of_lt (Nat.lt_of_lt_of_le (Heap.lt_size e) I.ok.above)
  have neC : ∀ b o, X.s₀.heap.get? b = some o → b ∉ X.ex → b ∉ ch := fun b o e hx hb => by
    rcases (hch b hb).1 with z | z
    · exact hx z
    · exact absurd (Nat.lt_of_lt_of_le (Heap.lt_size e) z) (Nat.lt_irrefl _)
  have cellK : ∀ x c, X.env.cells.lookup x = some c → ∀ v, s.heap.IsCell c v → h'.IsCell c v := fun x c e v ⟨o, ho, hd⟩ => by
    have nch : c ∉ ch := fun z => (hch c z).2.2.1 x c e rfl
    by_cases hc : c ∈ X.fs
    · obtain ⟨sl, q⟩ := slot c o (I.cne x c e) hc nch ho (I.freeC x c e)
      exact ⟨_, q, hd⟩
    · exact ⟨o, keep c o (I.cne x c e) hc nch ho (I.freeC x c e), hd⟩
  refine ⟨I.ok, I.os, hg, ⟨fun b o e n hb hx => ?_, fun b o e n hb hx => ?_, fun b o e n hx => ?_, fun b o e hx => ?_, fun b xs e => tups b xs (I.base.tups b xs e), fun b o xs e => frzs b o xs (I.base.frzs b o xs e), fun b ps e => ?_⟩, ?_, fun x c e => ?_, ?_, fun x c e => ?_, fun p hp => ?_, hok, I.len⟩
  · exact keep b o (neL b o e) hb (neC b o e hx) (I.base.keep b o e n hb hx) (I.base.free b o e n hx)
  · obtain ⟨sl, e1⟩ := I.base.slot b o e n hb hx
    obtain ⟨sl', e2⟩ := slot b _ (neL b o e) hb (neC b o e hx) e1 (I.base.free b o e n hx)
    exact ⟨sl', e2⟩
  · obtain ⟨o', e1⟩ := I.base.there b o e hx
    exact free b o' (neC b o e hx) e1 (I.base.free b o e n hx)
  · obtain ⟨o', e1⟩ := I.base.there b o e hx
    exact there b o' (neC b o e hx) e1
  · obtain ⟨m1, e1⟩ := I.base.tbls b ps e
    obtain ⟨m2, e2⟩ := tbls b _ e1
    exact ⟨m1 ++ m2, by rw [e2, Array.append_assoc]⟩
  · obtain ⟨m, hn, hl⟩ := I.loc
    refine ⟨m, ns m hn, fun i x v e1 e2 e3 => ?_⟩
    obtain ⟨u, r, l⟩ := hl i x v e1 e2 e3
    refine ⟨u, r, ?_⟩
    rcases l with l | ⟨k, c, e, z⟩
    · exact .inl l
    · exact .inr ⟨k, c, e, cellK x c e _ z⟩
  · obtain ⟨v, z⟩ := I.cell x c e
    exact ⟨v, cellK x c e v z⟩
  · obtain ⟨m, ⟨o, _, _, ho, _⟩, _⟩ := I.loc
    exact free _ o (fun z => (hch _ z).2.1 rfl) ho I.free
  · obtain ⟨v, o, ho, hd⟩ := I.cell x c e
    exact free c o (fun z => (hch c z).2.2.1 x c e rfl) ho (I.freeC x c e)
  · obtain ⟨e, n, ne, nf, d⟩ := I.pin p hp
    have nch : p.1 ∉ ch := fun z => (hch p.1 z).2.2.2 p hp rfl
    exact ⟨keep p.1 p.2 ne nf nch e n, free p.1 p.2 nch e n, ne, nf, d⟩
/-- .. where the frame's own object is kept too -/
theorem Inv.un {t' : Nat} (I : Inv X pins σ H s) (u : Un X.fs [] H H' s.heap h') (hok : HOk X.prog X.w H' h') : Inv X pins σ H' { s with heap := h', toks := t' } := by
  obtain ⟨m, ⟨o, es, ep, ho, r⟩, _⟩ := id I.loc
  obtain ⟨sl, hL⟩ := u.any ho I.free (by simp)
  exact I.step (g' := s.gens) (d' := s.drawn) (ch := []) (fun _ z => nomatch z) (fun b o _ hb _ e n => u.keep b o e n hb (by simp)) (fun b o _ hb _ e n => u.slot b o e n hb (by simp)) (fun b o _ e n => u.free b o e n (by simp)) (fun b o _ e => u.there b o e (by simp)) u.tups u.frzs u.tbls (fun m' hm => by
    obtain ⟨o', es', ep', ho', r'⟩ := hm
    rw [ho] at ho'; cases ho'
    exact ⟨_, es', ep', hL, r'⟩) hok I.bare
/-- behind a call (or a comprehension's block): the slots of this frame may have changed too, the records at ch may have turned -/
theorem Inv.call {g' : Array GenState} {t' : Nat} {d' : Drawn} {ch : List Addr} (I : Inv X pins σ H s) (u : Un (frs X.stack) ch H H' s.heap h') (hok : HOk X.prog X.w H' h') (hg : AllBare g')
    (hch : ∀ b ∈ ch, (b ∈ X.ex ∨ X.s₀.heap.objs.size ≤ b) ∧ b ≠ X.env.locals ∧ (∀ x c, X.env.cells.lookup x = some c → c ≠ b) ∧ ∀ p ∈ X.pn ++ pins, p.1 ≠ b) :
    Inv X pins σ H' { s with heap := h', gens := g', drawn := d', toks := t' } := by
  obtain ⟨m, ⟨o, es, ep, ho, r⟩, _⟩ := id I.loc
  obtain ⟨sl, hL⟩ := u.any ho I.free fun z => (hch _ z).2.1 rfl
  exact I.step (ch := ch) hch (fun b o hL hb hc e n => u.keep b o e n (fun z => (List.mem_cons.mp (I.stkSub b z)).elim hL hb) hc) (fun b o _ _ hc e n => u.any e n hc) (fun b o hc e n => u.free b o e n hc) (fun b o hc e => u.there b o e hc) u.tups u.frzs u.tbls (fun m' hm => by
    obtain ⟨o', es', ep', ho', r'⟩ := hm
    rw [ho] at ho'; cases ho'
    exact ⟨_, es', ep', hL, r'⟩) hok hg
/-- an untracked record of ours (an iterator) has turned -/
theorem Inv.turned {t' : Nat} {it : Addr} (I : Inv X pins σ H s) (k : ∀ b o, b ≠ it → s.heap.get? b = some o → h'.get? b = some o) (hn : H it = none) (hL : it ≠ X.env.locals)
    (h1 : it ∈ X.ex ∨ X.s₀.heap.objs.size ≤ it) (h2 : ∀ x c, X.env.cells.lookup x = some c → c ≠ it) (h3 : ∀ p ∈ X.pn ++ pins, p.1 ≠ it) : Inv X pins σ H { s with heap := h', toks := t' } := by
  have nit : ∀ b u, H b = some u → b ≠ it := fun b u e z => by rw [z, hn] at e; cases e
  refine I.step (g' := s.gens) (d' := s.drawn) (ch := [it]) (fun b hb => ?_) (fun b o _ _ hc e _ => k b o (fun z => hc (by simp [z])) e) (fun b o _ _ hc e _ => ⟨o.slots, k b o (fun z => hc (by simp [z])) e⟩) (fun _ _ _ _ n => n)
    (fun b o hc e => ⟨o, k b o (fun z => hc (by simp [z])) e⟩) (fun _ _ e => e) (fun _ _ _ e => e) (fun b ps e => ⟨#[], by rw [e]; simp⟩) (fun m hm => ?_) (fun b u e => ?_) I.bare
  · have e : b = it := by simpa using hb
    subst e
    exact ⟨h1, hL, h2, h3⟩
  · obtain ⟨o, es, ep, ho, r⟩ := hm
    exact ⟨o, es, ep, k _ o (Ne.symm hL) ho, r⟩
  · refine (I.hok b u e).stay (fun c v hc q => k c v ?_ q) (fun _ q => q) fun _ _ q => q
    rcases hc with z | z
    · rw [z]; exact nit b u e
    · exact nit c _ z
theorem Inv.tok (I : Inv X pins σ H s) (t : Nat) : Inv X pins σ H { s with toks := t } := I.un (h' := s.heap) (t' := t) Un.refl I.hok
/-- all objects kept -/
theorem Inv.kept {t' : Nat} (I : Inv X pins σ H s) (k : ∀ b u, s.heap.get? b = some u → h'.get? b = some u) : Inv X pins σ H { s with heap := h', toks := t' } := I.un (Un.kept k) (I.hok.kept k)
/-- a new object laid and tracked -/
theorem Inv.laid {a : Addr} {o : HO} {t' : Nat} (I : Inv X pins σ H s) (k : ∀ b u, s.heap.get? b = some u → h'.get? b = some u) (hp : s.heap.objs.size ≤ a) (new : ObjOk X.prog X.w (upd H a o) h' a o) :
    Inv X pins σ (upd H a o) { s with heap := h', toks := t' } := I.un (Un.laid k hp (I.hok.fresh hp)) (I.hok.laid k hp new)
/-- an object written -/
theorem Inv.write {x e : Addr} {o : HO} {t' : Nat} (I : Inv X pins σ H s) (mu : Mut (H x)) (he : e = x ∨ H e = some (.own x)) (k : ∀ b u, b ≠ e → s.heap.get? b = some u → h'.get? b = some u) (heo : ∃ u, h'.get? e = some u)
    (new : ObjOk X.prog X.w (upd H x o) h' x o) : Inv X pins σ (upd H x o) { s with heap := h', toks := t' } := I.un (Un.write mu he k heo) (I.hok.write mu he k heo new)
theorem Inv.pins_of {pins' : List (Addr × Obj)} (I : Inv X pins σ H s) (h : ∀ p ∈ pins', s.heap.get? p.1 = some p.2 ∧ H p.1 = none ∧ p.1 ≠ X.env.locals ∧ p.1 ∉ X.fs ∧ ∀ v, p.2.data ≠ .cell v) : Inv X pins' σ H s :=
  ⟨I.ok, I.os, I.bare, I.base, I.loc, I.cell, I.free, I.freeC, fun p hp => (List.mem_append.mp hp).elim (fun z => I.pin p (List.mem_append_left _ z)) (h p), I.hok, I.len⟩

theorem nodup_ix {N : List Str} (hN : N.Nodup) {i j : Nat} {x : Str} (a : N[i]? = some x) (b : N[j]? = some x) : i = j := by
  obtain ⟨h1, e1⟩ := List.getElem?_eq_some_iff.mp a
  obtain ⟨h2, e2⟩ := List.getElem?_eq_some_iff.mp b
  exact (List.getElem_inj hN).mp (e1.trans e2.symm)

/-- a name is stored; what changed -/
theorem store_ok2 {M : Model} {A : Around} {E : Value → Shared → Prop} {i : Nat} {x : Str} {v : V} {u : Value} {Q : Unit → Shared → Prop} (I : Inv X pins σ H s) (hN : X.N.Nodup) (hi : X.N[i]? = some x) (hx : Loc X.env.scope x) (r : RelV v u)
    (h : ∀ s', Inv X pins (σ.set i (some v)) H s' → (∃ a, Heap.SameBut a s.heap s'.heap ∧ (a = X.env.locals ∨ X.env.cells.lookup x = some a)) → Q () s') (hf : X.fn x = true ∨ X.env.scope.names.lookup x = some .local := by first | exact .inl rfl | exact .inr rfl | assumption) : wpAny M A (storeName X.env x u) Q E s := by
  obtain ⟨m, hn, hl⟩ := id I.loc
  have hcls : (X.env.scope.kind == .class || (X.env.scope.kind == .module && X.env.locals != X.env.globals)) = false := by rw [I.ok.kind]; rfl
  have hiσ : i < σ.length := by rw [I.len]; exact (List.getElem?_eq_some_iff.mp hi).1
  have cne := I.cne
  have tracked : ∀ {a : Addr} {h' : Heap}, (∃ o, s.heap.get? a = some o ∧ H a = none) → Heap.SameBut a s.heap h' → HOk X.prog X.w H h' := fun {a h'} ha hs b ob e => by
    obtain ⟨_, _, hfree⟩ := ha
    refine (I.hok b ob e).stay (fun c w' hc q => (hs.2 c ?_).trans q) (fun _ q => q) fun _ _ q => q
    rintro rfl
    rcases hc with rfl | hc
    · rw [hfree] at e; cases e
    · rw [hfree] at hc; cases hc
  rcases hx with hk | hk
  · refine wpAny_storeName_local hk hn (fun h' hn' hs => ?_) hcls
    obtain ⟨oL, _, _, hoL, _⟩ := id hn
    refine h _ ⟨I.ok, I.os, I.bare, ⟨fun b o e n hb hx => ?_, fun b o e n hb hx => ?_, I.base.free, fun b o e hx => ?_, I.base.tups, I.base.frzs, I.base.tbls⟩, ⟨_, hn', fun j y v' e1 e2 e3 => ?_⟩, fun y c e => ?_, I.free, I.freeC, fun p hp => ?_, tracked ⟨oL, hoL, I.free⟩ hs, by simpa using I.len⟩ ⟨_, hs, .inl rfl⟩
    · exact (hs.2 b (Nat.ne_of_lt (Nat.lt_of_lt_of_le (Heap.lt_size e) I.ok.above))).trans (I.base.keep b o e n hb hx)
    · obtain ⟨sl, e1⟩ := I.base.slot b o e n hb hx
      exact ⟨sl, (hs.2 b (Nat.ne_of_lt (Nat.lt_of_lt_of_le (Heap.lt_size e) I.ok.above))).trans e1⟩
    · obtain ⟨o', e1⟩ := I.base.there b o e hx
      exact ⟨o', (hs.2 b (Nat.ne_of_lt (Nat.lt_of_lt_of_le (Heap.lt_size e) I.ok.above))).trans e1⟩
    · by_cases hj : j = i
      · subst hj
        rw [hi] at e1; cases e1
        rw [List.getElem?_set_self hiσ] at e2
        cases e2
        exact ⟨u, r, .inl ⟨hk, by simp⟩⟩
      · rw [List.getElem?_set_ne (Ne.symm hj)] at e2
        obtain ⟨u', r', q⟩ := hl j y v' e1 e2 e3
        refine ⟨u', r', ?_⟩
        rcases q with ⟨k, e⟩ | ⟨k, c, e, z⟩
        · refine .inl ⟨k, ?_⟩
          have : y ≠ x := fun e => hj (nodup_ix hN e1 (e ▸ hi))
          simp [this, e]
        · exact .inr ⟨k, c, e, z.sameBut hs (cne y c e)⟩
    · obtain ⟨w', z⟩ := I.cell y c e
      exact ⟨w', z.sameBut hs (cne y c e)⟩
    · obtain ⟨e, n, ne, nf, d⟩ := I.pin p hp
      exact ⟨(hs.2 p.1 ne).trans e, n, ne, nf, d⟩
  · have hfn : X.fn x = true := by
      rcases hf with z | z
      · exact z
      · rw [z] at hk; cases hk
    obtain ⟨c, hc⟩ := I.ok.has x (.inl hk)
    obtain ⟨w', z⟩ := I.cell x c hc
    refine wpAny_storeName_cell I.ok.kind hk hc z (fun h' hc' hs => ?_)
    obtain ⟨oc, hoc, hocd⟩ := id z
    refine h { s with heap := h' } ⟨I.ok, I.os, I.bare, ⟨fun b o e n hb hx => ?_, fun b o e n hb hx => ?_, I.base.free, fun b o e hx => ?_, I.base.tups, I.base.frzs, I.base.tbls⟩, ⟨m, hn.sameBut hs (Ne.symm (cne x c hc)), fun j y v' e1 e2 e3 => ?_⟩, fun y c' e => ?_, I.free, I.freeC, fun p hp => ?_, tracked ⟨oc, hoc, I.freeC x c hc⟩ hs, by simpa using I.len⟩ ⟨c, hs, .inr hc⟩
    · exact (hs.2 b (Nat.ne_of_lt (Nat.lt_of_lt_of_le (Heap.lt_size e) (I.ok.cab x c hfn hc)))).trans (I.base.keep b o e n hb hx)
    · obtain ⟨sl, e1⟩ := I.base.slot b o e n hb hx
      exact ⟨sl, (hs.2 b (Nat.ne_of_lt (Nat.lt_of_lt_of_le (Heap.lt_size e) (I.ok.cab x c hfn hc)))).trans e1⟩
    · obtain ⟨o', e1⟩ := I.base.there b o e hx
      exact ⟨o', (hs.2 b (Nat.ne_of_lt (Nat.lt_of_lt_of_le (Heap.lt_size e) (I.ok.cab x c hfn hc)))).trans e1⟩
    · by_cases hj : j = i
      · subst hj
        rw [hi] at e1; cases e1
        rw [List.getElem?_set_self hiσ] at e2
        cases e2
        exact ⟨u, r, .inr ⟨.inl hk, c, hc, hc'⟩⟩
      · rw [List.getElem?_set_ne (Ne.symm hj)] at e2
        obtain ⟨u', r', q⟩ := hl j y v' e1 e2 e3
        refine ⟨u', r', ?_⟩
        rcases q with q | ⟨k, c', e, z'⟩
        · exact .inl q
        · refine .inr ⟨k, c', e, z'.sameBut hs ?_⟩
          rintro rfl
          exact hj (nodup_ix hN e1 (I.ok.inj _ _ _ e hc ▸ hi))
    · by_cases hcc : c' = c
      · subst hcc; exact ⟨_, hc'⟩
      · obtain ⟨w2, z2⟩ := I.cell y c' e
        exact ⟨w2, z2.sameBut hs hcc⟩
    · obtain ⟨e, n, ne, nf, d⟩ := I.pin p hp
      refine ⟨(hs.2 p.1 ?_).trans e, n, ne, nf, d⟩
      intro q
      rw [q, hoc] at e
      have q' : oc = p.2 := Option.some.inj e
      exact d w' (by rw [← q']; exact hocd)
theorem store_ok {M : Model} {A : Around} {E : Value → Shared → Prop} {i : Nat} {x : Str} {v : V} {u : Value} {Q : Unit → Shared → Prop} (I : Inv X pins σ H s) (hN : X.N.Nodup) (hi : X.N[i]? = some x) (hx : Loc X.env.scope x) (r : RelV v u)
    (h : ∀ s', Inv X pins (σ.set i (some v)) H s' → Q () s') (hf : X.fn x = true ∨ X.env.scope.names.lookup x = some .local := by first | exact .inl rfl | exact .inr rfl | assumption) : wpAny M A (storeName X.env x u) Q E s :=
  store_ok2 I hN hi hx r (fun s' I' _ => h s' I') hf
/-- behind a call or a block, the state as it is -/
theorem Inv.call' {s' : Shared} {ch : List Addr} (I : Inv X pins σ H s) (ho : s'.os = s.os) (u : Un (frs X.stack) ch H H' s.heap s'.heap) (hok : HOk X.prog X.w H' s'.heap) (hg : AllBare s'.gens)
    (hch : ∀ b ∈ ch, (b ∈ X.ex ∨ X.s₀.heap.objs.size ≤ b) ∧ b ≠ X.env.locals ∧ (∀ x c, X.env.cells.lookup x = some c → c ≠ b) ∧ ∀ p ∈ X.pn ++ pins, p.1 ≠ b) : Inv X pins σ H' s' := by
  obtain ⟨h', g', d', t', o'⟩ := s'
  have e : o' = s.os := ho
  subst e
  exact I.call (g' := g') (t' := t') (d' := d') u hok hg hch
end

/-! ### the judgements -/
/-- an exception: its class, its own dict's address (where it has one), the abstract heap behind it -/
abbrev XK := Value → Option Addr → Hp → Prop
abbrev St := List (Option V)
abbrev VK := V → Hp → Prop
/-- an expression's reading; a test's; an argument list's -/
abbrev TE := St → Hp → VK → Prop
abbrev TT := St → Hp → (Bool → Hp → Prop) → Prop
abbrev TA := St → Hp → (List V → Hp → Prop) → Prop
/-- what is wanted behind a statement -/
structure Ends where
  nx : St → Hp → Prop
  rt : VK
  bk : St → Hp → Prop := fun _ _ => False
  ct : St → Hp → Prop := fun _ _ => False
abbrev TS := Ends → St → Hp → Prop

def EP (X : Cx) (pins : List (Addr × Obj)) (σ : St) (Q : VK) (u : Value) (s' : Shared) : Prop := ∃ v H', Inv X pins σ H' s' ∧ RelV v u ∧ Q v H'
def TP (X : Cx) (pins : List (Addr × Obj)) (σ : St) (Q : Bool → Hp → Prop) (b : Bool) (s' : Shared) : Prop := ∃ H', Inv X pins σ H' s' ∧ Q b H'
def AP (X : Cx) (pins : List (Addr × Obj)) (σ : St) (Q : List V → Hp → Prop) (us : List Value) (s' : Shared) : Prop := ∃ vs H', Inv X pins σ H' s' ∧ Vals vs us ∧ Q vs H'
def SP (X : Cx) (pins : List (Addr × Obj)) (D : Ends) (f : Flow) (s' : Shared) : Prop :=
  match f with
  | .next => ∃ σ' H', Inv X pins σ' H' s' ∧ D.nx σ' H'
  | .brk => ∃ σ' H', Inv X pins σ' H' s' ∧ D.bk σ' H'
  | .cont => ∃ σ' H', Inv X pins σ' H' s' ∧ D.ct σ' H'
  | .ret u => ∃ v σ' H', Inv X pins σ' H' s' ∧ RelV v u ∧ D.rt v H'

def PE (X : Cx) (e : Expr) (t : TE) : Prop :=
  ∀ (pins : List (Addr × Obj)) (s : Shared) (σ : St) (H : Hp) (Q : VK), Inv X pins σ H s → t σ H Q → wpAny (model X.prog X.w) X.A (eval e X.env) (EP X pins σ Q) X.xe s
def PT (X : Cx) (e : Expr) (t : TT) : Prop :=
  ∀ (pins : List (Addr × Obj)) (s : Shared) (σ : St) (H : Hp) (Q : Bool → Hp → Prop), Inv X pins σ H s → t σ H Q → wpAny (model X.prog X.w) X.A (isTrue e X.env (eval e X.env)) (TP X pins σ Q) X.xe s
/-- a test whatever its 'whole' is (and, or) -/
def PW (X : Cx) (e : Expr) (t : TT) : Prop :=
  ∀ (whole : Sem Value) (pins : List (Addr × Obj)) (s : Shared) (σ : St) (H : Hp) (Q : Bool → Hp → Prop), Inv X pins σ H s → t σ H Q → wpAny (model X.prog X.w) X.A (isTrue e X.env whole) (TP X pins σ Q) X.xe s
theorem PW.pt {X : Cx} {e : Expr} {t : TT} (h : PW X e t) : PT X e t := h _
/-- an argument list (no star), from the left -/
def PA (X : Cx) (es : List Expr) (t : TA) : Prop :=
  ∀ (pos : Pos) (pins : List (Addr × Obj)) (s : Shared) (σ : St) (H : Hp) (Q : List V → Hp → Prop), Inv X pins σ H s → t σ H Q → wpAny (model X.prog X.w) X.A (spliced (backTo pos (starEach es X.env))) (AP X pins σ Q) X.xe s
def PS (X : Cx) (st : Stmt) (t : TS) : Prop :=
  ∀ (pins : List (Addr × Obj)) (s : Shared) (σ : St) (H : Hp) (D : Ends), Inv X pins σ H s → t D σ H → wpAny (model X.prog X.w) X.A (exec st X.env) (SP X pins D) X.xe s
def PSs (X : Cx) (st : List Stmt) (t : TS) : Prop :=
  ∀ (pins : List (Addr × Obj)) (s : Shared) (σ : St) (H : Hp) (D : Ends), Inv X pins σ H s → t D σ H → wpAny (model X.prog X.w) X.A (execs st X.env) (SP X pins D) X.xe s
/-- weaken the end -/
theorem thn {α : Type} {t : Sem α} {Q Q' : α → Shared → Prop} {M : Model} {A : Around} {E : Value → Shared → Prop} {s : Shared} (h : wpAny M A t Q E s) (hQ : ∀ a s, Q a s → Q' a s) : wpAny M A t Q' E s := wpAny_mono h hQ fun _ _ x => x
end L2

namespace L2
open PySem PySem.Spec PyProof.Rows
section
variable {X : Cx}

/-! ### names and constants -/
def tVar (i : Nat) : TE := fun σ H Q => ∃ v, σ[i]? = some (some v) ∧ Q v H
def tC (v : V) : TE := fun _ H Q => Q v H
theorem pe_var {i : Nat} {x : Str} {pos : Pos} (hN : X.N[i]? = some x) (hv : Vis X.env.scope x) (hd : (x == ("__debug__" : Str)) = false := by decide) (hcd : (x == ("__classdict__" : Str)) = false := by decide) : PE X (.Name x pos) (tVar i) := by
  intro pins s σ H Q I h
  obtain ⟨v, e, h⟩ := h
  obtain ⟨m, hn, hl⟩ := I.loc
  obtain ⟨u, r, l⟩ := hl i x v hN e hv
  have fin : EP X pins σ Q u s := ⟨v, H, I, r, h⟩
  rcases l with ⟨hk, hm⟩ | ⟨hk, c, hc, hcell⟩
  · exact wpAny_Name (wpAny_loadName_local I.ok.kind hk hn hm fin) hd
  · rcases hk with hk | hk
    · exact wpAny_Name (wpAny_loadName_cell I.ok.kind hk hc hcell fin) hd
    · exact wpAny_Name (wpAny_loadName_free I.ok.kind hk hc hcell fin hcd) hd
theorem pe_int {i j pos} : PE X (.Constant (.int i) j pos) (tC (.int i)) := fun _ _ _ H _ I h => wpAny_Constant_int ⟨.int i, H, I.tok _, ⟨_, rfl⟩, h⟩
theorem pe_bl {b j pos} : PE X (.Constant (.bool b) j pos) (tC (.bl b)) := fun _ _ _ H _ I h => Constant_bool ⟨.bl b, H, I, rfl, h⟩
theorem pe_non {j pos} : PE X (.Constant .none j pos) (tC .non) := fun _ _ _ H _ I h => Constant_none ⟨.non, H, I, rfl, h⟩
theorem pe_str {x j pos} : PE X (.Constant (.str x) j pos) (tC (.str x)) := fun _ _ _ H _ I h => Calls.Constant_str ⟨.str x, H, I.tok _, ⟨_, rfl⟩, h⟩

/-- a global name of the def -/
def Gl (X : Cx) (x : Str) : Prop := X.env.kindOf x = some .globalImplicit
theorem ld_glob {E : Value → Shared → Prop} {pins : List (Addr × Obj)} {s : Shared} {σ : St} {H : Hp} {x : Str} {u : Value} {pos : Pos} {Q : Value → Shared → Prop} (I : Inv X pins σ H s) (hg : Gl X x) (hm : X.mg x = some u) (h : Q u s)
    (hd : (x == ("__debug__" : Str)) = false := by decide) : wpAny (model X.prog X.w) X.A (eval (.Name x pos) X.env) Q E s :=
  Calls.Name_function_global I.ok.kind hg (Calls.loadGlobal_global (by rw [I.ok.glob]; exact I.mod.glob.keeps I.bk) hm h) hd
theorem ld_blt {E : Value → Shared → Prop} {pins : List (Addr × Obj)} {s : Shared} {σ : St} {H : Hp} {x : Str} {u : Value} {pos : Pos} {Q : Value → Shared → Prop} (I : Inv X pins σ H s) (hg : Gl X x) (hm : X.mg x = none) (hv : bootBuiltins x = some u) (h : Q u s)
    (hn : x ≠ "__name__" := by decide) (hd : (x == ("__debug__" : Str)) = false := by decide) : wpAny (model X.prog X.w) X.A (eval (.Name x pos) X.env) Q E s := by
  obtain ⟨mb, h1, h2⟩ := I.mod.blt
  exact Calls.Name_function_global I.ok.kind hg (Calls.loadGlobal_builtin (by rw [I.ok.glob]; exact I.mod.glob.keeps I.bk) hm (by rw [I.ok.blt]; exact h1.keeps I.bk) ((h2 x hn).trans hv) h) hd
/-- a module's constant, a class, a function, as a value -/
theorem pe_glob {x : Str} {v : V} {u : Value} {pos : Pos} (hg : Gl X x) (hm : X.mg x = some u) (r : RelV v u) (hd : (x == ("__debug__" : Str)) = false := by decide) : PE X (.Name x pos) (tC v) :=
  fun _ _ _ H _ I h => ld_glob I hg hm ⟨v, H, I, r, h⟩ hd
theorem pe_bltn {x : Str} {v : V} {u : Value} {pos : Pos} (hg : Gl X x) (hm : X.mg x = none) (hv : bootBuiltins x = some u) (r : RelV v u) (hn : x ≠ "__name__" := by decide) (hd : (x == ("__debug__" : Str)) = false := by decide) : PE X (.Name x pos) (tC v) :=
  fun _ _ _ H _ I h => ld_blt I hg hm hv ⟨v, H, I, r, h⟩ hn hd

/-! ### arithmetic -/
variable {a b : Expr} {ta tb : TE} {pos : Pos}
/-! ### comparisons -/
/-- a comparison as a value, as a test -/
def tB (t : TE) : TT := fun σ H Q => t σ H fun x H1 => ∃ c, x = .bl c ∧ Q c H1
/-! ### and, or, not -/
variable {tA tB' : TT} {rest : List Expr}
def tAnd (t u : TT) : TT := fun σ H Q => t σ H fun c H1 => if c = true then u σ H1 Q else Q false H1
def tOr (t u : TT) : TT := fun σ H Q => t σ H fun c H1 => if c = true then Q true H1 else u σ H1 Q
def tNot (t : TT) : TT := fun σ H Q => t σ H fun c H1 => Q (!c) H1
theorem pw_and1 (ha : PT X a tA) : PW X (.BoolOp .And [a] pos) tA := by
  intro wh pins s σ H Q I h
  refine isTrue_and (thn (ha pins s σ H Q I h) fun c s1 e => ?_)
  cases c with
  | true => exact isTrue_and_nil e
  | false => exact e
theorem pw_or1 (ha : PT X a tA) : PW X (.BoolOp .Or [a] pos) tA := by
  intro wh pins s σ H Q I h
  refine isTrue_or (thn (ha pins s σ H Q I h) fun c s1 e => ?_)
  cases c with
  | false => exact isTrue_or_nil e
  | true => exact e
theorem pw_and (ha : PT X a tA) (hb : PW X (.BoolOp .And (b :: rest) pos) tB') : PW X (.BoolOp .And (a :: b :: rest) pos) (tAnd tA tB') := by
  intro wh pins s σ H Q I h
  refine isTrue_and (thn (ha pins s σ H _ I h) fun c s1 ⟨H1, I1, q1⟩ => ?_)
  cases c with
  | true => exact hb wh pins s1 σ H1 Q I1 q1
  | false => exact ⟨H1, I1, q1⟩
theorem pw_or (ha : PT X a tA) (hb : PW X (.BoolOp .Or (b :: rest) pos) tB') : PW X (.BoolOp .Or (a :: b :: rest) pos) (tOr tA tB') := by
  intro wh pins s σ H Q I h
  refine isTrue_or (thn (ha pins s σ H _ I h) fun c s1 ⟨H1, I1, q1⟩ => ?_)
  cases c with
  | true => exact ⟨H1, I1, q1⟩
  | false => exact hb wh pins s1 σ H1 Q I1 q1
theorem pt_not (ha : PT X a tA) : PT X (.UnaryOp .Not a pos) (tNot tA) := by
  intro pins s σ H Q I h
  exact isTrue_not (ha pins s σ H (fun c H1 => Q (!c) H1) I h)
/-- .. as values (bools) -/
def tAndV (ta tb : TE) : TE := fun σ H Q => ta σ H fun x H1 => ∃ c, x = .bl c ∧ if c = true then tb σ H1 Q else Q (.bl false) H1
def tNotV (ta : TE) : TE := fun σ H Q => ta σ H fun x H1 => ∃ c, x = .bl c ∧ Q (.bl (!c)) H1
theorem pe_one {op} {t : TE} (h : PE X a t) : PE X (.BoolOp op [a] pos) t := fun pins s σ H Q I hw => BoolOp_one (h pins s σ H Q I hw)
theorem pe_and (ha : PE X a ta) (hb : PE X (.BoolOp .And (b :: rest) pos) tb) : PE X (.BoolOp .And (a :: b :: rest) pos) (tAndV ta tb) := by
  intro pins s σ H Q I h
  refine BoolOp_and (thn (ha pins s σ H _ I h) fun v s1 ⟨x, H1, I1, r1, q1⟩ => ?_)
  obtain ⟨c, rfl, q1⟩ := q1
  cases r1
  refine wpAny_truthy_bool ?_
  cases c with
  | true => exact hb pins s1 σ H1 Q I1 q1
  | false => exact ⟨.bl false, H1, I1, rfl, q1⟩
theorem pe_not (ha : PE X a ta) : PE X (.UnaryOp .Not a pos) (tNotV ta) := by
  intro pins s σ H Q I h
  refine UnaryOp_ (thn (ha pins s σ H _ I h) fun v s1 ⟨x, H1, I1, r1, q1⟩ => ?_)
  obtain ⟨c, rfl, q1⟩ := q1
  cases r1
  exact not_of (wpAny_truthy_bool ⟨.bl (!c), H1, I1, rfl, q1⟩)
/-- a if t else b -/
def tIf (t : TT) (ta tb : TE) : TE := fun σ H Q => t σ H fun c H1 => if c = true then ta σ H1 Q else tb σ H1 Q
theorem pe_ifExp {c : Expr} (hc : PT X c tA) (ha : PE X a ta) (hb : PE X b tb) : PE X (.IfExp c a b pos) (tIf tA ta tb) := by
  intro pins s σ H Q I h
  refine wpAny_IfExp (thn (hc pins s σ H _ I h) fun d s1 ⟨H1, I1, q1⟩ => ?_)
  cases d with
  | true => exact ha pins s1 σ H1 Q I1 q1
  | false => exact hb pins s1 σ H1 Q I1 q1
end
end L2

namespace L2
open PySem PySem.Spec PyProof.Rows

/-! ### a list, a tuple that is read: tracked, frozen, or an object of the module -/
def SqL (K : PySem.W.Frag) (H : Hp) (a : Addr) (xs : List V) : Prop :=
  Rd H a (.lst xs) ∨
    ∃ (o : Obj) (its : Array Value) (n : Nat), K.lookup a = some o ∧ o.cls = .type "list" ∧ o.dict = none ∧ o.data = .seq its n ∧ its.size ≤ sizeLine ∧ Vals xs its.toList
def SqT (K : PySem.W.Frag) (H : Hp) (a : Addr) (xs : List V) : Prop :=
  Rd H a (.tup xs) ∨
    ∃ (o : Obj) (its : Array Value) (n : Nat), K.lookup a = some o ∧ o.cls = .type "tuple" ∧ o.data = .seq its n ∧ its.size ≤ sizeLine ∧ Vals xs its.toList
def absV : Value → Option V
  | .none => some .non
  | .bool b => some (.bl b)
  | .int i _ => some (.int i)
  | .str x _ => some (.str x)
  | .bytes b _ => some (.byt b)
  | .float b _ => some (.flt b)
  | .ref a => some (.ref a)
  | .type n => some (.ty n)
  | _ => none
theorem RelV.abs {x : V} {u : Value} (r : RelV x u) : absV u = some x := by
  cases x with
  | non => cases r; rfl
  | bl _ => cases r; rfl
  | int _ => obtain ⟨t, rfl⟩ := r; rfl
  | str _ => obtain ⟨t, rfl⟩ := r; rfl
  | byt _ => obtain ⟨t, rfl⟩ := r; rfl
  | flt _ => obtain ⟨t, rfl⟩ := r; rfl
  | ref _ => cases r; rfl
  | ty _ => cases r; rfl
theorem RelV.inj {x y : V} {u : Value} (r : RelV x u) (q : RelV y u) : x = y := Option.some.inj (r.abs.symm.trans q.abs)
theorem Vals.inj : ∀ {xs ys : List V} {us : List Value}, Vals xs us → Vals ys us → xs = ys
  | _, _, _, .nil, .nil => rfl
  | _, _, _, .cons r t, .cons r' t' => by rw [r.inj r', Vals.inj t t']
section
variable {X : Cx} {pins : List (Addr × Obj)} {σ : St} {H : Hp} {s : Shared} {a : Addr} {xs ys : List V}
theorem SqL.of {K : PySem.W.Frag} (h : H a = some (.lst xs)) : SqL K H a xs := .inl (.inl h)
theorem SqT.of {K : PySem.W.Frag} (h : H a = some (.tup xs)) : SqT K H a xs := .inl (.inl h)
theorem Inv.list (I : Inv X pins σ H s) (h : SqL X.K H a xs) : ∃ its : List Value, Vals xs its ∧ PlainL s.heap a its.toArray ∧ xs.length ≤ sizeLine := by
  rcases h with h | ⟨o, its, n, hk, hc, hd, hs, hz, r⟩
  · obtain ⟨z, its, n, r, e⟩ := h.ok I.hok
    exact ⟨its, r, ⟨_, n, e, rfl, rfl, rfl⟩, z⟩
  · refine ⟨its.toList, r, ⟨o, n, I.kIn a o hk, hc, hd, by simpa using hs⟩, ?_⟩
    have e := r.length
    simp only [Array.length_toList] at e
    omega
theorem Inv.tuple (I : Inv X pins σ H s) (h : SqT X.K H a xs) : ∃ its : List Value, Vals xs its ∧ IsTup s.heap a its.toArray ∧ xs.length ≤ sizeLine := by
  rcases h with h | ⟨o, its, n, hk, hc, hs, hz, r⟩
  · obtain ⟨z, its, r, p, _⟩ := h.ok I.hok
    exact ⟨its, r, p, z⟩
  · refine ⟨its.toList, r, ⟨o, I.kIn a o hk, hc, n, by simpa using hs⟩, ?_⟩
    have e := r.length
    simp only [Array.length_toList] at e
    omega
theorem Inv.list_inj (I : Inv X pins σ H s) (h : SqL X.K H a xs) (h' : SqL X.K H a ys) : xs = ys := by
  obtain ⟨its, r, ⟨o, n, e, _, _, d⟩, _⟩ := I.list h
  obtain ⟨its', r', ⟨o', n', e', _, _, d'⟩, _⟩ := I.list h'
  rw [e] at e'; cases e'
  rw [d] at d'
  injection d' with d1 _
  have : its = its' := by simpa using congrArg Array.toList d1
  subst this
  exact r.inj r'
theorem Inv.tuple_inj (I : Inv X pins σ H s) (h : SqT X.K H a xs) (h' : SqT X.K H a ys) : xs = ys := by
  obtain ⟨its, r, ⟨o, e, _, n, d⟩, _⟩ := I.tuple h
  obtain ⟨its', r', ⟨o', e', _, n', d'⟩, _⟩ := I.tuple h'
  rw [e] at e'; cases e'
  rw [d] at d'
  injection d' with d1 _
  have : its = its' := by simpa using congrArg Array.toList d1
  subst this
  exact r.inj r'
end

/-! ### another wish about exceptions -/
abbrev Cx.wish (X : Cx) (E : Value → Shared → Prop) : Cx := { X with xe := E }
/-- no exception leaves -/
abbrev Cx.nox (X : Cx) : Cx := X.wish fun _ _ => False
theorem Cx.Ok.wish {X : Cx} (ok : X.Ok) (E : Value → Shared → Prop) : (X.wish E).Ok :=
  ⟨ok.mod, ok.kind, ok.glob, ok.blt, ok.above, ok.inj, ok.has, ok.cab, ok.hd, ok.frames, ok.stk, ok.exf, ok.bs, ok.bsz, ok.noex, ok.exfs, ok.funs, ok.frf⟩
theorem Cx.Ok.unwish {X : Cx} {E : Value → Shared → Prop} (ok : (X.wish E).Ok) : X.Ok :=
  ⟨ok.mod, ok.kind, ok.glob, ok.blt, ok.above, ok.inj, ok.has, ok.cab, ok.hd, ok.frames, ok.stk, ok.exf, ok.bs, ok.bsz, ok.noex, ok.exfs, ok.funs, ok.frf⟩
section
variable {X : Cx} {pins : List (Addr × Obj)} {σ : St} {H : Hp} {s : Shared} {E : Value → Shared → Prop}
theorem Inv.wish (I : Inv X pins σ H s) (E : Value → Shared → Prop) : Inv (X.wish E) pins σ H s := ⟨I.ok.wish E, I.os, I.bare, I.base, I.loc, I.cell, I.free, I.freeC, I.pin, I.hok, I.len⟩
theorem Inv.unwish (I : Inv (X.wish E) pins σ H s) : Inv X pins σ H s := ⟨I.ok.unwish, I.os, I.bare, I.base, I.loc, I.cell, I.free, I.freeC, I.pin, I.hok, I.len⟩
theorem SP.unwish {D : Ends} {f : Flow} {s' : Shared} (h : SP (X.wish E) pins D f s') : SP X pins D f s' := by
  cases f with
  | next => obtain ⟨σ', H', I, q⟩ := h; exact ⟨σ', H', I.unwish, q⟩
  | brk => obtain ⟨σ', H', I, q⟩ := h; exact ⟨σ', H', I.unwish, q⟩
  | cont => obtain ⟨σ', H', I, q⟩ := h; exact ⟨σ', H', I.unwish, q⟩
  | ret u => obtain ⟨v, σ', H', I, r, q⟩ := h; exact ⟨v, σ', H', I.unwish, r, q⟩
theorem PSs.nox {st : List Stmt} {t : TS} (h : PSs X.nox st t) : PSs X st t := fun pins s σ H D I hw =>
  wpAny_mono (h pins s σ H D (I.wish _) hw) (fun _ _ q => q.unwish) fun _ _ z => False.elim z
end

/-! ### blocks and small statements -/
section
variable {X : Cx} {st : Stmt} {rest : List Stmt} {t u : TS} {e : Expr} {te : TE} {pos : Pos}
def tNext : TS := fun D σ H => D.nx σ H
def tSeq (t u : TS) : TS := fun D σ H => t { D with nx := u D } σ H
theorem pss_nil : PSs X [] tNext := fun _ _ σ H _ I h => wpAny_execs_nil ⟨σ, H, I, h⟩
theorem pss_cons (h1 : PS X st t) (h2 : PSs X rest u) : PSs X (st :: rest) (tSeq t u) := by
  intro pins s σ H D I h
  refine wpAny_execs_cons (thn (h1 pins s σ H { D with nx := u D } I h) fun f s1 q => ?_)
  cases f with
  | next =>
    obtain ⟨σ', H', I', q⟩ := q
    exact h2 pins s1 σ' H' D I' q
  | ret v => exact q
  | brk => exact q
  | cont => exact q
theorem pss_one (h1 : PS X st t) : PSs X [st] t := by
  intro pins s σ H D I h
  refine wpAny_execs_cons (thn (h1 pins s σ H D I h) fun f s1 q => ?_)
  cases f with
  | next => exact wpAny_execs_nil q
  | ret v => exact q
  | brk => exact q
  | cont => exact q
/-- in a def's body nothing is shown -/
theorem Inv.quiet {pins : List (Addr × Obj)} {σ : St} {H : Hp} {s : Shared} (I : Inv X pins σ H s) : interactive X.env = false := by simp [interactive, I.ok.kind]
/-- an expression whose value is dropped -/
def tDrop (te : TE) : TS := fun D σ H => te σ H fun _ H1 => D.nx σ H1
theorem ps_expr (he : PE X e te) (hs : swapsWith e none pos.line X.env = pure false := by rfl) : PS X (.Expr e pos) (tDrop te) := by
  intro pins s σ H D I h
  exact wpAny_Expr_any (thn (he pins s σ H _ I h) fun v s1 ⟨x, H1, I1, r1, q1⟩ => ⟨σ, H1, I1, q1⟩) I.quiet hs
def tRet (te : TE) : TS := fun D σ H => te σ H D.rt
theorem ps_ret (he : PE X e te) : PS X (.Return (some e) pos) (tRet te) := by
  intro pins s σ H D I h
  exact wpAny_Return_some (thn (he pins s σ H _ I h) fun v s1 ⟨x, H1, I1, r1, q1⟩ => ⟨x, σ, H1, I1, r1, q1⟩)
def tIfS (c : TT) (t u : TS) : TS := fun D σ H => c σ H fun b H1 => if b = true then t D σ H1 else u D σ H1
theorem ps_if {c : Expr} {a b : List Stmt} {tc : TT} (hc : PT X c tc) (ha : PSs X a t) (hb : PSs X b u) : PS X (.If c a b pos) (tIfS tc t u) := by
  intro pins s σ H D I h
  refine wpAny_If (thn (hc pins s σ H _ I h) fun d s1 ⟨H1, I1, q1⟩ => ?_)
  cases d with
  | true => exact ha pins s1 σ H1 D I1 q1
  | false => exact hb pins s1 σ H1 D I1 q1
end

/-! ### targets -/
abbrev TG := V → St → Hp → (St → Hp → Prop) → Prop
abbrev TGs := List V → St → Hp → (St → Hp → Prop) → Prop
def PG (X : Cx) (target : Expr) (t : TG) : Prop :=
  ∀ (pins : List (Addr × Obj)) (s : Shared) (σ : St) (H : Hp) (v : V) (u : Value) (Q : St → Hp → Prop), Inv X pins σ H s → RelV v u → t v σ H Q →
    wpAny (model X.prog X.w) X.A (assign target X.env u) (fun _ s' => ∃ σ' H', Inv X pins σ' H' s' ∧ Q σ' H') X.xe s
/-- several targets, one after another -/
def PGs (X : Cx) (ts : List Expr) (t : TGs) : Prop :=
  ∀ (pins : List (Addr × Obj)) (s : Shared) (σ : St) (H : Hp) (vs : List V) (us : List Value) (Q : St → Hp → Prop), Inv X pins σ H s → Vals vs us → t vs σ H Q →
    wpAny (model X.prog X.w) X.A (assignInOrder ((assignEach ts X.env).map (·.2)) us) (fun _ s' => ∃ σ' H', Inv X pins σ' H' s' ∧ Q σ' H') X.xe s
/-- o[i] = v, by values -/
abbrev TSet := V → V → V → Hp → (Hp → Prop) → Prop
def PSet (X : Cx) (t : TSet) : Prop :=
  ∀ (pins : List (Addr × Obj)) (s : Shared) (σ : St) (H : Hp) (o i v : V) (ov iv u : Value) (Q : Hp → Prop), Inv X pins σ H s → RelV o ov → RelV i iv → RelV v u → t o i v H Q →
    wpAny (model X.prog X.w) X.A (setItem ov iv u) (fun _ s' => ∃ H', Inv X pins σ H' s' ∧ Q H') X.xe s
/-- a op= b, by values -/
abbrev TIp := V → V → Hp → VK → Prop
def PIp (X : Cx) (op : Operator) (t : TIp) : Prop :=
  ∀ (pins : List (Addr × Obj)) (s : Shared) (σ : St) (H : Hp) (x y : V) (v u : Value) (Q : VK), Inv X pins σ H s → RelV x v → RelV y u → t x y H Q →
    wpAny (model X.prog X.w) X.A (inplaceOp op v u) (EP X pins σ Q) X.xe s
section
variable {X : Cx} {pos : Pos}
def gName (i : Nat) : TG := fun v σ H Q => Q (σ.set i (some v)) H
theorem pg_name {i : Nat} {x : Str} (hN : X.N.Nodup) (hi : X.N[i]? = some x) (hx : Loc X.env.scope x) (hf : X.fn x = true ∨ X.env.scope.names.lookup x = some .local := by first | exact .inl rfl | exact .inr rfl | assumption) : PG X (.Name x pos) (gName i) := by
  intro pins s σ H v u Q I r h
  exact wpAny_assign_Name (store_ok I hN hi hx r (fun s' I' => ⟨_, H, I', h⟩) hf)
def gNil : TGs := fun vs σ H Q => vs = [] ∧ Q σ H
def gCons (t : TG) (u : TGs) : TGs := fun vs σ H Q => ∃ v r, vs = v :: r ∧ t v σ H fun σ' H' => u r σ' H' Q
theorem pgs_nil : PGs X [] gNil := by
  intro pins s σ H vs us Q I r h
  obtain ⟨e, h⟩ := h
  subst e
  cases r
  exact assignInOrder_nil ⟨σ, H, I, h⟩
theorem pgs_cons {e : Expr} {es : List Expr} {t : TG} {u : TGs} (h1 : PG X e t) (h2 : PGs X es u)
    (hs : (assignEach (e :: es) X.env).map (·.2) = assign e X.env :: (assignEach es X.env).map (·.2) := by rfl) : PGs X (e :: es) (gCons t u) := by
  intro pins s σ H vs us Q I r h
  obtain ⟨v, vr, e1, h⟩ := h
  subst e1
  cases r with
  | cons r rr =>
    rw [hs]
    refine assignInOrder_cons (thn (h1 pins s σ H _ _ _ I r h) fun _ s1 ⟨σ1, H1, I1, q1⟩ => ?_)
    exact h2 pins s1 σ1 H1 _ _ Q I1 rr q1
/-- (a, b, ..) = a tuple of that length -/
def gTup (K : PySem.W.Frag) (n : Nat) (t : TGs) : TG := fun v σ H Q => ∃ a xs, v = .ref a ∧ SqT K H a xs ∧ xs.length = n ∧ t xs σ H Q
theorem pg_tup {es : List Expr} {k : Nat} {t : TGs} {n : Nat} (hc : X.calm = true) (h : PGs X es t)
    (hn : (assignEach es X.env).length = n := by rfl) (hst : (assignEach es X.env).findIdx? (·.1) = none := by rfl) : PG X (.Tuple es k pos) (gTup X.K n t) := by
  intro pins s σ H v u Q I r hw
  obtain ⟨a, xs, e1, hq, hl, hw⟩ := hw
  subst e1
  cases r
  obtain ⟨its, rv, ht, hz⟩ := I.tuple hq
  refine assign_Tuple_tuple (I.ok.hd hc) ht (by simp [hn, ← hl, rv.length]) hst fun h' hx => ?_
  have I1 : Inv X pins σ H { s with heap := h' } := I.kept (t' := s.toks) fun b o e => hx b o (Nat.ne_of_lt (Heap.lt_size e)) e
  exact h pins _ σ H xs _ Q I1 (by simpa using rv) hw
/-- o[i] = .. -/
def gSub (to ti : TE) (t : TSet) : TG := fun v σ H Q => to σ H fun o H1 => ti σ H1 fun i H2 => t o i v H2 fun H3 => Q σ H3
theorem pg_sub {o i : Expr} {to ti : TE} {t : TSet} (ho : PE X o to) (hi : PE X i ti) (hs : PSet X t)
    (ha : ∀ v, assign (.Subscript o i pos) X.env v = (do
      let ov ← holding [v] (eval o X.env)
      let iv ← holding [v, ov] (eval i X.env)
      standAt pos
      holding [v, ov, iv] (setItem ov iv v)
      release [v, ov, iv] []) := by intro _; rfl) : PG X (.Subscript o i pos) (gSub to ti t) := by
  intro pins s σ H v u Q I r h
  rw [ha]
  refine wpAny_bind (wpAny_holding (thn (ho pins s σ H _ I h) fun ov s1 ⟨x, H1, I1, r1, q1⟩ => ?_))
  refine wpAny_bind (wpAny_holding (thn (hi pins s1 σ H1 _ I1 q1) fun iv s2 ⟨y, H2, I2, r2, q2⟩ => ?_))
  refine wpAny_bind (wpAny_standAt (wpAny_bind (wpAny_holding (thn (hs pins s2 σ H2 x y v ov iv u _ I2 r1 r2 r q2) fun _ s3 ⟨H3, I3, q3⟩ => ?_))))
  exact wpAny_release ⟨σ, H3, I3, q3⟩
/-- target = value -/
def tAsg (te : TE) (g : TG) : TS := fun D σ H => te σ H fun x H1 => g x σ H1 D.nx
theorem ps_asg {tg e : Expr} {te : TE} {g : TG} (he : PE X e te) (hg : PG X tg g) (hs : swapsWithSole [tg] e pos.line X.env = pure false := by rfl) (hw : swappedStores [tg] e X.env = pure none := by rfl)
    (h1 : (assignEach [tg] X.env).map (·.2) = [assign tg X.env] := by rfl) : PS X (.Assign [tg] e pos) (tAsg te g) := by
  intro pins s σ H D I h
  refine wpAny_Assign_stores (thn (he pins s σ H _ I h) fun v s1 ⟨x, H1, I1, r1, q1⟩ => ?_) hs hw
  rw [h1]
  exact thn (hg pins s1 σ H1 x v _ I1 r1 q1) fun _ s2 q => q
/-- name = value -/
theorem ps_set {i : Nat} {x : Str} {e : Expr} {te : TE} {pos' : Pos} (hN : X.N.Nodup) (hi : X.N[i]? = some x) (hx : Loc X.env.scope x) (he : PE X e te) (hs : swapsWith e (some (.Name x pos')) pos.line X.env = pure false := by rfl) (hf : X.fn x = true ∨ X.env.scope.names.lookup x = some .local := by first | exact .inl rfl | exact .inr rfl | assumption) :
    PS X (.Assign [.Name x pos'] e pos) (tAsg te (gName i)) := by
  intro pins s σ H D I h
  refine wpAny_Assign_Name (thn (he pins s σ H _ I h) fun v s1 ⟨y, H1, I1, r1, q1⟩ => ?_) hs
  exact store_ok I1 hN hi hx r1 (fun s2 I2 => ⟨_, H1, I2, q1⟩) hf
/-- name op= e -/
def tAug (i : Nat) (te : TE) (ti : TIp) : TS := fun D σ H => ∃ x, σ[i]? = some (some x) ∧ te σ H fun y H1 => ti x y H1 fun z H2 => D.nx (σ.set i (some z)) H2
theorem ps_aug {i : Nat} {x : Str} {e : Expr} {te : TE} {op : Operator} {ti : TIp} {pos' : Pos} (hN : X.N.Nodup) (hi : X.N[i]? = some x) (hx : Loc X.env.scope x) (he : PE X e te) (ho : PIp X op ti) (hf : X.fn x = true ∨ X.env.scope.names.lookup x = some .local := by first | exact .inl rfl | exact .inr rfl | assumption) :
    PS X (.AugAssign (.Name x pos') op e pos) (tAug i te ti) := by
  intro pins s σ H D I h
  obtain ⟨v, e1, h⟩ := h
  obtain ⟨m, hn, hl⟩ := I.loc
  have vis : Vis X.env.scope x := by rcases hx with k | k; exact .inl k; exact .inr (.inl k)
  obtain ⟨u, r, l⟩ := hl i x v hi e1 vis
  refine wpAny_AugAssign_Name ?_
  have go : wpAny (model X.prog X.w) X.A (eval e X.env) (fun w s₂ => wpAny (model X.prog X.w) X.A (inplaceOp op u w) (fun r s₃ => wpAny (model X.prog X.w) X.A (storeName X.env x r) (fun _ => SP X pins D .next) X.xe s₃) X.xe s₂) X.xe s := by
    refine thn (he pins s σ H _ I h) fun w s1 ⟨y, H1, I1, r1, q1⟩ => ?_
    refine thn (ho pins s1 σ H1 v y u w _ I1 r r1 q1) fun z s2 ⟨zv, H2, I2, r2, q2⟩ => ?_
    exact store_ok I2 hN hi hx r2 (fun s3 I3 => ⟨_, H2, I3, q2⟩) hf
  rcases l with ⟨hk, hm⟩ | ⟨hk, c, hc, hcell⟩
  · exact wpAny_loadName_local I.ok.kind hk hn hm go
  · rcases hk with hk | hk
    · exact wpAny_loadName_cell I.ok.kind hk hc hcell go
    · rcases hx with k | k
      · have : X.env.scope.names.lookup x = some .free := hk
        rw [k] at this; cases this
      · have : X.env.scope.names.lookup x = some .free := hk
        rw [k] at this; cases this
/-- o[i] op= e -/
def tAugS (to ti te : TE) (tget : V → V → Hp → VK → Prop) (tip : TIp) (tset : TSet) : TS := fun D σ H => to σ H fun o H1 => ti σ H1 fun i H2 => tget o i H2 fun x H3 => te σ H3 fun y H4 => tip x y H4 fun z H5 => tset o i z H5 fun H6 => D.nx σ H6
/-- o[i], by values -/
def PGet (X : Cx) (t : V → V → Hp → VK → Prop) : Prop :=
  ∀ (pins : List (Addr × Obj)) (s : Shared) (σ : St) (H : Hp) (o i : V) (ov iv : Value) (Q : VK), Inv X pins σ H s → RelV o ov → RelV i iv → t o i H Q →
    wpAny (model X.prog X.w) X.A (getItem ov iv) (EP X pins σ Q) X.xe s
theorem ps_augS {o i e : Expr} {to ti te : TE} {tget : V → V → Hp → VK → Prop} {tip : TIp} {tset : TSet} {op : Operator} {tpos : Pos} (ho : PE X o to) (hi : PE X i ti) (hg : PGet X tget) (he : PE X e te) (hp : PIp X op tip) (hs : PSet X tset)
    (ha : ∀ ov iv new, augStore i ov iv new = (do holding [new, ov, iv] (setItem ov iv new); release [new, ov, iv] []; pure .next) := by intros; rfl) : PS X (.AugAssign (.Subscript o i tpos) op e pos) (tAugS to ti te tget tip tset) := by
  intro pins s σ H D I h
  refine wpAny_AugAssign_SubscriptAny (thn (ho pins s σ H _ I h) fun ov s1 ⟨x1, H1, I1, r1, q1⟩ => ?_) ha
  refine thn (hi pins s1 σ H1 _ I1 q1) fun iv s2 ⟨x2, H2, I2, r2, q2⟩ => ?_
  refine thn (hg pins s2 σ H2 x1 x2 ov iv _ I2 r1 r2 q2) fun old s3 ⟨x3, H3, I3, r3, q3⟩ => ?_
  refine thn (he pins s3 σ H3 _ I3 q3) fun v s4 ⟨x4, H4, I4, r4, q4⟩ => ?_
  refine thn (hp pins s4 σ H4 x3 x4 old v _ I4 r3 r4 q4) fun new s5 ⟨x5, H5, I5, r5, q5⟩ => ?_
  exact thn (hs pins s5 σ H5 x1 x2 x5 ov iv new _ I5 r1 r2 r5 q5) fun _ s6 ⟨H6, I6, q6⟩ => ⟨σ, H6, I6, q6⟩
/-- ints -/
def ipI (f : Int → Int → Int) : TIp := fun x y H Q => ∃ i j, x = .int i ∧ y = .int j ∧ Q (.int (f i j)) H
theorem ip_add : PIp X .Add (ipI fun i j => i + j) := by
  intro pins s σ H x y v u Q I r1 r2 h
  obtain ⟨i, j, e1, e2, q⟩ := h
  subst e1; subst e2
  obtain ⟨t, rfl⟩ := r1
  obtain ⟨t', rfl⟩ := r2
  exact iadd_int ⟨.int _, H, I.tok _, ⟨_, rfl⟩, q⟩
end

/-! ### while -/
section
variable {X : Cx} {pos : Pos}
/-- the invariant W with its measure -/
def tWhile (c : TT) (tb : TS) : TS := fun D σ H => ∃ W : Nat → St → Hp → Prop, (∃ m, W m σ H) ∧ ∀ m σ H, W m σ H →
  c σ H fun b H1 => if b = true then ∃ N : St → Hp → Prop, (∀ σ' H', N σ' H' → ∃ m', m' < m ∧ W m' σ' H') ∧ tb { D with nx := N, ct := N, bk := D.nx } σ H1 else D.nx σ H1
theorem ps_while {c : Expr} {body : List Stmt} {tc : TT} {tb : TS} (hp : PassesOwn (model X.prog X.w) X.A X.env X.xe) (hc : PT X c tc) (hb : PSs X body tb) : PS X (.While c body [] pos) (tWhile tc tb) := by
  intro pins s σ H D I h
  obtain ⟨W, ⟨m0, w0⟩, turn⟩ := h
  refine wpAny_While (codeAny_whileLoop (fun n s' => ∃ σ' H', Inv X pins σ' H' s' ∧ W n σ' H') ?_ m0 ⟨σ, H, I, w0⟩)
  rintro n s1 ⟨σ1, H1, I1, w1⟩
  refine wpAny_passesOwn hp (thn (hc pins s1 σ1 H1 _ I1 (turn n σ1 H1 w1)) fun b s2 ⟨H2, I2, q2⟩ => ?_)
  cases b with
  | true =>
    obtain ⟨N, hN, q2⟩ := q2
    rw [if_pos rfl]
    refine wpAny_passesOwn hp (thn (hb pins s2 σ1 H2 _ I2 q2) fun f s3 q3 => ?_)
    cases f with
    | next =>
      obtain ⟨σ3, H3, I3, n3⟩ := q3
      obtain ⟨m', hm, w3⟩ := hN σ3 H3 n3
      exact ⟨m', hm, σ3, H3, I3, w3⟩
    | cont =>
      obtain ⟨σ3, H3, I3, n3⟩ := q3
      obtain ⟨m', hm, w3⟩ := hN σ3 H3 n3
      exact ⟨m', hm, σ3, H3, I3, w3⟩
    | brk => exact q3
    | ret v => exact q3
  | false =>
    rw [if_neg Bool.false_ne_true]
    exact wpAny_execs_nil ⟨σ1, H2, I2, q2⟩
end

/-! ### what a loop or a comprehension walks -/
/-- at turn i: it yields x (the heap may grow), or it stops -/
structure It where
  go : Nat → Hp → Prop
  yld : Nat → Hp → V → Hp → Prop
  stop : Nat → Hp → Prop
/-- the iterator's own objects may turn: they are not the frame's, not pinned, younger than the entry (or a comprehension's own) -/
def FpOk (X : Cx) (pins : List (Addr × Obj)) (H : Hp) (b : Addr) : Prop :=
  H b = none ∧ b ≠ X.env.locals ∧ b ∉ X.fs ∧ (b ∈ X.ex ∨ X.s₀.heap.objs.size ≤ b) ∧ (∀ x c, X.env.cells.lookup x = some c → c ≠ b) ∧ ∀ p ∈ X.pn ++ pins, p.1 ≠ b
theorem Inv.fpOk {X : Cx} {pins : List (Addr × Obj)} {σ : St} {H H' : Hp} {s : Shared} {b : Addr} (I : Inv X pins σ H s) (hb : s.heap.objs.size ≤ b) (hn : H' b = none) : FpOk X pins H' b := by
  refine ⟨hn, Nat.ne_of_gt (Nat.lt_of_lt_of_le I.lt hb), I.nofs hb, .inr (Nat.le_trans I.sz hb), fun x c e z => ?_, fun p hp z => ?_⟩
  · obtain ⟨v, q⟩ := I.cell x c e
    exact absurd (Nat.lt_of_lt_of_le q.lt (by rw [z]; exact hb)) (Nat.lt_irrefl _)
  · exact absurd (Nat.lt_of_lt_of_le (Heap.lt_size (I.pin p hp).1) (by rw [z]; exact hb)) (Nat.lt_irrefl _)
structure Turn (P : Program) (w : World) (K : PySem.W.Frag) (tg : Expr) (J : It) (fp : List Addr) (it : Addr) (tn : Nat → Heap → Prop) : Prop where
  mem : it ∈ fp
  obj : ∀ i h, tn i h → ∀ b ∈ fp, ∃ o, h.get? b = some o ∧ ∀ v, o.data ≠ .cell v
  keep : ∀ i h h', tn i h → (∀ b ∈ fp, ∀ o, h.get? b = some o → h'.get? b = some o) → tn i h'
  item : ∀ (X : Cx), X.prog = P → X.w = w → X.K = K → X.calm = true → ∀ (i : Nat) (pins : List (Addr × Obj)) (s : Shared) (σ : St) (H : Hp) (E : Value → Shared → Prop), Inv X pins σ H s → (∀ b ∈ fp, FpOk X pins H b) → tn i s.heap → J.go i H →
    wpAny (model P w) X.A (pyNext (.ref it)) (fun r s1 => ∃ u, r = some u ∧
      wpAny (model P w) X.A (letOwnedTupleGo tg (.ref it) u) (fun _ s2 => ∃ x H', Inv X pins σ H' s2 ∧ RelV x u ∧ J.yld i H x H' ∧ tn (i + 1) s2.heap ∧ ∀ b ∈ fp, H' b = none) E s1) E s
  done : ∀ (X : Cx), X.prog = P → X.w = w → X.K = K → X.calm = true → ∀ (i : Nat) (pins : List (Addr × Obj)) (s : Shared) (σ : St) (H : Hp) (E : Value → Shared → Prop), Inv X pins σ H s → (∀ b ∈ fp, FpOk X pins H b) → tn i s.heap → J.stop i H →
    wpAny (model P w) X.A (pyNext (.ref it)) (fun r s1 => r = none ∧ Inv X pins σ H s1) E s
  self : ∀ (A : Around) (i : Nat) (s : Shared) (Q : Value → Shared → Prop) (E : Value → Shared → Prop), tn i s.heap → Q (.ref it) s → wpAny (model P w) A (pyIter (.ref it)) Q E s
abbrev TI := St → Hp → (It → Hp → Prop) → Prop
/-- an iterator has come -/
def PIE (X : Cx) (pins : List (Addr × Obj)) (σ : St) (tg : Expr) (R : It → Hp → Prop) (itv : Value) (s2 : Shared) : Prop :=
  ∃ (it : Addr) (fp : List Addr) (tn : Nat → Heap → Prop) (J : It) (H' : Hp), itv = .ref it ∧ Inv X pins σ H' s2 ∧ Turn X.prog X.w X.K tg J fp it tn ∧ tn 0 s2.heap ∧ (∀ b ∈ fp, FpOk X pins H' b) ∧ R J H'
def PI (X : Cx) (tg iter : Expr) (wi : TI) : Prop :=
  ∀ (pins : List (Addr × Obj)) (s : Shared) (σ : St) (H : Hp) (R : It → Hp → Prop), Inv X pins σ H s → wi σ H R →
    wpAny (model X.prog X.w) X.A (eval iter X.env) (fun v s1 => wpAny (model X.prog X.w) X.A (pyIter v) (PIE X pins σ tg R) X.xe s1) X.xe s

/-- the step ahead of the store is nothing for an iterator that keeps no tuple -/
theorem go_of {M : Model} {A : Around} {E : Value → Shared → Prop} {s : Shared} {tg : Expr} {it : Addr} {u : Value} {o : Obj} {n : String} {vs : Array Value} {Q : Unit → Shared → Prop} (ho : s.heap.get? it = some o) (hc : o.cls = .type n) (hd : o.data = .fields vs)
    (hn : ["enumerate", "zip", "dict_itemiterator", "dict_reverseitemiterator", "odict_iterator", "itertools.zip_longest", "itertools.pairwise"].contains n = false) (hQ : Q () s) : wpAny M A (letOwnedTupleGo tg (.ref it) u) Q E s := by
  unfold letOwnedTupleGo
  cases tg <;> first
    | exact wpAny_pure hQ
    | (cases u <;> first
        | exact wpAny_pure hQ
        | (refine wpAny_bind (wpAny_load ho ?_)
           rw [hc, hd]
           show wpAny M A (if (["enumerate", "zip", "dict_itemiterator", "dict_reverseitemiterator", "odict_iterator", "itertools.zip_longest", "itertools.pairwise"].contains n && vs[0]? == some (rawInt _)) = true then _ else _) Q E s
           rw [if_neg (by intro h; rw [hn, Bool.false_and] at h; cases h)]
           exact wpAny_pure hQ))

/-- the list at a, as it stands at each turn (a loop may append to it) -/
def Itl (K : PySem.W.Frag) (a : Addr) : It :=
  ⟨fun i H => ∃ xs x, SqL K H a xs ∧ xs[i]? = some x, fun i H x H' => H' = H ∧ ∀ xs, SqL K H a xs → xs[i]? = some x, fun i H => ∃ xs, SqL K H a xs ∧ xs.length ≤ i⟩
def Itt (K : PySem.W.Frag) (a : Addr) : It :=
  ⟨fun i H => ∃ xs x, SqT K H a xs ∧ xs[i]? = some x, fun i H x H' => H' = H ∧ ∀ xs, SqT K H a xs → xs[i]? = some x, fun i H => ∃ xs, SqT K H a xs ∧ xs.length ≤ i⟩
/-- lo, lo + 1, .. (n of them) -/
def Itr (lo : Int) (n : Nat) : It := ⟨fun i _ => i < n, fun i H x H' => H' = H ∧ x = .int (lo + i), fun i _ => n ≤ i⟩
theorem turn_list {P : Program} {w : World} {K : PySem.W.Frag} {tg : Expr} (a it : Addr) : Turn P w K tg (Itl K a) [it] it (fun i h => h.IsListIter it a i) where
  mem := by simp
  obj := fun i h st b hb => by
    have e : b = it := by simpa using hb
    subst e
    obtain ⟨o, e, c, d⟩ := st
    exact ⟨o, e, fun v z => by rw [d] at z; cases z⟩
  keep := fun i h h' st k => st.at fun o e => k it (by simp) o e
  item := by
    intro X hP hw hK hc i pins s σ H E I hf st hg
    subst hP hw hK
    obtain ⟨xs, x, hq, hx⟩ := hg
    obtain ⟨its, rv, p, hz⟩ := I.list hq
    obtain ⟨u, hu, ru⟩ := rv.get hx
    obtain ⟨f0, f1, f2, f3, f4, f5⟩ := hf it (by simp)
    refine wpAny_pyNext_list_item st p.isList (x := u) (by simpa using hu) fun h' st' sb => ?_
    have I1 : Inv X pins σ H { s with heap := h' } := I.turned (t' := s.toks) (fun b o hb e => (sb.2 b hb).trans e) f0 f1 f3 f4 f5
    obtain ⟨o, e, c, d⟩ := id st'
    exact ⟨u, rfl, go_of (s := { s with heap := h' }) e c d (by decide) ⟨x, H, I1, ru, ⟨rfl, fun ys hy => by rw [I.list_inj hy hq]; exact hx⟩, st', fun b hb => (hf b hb).1⟩⟩
  done := by
    intro X hP hw hK hc i pins s σ H E I hf st hg
    subst hP hw hK
    obtain ⟨xs, hq, hx⟩ := hg
    obtain ⟨its, rv, p, hz⟩ := I.list hq
    obtain ⟨f0, f1, f2, f3, f4, f5⟩ := hf it (by simp)
    have hl := rv.length
    exact wpAny_pyNext_list_end (I.ok.hd hc) st p.isList (by simp; omega) fun h' eb => ⟨rfl, I.turned (t' := s.toks) (fun b o hb e => eb b o hb e) f0 f1 f3 f4 f5⟩
  self := fun _ _ _ _ _ st h => wpAny_pyIter_listiter st h
theorem turn_tuple {P : Program} {w : World} {K : PySem.W.Frag} {tg : Expr} (a it : Addr) : Turn P w K tg (Itt K a) [it] it (fun i h => h.IsTupleIter it a i) where
  mem := by simp
  obj := fun i h st b hb => by
    have e : b = it := by simpa using hb
    subst e
    obtain ⟨o, e, c, d⟩ := st
    exact ⟨o, e, fun v z => by rw [d] at z; cases z⟩
  keep := fun i h h' st k => st.at fun o e => k it (by simp) o e
  item := by
    intro X hP hw hK hc i pins s σ H E I hf st hg
    subst hP hw hK
    obtain ⟨xs, x, hq, hx⟩ := hg
    obtain ⟨its, rv, p, hz⟩ := I.tuple hq
    obtain ⟨u, hu, ru⟩ := rv.get hx
    obtain ⟨f0, f1, f2, f3, f4, f5⟩ := hf it (by simp)
    refine wpAny_pyNext_tuple_item st (show s.heap.IsTuple a its.toArray from p) (x := u) (by simpa using hu) fun h' st' sb => ?_
    have I1 : Inv X pins σ H { s with heap := h' } := I.turned (t' := s.toks) (fun b o hb e => (sb.2 b hb).trans e) f0 f1 f3 f4 f5
    obtain ⟨o, e, c, d⟩ := id st'
    exact ⟨u, rfl, go_of (s := { s with heap := h' }) e c d (by decide) ⟨x, H, I1, ru, ⟨rfl, fun ys hy => by rw [I.tuple_inj hy hq]; exact hx⟩, st', fun b hb => (hf b hb).1⟩⟩
  done := by
    intro X hP hw hK hc i pins s σ H E I hf st hg
    subst hP hw hK
    obtain ⟨xs, hq, hx⟩ := hg
    obtain ⟨its, rv, p, hz⟩ := I.tuple hq
    obtain ⟨f0, f1, f2, f3, f4, f5⟩ := hf it (by simp)
    have hl := rv.length
    exact wpAny_pyNext_tuple_end (I.ok.hd hc) st (show s.heap.IsTuple a its.toArray from p) (by simp; omega) fun h' eb => ⟨rfl, I.turned (t' := s.toks) (fun b o hb e => eb b o hb e) f0 f1 f3 f4 f5⟩
  self := fun _ _ _ _ _ st h => wpAny_pyIter_tupleiter st h
theorem turn_range {P : Program} {w : World} {K : PySem.W.Frag} {tg : Expr} (it : Addr) (lo : Int) (n : Nat) : Turn P w K tg (Itr lo n) [it] it (fun i h => IsRangeIter h it (lo + (i : Nat) * 1) ((n : Int) - (i : Nat)) 1) where
  mem := by simp
  obj := fun i h st b hb => by
    have e : b = it := by simpa using hb
    subst e
    exact ⟨_, st, fun v z => by
      have z' : Data.fields _ = Data.cell v := z
      cases z'⟩
  keep := fun i h h' st k => k it (by simp) _ st
  item := by
    intro X hP hw hK hc i pins s σ H E I hf st hg
    subst hP hw hK
    obtain ⟨f0, f1, f2, f3, f4, f5⟩ := hf it (by simp)
    have W := Walks.range (prog := X.prog) (w := X.w) (I.ok.hd hc) it lo 1 n
    refine W.item i s _ _ hg st fun v h' tk hv st' kk => ?_
    obtain ⟨t, rfl⟩ := hv
    have I1 : Inv X pins σ H { s with heap := h', toks := tk } := I.turned (fun b o hb e => kk b o (by simpa using hb) e) f0 f1 f3 f4 f5
    refine ⟨_, rfl, go_of (s := { s with heap := h', toks := tk }) (n := "range_iterator") st' rfl rfl (by decide) ⟨.int (lo + i), H, I1, ⟨t, ?_⟩, ⟨rfl, rfl⟩, st', fun b hb => (hf b hb).1⟩⟩
    rw [Int.mul_one]
  done := by
    intro X hP hw hK hc i pins s σ H E I hf st hg
    subst hP hw hK
    obtain ⟨f0, f1, f2, f3, f4, f5⟩ := hf it (by simp)
    exact wpAny_pyNext_range_end (I.ok.hd hc) st (by have : n ≤ i := hg; omega) fun h' eb => ⟨rfl, I.turned (t' := s.toks) (fun b o hb e => eb b o hb e) f0 f1 f3 f4 f5⟩
  self := fun _ _ _ _ _ st h => wpAny_pyIter_rangeiter st h
end L2

namespace L2
open PySem PySem.Spec PyProof.Rows
section
variable {X : Cx} {tg : Expr}
def iList (K : PySem.W.Frag) (tl : TE) : TI := fun σ H R => tl σ H fun x H1 => ∃ a, x = .ref a ∧ (∃ xs, SqL K H1 a xs) ∧ R (Itl K a) H1
def iTup (K : PySem.W.Frag) (tl : TE) : TI := fun σ H R => tl σ H fun x H1 => ∃ a, x = .ref a ∧ (∃ xs, SqT K H1 a xs) ∧ R (Itt K a) H1
theorem pi_list {l : Expr} {tl : TE} (hl : PE X l tl) : PI X tg l (iList X.K tl) := by
  intro pins s σ H R I h
  refine thn (hl pins s σ H _ I h) fun v s1 ⟨x, H1, I1, r1, q1⟩ => ?_
  obtain ⟨a, e, ⟨xs, hq⟩, q⟩ := q1
  subst e
  cases r1
  obtain ⟨its, rv, p, hz⟩ := I1.list hq
  refine wpAny_pyIter_list p.isList ?_
  refine ⟨s1.heap.objs.size, [s1.heap.objs.size], _, _, H1, rfl, I1.kept (t' := s1.toks) fun b o e => Heap.get?_push_of_some _ e, turn_list a _, ⟨_, Heap.get?_push_size _ rfl, rfl, rfl⟩, fun b hb => ?_, q⟩
  have e : b = s1.heap.objs.size := by simpa using hb
  subst e
  exact I1.fpOk (Nat.le_refl _) (I1.hok.fresh (Nat.le_refl _))
theorem pi_tup {l : Expr} {tl : TE} (hl : PE X l tl) : PI X tg l (iTup X.K tl) := by
  intro pins s σ H R I h
  refine thn (hl pins s σ H _ I h) fun v s1 ⟨x, H1, I1, r1, q1⟩ => ?_
  obtain ⟨a, e, ⟨xs, hq⟩, q⟩ := q1
  subst e
  cases r1
  obtain ⟨its, rv, p, hz⟩ := I1.tuple hq
  refine wpAny_pyIter_tuple (show s1.heap.IsTuple a its.toArray from p) ?_
  refine ⟨s1.heap.objs.size, [s1.heap.objs.size], _, _, H1, rfl, I1.kept (t' := s1.toks) fun b o e => Heap.get?_push_of_some _ e, turn_tuple a _, ⟨_, Heap.get?_push_size _ rfl, rfl, rfl⟩, fun b hb => ?_, q⟩
  have e : b = s1.heap.objs.size := by simpa using hb
  subst e
  exact I1.fpOk (Nat.le_refl _) (I1.hok.fresh (Nat.le_refl _))
/-- a range object just made, walked -/
theorem range_it {pins : List (Addr × Obj)} {σ : St} {H : Hp} {s : Shared} {R : It → Hp → Prop} {E : Value → Shared → Prop} {lo hi : Int} {t u v : Tok} {tk : Nat} (I : Inv X pins σ H s) (h1 : -(2 ^ 62) ≤ lo) (h2 : lo < 2 ^ 62) (h3 : -(2 ^ 62) ≤ hi) (h4 : hi < 2 ^ 62)
    (q : R (Itr lo (hi - lo).toNat) H) : wpAny (model X.prog X.w) X.A (pyIter (.ref s.heap.objs.size)) (PIE X pins σ tg R) E { s with heap := s.heap.push { cls := .type "range", data := .fields #[.int lo t, .int hi u, .int 1 v] }, toks := tk } := by
  refine wpAny_pyIter_range (IsRange.new ..) (small_one h1 h2 h3 h4) ?_
  have I1 : Inv X pins σ H { s with heap := s.heap.push { cls := .type "range", data := .fields #[.int lo t, .int hi u, .int 1 v] }, toks := tk } := I.kept fun b o e => Heap.get?_push_of_some _ e
  refine ⟨(s.heap.push { cls := .type "range", data := .fields #[.int lo t, .int hi u, .int 1 v] }).objs.size, [(s.heap.push { cls := .type "range", data := .fields #[.int lo t, .int hi u, .int 1 v] }).objs.size], _, _, H, rfl,
    I1.kept (t' := tk) fun b o e => Heap.get?_push_of_some _ e, turn_range _ lo (hi - lo).toNat, ?_, fun b hb => ?_, q⟩
  · have e1 : lo + ((0 : Nat) : Int) * 1 = lo := by simp
    have e2 : (((hi - lo).toNat : Nat) : Int) - ((0 : Nat) : Int) = Builtin.Range.rangeSize lo hi 1 := by rw [rangeSize_one]; split <;> omega
    show IsRangeIter _ _ (lo + ((0 : Nat) : Int) * 1) ((((hi - lo).toNat : Nat) : Int) - ((0 : Nat) : Int)) 1
    rw [e1, e2]
    exact Heap.get?_push_size _ rfl
  · have e : b = (s.heap.push { cls := .type "range", data := .fields #[.int lo t, .int hi u, .int 1 v] }).objs.size := by simpa using hb
    subst e
    exact I1.fpOk (Nat.le_refl _) (I1.hok.fresh (Nat.le_refl _))
def iRng1 (ta : TA) : TI := fun σ H R => ta σ H fun vs H1 => ∃ j : Int, vs = [.int j] ∧ -(2 ^ 62) ≤ j ∧ j < 2 ^ 62 ∧ R (Itr 0 j.toNat) H1
theorem pi_range1 {a : Expr} {ta : TA} {p pos : Pos} (hg : Gl X "range") (hm : X.mg "range" = none) (ha : PA X [a] ta) (hs : starEach [a] X.env = [(false, eval a X.env)] := by rfl) : PI X tg (.Call (.Name "range" p) [a] [] pos) (iRng1 ta) := by
  intro pins s σ H R I h
  refine Call_ (ld_blt I hg hm boot_range (PyProof.Rows.callWith_type1 (thn (ha pos pins s σ H _ I h) fun us s1 ⟨vs, H1, I1, r1, q1⟩ => ?_) hs rfl))
  obtain ⟨j, e, q1, q2, q⟩ := q1
  subst e
  cases r1 with
  | cons r rr =>
    cases rr
    obtain ⟨t, rfl⟩ := r
    exact call_range_1 (range_it I1 (by omega) (by omega) q1 q2 (by simpa using q))
/-! ### for -/
/-- W: the invariant by the turn and a measure; N: what the body is to reach -/
def tFor (wi : TI) (g : TG) (tb : TS) : TS := fun D σ H => wi σ H fun J H1 => ∃ W : Nat → Nat → St → Hp → Prop, (∃ m, W 0 m σ H1) ∧ ∀ i m σ H, W i m σ H →
  (J.stop i H ∧ D.nx σ H) ∨ (J.go i H ∧ ∃ N : St → Hp → Prop, (∀ σ' H', N σ' H' → ∃ m', m' < m ∧ W (i + 1) m' σ' H') ∧ ∀ x H', J.yld i H x H' → g x σ H' fun σ2 H2 => tb { D with nx := N, ct := N, bk := D.nx } σ2 H2)
/-- the records at fp as they stand -/
def pinsAt (fp : List Addr) (h : Heap) : List (Addr × Obj) := fp.filterMap fun b => (h.get? b).map fun o => (b, o)
theorem mem_pinsAt {fp : List Addr} {h : Heap} {b : Addr} {o : Obj} (hb : b ∈ fp) (e : h.get? b = some o) : (b, o) ∈ pinsAt fp h := List.mem_filterMap.mpr ⟨b, hb, by rw [e]; rfl⟩
theorem of_pinsAt {fp : List Addr} {h : Heap} {p : Addr × Obj} (hp : p ∈ pinsAt fp h) : p.1 ∈ fp ∧ h.get? p.1 = some p.2 := by
  obtain ⟨b, hb, e⟩ := List.mem_filterMap.mp hp
  cases q : h.get? b with
  | none => rw [q] at e; cases e
  | some o =>
    rw [q] at e
    have e' : (b, o) = p := Option.some.inj e
    subst e'
    exact ⟨hb, q⟩
theorem Inv.pinned {pins : List (Addr × Obj)} {σ : St} {H : Hp} {s : Shared} {fp : List Addr} (I : Inv X pins σ H s) (hf : ∀ b ∈ fp, FpOk X pins H b) (ho : ∀ b ∈ fp, ∃ o, s.heap.get? b = some o ∧ ∀ v, o.data ≠ .cell v) : Inv X (pins ++ pinsAt fp s.heap) σ H s :=
  I.pins_of fun p hp => (List.mem_append.mp hp).elim (fun z => I.pin p (List.mem_append_right _ z)) fun z => by
    obtain ⟨hb, e⟩ := of_pinsAt z
    obtain ⟨f0, f1, f2, _⟩ := hf p.1 hb
    obtain ⟨o, e', d⟩ := ho p.1 hb
    rw [e] at e'; cases e'
    exact ⟨e, f0, f1, f2, d⟩
theorem Inv.unpinned {pins pl : List (Addr × Obj)} {σ : St} {H : Hp} {s : Shared} (I : Inv X (pins ++ pl) σ H s) : Inv X pins σ H s := I.pins_of fun p hp => I.pin p (List.mem_append_right _ (List.mem_append_left _ hp))
theorem ps_for {iter : Expr} {body : List Stmt} {wi : TI} {g : TG} {tb : TS} {pos : Pos} (hp : PassesOwn (model X.prog X.w) X.A X.env X.xe) (hc : X.calm = true) (hi : PI X tg iter wi) (hg : PG X tg g) (hb : PSs X body tb)
    (hs : ∀ x, foldedSetIterable iter X.env x = pure x := by intro _; rfl) : PS X (.For tg iter body [] pos) (tFor wi g tb) := by
  intro pins s σ H D I h
  refine wpAny_For (thn (hi pins s σ H _ I h) fun v s1 h1 => thn h1 fun itv s2 h2 => ?_) hs
  obtain ⟨it, fp, tn, J, H2, e, I2, T, st2, f2, W, ⟨m0, w0⟩, turn⟩ := h2
  subst e
  -- what stays true of the iterator's objects through the loop
  have stat : ∀ {H' : Hp}, (∀ b ∈ fp, H' b = none) → ∀ b ∈ fp, FpOk X pins H' b := fun hn b hb => ⟨hn b hb, (f2 b hb).2⟩
  refine codeAny_forLoop_any (fun n s' => ∃ i σ' H', Inv X pins σ' H' s' ∧ tn i s'.heap ∧ (∀ b ∈ fp, H' b = none) ∧ W i n σ' H') ?_ m0 ⟨0, σ, H2, I2, st2, fun b hb => (f2 b hb).1, w0⟩
  rintro n s3 ⟨i, σ3, H3, I3, st3, fr3, w3⟩
  rcases turn i n σ3 H3 w3 with ⟨stop, qn⟩ | ⟨go, N, hN, step⟩
  · refine wpAny_passesOwn hp (thn (T.done X rfl rfl rfl hc i pins s3 σ3 H3 X.xe I3 (stat fr3) st3 stop) fun r s4 ⟨hr, I4⟩ => ?_)
    subst hr
    exact wpAny_execs_nil ⟨σ3, H3, I4, qn⟩
  · refine wpAny_passesOwn hp (thn (T.item X rfl rfl rfl hc i pins s3 σ3 H3 X.xe I3 (stat fr3) st3 go) fun r s4 ⟨u, hr, h4⟩ => ?_)
    subst hr
    refine wpAny_passesOwn hp (thn h4 fun _ s5 ⟨x, H5, I5, r5, y5, st5, fr5⟩ => ?_)
    have I5' := I5.pinned (stat fr5) (T.obj _ _ st5)
    refine wpAny_passesOwn hp (thn (hg _ s5 σ3 H5 x u _ I5' r5 (step x H5 y5)) fun _ s6 ⟨σ6, H6, I6, q6⟩ => ?_)
    refine wpAny_passesOwn hp (thn (hb _ s6 σ6 H6 _ I6 q6) fun f s7 q7 => ?_)
    have again : ∀ {σ7 : St} {H7 : Hp}, Inv X (pins ++ pinsAt fp s5.heap) σ7 H7 s7 → N σ7 H7 → ∃ m, m < n ∧ ∃ i σ' H', Inv X pins σ' H' s7 ∧ tn i s7.heap ∧ (∀ b ∈ fp, H' b = none) ∧ W i m σ' H' := fun {σ7 H7} I7 n7 => by
      obtain ⟨m', hm, w7⟩ := hN σ7 H7 n7
      refine ⟨m', hm, i + 1, σ7, H7, I7.unpinned, T.keep _ _ _ st5 fun b hb o e => (I7.pin (b, o) (List.mem_append_right _ (List.mem_append_right _ (mem_pinsAt hb e)))).1, fun b hb => ?_, w7⟩
      obtain ⟨o, e, d⟩ := T.obj _ _ st5 b hb
      exact (I7.pin (b, o) (List.mem_append_right _ (List.mem_append_right _ (mem_pinsAt hb e)))).2.1
    cases f with
    | next => obtain ⟨σ7, H7, I7, n7⟩ := q7; exact again I7 n7
    | cont => obtain ⟨σ7, H7, I7, n7⟩ := q7; exact again I7 n7
    | brk => obtain ⟨σ7, H7, I7, q7⟩ := q7; exact ⟨σ7, H7, I7.unpinned, q7⟩
    | ret v => obtain ⟨x7, σ7, H7, I7, r7, q7⟩ := q7; exact ⟨x7, σ7, H7, I7.unpinned, r7, q7⟩
end

/-! ### the forms one uses -/
/-- over a list that the body leaves as it is -/
theorem for_list {K : PySem.W.Frag} {a : Addr} {xs : List V} {g : TG} {tb : TS} {D : Ends} {σ : St} {H : Hp} (Pv : Nat → St → Hp → Prop) (h0 : Pv 0 σ H) (hl : ∀ i σ H, i ≤ xs.length → Pv i σ H → SqL K H a xs)
    (hs : ∀ i x σ H, xs[i]? = some x → Pv i σ H → g x σ H fun σ2 H2 => tb { D with nx := Pv (i + 1), ct := Pv (i + 1), bk := D.nx } σ2 H2) (hd : ∀ σ H, Pv xs.length σ H → D.nx σ H) :
    ∃ W : Nat → Nat → St → Hp → Prop, (∃ m, W 0 m σ H) ∧ ∀ i m σ H, W i m σ H →
      ((Itl K a).stop i H ∧ D.nx σ H) ∨ ((Itl K a).go i H ∧ ∃ N : St → Hp → Prop, (∀ σ' H', N σ' H' → ∃ m', m' < m ∧ W (i + 1) m' σ' H') ∧ ∀ x H', (Itl K a).yld i H x H' → g x σ H' fun σ2 H2 => tb { D with nx := N, ct := N, bk := D.nx } σ2 H2) := by
  refine ⟨fun i m σ H => m = xs.length - i ∧ i ≤ xs.length ∧ Pv i σ H, ⟨xs.length, by simp, Nat.zero_le _, h0⟩, ?_⟩
  rintro i m σ H ⟨rfl, hi, p⟩
  have q := hl i σ H hi p
  by_cases hlt : i < xs.length
  · refine .inr ⟨⟨xs, xs[i], q, by simp [hlt]⟩, Pv (i + 1), fun σ' H' p' => ⟨xs.length - (i + 1), by omega, rfl, hlt, p'⟩, fun x H' y => ?_⟩
    obtain ⟨e, y⟩ := y
    subst e
    exact hs i x σ _ (y xs q) p
  · have e : i = xs.length := by omega
    subst e
    exact .inl ⟨⟨xs, q, Nat.le_refl _⟩, hd σ H p⟩
theorem for_tup {K : PySem.W.Frag} {a : Addr} {xs : List V} {g : TG} {tb : TS} {D : Ends} {σ : St} {H : Hp} (Pv : Nat → St → Hp → Prop) (h0 : Pv 0 σ H) (hl : ∀ i σ H, i ≤ xs.length → Pv i σ H → SqT K H a xs)
    (hs : ∀ i x σ H, xs[i]? = some x → Pv i σ H → g x σ H fun σ2 H2 => tb { D with nx := Pv (i + 1), ct := Pv (i + 1), bk := D.nx } σ2 H2) (hd : ∀ σ H, Pv xs.length σ H → D.nx σ H) :
    ∃ W : Nat → Nat → St → Hp → Prop, (∃ m, W 0 m σ H) ∧ ∀ i m σ H, W i m σ H →
      ((Itt K a).stop i H ∧ D.nx σ H) ∨ ((Itt K a).go i H ∧ ∃ N : St → Hp → Prop, (∀ σ' H', N σ' H' → ∃ m', m' < m ∧ W (i + 1) m' σ' H') ∧ ∀ x H', (Itt K a).yld i H x H' → g x σ H' fun σ2 H2 => tb { D with nx := N, ct := N, bk := D.nx } σ2 H2) := by
  refine ⟨fun i m σ H => m = xs.length - i ∧ i ≤ xs.length ∧ Pv i σ H, ⟨xs.length, by simp, Nat.zero_le _, h0⟩, ?_⟩
  rintro i m σ H ⟨rfl, hi, p⟩
  have q := hl i σ H hi p
  by_cases hlt : i < xs.length
  · refine .inr ⟨⟨xs, xs[i], q, by simp [hlt]⟩, Pv (i + 1), fun σ' H' p' => ⟨xs.length - (i + 1), by omega, rfl, hlt, p'⟩, fun x H' y => ?_⟩
    obtain ⟨e, y⟩ := y
    subst e
    exact hs i x σ _ (y xs q) p
  · have e : i = xs.length := by omega
    subst e
    exact .inl ⟨⟨xs, q, Nat.le_refl _⟩, hd σ H p⟩
theorem for_range {lo : Int} {n : Nat} {g : TG} {tb : TS} {D : Ends} {σ : St} {H : Hp} (Pv : Nat → St → Hp → Prop) (h0 : Pv 0 σ H)
    (hs : ∀ i σ H, i < n → Pv i σ H → g (.int (lo + i)) σ H fun σ2 H2 => tb { D with nx := Pv (i + 1), ct := Pv (i + 1), bk := D.nx } σ2 H2) (hd : ∀ σ H, Pv n σ H → D.nx σ H) :
    ∃ W : Nat → Nat → St → Hp → Prop, (∃ m, W 0 m σ H) ∧ ∀ i m σ H, W i m σ H →
      ((Itr lo n).stop i H ∧ D.nx σ H) ∨ ((Itr lo n).go i H ∧ ∃ N : St → Hp → Prop, (∀ σ' H', N σ' H' → ∃ m', m' < m ∧ W (i + 1) m' σ' H') ∧ ∀ x H', (Itr lo n).yld i H x H' → g x σ H' fun σ2 H2 => tb { D with nx := N, ct := N, bk := D.nx } σ2 H2) := by
  refine ⟨fun i m σ H => m = n - i ∧ i ≤ n ∧ Pv i σ H, ⟨n, by simp, Nat.zero_le _, h0⟩, ?_⟩
  rintro i m σ H ⟨rfl, hi, p⟩
  by_cases hlt : i < n
  · refine .inr ⟨hlt, Pv (i + 1), fun σ' H' p' => ⟨n - (i + 1), by omega, rfl, hlt, p'⟩, fun x H' y => ?_⟩
    obtain ⟨e, y⟩ := y
    subst e y
    exact hs i σ _ hlt p
  · have e : i = n := by omega
    subst e
    exact .inl ⟨Nat.le_refl _, hd σ H p⟩
end L2

namespace L2
open PySem PySem.Spec PyProof.Rows

abbrev R2 := V → V → Hp → VK → Prop
/-- a two-place operation on values: f is binaryOp op, inplaceOp op or compareOp op -/
def OpR (X : Cx) (f : Value → Value → Sem Value) (r : R2) : Prop :=
  ∀ (pins : List (Addr × Obj)) (s : Shared) (σ : St) (H : Hp) (x y : V) (v u : Value) (Q : VK), Inv X pins σ H s → RelV x v → RelV y u → r x y H Q →
    wpAny (model X.prog X.w) X.A (f v u) (EP X pins σ Q) X.xe s
/-- a one-place operation -/
def UnR (X : Cx) (f : Value → Sem Value) (r : V → Hp → VK → Prop) : Prop :=
  ∀ (pins : List (Addr × Obj)) (s : Shared) (σ : St) (H : Hp) (x : V) (v : Value) (Q : VK), Inv X pins σ H s → RelV x v → r x H Q →
    wpAny (model X.prog X.w) X.A (f v) (EP X pins σ Q) X.xe s
/-- a call of a value that is known (a builtin, a type) with values -/
def CallR (X : Cx) (f : Value) (r : List V → Hp → VK → Prop) : Prop :=
  ∀ (pins : List (Addr × Obj)) (s : Shared) (σ : St) (H : Hp) (xs : List V) (us : List Value) (Q : VK), Inv X pins σ H s → Vals xs us → r xs H Q →
    wpAny (model X.prog X.w) X.A (call f us) (EP X pins σ Q) X.xe s
/-- a value's truth -/
def TruR (X : Cx) (r : V → Hp → (Bool → Hp → Prop) → Prop) : Prop :=
  ∀ (pins : List (Addr × Obj)) (s : Shared) (σ : St) (H : Hp) (x : V) (v : Value) (Q : Bool → Hp → Prop), Inv X pins σ H s → RelV x v → r x H Q →
    wpAny (model X.prog X.w) X.A (truthy v) (TP X pins σ Q) X.xe s

def tOp (r : R2) (ta tb : TE) : TE := fun σ H Q => ta σ H fun x H1 => tb σ H1 fun y H2 => r x y H2 Q
def tUn (r : V → Hp → VK → Prop) (ta : TE) : TE := fun σ H Q => ta σ H fun x H1 => r x H1 Q
/-- ints in, under C, and a value out -/
def rI (C : Int → Int → Prop) (g : Int → Int → V) : R2 := fun x y H Q => ∃ i j, x = .int i ∧ y = .int j ∧ C i j ∧ Q (g i j) H
def rI0 (g : Int → Int → V) : R2 := fun x y H Q => ∃ i j, x = .int i ∧ y = .int j ∧ Q (g i j) H
def rU (g : Int → V) : V → Hp → VK → Prop := fun x H Q => ∃ i, x = .int i ∧ Q (g i) H

section
variable {X : Cx} {a b c : Expr} {ta tb tc : TE} {pos : Pos}

theorem binT (ha : PE X a ta) (hb : PE X b tb) {pins : List (Addr × Obj)} {s : Shared} {σ : St} {H : Hp} {R : V → V → Hp → Prop} (I : Inv X pins σ H s)
    (h : ta σ H fun x H1 => tb σ H1 fun y H2 => R x y H2) {Q : Value → Shared → Prop} {f : Value → Value → Sem Value}
    (hf : ∀ v u s2 x y H2, Inv X pins σ H2 s2 → RelV x v → RelV y u → R x y H2 → wpAny (model X.prog X.w) X.A (f v u) Q X.xe s2) :
    wpAny (model X.prog X.w) X.A (eval a X.env) (fun v s₁ => wpAny (model X.prog X.w) X.A (eval b X.env) (fun u s₂ => wpAny (model X.prog X.w) X.A (f v u) Q X.xe s₂) X.xe s₁) X.xe s := by
  refine thn (ha pins s σ H _ I h) fun v s1 ⟨x, H1, I1, r1, q1⟩ => ?_
  refine thn (hb pins s1 σ H1 _ I1 q1) fun u s2 ⟨y, H2, I2, r2, q2⟩ => ?_
  exact hf v u s2 x y H2 I2 r1 r2 q2

theorem pe_op {op : Operator} {r : R2} (ho : OpR X (binaryOp op) r) (ha : PE X a ta) (hb : PE X b tb) : PE X (.BinOp a op b pos) (tOp r ta tb) := by
  intro pins s σ H Q I h
  exact wpAny_BinOp (binT ha hb I h fun v u s2 x y H2 I2 rx ry q => ho pins s2 σ H2 x y v u Q I2 rx ry q)
theorem pe_un {op : UnaryOp} {r : V → Hp → VK → Prop} (ho : UnR X (unaryOp op) r) (ha : PE X a ta) : PE X (.UnaryOp op a pos) (tUn r ta) := by
  intro pins s σ H Q I h
  exact UnaryOp_ (thn (ha pins s σ H _ I h) fun v s1 ⟨x, H1, I1, r1, q1⟩ => ho pins s1 σ H1 x v Q I1 r1 q1)
/-! ### ints -/
theorem opI {f : Value → Value → Sem Value} {C : Int → Int → Prop} {g : Int → Int → Int}
    (rule : ∀ (i j : Int) (t u : Tok) (s : Shared) (Q : Value → Shared → Prop) (E : Value → Shared → Prop), C i j → Q (.int (g i j) s.toks) { s with toks := s.toks + 1 } → wpAny (model X.prog X.w) X.A (f (.int i t) (.int j u)) Q E s) :
    OpR X f (rI C fun i j => .int (g i j)) := by
  intro pins s σ H x y v u Q I rx ry h
  obtain ⟨i, j, rfl, rfl, hc, q⟩ := h
  obtain ⟨t, rfl⟩ := rx
  obtain ⟨t', rfl⟩ := ry
  exact rule i j t t' s _ _ hc ⟨.int (g i j), H, I.tok _, ⟨_, rfl⟩, q⟩
theorem opI0 {f : Value → Value → Sem Value} {g : Int → Int → Int}
    (rule : ∀ (i j : Int) (t u : Tok) (s : Shared) (Q : Value → Shared → Prop) (E : Value → Shared → Prop), Q (.int (g i j) s.toks) { s with toks := s.toks + 1 } → wpAny (model X.prog X.w) X.A (f (.int i t) (.int j u)) Q E s) :
    OpR X f (rI0 fun i j => .int (g i j)) := by
  intro pins s σ H x y v u Q I rx ry h
  obtain ⟨i, j, rfl, rfl, q⟩ := h
  obtain ⟨t, rfl⟩ := rx
  obtain ⟨t', rfl⟩ := ry
  exact rule i j t t' s _ _ ⟨.int (g i j), H, I.tok _, ⟨_, rfl⟩, q⟩
theorem opB0 {f : Value → Value → Sem Value} {g : Int → Int → Bool}
    (rule : ∀ (i j : Int) (t u : Tok) (s : Shared) (Q : Value → Shared → Prop) (E : Value → Shared → Prop), Q (.bool (g i j)) s → wpAny (model X.prog X.w) X.A (f (.int i t) (.int j u)) Q E s) :
    OpR X f (rI0 fun i j => .bl (g i j)) := by
  intro pins s σ H x y v u Q I rx ry h
  obtain ⟨i, j, rfl, rfl, q⟩ := h
  obtain ⟨t, rfl⟩ := rx
  obtain ⟨t', rfl⟩ := ry
  exact rule i j t t' s _ _ ⟨.bl (g i j), H, I, rfl, q⟩

def CPow (i j : Int) : Prop := 0 ≤ j ∧ j ≤ 1000000 ∧ i.natAbs < 2 ^ 64
def CMul (i j : Int) : Prop := (-(2 ^ 64) < i ∧ i < 2 ^ 64) ∨ (-(2 ^ 64) < j ∧ j < 2 ^ 64)
theorem CMul.ok {i j : Int} (h : CMul i j) : IntMulOk i j := by
  rcases h with ⟨h1, h2⟩ | ⟨h1, h2⟩
  · exact .of_left (intBits_le_64 h1 h2)
  · exact .of_right (intBits_le_64 h1 h2)
theorem op_add : OpR X (binaryOp .Add) (rI0 fun i j => .int (i + j)) := opI0 fun _ _ _ _ _ _ _ q => add_int q
theorem op_sub : OpR X (binaryOp .Sub) (rI0 fun i j => .int (i - j)) := opI0 fun _ _ _ _ _ _ _ q => sub_int q
theorem op_mul : OpR X (binaryOp .Mult) (rI CMul fun i j => .int (i * j)) := opI fun _ _ _ _ _ _ _ hc q => mul_int q hc.ok
/-- % by a positive divisor of any size -/
theorem op_mod : OpR X (binaryOp .Mod) (rI (fun _ j => 0 < j) fun i j => .int (i % j)) := opI fun i j _ _ _ _ _ hc q => by
  have h1 : (0 : Int) < j := hc
  exact mod_int' (by omega) (by rw [Int.fmod_eq_emod_of_nonneg i (by omega)]; exact q)
theorem op_pow : OpR X (binaryOp .Pow) (rI CPow fun i j => .int (i ^ j.toNat)) := opI fun _ _ _ _ _ _ _ hc q => pow_int_small hc.1 hc.2.1 hc.2.2 q
theorem unI {f : Value → Sem Value} {g : Int → Int}
    (rule : ∀ (i : Int) (t : Tok) (s : Shared) (Q : Value → Shared → Prop) (E : Value → Shared → Prop), Q (.int (g i) s.toks) { s with toks := s.toks + 1 } → wpAny (model X.prog X.w) X.A (f (.int i t)) Q E s) :
    UnR X f (rU fun i => .int (g i)) := by
  intro pins s σ H x v Q I rx h
  obtain ⟨i, rfl, q⟩ := h
  obtain ⟨t, rfl⟩ := rx
  exact rule i t s _ _ ⟨.int (g i), H, I.tok _, ⟨_, rfl⟩, q⟩
theorem un_neg : UnR X (unaryOp .USub) (rU fun i => .int (-i)) := unI fun _ _ _ _ _ q => neg_int q
/-! ### bools among ints: n += (a < b) -/
end

/-! ### comparisons -/
/-- the scalars that == tells apart as data does -/
def scal : V → V → Bool
  | .non, .non => true | .non, .int _ => true | .int _, .non => true | .non, .bl _ => true | .bl _, .non => true | .non, .str _ => true | .str _, .non => true
  | .int _, .int _ => true | .bl _, .bl _ => true | .str _, .str _ => true | .byt _, .byt _ => true
  | .int _, .str _ => true | .str _, .int _ => true | .bl _, .str _ => true | .str _, .bl _ => true
  | _, _ => false
def rEq : R2 := fun x y H Q => scal x y = true ∧ Q (.bl (decide (x = y))) H
def rNe : R2 := fun x y H Q => scal x y = true ∧ Q (.bl (!decide (x = y))) H

theorem dec_int {i j : Int} : decide (V.int i = V.int j) = (i == j) := by
  rw [Bool.eq_iff_iff]
  simp
theorem dec_bl {i j : Bool} : decide (V.bl i = V.bl j) = (i == j) := by
  rw [Bool.eq_iff_iff]
  simp
theorem dec_str {i j : Str} : decide (V.str i = V.str j) = (i == j) := by
  rw [Bool.eq_iff_iff]
  simp
theorem dec_byt {i j : Array UInt8} : decide (V.byt i = V.byt j) = (i.toList == j.toList) := by
  rw [Bool.eq_iff_iff]
  cases i
  cases j
  simp

section
variable {X : Cx} {a b c : Expr} {ta tb tc : TE} {pos : Pos}
theorem fin_bl {pins : List (Addr × Obj)} {σ : St} {H : Hp} {s : Shared} {Q : VK} {k k' : Bool} (I : Inv X pins σ H s) (q : Q (.bl k) H) (e : k = k') : EP X pins σ Q (.bool k') s := by
  subst e
  exact ⟨.bl k, H, I, rfl, q⟩
theorem op_eq : OpR X (compareOp .Eq) rEq := by
  intro pins s σ H x y v u Q I rx ry h
  obtain ⟨hs, q⟩ := h
  cases x with
  | non =>
    cases rx
    cases y with
    | non => cases ry; exact PySem.EqNone.eq_none_none (fin_bl I q (by simp))
    | bl j => cases ry; exact PySem.EqNone.eq_none_bool (fin_bl I q (by simp))
    | int j => obtain ⟨t', rfl⟩ := ry; exact PySem.EqNone.eq_none_int (fin_bl I q (by simp))
    | str j => obtain ⟨t', rfl⟩ := ry; exact PySem.EqNone.eq_none_str (fin_bl I q (by simp))
    | _ => exact absurd (show false = true from hs) Bool.false_ne_true
  | bl i =>
    cases rx
    cases y with
    | non => cases ry; exact PySem.EqNone.eq_bool_none (fin_bl I q (by simp))
    | bl j => cases ry; exact eq_bool (fin_bl I q dec_bl)
    | str j => obtain ⟨t', rfl⟩ := ry; exact PySem.EqMixed.eq_bool_str (fin_bl I q (by simp))
    | _ => exact absurd (show false = true from hs) Bool.false_ne_true
  | int i =>
    obtain ⟨t, rfl⟩ := rx
    cases y with
    | non => cases ry; exact PySem.EqNone.eq_int_none (fin_bl I q (by simp))
    | int j => obtain ⟨t', rfl⟩ := ry; exact eq_int (fin_bl I q dec_int)
    | str j => obtain ⟨t', rfl⟩ := ry; exact PySem.EqMixed.eq_int_str (fin_bl I q (by simp))
    | _ => exact absurd (show false = true from hs) Bool.false_ne_true
  | str i =>
    obtain ⟨t, rfl⟩ := rx
    cases y with
    | non => cases ry; exact PySem.EqNone.eq_str_none (fin_bl I q (by simp))
    | bl j => cases ry; exact PySem.EqMixed.eq_str_bool (fin_bl I q (by simp))
    | int j => obtain ⟨t', rfl⟩ := ry; exact PySem.EqMixed.eq_str_int (fin_bl I q (by simp))
    | str j => obtain ⟨t', rfl⟩ := ry; exact eq_str (fin_bl I q dec_str)
    | _ => exact absurd (show false = true from hs) Bool.false_ne_true
  | byt i =>
    obtain ⟨t, rfl⟩ := rx
    cases y with
    | byt j => obtain ⟨t', rfl⟩ := ry; exact PySem.W.eq_bytes (fin_bl I q dec_byt)
    | _ => exact absurd (show false = true from hs) Bool.false_ne_true
  | _ => cases y <;> exact absurd (show false = true from hs) Bool.false_ne_true
theorem op_ne : OpR X (compareOp .NotEq) rNe := by
  intro pins s σ H x y v u Q I rx ry h
  obtain ⟨hs, q⟩ := h
  cases x with
  | non =>
    cases rx
    cases y with
    | non => cases ry; exact PySem.EqNone.ne_none_none (fin_bl I q (by simp))
    | bl j => cases ry; exact PySem.EqNone.ne_none_bool (fin_bl I q (by simp))
    | int j => obtain ⟨t', rfl⟩ := ry; exact PySem.EqNone.ne_none_int (fin_bl I q (by simp))
    | str j => obtain ⟨t', rfl⟩ := ry; exact PySem.EqNone.ne_none_str (fin_bl I q (by simp))
    | _ => exact absurd (show false = true from hs) Bool.false_ne_true
  | bl i =>
    cases rx
    cases y with
    | non => cases ry; exact PySem.EqNone.ne_bool_none (fin_bl I q (by simp))
    | bl j => cases ry; exact ne_bool (fin_bl I q (congrArg not dec_bl))
    | str j => obtain ⟨t', rfl⟩ := ry; exact PySem.EqMixed.ne_bool_str (fin_bl I q (by simp))
    | _ => exact absurd (show false = true from hs) Bool.false_ne_true
  | int i =>
    obtain ⟨t, rfl⟩ := rx
    cases y with
    | non => cases ry; exact PySem.EqNone.ne_int_none (fin_bl I q (by simp))
    | int j => obtain ⟨t', rfl⟩ := ry; exact ne_int (fin_bl I q (congrArg not dec_int))
    | str j => obtain ⟨t', rfl⟩ := ry; exact PySem.EqMixed.ne_int_str (fin_bl I q (by simp))
    | _ => exact absurd (show false = true from hs) Bool.false_ne_true
  | str i =>
    obtain ⟨t, rfl⟩ := rx
    cases y with
    | non => cases ry; exact PySem.EqNone.ne_str_none (fin_bl I q (by simp))
    | bl j => cases ry; exact PySem.EqMixed.ne_str_bool (fin_bl I q (by simp))
    | int j => obtain ⟨t', rfl⟩ := ry; exact PySem.EqMixed.ne_str_int (fin_bl I q (by simp))
    | str j => obtain ⟨t', rfl⟩ := ry; exact ne_str (fin_bl I q (congrArg not dec_str))
    | _ => exact absurd (show false = true from hs) Bool.false_ne_true
  | byt i =>
    obtain ⟨t, rfl⟩ := rx
    cases y with
    | byt j => obtain ⟨t', rfl⟩ := ry; exact PySem.W.ne_bytes (fin_bl I q (congrArg not dec_byt))
    | _ => exact absurd (show false = true from hs) Bool.false_ne_true
  | _ => cases y <;> exact absurd (show false = true from hs) Bool.false_ne_true

theorem op_lt : OpR X (compareOp .Lt) (rI0 fun i j => .bl (decide (i < j))) := opB0 fun _ _ _ _ _ _ _ q => lt_int q
theorem op_le : OpR X (compareOp .LtE) (rI0 fun i j => .bl (decide (i ≤ j))) := opB0 fun _ _ _ _ _ _ _ q => le_int q
theorem op_gt : OpR X (compareOp .Gt) (rI0 fun i j => .bl (decide (j < i))) := opB0 fun _ _ _ _ _ _ _ q => gt_int q
theorem op_ge : OpR X (compareOp .GtE) (rI0 fun i j => .bl (decide (j ≤ i))) := opB0 fun _ _ _ _ _ _ _ q => ge_int q
/-- is None, is not None: the right side a value none -/
theorem op_isN : OpR X (compareOp .Is) (fun x y H Q => y = .non ∧ Q (.bl (decide (x = .non))) H) := by
  intro pins s σ H x y v u Q I rx ry h
  obtain ⟨rfl, q⟩ := h
  cases ry
  refine is_none_gen (fin_bl I q ?_)
  cases x <;> first
    | (cases rx; rfl)
    | (obtain ⟨t, rfl⟩ := rx; rfl)
theorem nomark (b : Expr) {op : CmpOp} (h : op ≠ .In := by decide) (h2 : op ≠ .NotIn := by decide) : behindInMarks op b = false := by
  have e1 : (op == CmpOp.In) = false := by cases op <;> first | rfl | exact absurd rfl h
  have e2 : (op == CmpOp.NotIn) = false := by cases op <;> first | rfl | exact absurd rfl h2
  cases b <;> simp [behindInMarks, e1, e2]
/-- a comparison as a value; hm: nomark b, or (for in, not in) by with_unfolding_all rfl -/
theorem pe_cmpR {op : CmpOp} {r : R2} (ho : OpR X (compareOp op) r) (ha : PE X a ta) (hb : PE X b tb) (hm : behindInMarks op b = false) : PE X (.Compare a [op] [b] pos) (tOp r ta tb) := by
  intro pins s σ H Q I h
  exact wpAny_Compare1 (binT ha hb I h fun v u s2 x y H2 I2 rx ry q => ho pins s2 σ H2 x y v u Q I2 rx ry q) hm
/-- a reading of a value as a test -/
def tTest (t : TE) : TT := fun σ H Q => t σ H fun x H' => ∃ k, x = .bl k ∧ Q k H'
theorem pt_cmpR {op : CmpOp} {r : R2} (ho : OpR X (compareOp op) r) (ha : PE X a ta) (hb : PE X b tb) (hm : behindInMarks op b = false) : PT X (.Compare a [op] [b] pos) (tTest (tOp r ta tb)) := by
  intro pins s σ H Q I h
  refine wpAny_isTrue_Compare1 (thn (ha pins s σ H _ I h) fun v s1 ⟨x, H1, I1, r1, q1⟩ => thn (hb pins s1 σ H1 _ I1 q1) fun u s2 ⟨y, H2, I2, r2, q2⟩ =>
    thn (ho pins s2 σ H2 x y v u _ I2 r1 r2 q2) fun c s3 ⟨z, H3, I3, r3, k, e, q3⟩ => ?_) hm
  subst e
  cases r3
  exact wpAny_truthy_bool ⟨H3, I3, q3⟩
/-- a op1 b op2 c -/
def tChain (r r' : R2) (ta tb tc : TE) : TE := fun σ H Q => ta σ H fun x H1 => tb σ H1 fun y H2 => r x y H2 fun z H3 => ∃ k, z = .bl k ∧
  (if k = true then tc σ H3 fun w' H4 => r' y w' H4 Q else Q (.bl false) H3)
theorem pe_chain {op op' : CmpOp} {r r' : R2} (ho : OpR X (compareOp op) r) (ho' : OpR X (compareOp op') r') (ha : PE X a ta) (hb : PE X b tb) (hc : PE X c tc)
    (hm : lastMarks [op, op'] [b, c] = false := by with_unfolding_all rfl) : PE X (.Compare a [op, op'] [b, c] pos) (tChain r r' ta tb tc) := by
  intro pins s σ H Q I h
  refine Compare_chain (thn (ha pins s σ H _ I h) fun v s1 ⟨x, H1, I1, r1, q1⟩ => chain_link (thn (hb pins s1 σ H1 _ I1 q1) fun u s2 ⟨y, H2, I2, r2, q2⟩ =>
    thn (ho pins s2 σ H2 x y v u _ I2 r1 r2 q2) fun d s3 ⟨z, H3, I3, r3, k, e, q3⟩ => ?_)) hm
  subst e
  cases r3
  refine wpAny_truthy_bool ?_
  cases k with
  | false => exact ite_ff ⟨.bl false, H3, I3, rfl, q3⟩
  | true => exact ite_tt (chain_last (thn (hc pins s3 σ H3 _ I3 q3) fun w' s4 ⟨z', H4, I4, r4, q4⟩ => ho' pins s4 σ H4 y z' u w' Q I4 r2 r4 q4))
/-! ### truth -/
/-- a value's truth by the abstract heap -/
def TruV (K : PySem.W.Frag) (x : V) (H : Hp) (k : Bool) : Prop :=
  match x with
  | .non => k = false
  | .bl b => k = b
  | .int i => k = (i != 0)
  | .str y => y.length ≤ sizeLine ∧ k = ((y.length : Int) != 0)
  | .byt y => y.size ≤ sizeLine ∧ k = ((y.size : Int) != 0)
  | .ref p => (∃ xs, SqL K H p xs ∧ k = !xs.isEmpty) ∨ (∃ xs, SqT K H p xs ∧ k = !xs.isEmpty) ∨ ∃ kvs, H p = some (.dK kvs) ∧ k = !kvs.isEmpty
  | _ => False
theorem isEmpty_kv {κ : Type} {kvs : List (κ × V)} {vs : List (κ × Value)} (r : KV kvs vs) : (!vs.isEmpty) = !kvs.isEmpty := by
  cases r <;> rfl
theorem isEmpty_of {xs : List V} {its : List Value} (r : Vals xs its) : (!its.toArray.isEmpty) = !xs.isEmpty := by
  cases r <;> simp
theorem line63 : (sizeLine : Nat) < 2 ^ 63 := by rw [sizeLine_eq]; decide
theorem tru_ok : TruR X (fun x H Q => ∃ k, TruV X.K x H k ∧ Q k H) := by
  intro pins s σ H x v Q I rx h
  obtain ⟨k, e, q⟩ := h
  have hl := line63
  have hs : sizeLine = 16777216 := sizeLine_eq
  cases x with
  | non =>
    cases rx
    have e' : k = false := e
    subst e'
    exact truthy_none ⟨H, I, q⟩
  | bl b =>
    cases rx
    have e' : k = b := e
    subst e'
    exact wpAny_truthy_bool ⟨H, I, q⟩
  | int i =>
    obtain ⟨t, rfl⟩ := rx
    have e' : k = (i != 0) := e
    subst e'
    exact PySem.P.truthy_int ⟨H, I, q⟩
  | str y =>
    obtain ⟨t, rfl⟩ := rx
    obtain ⟨hy, e'⟩ : y.length ≤ sizeLine ∧ k = ((y.length : Int) != 0) := e
    subst e'
    exact PySem.P.truthy_str (by omega) ⟨H, I.tok _, q⟩
  | byt y =>
    obtain ⟨t, rfl⟩ := rx
    obtain ⟨hy, e'⟩ : y.size ≤ sizeLine ∧ k = ((y.size : Int) != 0) := e
    subst e'
    exact PySem.W.truthy_bytes (by omega) ⟨H, I.tok _, q⟩
  | ref p =>
    cases rx
    have e' : (∃ xs, SqL X.K H p xs ∧ k = !xs.isEmpty) ∨ (∃ xs, SqT X.K H p xs ∧ k = !xs.isEmpty) ∨ ∃ kvs, H p = some (.dK kvs) ∧ k = !kvs.isEmpty := e
    rcases e' with ⟨xs, hx, e'⟩ | ⟨xs, hx, e'⟩ | ⟨kvs, hx, e'⟩
    · subst e'
      obtain ⟨its, r, pl, hz⟩ := I.list hx
      have hlen := r.length
      exact wpAny_truthy_list pl.isList (by simp only [List.size_toArray]; omega) ⟨H, I.tok _, by rw [isEmpty_of r]; exact q⟩
    · subst e'
      obtain ⟨its, r, pl, hz⟩ := I.tuple hx
      have hlen := r.length
      exact truthy_tuple pl (by simp only [List.size_toArray]; omega) ⟨H, I.tok _, by rw [isEmpty_of r]; exact q⟩
    · subst e'
      obtain ⟨hz, hS, vs, r, m⟩ : kvs.length ≤ sizeLine ∧ (p == sysModules) = false ∧ ∃ vs, KV kvs vs ∧ s.heap.DictOf (mixKind X.prog X.w) p vs := I.hok p _ hx
      have hlen : kvs.length = vs.length := Paired.length r
      exact wpAny_truthy_dict hS m (by omega) ⟨H, I.tok _, by rw [isEmpty_kv r]; exact q⟩
  | _ => exact (show False from e).elim
/-- any expression whose test is its value's truth (a name, a call, a subscript, a field ..: he by fun _ => rfl) -/
theorem pt_truth (ha : PE X a ta) (he : ∀ whole, isTrue a X.env whole = (do let v ← whole; standAt a.pos; holding [v] (truthy v))) :
    PT X a (fun σ H Q => ta σ H fun x H' => ∃ k, TruV X.K x H' k ∧ Q k H') := by
  intro pins s σ H Q I h
  exact isTrue_plain (thn (ha pins s σ H _ I h) fun v s1 ⟨x, H1, I1, r1, q1⟩ => tru_ok pins s1 σ H1 x v Q I1 r1 q1) (he _)

/-! ### strs and bytes -/
/-! ### scalar builtins, by CallR -/
theorem vals1 {x : V} {us : List Value} (r : Vals [x] us) : ∃ u, us = [u] ∧ RelV x u := by
  cases r with
  | cons r1 r2 => cases r2; exact ⟨_, rfl, r1⟩
theorem vals2 {x y : V} {us : List Value} (r : Vals [x, y] us) : ∃ u w', us = [u, w'] ∧ RelV x u ∧ RelV y w' := by
  cases r with
  | cons r1 r2 =>
    cases r2 with
    | cons r3 r4 => cases r4; exact ⟨_, _, rfl, r1, r3⟩
theorem call_min2 (hc : X.calm = true) : CallR X (.builtin "min") (fun xs H Q => ∃ i j, xs = [.int i, .int j] ∧ Q (.int (if j < i then j else i)) H) := by
  intro pins s σ H xs us Q I r h
  obtain ⟨i, j, rfl, q⟩ := h
  obtain ⟨u, w', rfl, ⟨t, rfl⟩, ⟨t', rfl⟩⟩ := vals2 r
  refine min_two_ints (I.ok.hd hc) fun h' tk k => ⟨_, H, I.kept k, ?_, q⟩
  by_cases hj : j < i
  · rw [if_pos hj, if_pos hj]; exact ⟨_, rfl⟩
  · rw [if_neg hj, if_neg hj]; exact ⟨_, rfl⟩
end
end L2

namespace L2
open PySem PySem.Spec PyProof.Rows

/-! ### an instance, its attributes a map -/
structure ObjM (h : Heap) (x dx C : Addr) (mA : Str → Option Value) : Prop where
  obj : h.get? x = some (PySem.W.instObj C dx)
  ns : h.Ns1 dx mA
  ne : dx ≠ x

theorem lookIn_ns {h : Heap} {dx : Addr} {mA : Str → Option Value} (n : h.Ns1 dx mA) : ∃ od, h.get? dx = some od ∧ ∀ name, PySem.W.lookIn name od = some (mA name) := by
  obtain ⟨o, es, ep, ho, hd, hk, _, hm⟩ := n
  refine ⟨o, ho, fun name => ?_⟩
  have e := hm name
  unfold nsFind findBy at e
  rw [← Array.find?_toList] at e
  unfold PySem.W.lookIn
  rw [hd]
  dsimp only
  split
  · rename_i y q
    rw [q] at e
    exact congrArg some e
  · rename_i q
    rw [q] at e
    have a : es.toList.any (·.refKey) = false := by
      rw [List.any_eq_false]
      intro y hy
      obtain ⟨z, t, hkey⟩ := hk y (Array.mem_toList_iff.mp hy)
      simp [DictEntry.refKey, hkey]
    have a' : ¬ es.toList.any (·.refKey) = true := by rw [a]; exact Bool.false_ne_true
    rw [if_neg a']
    exact congrArg some e

theorem ObjM.look {h : Heap} {x dx C : Addr} {mA : Str → Option Value} (I : ObjM h x dx C mA) : ∃ od, PySem.W.InstAt h x (PySem.W.instObj C dx) C (some od) ∧ ∀ name, PySem.W.lookIn name od = some (mA name) :=
  let ⟨od, ho, hl⟩ := lookIn_ns I.ns
  ⟨od, ⟨I.obj, rfl, rfl, ho⟩, hl⟩

section
variable {prog : Program} {w : World} {A : Around} {E : Value → Shared → Prop} {s : Shared} {K : PySem.W.Frag} {x dx C f : Addr} {mA : Str → Option Value} {name : Str} {v : Value}

end

/-! ### the attributes as a list of pairs -/
section
variable {P : Program} {w : World} {H H' : Hp} {h h' : Heap} {a C dx : Addr} {fs fs' : List (Str × V)}
theorem ins_get (hok : HOk P w H h) (e : H a = some (.ins C dx fs)) : ∃ mA, ObjM h a dx C mA ∧ (∀ f, RelO (fs.lookup f) (mA f)) ∧ PySem.Within mA (fs.map (·.1)) ∧ fs.length ≤ 1000 ∧ H dx = some (.own a) := by
  obtain ⟨d, z, ne, ob, mA, n, r, q⟩ := (show ObjOk P w H h a (.ins C dx fs) from hok a _ e)
  exact ⟨mA, ⟨ob, n, ne⟩, r, q, z, d⟩
end

/-! ### what of the text a class must have -/
structure Cls (K : PySem.W.Frag) (C : Addr) : Prop where
  pg : PySem.W.plainGet K C Str.empty = true
  hd : PySem.W.hasDictIn K C = true
  po : PySem.W.plainOver K C = true
  sa : PySem.W.findIn K (.ref C) "__setattr__" = some (some (.builtin "object.__setattr__"))
theorem Cls.get {K : PySem.W.Frag} {C : Addr} (c : Cls K C) (f : Str) : PySem.W.plainGet K C f = true := c.pg
section
variable {X : Cx} {pins : List (Addr × Obj)} {σ : St} {H : Hp} {s : Shared} {a C dx : Addr} {fs : List (Str × V)} {f : Str} {v : V} {A : Around} {E : Value → Shared → Prop}

end

/-! ### readings and rules -/
section
variable {X : Cx} {o e value : Expr} {f : Str} {pos pos' tpos : Pos} {ta tv : TE}
end

/-! ### isinstance -/
section
variable {X : Cx} {pins : List (Addr × Obj)} {σ : St} {H : Hp} {s : Shared} {A : Around} {E : Value → Shared → Prop} {Q : Value → Shared → Prop} {c : Value} {b : Bool}
/-- the type of a value, as the fragment's deciders take it; for an instance its class -/
inductive TyOf (K : PySem.W.Frag) (H : Hp) : V → Value → Prop where
  | non : TyOf K H .non (.type "NoneType")
  | bl (x : Bool) : TyOf K H (.bl x) (.type "bool")
  | int (i : Int) : TyOf K H (.int i) (.type "int")
  | str (x : Str) : TyOf K H (.str x) (.type "str")
  | flt (x : UInt64) : TyOf K H (.flt x) (.type "float")
  | lst {a : Addr} {xs : List V} (e : H a = some (.lst xs)) : TyOf K H (.ref a) (.type "list")
  | frz {a : Addr} {o : Obj} {xs : List V} (e : H a = some (.frz o (.lst xs))) : TyOf K H (.ref a) (.type "list")
  | tup {a : Addr} {xs : List V} (e : H a = some (.tup xs)) : TyOf K H (.ref a) (.type "tuple")
  | dK {a : Addr} {kvs : List (Key × V)} (e : H a = some (.dK kvs)) : TyOf K H (.ref a) (.type "dict")
  | dT {a : Addr} {kvs : List (List Key × V)} (e : H a = some (.dT kvs)) : TyOf K H (.ref a) (.type "dict")
  | ins {a C dx : Addr} {fs : List (Str × V)} (e : H a = some (.ins C dx fs)) (cl : Cls K C) (ha : PySem.W.findIn K (.ref C) "__class__" = some (some (.builtin "object.__class__")))
      (hn : PySem.W.specialIn K (.builtin "object.__class__") "__get__" = some (some (.builtin "getset_descriptor.__get__"))) (htk : PySem.W.takesIn K (.builtin "object.__class__") = some true)
      (hm : PySem.W.mroIn K C (.type "object") = some true) : TyOf K H (.ref a) (.ref C)
/-- isinstance(x, c) for one class c, a built-in or an own one: kitOne's answer -/
theorem isinst_ok {x : V} {u t : Value} (I : Inv X pins σ H s) (rx : RelV x u) (ty : TyOf X.K H x t) (e : PySem.W.kitOne X.K t c = some b) (h : ∀ tk, Q (.bool b) { s with toks := tk }) :
    wpAny (model X.prog X.w) A (call (.builtin "isinstance") [u, c]) Q E s := by
  cases ty with
  | non => cases (show u = Value.none from rx); exact PySem.W.kia_one PySem.W.kitx_none I.kIn True.intro e (fun z => nomatch z) h
  | bl y => cases (show u = Value.bool y from rx); exact PySem.W.kia_one PySem.W.kitx_bool I.kIn True.intro e (fun z => nomatch z) h
  | int i => obtain ⟨t, q⟩ := (show ∃ t, u = Value.int i t from rx); cases q; exact PySem.W.kia_one PySem.W.kitx_int I.kIn True.intro e (fun z => nomatch z) h
  | str y => obtain ⟨t, q⟩ := (show ∃ t, u = Value.str y t from rx); cases q; exact PySem.W.kia_one PySem.W.kitx_str I.kIn True.intro e (fun z => nomatch z) h
  | flt y => obtain ⟨t, q⟩ := (show ∃ t, u = Value.float y t from rx); cases q; exact PySem.W.kia_one PySem.W.kitx_float I.kIn True.intro e (fun z => nomatch z) h
  | @lst a xs ea =>
    cases (show u = Value.ref a from rx)
    obtain ⟨_, _, n, _, h1⟩ := (show ObjOk X.prog X.w H s.heap a (.lst xs) from I.hok a _ ea)
    exact PySem.W.kia_one PySem.W.kitx_list I.kIn ⟨_, h1, rfl⟩ e (fun z => nomatch z) h
  | @frz a ob xs ea =>
    cases (show u = Value.ref a from rx)
    obtain ⟨_, _, _, n, _, h1⟩ := (show ObjOk X.prog X.w H s.heap a (.frz ob (.lst xs)) from I.hok a _ ea)
    exact PySem.W.kia_one PySem.W.kitx_list I.kIn ⟨_, h1, rfl⟩ e (fun z => nomatch z) h
  | @tup a xs ea =>
    cases (show u = Value.ref a from rx)
    obtain ⟨_, _, _, p, _⟩ := (show ObjOk X.prog X.w H s.heap a (.tup xs) from I.hok a _ ea)
    obtain ⟨o, h1, h2, _⟩ := p
    exact PySem.W.kia_one PySem.W.kitx_tuple I.kIn ⟨o, h1, h2⟩ e (fun z => nomatch z) h
  | @dK a kvs ea =>
    cases (show u = Value.ref a from rx)
    obtain ⟨_, _, vs, _, p⟩ := (show ObjOk X.prog X.w H s.heap a (.dK kvs) from I.hok a _ ea)
    obtain ⟨o, es, ep, h1, h2, _⟩ := p
    exact PySem.W.kia_one PySem.W.kitx_dict I.kIn ⟨o, h1, h2.1⟩ e (fun z => nomatch z) h
  | @dT a kvs ea =>
    cases (show u = Value.ref a from rx)
    obtain ⟨_, _, xs, _, o, es, ep, h1, h2, _⟩ := (show ObjOk X.prog X.w H s.heap a (.dT kvs) from I.hok a _ ea)
    exact PySem.W.kia_one PySem.W.kitx_dict I.kIn ⟨o, h1, h2.1⟩ e (fun z => nomatch z) h
  | @ins a C dx fs ea cl ha hn htk hm =>
    cases (show u = Value.ref a from rx)
    obtain ⟨mA, O, _⟩ := ins_get I.hok ea
    obtain ⟨od, J, _⟩ := O.look
    exact PySem.W.kia_one (PySem.W.kitx_own (cl.get _) cl.hd ha hn htk hm) I.kIn J e (fun z => nomatch z) h
end
end L2

namespace L2
open PySem PySem.Spec PyProof.Rows

/-! ### room -/
structure Room (k : Nat) (A : Around) (cm : Bool := true) : Prop where
  hd : cm = true → A.handled = none
  dp : A.depth + 3 * k + 5 < recursionLimit
  un : A.units + 16 * k + 200 < cLine
theorem Room.mono {j k : Nat} {A : Around} {cm : Bool} (r : Room k A cm) (h : j ≤ k) : Room j A cm := ⟨r.hd, by have := r.dp; omega, by have := r.un; omega⟩
theorem Room.deeper {k : Nat} {A : Around} {cm : Bool} (r : Room (k + 1) A cm) (env : Env) : Room k (A.deeper env) cm :=
  ⟨r.hd, by have := r.dp; show A.depth + 1 + 3 * k + 5 < _; omega, by have := r.un; show A.units + 3 + 16 * k + 200 < _; omega⟩
theorem Room.depth {k : Nat} {A : Around} {cm : Bool} (r : Room k A cm) : A.depth < recursionLimit := by have := r.dp; omega
theorem Room.units {k : Nat} {A : Around} {cm : Bool} (r : Room k A cm) : A.units + 64 < cLine := by have := r.un; omega
/-! ### argument lists and displays -/
def tNil : TA := fun _ H Q => Q [] H
def tCons (ta : TE) (tr : TA) : TA := fun σ H Q => ta σ H fun x H1 => tr σ H1 fun xs H2 => Q (x :: xs) H2
section
variable {X : Cx} {e : Expr} {es : List Expr} {te : TE} {t : TA} {pos : Pos}
theorem pa_nil : PA X [] tNil := fun _ _ _ _ H Q I h => Calls.spliced_nil ⟨[], H, I, .nil, h⟩
theorem pa_cons (ha : PE X e te) (hr : PA X es t) (hs : starEach (e :: es) X.env = (false, eval e X.env) :: starEach es X.env := by rfl) : PA X (e :: es) (tCons te t) := by
  intro pos pins s σ H Q I h
  rw [hs]
  show wpAny _ _ (spliced ((false, eval e X.env) :: backTo pos (starEach es X.env))) _ _ s
  refine Calls.spliced_cons (thn (ha pins s σ H _ I h) fun u s1 ⟨x, H1, I1, r1, q1⟩ => ?_)
  exact thn (hr pos pins s1 σ H1 _ I1 q1) fun us s2 ⟨xs, H2, I2, r2, q2⟩ => ⟨x :: xs, H2, I2, .cons r1 r2, q2⟩

/-- a tuple, a list of written items -/
def tTup (t : TA) : TE := fun σ H Q => t σ H fun xs H1 => xs.length ≤ sizeLine ∧ ∀ p, H1 p = none → Q (.ref p) (upd H1 p (.tup xs))
def tLst (t : TA) : TE := fun σ H Q => t σ H fun xs H1 => xs.length ≤ sizeLine ∧ ∀ p, H1 p = none → Q (.ref p) (upd H1 p (.lst xs))
theorem pe_tup {x1} (h : PA X es t) : PE X (.Tuple es x1 pos) (tTup t) := by
  intro pins s σ H Q I hq
  refine wpAny_Tuple_spliced (thn (h pos pins s σ H _ I hq) fun us s1 ⟨xs, H1, I1, r, z, q⟩ => ⟨by rw [← r.length]; exact z, ?_⟩)
  have hf : H1 s1.heap.objs.size = none := I1.hok.fresh (Nat.le_refl _)
  refine ⟨.ref s1.heap.objs.size, upd H1 s1.heap.objs.size (.tup xs), I1.laid (t' := s1.toks) (fun b u e => Heap.get?_push_of_some _ e) (Nat.le_refl _) ?_, rfl, q _ hf⟩
  exact ⟨z, us, r, ⟨_, Heap.get?_push_size _ rfl, rfl, _, rfl⟩, tup_nodict⟩
theorem pe_lst (h : PA X es t) : PE X (.List es pos) (tLst t) := by
  intro pins s σ H Q I hq
  refine wpAny_List_spliced (thn (h pos pins s σ H _ I hq) fun us s1 ⟨xs, H1, I1, r, z, q⟩ => ⟨by rw [← r.length]; exact z, ?_⟩)
  have hf : H1 s1.heap.objs.size = none := I1.hok.fresh (Nat.le_refl _)
  refine ⟨.ref s1.heap.objs.size, upd H1 s1.heap.objs.size (.lst xs), I1.laid (t' := s1.toks) (fun b u e => Heap.get?_push_of_some _ e) (Nat.le_refl _) ?_, rfl, q _ hf⟩
  exact ⟨z, us, 0, r, Heap.get?_push_size _ rfl⟩
end

/-! ### what a def promises -/
/-- a def's promise: the bound arguments in the parameters' order, the heap, the wanted end, the wanted exception -/
abbrev Sp := List V → Hp → VK → XK → Prop
/-- how an exception lies behind a call (file 08 gives it): the callers' frames, abstract heap and state ahead of the call, the wish, the exception, the state -/
abbrev CXT := List Env → Hp → Shared → XK → Value → Shared → Prop

/-- the state at a call -/
structure Env0 (P : Program) (w : World) (K : PySem.W.Frag) (mg : Str → Option Value) (base : Heap) (A : Around) (outer : List Env) (s : Shared) (H : Hp) : Prop where
  frames : A.frames = some outer
  mod : Mod K mg base
  bs : ∀ b o, base.get? b = some o → s.heap.get? b = some o ∧ H b = none
  bsz : base.objs.size ≤ s.heap.objs.size
  funs : s.heap.FunFrames base outer
  frf : ∀ b ∈ frs outer, H b = none
  hok : HOk P w H s.heap
  bare : AllBare s.gens
/-- a call's end -/
def CE (outer : List Env) (P : Program) (w : World) (H : Hp) (s : Shared) (Q : VK) (u : Value) (s' : Shared) : Prop :=
  ∃ v H', s'.os = s.os ∧ AllBare s'.gens ∧ Un (frs outer) [] H H' s.heap s'.heap ∧ HOk P w H' s'.heap ∧ RelV v u ∧ Q v H'
def CR (CX : CXT) (outer : List Env) (P : Program) (w : World) (H : Hp) (s : Shared) (Q : VK) (E : XK) (r : Result) (s' : Shared) : Prop :=
  match r with
  | .ok (.ret u) => CE outer P w H s Q u s'
  | .ok _ => False
  | .error e => CX outer H s E e s'
structure FnOk (P : Program) (w : World) (K : PySem.W.Frag) (mg : Str → Option Value) (base : Heap) (CX : CXT) (k : Nat) (f : Addr) (fd : FuncData) (ps : List Str) (sp : Sp) (cm : Bool := true) : Prop where
  len : ∀ vs H Q E, sp vs H Q E → vs.length = ps.length
  run : ∀ (A : Around) (outer : List Env) (s : Shared) (H : Hp) (args : Args) (us : List Value) (vs : List V) (Q : VK) (E : XK), Room k A cm → Env0 P w K mg base A outer s H → BindsTo s fd args (ps.zip us) → Vals vs us → sp vs H Q E →
    codeAny (model P w) A (.call (.ref f) args) (CR CX outer P w H s Q E) s
section
variable {X : Cx} {pins : List (Addr × Obj)} {σ : St} {H : Hp} {s s' : Shared}
/-- from a body: what a callee wants -/
theorem Inv.env0 (I : Inv X pins σ H s) : Env0 X.prog X.w X.K X.mg X.base X.A X.stack s H :=
  ⟨I.ok.frames, I.ok.mod, I.bs, Nat.le_trans I.ok.bsz I.sz, I.stack, I.stkFree, I.hok, I.bare⟩
/-- behind a call -/
theorem Inv.after {Q : VK} {u : Value} (I : Inv X pins σ H s) (h : CE X.stack X.prog X.w H s Q u s') : EP X pins σ Q u s' := by
  obtain ⟨v, H', os, bare, un, hok, r, q⟩ := h
  obtain ⟨hh, g, d, t, os'⟩ := s'
  obtain rfl : os' = s.os := os
  exact ⟨v, H', I.call (h' := hh) (g' := g) (d' := d) (t' := t) (ch := []) un hok bare (fun b z => absurd z (by simp)), r, q⟩
end

/-! ### calls -/
/-- f(..): the written arguments, then the defaults dvs; E: what is wanted of an exception -/
def tCall (sp : Sp) (dvs : List V) (E : XK) (t : TA) : TE := fun σ H Q => t σ H fun vs H1 => sp (vs ++ dvs) H1 Q E
/-- how the parameters are bound: us the positional arguments, kw the keywords' values by name, ds the defaults that fill up -/
def Binds (K : PySem.W.Frag) (fd : FuncData) (ps : List Str) (ds : List Value) : Prop :=
  ∀ (s : Shared) (us : List Value), K.In s.heap → (us ++ ds).length = ps.length → BindsTo s fd ⟨us, []⟩ (ps.zip (us ++ ds))
/-- every parameter is given -/
theorem Binds.all {K : PySem.W.Frag} {fd : FuncData} {ps : List Str} (h : ∀ us : List Value, us.length = ps.length → bindArgs fd ⟨us, []⟩ = pure (ps.zip us)) : Binds K fd ps [] := fun s us _ hl => by
  rw [List.append_nil] at hl ⊢
  exact .of_eq (h us hl)

/-- an exception of a callee reaches what this body wants of exceptions -/
def Passes (CX : CXT) (X : Cx) (E : XK) : Prop := ∀ (pins : List (Addr × Obj)) (σ : St) (H : Hp) (s : Shared) (e : Value) (s' : Shared), Inv X pins σ H s → CX X.stack H s E e s' → X.xe e s'

section
variable {cm : Bool} {X : Cx} {CX : CXT} {k : Nat} {f C : Addr} {fd : FuncData} {ps : List Str} {sp : Sp} {dvs : List V} {ds : List Value} {E : XK} {x m : Str} {p pos apos : Pos} {e o : Expr} {es : List Expr} {ta : TE} {t : TA}

/-- the callee runs -/
theorem run_fn {pins : List (Addr × Obj)} {σ : St} {H : Hp} {s : Shared} {Q : VK} {us : List Value} {vs : List V} (F : FnOk X.prog X.w X.K X.mg X.base CX k f fd ps sp cm) (hr : Room k X.A cm) (hb : Binds X.K fd ps ds) (hd : Vals dvs ds) (hx : Passes CX X E)
    (I : Inv X pins σ H s) (r : Vals vs us) (h : sp (vs ++ dvs) H Q E) : wpAny (model X.prog X.w) X.A (call (.ref f) us) (EP X pins σ Q) X.xe s := by
  have r2 : Vals (vs ++ dvs) (us ++ ds) := r.append hd
  have hl : (us ++ ds).length = ps.length := by rw [← r2.length]; exact F.len _ _ _ _ h
  refine wpAny_call (codeAny_mono (F.run X.A X.stack s H ⟨us, []⟩ (us ++ ds) (vs ++ dvs) Q E hr I.env0 (hb s us I.kIn hl) r2 h) fun r s' hq => ?_)
  cases r with
  | error e => exact hx pins σ H s e s' I hq
  | ok fl =>
    cases fl with
    | ret u => exact I.after hq
    | next => exact False.elim hq
    | brk => exact False.elim hq
    | cont => exact False.elim hq

theorem pe_call (F : FnOk X.prog X.w X.K X.mg X.base CX k f fd ps sp cm) (hr : Room k X.A cm) (hg : Gl X x) (hm : X.mg x = some (.ref f)) (hk : PySem.W.keepIn X.K (.ref f) = true) (hb : Binds X.K fd ps ds) (hd : Vals dvs ds) (hx : Passes CX X E)
    (ha : PA X (e :: es) t) (hdb : (x == ("__debug__" : Str)) = false := by decide) (he : starEach (e :: es) X.env = (false, eval e X.env) :: starEach es X.env := by rfl) (hpl : (backTo pos (starEach es X.env)).any (·.1) = false := by rfl) :
    PE X (.Call (.Name x p) (e :: es) [] pos) (tCall sp dvs E t) := by
  intro pins s σ H Q I h
  refine wpAny_Call_Name_kw (ld_glob I hg hm ?_ hdb)
  refine PySem.W.callWith_K (h₀ := X.base) I.ok.mod.kin hk (thn (ha pos pins s σ H _ I h) fun us s1 ⟨vs, H1, I1, r, q⟩ => ⟨I1.kIn, ?_⟩) he hpl
  exact run_fn F hr hb hd hx I1 r q
end

/-! ### keywords -/
section
variable {cm : Bool} {X : Cx} {CX : CXT} {k : Nat} {f C : Addr} {fd : FuncData} {ps ks : List Str} {sp : Sp} {E : XK} {x m : Str} {p pos apos kpos : Pos} {e o : Expr} {es : List Expr} {kws : List Keyword} {te ta : TE} {t tk : TA} {nm : Option Str}
variable {g : List Value → List Value → List Value} {gV : List V → List V → List V}
end

/-! ### a def's body keeps its promise -/
/-- names: the parameters first -/
structure FnScope (N P : List Str) (sc : Scope) : Prop where
  kind : sc.kind = .function
  co : sc.isCoroutine = false
  gen : sc.isGenerator = false
  nd : N.Nodup
  pre : N.take P.length = P
  par : ∀ x ∈ P, sc.names.lookup x = some .local ∨ sc.names.lookup x = some .cell
  nofree : ∀ y ∈ sc.names, y.2 ≠ .free

theorem bindL_out {kindOf : Str → Option NameKind} {x : Str} : ∀ {binds : List (Str × Value)} {m : Str → Option Value}, (∀ v, (x, v) ∉ binds) → bindL kindOf binds m x = m x
  | [], _, _ => rfl
  | (n, v) :: r, m, h => by
    unfold bindL
    rw [bindL_out fun w hw => h w (List.mem_cons_of_mem _ hw)]
    split
    · have : x ≠ n := by rintro rfl; exact h v List.mem_cons_self
      simp [this]
    · rfl
theorem bindC_out {kindOf : Str → Option NameKind} {x : Str} : ∀ {binds : List (Str × Value)} {m : Str → Option Value}, (∀ v, (x, v) ∉ binds) → bindC kindOf binds m x = m x
  | [], _, _ => rfl
  | (n, v) :: r, m, h => by
    unfold bindC
    rw [bindC_out fun w hw => h w (List.mem_cons_of_mem _ hw)]
    split
    · rfl
    · have : x ≠ n := by rintro rfl; exact h v List.mem_cons_self
      simp [this]
theorem bindL_get {kindOf : Str → Option NameKind} {x : Str} {v : Value} : ∀ {P : List Str} {vs : List Value} {i : Nat} {m : Str → Option Value}, P.Nodup → P[i]? = some x → vs[i]? = some v → kindOf x = some .local →
    bindL kindOf (P.zip vs) m x = some v
  | [], _, _, _, _, h, _, _ => by simp at h
  | _ :: _, [], _, _, _, _, h, _ => by simp at h
  | p :: P, w :: vs, 0, m, nd, h1, h2, hk => by
    simp at h1 h2; subst h1; subst h2
    show bindL kindOf ((p, w) :: P.zip vs) m p = _
    unfold bindL
    rw [bindL_out fun v hv => (List.nodup_cons.mp nd).1 (List.of_mem_zip hv).1, if_pos hk]
    simp
  | p :: P, w :: vs, i + 1, m, nd, h1, h2, hk => by
    show bindL kindOf ((p, w) :: P.zip vs) m x = _
    unfold bindL
    exact bindL_get (i := i) (List.nodup_cons.mp nd).2 (by simpa using h1) (by simpa using h2) hk
theorem bindC_get {kindOf : Str → Option NameKind} {x : Str} {v : Value} : ∀ {P : List Str} {vs : List Value} {i : Nat} {m : Str → Option Value}, P.Nodup → P[i]? = some x → vs[i]? = some v → kindOf x ≠ some .local →
    bindC kindOf (P.zip vs) m x = some v
  | [], _, _, _, _, h, _, _ => by simp at h
  | _ :: _, [], _, _, _, _, h, _ => by simp at h
  | p :: P, w :: vs, 0, m, nd, h1, h2, hk => by
    simp at h1 h2; subst h1; subst h2
    show bindC kindOf ((p, w) :: P.zip vs) m p = _
    unfold bindC
    rw [bindC_out fun v hv => (List.nodup_cons.mp nd).1 (List.of_mem_zip hv).1, if_neg hk]
    simp
  | p :: P, w :: vs, i + 1, m, nd, h1, h2, hk => by
    show bindC kindOf ((p, w) :: P.zip vs) m x = _
    unfold bindC
    exact bindC_get (i := i) (List.nodup_cons.mp nd).2 (by simpa using h1) (by simpa using h2) hk

/-- the names' values at the entry -/
def start (N : List Str) (vs : List V) : St := vs.map some ++ List.replicate (N.length - vs.length) none

/-- the context of a def's body, at its entry; an exception leaves the frame, then lies as CX says -/
def cxOf (CX : CXT) (P : Program) (w : World) (K : PySem.W.Frag) (mg : Str → Option Value) (base : Heap) (N : List Str) (qual : Str) (scope : Scope) (f : Addr) (cd : Value) (A : Around) (outer : List Env) (s : Shared) (H : Hp) (E : XK) (cm : Bool := true) : Cx where
  prog := P
  w := w
  K := K
  mg := mg
  base := base
  A := A.deeper (envOfC qual scope s.heap.objs.size f cd)
  N := N
  s₀ := s
  H₀ := H
  env := envOfC qual scope s.heap.objs.size f cd
  outer := outer
  stack := envOfC qual scope s.heap.objs.size f cd :: outer
  ex := []
  calm := cm
  fn := fun _ => true
  pn := []
  xe := fun e s' => wpAny (model P w) (A.deeper (envOfC qual scope s.heap.objs.size f cd)) (leaving (envOfC qual scope s.heap.objs.size f cd) e) (fun _ s'' => CX outer H s E e s'') (fun e' s'' => CX outer H s E e' s'') s'

theorem cell_has {sc : Scope} {n : Nat} {x : Str} (h : sc.names.lookup x = some .cell) : ∃ c, (cellsFrom n sc.names []).lookup x = some c := by
  have q := PySem.W.cellsFrom_some sc.names n [] (.inl h)
  exact Option.isSome_iff_exists.mp q

theorem inv_start {CX : CXT} {P : Program} {w : World} {K : PySem.W.Frag} {mg : Str → Option Value} {base : Heap} {N ps : List Str} {qual : Str} {scope : Scope} {f : Addr} {cd : Value} {A : Around} {outer : List Env} {s s1 : Shared} {H : Hp} {E : XK} {cm : Bool} {us : List Value} {vs : List V}
    (S : FnScope N ps scope) (hd : cm = true → A.handled = none) (e0 : Env0 P w K mg base A outer s H) (hl : vs.length = ps.length) (r : Vals vs us)
    (x : InCallC s s.heap.objs.size (bindL (envOfC qual scope s.heap.objs.size f cd).kindOf (ps.zip us) fun _ => none) (cellsFrom (s.heap.objs.size + 1) scope.names []) (bindC (envOfC qual scope s.heap.objs.size f cd).kindOf (ps.zip us) fun _ => none) s1) :
    Inv (cxOf CX P w K mg base N qual scope f cd A outer s H E cm) [] (start N vs) H s1 := by
  have hpl : ps.length ≤ N.length := by have := congrArg List.length S.pre; rw [List.length_take] at this; omega
  obtain ⟨h1, tk, rfl, hk⟩ := x.done
  have noA : ∀ b : Addr, b ∉ (cxOf CX P w K mg base N qual scope f cd A outer s H E cm).ex := fun b z => absurd (show b ∈ ([] : List Addr) from z) (by simp)
  refine ⟨⟨e0.mod, S.kind, rfl, rfl, Nat.le_refl _, fun y z c h1 h2 => ?_, fun y hy => ?_, fun y c _ h => ?_, hd, Around.frames_deeper e0.frames, .inr ⟨rfl, rfl⟩, fun b z => absurd z (noA b), e0.bs, e0.bsz, fun b _ _ => noA b, fun b z => absurd z (noA b), e0.funs, e0.frf⟩,
    rfl, e0.bare, Un.kept hk, ⟨_, x.toInCall.ns, fun i y v h1 h2 h3 => ?_⟩, fun y c h => ⟨_, x.cell y c h⟩, e0.hok.fresh (Nat.le_refl _), fun y c h => ?_, fun p hp => absurd (show p ∈ ([] : List (Addr × Obj)) from hp) (by simp), e0.hok.kept hk, ?_⟩
  · exact name_of_addr x.apart (PySem.mem_of_lookup h1) (PySem.mem_of_lookup h2)
  · have hy : scope.names.lookup y = some .cell ∨ scope.names.lookup y = some .free := hy
    rcases hy with hy | hy
    · exact cell_has hy
    · exact absurd rfl (S.nofree _ (PySem.mem_of_lookup hy))
  · exact Nat.le_of_lt (x.above y c (PySem.mem_of_lookup h))
  · have hi : i < vs.length := by
      unfold start at h2
      by_cases hi : i < vs.length
      · exact hi
      · rw [List.getElem?_append_right (by simpa using hi)] at h2
        rw [List.getElem?_replicate] at h2
        split at h2 <;> cases h2
    have ha : vs[i]? = some v := by
      unfold start at h2
      rw [List.getElem?_append_left (by simpa using hi), List.getElem?_map] at h2
      cases e : vs[i]? with
      | none => rw [e] at h2; cases h2
      | some a => rw [e] at h2; cases h2; rfl
    obtain ⟨u, hu, rv⟩ := r.get ha
    have hp : ps[i]? = some y := by
      rw [← S.pre, List.getElem?_take_of_lt (by omega)]; exact h1
    have ndP : ps.Nodup := by rw [← S.pre]; exact S.nd.sublist (List.take_sublist _ _)
    refine ⟨u, rv, ?_⟩
    rcases S.par y (List.mem_of_getElem? hp) with k | k
    · exact .inl ⟨k, bindL_get ndP hp hu k⟩
    · obtain ⟨c, e⟩ := cell_has (n := s.heap.objs.size + 1) k
      refine .inr ⟨.inl k, c, e, ?_⟩
      have q := x.cell y c e
      rw [bindC_get ndP hp hu (by show scope.names.lookup y ≠ _; rw [k]; decide)] at q
      exact q
  · exact e0.hok.fresh (Nat.le_of_lt (x.above y c (PySem.mem_of_lookup h)))
  · unfold start
    show _ = N.length
    rw [List.length_append, List.length_map, List.length_replicate]
    omega

/-- THE RULE: a def (or a method) of the text, by its body. The body's reading t is chosen for each entry; it is run at the parameters' values -/
theorem fn_of {CX : CXT} {P : Program} {w : World} {K : PySem.W.Frag} {mg : Str → Option Value} {base : Heap} {k : Nat} {f : Addr} {name qual : Str} {params : Arguments} {body : List Stmt} {scope : Scope} {dV kV doc pm cdv ct oc : Value} {an od : Option Addr}
    {osl : Array (Option Value)} {N ps : List Str} {sp : Sp} {cm : Bool} (lk : K.lookup f = some ⟨oc, od, .func (PySem.W.fnOf name qual params body scope dV kV doc pm an cdv ct), osl⟩) (hcd : PySem.W.codeIn K cdv qual = true) (S : FnScope N ps scope)
    (len : ∀ vs H Q E, sp vs H Q E → vs.length = ps.length)
    (hbody : ∀ (A : Around) (outer : List Env) (s : Shared) (H : Hp) (vs : List V) (Q : VK) (E : XK), Room k (A.deeper (envOfC qual scope s.heap.objs.size f cdv)) cm → sp vs H Q E →
      ∃ t, PSs (cxOf CX P w K mg base N qual scope f cdv A outer s H E cm) body t ∧ t { nx := fun _ H' => Q .non H', rt := Q } (start N vs) H) :
    FnOk P w K mg base CX (k + 1) f (PySem.W.fnOf name qual params body scope dV kV doc pm an cdv ct) ps sp cm := by
  refine ⟨len, fun A outer s H args us vs Q E hr e0 hb r hsp => ?_⟩
  have hl := len _ _ _ _ hsp
  have KX : K.In s.heap := e0.mod.kin.keeps fun b o e => (e0.bs b o e).1
  have lim : s.heap.NoLimit := e0.mod.nolimit.keeps fun b o e => (e0.bs b o e).1
  have hkind : ∀ y ∈ ps.zip us, scope.names.lookup y.1 = some .local ∨ (scope.names.lookup y.1 = some .cell ∧ ((cellsFrom (s.heap.objs.size + 1) scope.names []).lookup y.1).isSome = true) := fun ⟨n, v⟩ hy => by
    rcases S.par n (List.of_mem_zip hy).1 with q | q
    · exact .inl q
    · exact .inr ⟨q, PySem.W.cellsFrom_some _ _ _ (.inl q)⟩
  refine codeAny_call_function hr.depth (KX _ _ lk) rfl S.co S.gen rfl (PySem.W.codeRec_of KX hcd) (hb _ _ _ _ ?_)
  refine wpAny_newFunctionEnv_cells S.kind hkind fun env he s1 x => ?_
  subst he
  refine ⟨lim.keeps x.toInCall.keep, codeAny_func ?_⟩
  obtain ⟨t, ht, hq⟩ := hbody A outer s H vs Q E (hr.deeper _) hsp
  have I : Inv (cxOf CX P w K mg base N qual scope f cdv A outer s H E cm) [] (start N vs) H s1 := inv_start S hr.hd e0 hl r x
  refine wpAny_mono (ht [] s1 (start N vs) H _ I hq) (fun fl s' hs => ?_) fun e s' hs => hs
  have fin : ∀ {σ' : St} {H' : Hp} {v : V} {u : Value}, Inv (cxOf CX P w K mg base N qual scope f cdv A outer s H E cm) [] σ' H' s' → RelV v u → Q v H' → CE outer P w H s Q u s' :=
    fun {σ' H' v u} J rv q => ⟨v, H', J.os, J.bare, J.base, J.hok, rv, q⟩
  cases fl with
  | ret u =>
    obtain ⟨v, σ', H', J, rv, q⟩ := hs
    exact fin J rv q
  | next =>
    obtain ⟨σ', H', J, q⟩ := hs
    exact fin (v := V.non) (u := Value.none) J rfl q
  | brk =>
    obtain ⟨_, _, _, q⟩ := hs
    exact False.elim q
  | cont =>
    obtain ⟨_, _, _, q⟩ := hs
    exact False.elim q
end L2

namespace L2
open PySem PySem.Spec PyProof.Rows
section
variable {X : Cx} {x : Str} {p pos : Pos} {e : Expr} {es : List Expr} {t : TA} {id T : String} {r : List V → Hp → VK → Prop}

def tCB (r : List V → Hp → VK → Prop) (t : TA) : TE := fun σ H Q => t σ H fun vs H1 => r vs H1 Q
/-- f(e, ..), f a built-in function -/
theorem pe_callB (hc : CallR X (.builtin id) r) (hg : Gl X x) (hm : X.mg x = none) (hv : bootBuiltins x = some (.builtin id)) (ha : PA X (e :: es) t) (hn : x ≠ "__name__" := by decide) (hdb : (x == ("__debug__" : Str)) = false := by decide)
    (he : starEach (e :: es) X.env = (false, eval e X.env) :: starEach es X.env := by rfl) (hpl : (backTo pos (starEach es X.env)).any (·.1) = false := by rfl) : PE X (.Call (.Name x p) (e :: es) [] pos) (tCB r t) := by
  intro pins s σ H Q I h
  refine wpAny_Call_Name_kw (ld_blt I hg hm hv ?_ hn hdb)
  exact PyProof.Rows.callWith_builtin1 (thn (ha pos pins s σ H _ I h) fun us s1 ⟨vs, H1, I1, r1, q1⟩ => hc pins s1 σ H1 vs us Q I1 r1 q1) he hpl
/-- T(e, ..), T a built-in type -/
theorem pe_callTy (hc : CallR X (.type T) r) (hg : Gl X x) (hm : X.mg x = none) (hv : bootBuiltins x = some (.type T)) (ha : PA X (e :: es) t) (hn : x ≠ "__name__" := by decide) (hdb : (x == ("__debug__" : Str)) = false := by decide)
    (he : starEach (e :: es) X.env = (false, eval e X.env) :: starEach es X.env := by rfl) (hpl : (backTo pos (starEach es X.env)).any (·.1) = false := by rfl) : PE X (.Call (.Name x p) (e :: es) [] pos) (tCB r t) := by
  intro pins s σ H Q I h
  refine wpAny_Call_Name_kw (ld_blt I hg hm hv ?_ hn hdb)
  exact PyProof.Rows.callWith_type1 (thn (ha pos pins s σ H _ I h) fun us s1 ⟨vs, H1, I1, r1, q1⟩ => hc pins s1 σ H1 vs us Q I1 r1 q1) he hpl
end
end L2

namespace HT
open PySem PyProof.Rows

section
open PySem.SeqAt
open PySem.AutoSeq1 (wpAny_loadPart')
open PySem.MeetsSeq PySem.MeetsSeq2 PySem.MeetsSeq3

end

section
variable {prog : Program} {w : World} {A : Around} {E : Value → Shared → Prop} {s : Shared}

/-- t + u, t not empty -/
theorem cat_tup {t b : Addr} {vs ws : List Value} {Q : Value → Shared → Prop} (ht : IsTup s.heap t vs.toArray) (hb : IsTup s.heap b ws.toArray) (hv : vs ≠ [])
    (h1 : ws = [] → Q (.ref t) s) (h2 : ws ≠ [] → Q (.ref s.heap.objs.size) { s with heap := s.heap.push { cls := .type "tuple", data := .seq (vs ++ ws).toArray } })
    (hsz : vs.length + ws.length ≤ sizeLine) : wpAny (model prog w) A (binaryOp .Add (.ref t) (.ref b)) Q E s := by
  obtain ⟨⟨cls, dd, data, sl⟩, ho, hc, n, hd⟩ := id ht
  obtain ⟨⟨cls2, dd2, data2, sl2⟩, ho2, hc2, n2, hd2⟩ := id hb
  simp only at hc hd hc2 hd2
  subst hc hd hc2 hd2
  have e : vs.toArray ++ ws.toArray = (vs ++ ws).toArray := by simp
  by_cases hw : ws = []
  · exact concat_meets ⟨_, ho, rfl⟩ ⟨_, ho2, rfl⟩ noFill_tuple_add seq_tuple_add PySem.F.slot_tuple_add PySem.F.entry_tuple_add (PySem.F.args_tuple_add_2 _ _)
      (tuple_addW1 t b vs.toArray ws.toArray n n2 dd dd2 sl sl2 (by simpa using hv) (by simp [hw])) ⟨ho, ho2, h1 hw⟩
  · refine concat_meets ⟨_, ho, rfl⟩ ⟨_, ho2, rfl⟩ noFill_tuple_add seq_tuple_add PySem.F.slot_tuple_add PySem.F.entry_tuple_add (PySem.F.args_tuple_add_2 _ _)
      (tuple_addW2 t b vs.toArray ws.toArray n n2 dd dd2 sl sl2 (by simpa using hv) (by simpa using hw) (by rw [List.size_toArray, List.size_toArray]; exact hsz)) ⟨ho, ho2, ?_⟩
    rw [e]
    exact h2 hw

/-! ### t[a:b], not the whole -/
/-- a slice's bound as a place among n (d where it is left out) -/
def sIx (n d : Nat) : Option Int → Nat
  | none => d
  | some v => if v < 0 then (v + (n : Int)).toNat else min v.toNat n
theorem sIx_none (n d : Nat) : sIx n d none = d := rfl
theorem sIx_nat (n d k : Nat) : sIx n d (some (k : Int)) = min k n := by
  show (if (k : Int) < 0 then ((k : Int) + (n : Int)).toNat else min (k : Int).toNat n) = min k n
  rw [if_neg (by omega), Int.toNat_natCast]
theorem sIx_le (n d : Nat) (hd : d ≤ n) (o : Option Int) : sIx n d o ≤ n := by
  cases o with
  | none => exact hd
  | some v =>
    show (if v < 0 then (v + (n : Int)).toNat else min v.toNat n) ≤ n
    by_cases hv : v < 0
    · rw [if_pos hv]; omega
    · rw [if_neg hv]; exact Nat.min_le_right _ _
theorem clip_eq (v : Int) (n d : Nat) : (if v < 0 then max (v + (n : Int)) 0 else min v (n : Int)) = ((sIx n d (some v) : Nat) : Int) := by
  show (if v < 0 then max (v + (n : Int)) 0 else min v (n : Int)) = (((if v < 0 then (v + (n : Int)).toNat else min v.toNat n) : Nat) : Int)
  by_cases hv : v < 0
  · simp only [if_pos hv]; omega
  · simp only [if_neg hv]; omega
theorem adjust_gen (lo hi : Option Int) (n : Nat) : Builtin.Slice.sliceAdjust lo hi 1 (n : Int) = (((sIx n 0 lo : Nat) : Int), ((sIx n n hi : Nat) : Int)) := by
  have h1 : ¬ ((1 : Int) < 0) := by omega
  unfold Builtin.Slice.sliceAdjust
  simp only [h1, if_false]
  refine Prod.ext ?_ ?_
  · cases lo with
    | none => rfl
    | some v => exact clip_eq v n 0
  · cases hi with
    | none => rfl
    | some v => exact clip_eq v n n
theorem places_gen (i j : Nat) : Builtin.Slice.slicePlaces (i : Int) (j : Int) 1 = j - i := by
  unfold Builtin.Slice.slicePlaces
  have h1 : (1 : Int) > 0 := by omega
  simp only [h1, if_true, Int.ediv_one]
  split <;> omega
theorem slicePart_ {v : Value} {o : Option Int} {Q : Option Int → Shared → Prop} (p : IsPart v o) (h : Q o s) : wpAny (model prog w) A (Builtin.Slice.slicePartIndex v) Q E s := by
  cases p with
  | none => exact slicePart_none h
  | int i t => exact slicePart_int h
theorem sliceApplied_gen {sl : Addr} {vl vu : Value} {lo hi : Option Int} {n : Nat} {Q : Int × Int × Nat → Shared → Prop} (hs : s.heap.IsSliceOf sl vl vu .none) (pl : IsPart vl lo) (pu : IsPart vu hi)
    (h : Q (((sIx n 0 lo : Nat) : Int), 1, sIx n n hi - sIx n 0 lo) s) : wpAny (model prog w) A (Builtin.Slice.sliceApplied (.ref sl) (pure (n : Int))) Q E s := by
  obtain ⟨os, hos, hcs, hds⟩ := id hs
  unfold Builtin.Slice.sliceApplied Builtin.Slice.sliceFields
  refine wpAny_bind (wpAny_bind (wpAny_field hos hds (x := vl) rfl (wpAny_bind (wpAny_field hos hds (x := vu) rfl (wpAny_bind (wpAny_field hos hds (x := .none) rfl (wpAny_pure ?_)))))))
  refine wpAny_bind (slicePart_none ?_)
  show wpAny _ _ (if ((1 : Int) == 0) = true then _ else _) _ _ s
  rw [if_neg (by decide)]
  refine wpAny_bind (slicePart_ pl (wpAny_bind (slicePart_ pu (wpAny_bind (wpAny_pure ?_)))))
  show wpAny _ _ (match Builtin.Slice.sliceAdjust lo hi 1 (n : Int) with | (lo, hi) => pure (lo, (1 : Int), Builtin.Slice.slicePlaces lo hi 1)) _ _ s
  rw [adjust_gen lo hi n]
  show wpAny _ _ (pure (((sIx n 0 lo : Nat) : Int), (1 : Int), Builtin.Slice.slicePlaces ((sIx n 0 lo : Nat) : Int) ((sIx n n hi : Nat) : Int) 1)) _ _ s
  rw [places_gen]
  exact wpAny_pure h
theorem pick_gen (xs : Array Value) (i k : Nat) : ((List.range k).filterMap fun (m : Nat) => xs[((i : Int) + (m : Int) * 1).toNat]?).toArray = ((xs.toList.drop i).take k).toArray := by
  have e : (fun (m : Nat) => xs[((i : Int) + (m : Int) * 1).toNat]?) = fun m => xs[i + m]? := by
    funext m
    have : ((i : Int) + (m : Int) * 1).toNat = i + m := by omega
    rw [this]
  rw [e]
  have := pick_run xs i k
  rw [List.filterMap_map] at this
  have e2 : ((fun x => xs[x]?) ∘ fun x => i + x) = fun m => xs[i + m]? := rfl
  rw [e2] at this
  rw [this]

theorem getItem_tuple_cut {t sl : Addr} {items : Array Value} {vl vu : Value} {lo hi : Option Int} {Q : Value → Shared → Prop} (ht : IsTup s.heap t items) (hs : s.heap.IsSliceOf sl vl vu .none) (pl : IsPart vl lo) (pu : IsPart vu hi)
    (hw : ¬ (sIx items.size 0 lo = 0 ∧ sIx items.size items.size hi = items.size))
    (h : Q (.ref s.heap.objs.size) { s with heap := s.heap.push { cls := .type "tuple", data := .seq ((items.toList.drop (sIx items.size 0 lo)).take (sIx items.size items.size hi - sIx items.size 0 lo)).toArray } })
    (hsz : items.size ≤ sizeLine) : wpAny (model prog w) A (getItem (.ref t) (.ref sl)) Q E s := by
  have htake : sizeOk (.seq ((items.toList.drop (sIx items.size 0 lo)).take (sIx items.size items.size hi - sIx items.size 0 lo)).toArray) := by
    show ((items.toList.drop (sIx items.size 0 lo)).take (sIx items.size items.size hi - sIx items.size 0 lo)).toArray.size ≤ sizeLine
    rw [List.size_toArray, List.length_take, List.length_drop, Array.length_toList]
    omega
  have hj : sIx items.size items.size hi ≤ items.size := sIx_le _ _ (Nat.le_refl _) hi
  obtain ⟨os, hos, hcs, hds⟩ := id hs
  have hTs : s.TypeIs (.ref sl) "slice" := ⟨os, hos, hcs⟩
  unfold getItem
  try with_reducible refine wpAny_holding ?_
  first | refine wpAny_bind (wpAny_pure ?_) | skip
  refine wpAny_bind (wpAny_sequenceKey ht.typeIs (by decide) ?_)
  refine wpAny_bind (wpAny_callSpecial?_slot (name := Str.ofString "__getitem__") ht.typeIs PyProof.Rows.slot_tuple_getitem
    (wpAny_call_entry PyProof.Rows.slot_tuple_getitem ht.typeIs entry_tuple_getitem ?_ (args_tuple_getitem _ _)))
  show wpAny _ _ (Builtin.Tuple.tupleItemsOf (.ref t) >>= _) _ _ s
  refine wpAny_bind (tupleItemsOf_ ht ?_)
  refine wpAny_bind (wpAny_typeOf hTs ?_)
  rw [if_pos (by decide)]
  refine wpAny_bind (sliceApplied_gen hs pl pu ?_)
  have hno : ¬ ((((sIx items.size 0 lo : Nat) : Int) == 0 && (1 : Int) == 1 && (sIx items.size items.size hi - sIx items.size 0 lo) == items.size) = true) := by
    intro q
    rw [Bool.and_eq_true, Bool.and_eq_true] at q
    have q1 : ((sIx items.size 0 lo : Nat) : Int) = 0 := eq_of_beq q.1.1
    have q2 : sIx items.size items.size hi - sIx items.size 0 lo = items.size := eq_of_beq q.2
    exact hw ⟨by omega, by omega⟩
  show wpAny _ _ (if (((sIx items.size 0 lo : Nat) : Int) == 0 && (1 : Int) == 1 && (sIx items.size items.size hi - sIx items.size 0 lo) == items.size) = true then _ else _) _ _ s
  rw [if_neg hno, pick_gen]
  first
    | exact wpAny_bind (m := Builtin.Tuple.tupleExact _) (wpAny_newObj_type (wpAny_pure ⟨_, rfl, wpAny_pure h⟩) htake)
    | exact wpAny_bind (m := Builtin.Tuple.tupleExact _) (wpAny_newObj_type (wpAny_bind (wpAny_pure (wpAny_pure ⟨_, rfl, wpAny_pure h⟩))) htake)
    | exact wpAny_bind (wpAny_bind (m := Builtin.Tuple.tupleExact _) (wpAny_newObj_type (wpAny_pure (wpAny_pure ⟨_, rfl, wpAny_pure h⟩)) htake))
    | exact wpAny_bind (wpAny_bind (m := Builtin.Tuple.tupleExact _) (wpAny_newObj_type (wpAny_pure ⟨_, rfl, wpAny_pure h⟩) htake))
end
end HT

namespace L2
open PySem PySem.Spec PyProof.Rows

/-! ### the parts of a slice -/
abbrev TO := St → Hp → (Option Int → Hp → Prop) → Prop
/-- a slice's part (left out, or an int) -/
def PO (X : Cx) (e : Option Expr) (t : TO) : Prop :=
  ∀ (pins : List (Addr × Obj)) (s : Shared) (σ : St) (H : Hp) (Q : Option Int → Hp → Prop), Inv X pins σ H s → t σ H Q →
    wpAny (model X.prog X.w) X.A (evalPart e X.env) (fun u s' => ∃ o H', Inv X pins σ H' s' ∧ IsPart u o ∧ Q o H') X.xe s
def tNoPart : TO := fun _ H Q => Q none H
def tPart (t : TE) : TO := fun σ H Q => t σ H fun x H1 => ∃ i, x = .int i ∧ Q (some i) H1

theorem intsAre_of {ns : List Int} : ∀ {us : List Value}, Vals (ns.map V.int) us → IntsAre us ns := by
  induction ns with
  | nil => intro us r; rw [List.map_nil] at r; cases r; exact .nil
  | cons n ns ih =>
    intro us r
    rw [List.map_cons] at r
    cases r with
    | cons r1 r2 =>
      obtain ⟨t, e⟩ := r1
      subst e
      exact .cons n t (ih r2)

section
variable {X : Cx} {e : Expr} {te : TE} {lo hi : Option Expr} {tl th : TO} {pos p2 : Pos}

theorem po_none : PO X none tNoPart := by
  intro pins s σ H Q I h
  rw [evalPart_none]
  exact wpAny_pure ⟨none, H, I, .none, h⟩
theorem po_some (h : PE X e te) : PO X (some e) (tPart te) := by
  intro pins s σ H Q I hw
  rw [evalPart_some]
  refine thn (h pins s σ H _ I hw) fun u s1 ⟨x, H1, I1, r1, q1⟩ => ?_
  obtain ⟨i, rfl, q⟩ := q1
  obtain ⟨t, rfl⟩ := r1
  exact ⟨some i, H1, I1, .int i t, q⟩

/-- what a slice of a value is, by values: the slice object stands at sl -/
def SlR (X : Cx) (r : V → Option Int → Option Int → Hp → VK → Prop) : Prop :=
  ∀ (pins : List (Addr × Obj)) (s : Shared) (σ : St) (H : Hp) (x : V) (v vl vu : Value) (lo hi : Option Int) (sl : Addr) (Q : VK), Inv X pins σ H s → RelV x v → s.heap.IsSliceOf sl vl vu .none → IsPart vl lo → IsPart vu hi → r x lo hi H Q →
    ∃ T id, typeLookup (.type T) "__getitem__" = pure (some (.builtin id)) ∧ s.TypeIs v T ∧ wpAny (model X.prog X.w) X.A (getItem v (.ref sl)) (EP X pins σ Q) X.xe s
theorem SlR.or {r r' : V → Option Int → Option Int → Hp → VK → Prop} (h : SlR X r) (h' : SlR X r') : SlR X (fun x lo hi H Q => r x lo hi H Q ∨ r' x lo hi H Q) := by
  intro pins s σ H x v vl vu lo hi sl Q I rx hs pl pu q
  rcases q with q | q
  · exact h pins s σ H x v vl vu lo hi sl Q I rx hs pl pu q
  · exact h' pins s σ H x v vl vu lo hi sl Q I rx hs pl pu q
def tSl (r : V → Option Int → Option Int → Hp → VK → Prop) (te : TE) (tl th : TO) : TE := fun σ H Q => te σ H fun x H1 => tl σ H1 fun l H2 => th σ H2 fun u H3 => r x l u H3 Q
/-- a[lo:hi], any a -/
theorem pe_slice {r : V → Option Int → Option Int → Hp → VK → Prop} (hr : SlR X r) (he : PE X e te) (hl : PO X lo tl) (hu : PO X hi th) : PE X (.Subscript e (.Slice lo hi none p2) pos) (tSl r te tl th) := by
  intro pins s σ H Q I h
  refine Subscript_ (thn (he pins s σ H _ I h) fun v s1 ⟨x, H1, I1, r1, q1⟩ => ?_)
  refine wpAny_Slice (thn (hl pins s1 σ H1 _ I1 q1) fun vl s2 ⟨l, H2, I2, pl, q2⟩ => thn (hu pins s2 σ H2 _ I2 q2) fun vu s3 ⟨u, H3, I3, pu, q3⟩ => ?_)
  rw [evalPart_none]
  refine wpAny_pure ?_
  have I4 : Inv X pins σ H3 { s3 with heap := s3.heap.push { cls := .type "slice", data := .fields #[vl, vu, .none] } } := I3.kept (t' := s3.toks) fun b ob q => Heap.get?_push_of_some _ q
  obtain ⟨T, id, hT, ht, hg⟩ := hr pins { s3 with heap := s3.heap.push { cls := .type "slice", data := .fields #[vl, vu, .none] } } σ H3 x v vl vu l u s3.heap.objs.size Q I4 r1 (Heap.IsSliceOf.new ..) pl pu q3
  show wpAny (model X.prog X.w) X.A (subscriptTail e (.Slice lo hi none p2) v (.ref s3.heap.objs.size)) (EP X pins σ Q) X.xe { s3 with heap := s3.heap.push { cls := .type "slice", data := .fields #[vl, vu, .none] } }
  exact tail_any (ops := [.ref s3.heap.objs.size, v]) ht hT hg (by with_unfolding_all rfl)

/-- the items of xs[lo:hi] -/
def cutV (xs : List V) (lo hi : Option Int) : List V := (xs.drop (HT.sIx xs.length 0 lo)).take (HT.sIx xs.length xs.length hi - HT.sIx xs.length 0 lo)
theorem cutV_length (xs : List V) (lo hi : Option Int) : (cutV xs lo hi).length ≤ xs.length := by
  unfold cutV
  rw [List.length_take, List.length_drop]
  omega
/-- t[lo:hi], not the whole of it (the whole would be t itself) -/
def rSlT (K : PySem.W.Frag) : V → Option Int → Option Int → Hp → VK → Prop := fun x lo hi H Q => ∃ a xs, x = .ref a ∧ SqT K H a xs ∧
  ¬ (HT.sIx xs.length 0 lo = 0 ∧ HT.sIx xs.length xs.length hi = xs.length) ∧ ∀ p, H p = none → Q (.ref p) (upd H p (.tup (cutV xs lo hi)))
theorem sl_tup : SlR X (rSlT X.K) := by
  intro pins s σ H x v vl vu lo hi sl Q I rx hs pl pu h
  obtain ⟨a, xs, rfl, hx, hw, q⟩ := h
  cases rx
  obtain ⟨its, r, ht, hz⟩ := I.tuple hx
  have hlen : its.toArray.size = xs.length := by rw [List.size_toArray]; exact r.length.symm
  refine ⟨"tuple", _, PyProof.Rows.slot_tuple_getitem.lookup, ht.typeIs, ?_⟩
  refine HT.getItem_tuple_cut ht hs pl pu (by rw [hlen]; exact hw) ?_ (by rw [hlen]; exact hz)
  rw [hlen]
  refine ⟨.ref s.heap.objs.size, _, I.laid (t' := s.toks) (o := .tup (cutV xs lo hi)) (fun b ob q => Heap.get?_push_of_some _ q) (Nat.le_refl _) ?_, rfl, q _ (I.hok.fresh (Nat.le_refl _))⟩
  exact ⟨Nat.le_trans (cutV_length xs lo hi) hz, _, (r.drop (HT.sIx xs.length 0 lo)).take (HT.sIx xs.length xs.length hi - HT.sIx xs.length 0 lo), IsTup.new _ _, tup_nodict⟩

/-! ### t < u, t + u -/
/-- t + u, t not empty: u empty gives t itself -/
def rCatT (K : PySem.W.Frag) : R2 := fun x y H Q => ∃ a b xs ys, x = .ref a ∧ y = .ref b ∧ SqT K H a xs ∧ SqT K H b ys ∧ xs ≠ [] ∧ xs.length + ys.length ≤ sizeLine ∧
  (ys = [] → Q (.ref a) H) ∧ (ys ≠ [] → ∀ p, H p = none → Q (.ref p) (upd H p (.tup (xs ++ ys))))
theorem Vals.nil_iff {xs : List V} {us : List Value} (r : Vals xs us) : us = [] ↔ xs = [] := by
  cases r with
  | nil => simp
  | cons _ _ => simp
theorem op_catT : OpR X (binaryOp .Add) (rCatT X.K) := by
  intro pins s σ H x y v u Q I rx ry h
  obtain ⟨a, b, xs, ys, rfl, rfl, ha, hb, hx, hz, q1, q2⟩ := h
  cases rx
  cases ry
  obtain ⟨its, r1, p1, _⟩ := I.tuple ha
  obtain ⟨its2, r2, p2, _⟩ := I.tuple hb
  refine HT.cat_tup p1 p2 (fun z => hx (r1.nil_iff.mp z)) (fun z => ⟨.ref a, H, I, rfl, q1 (r2.nil_iff.mp z)⟩) (fun z => ?_) (by rw [← r1.length, ← r2.length]; exact hz)
  refine ⟨.ref s.heap.objs.size, _, I.laid (t' := s.toks) (o := .tup (xs ++ ys)) (fun b ob q => Heap.get?_push_of_some _ q) (Nat.le_refl _) ?_, rfl, q2 (fun w => z (r2.nil_iff.mpr w)) _ (I.hok.fresh (Nat.le_refl _))⟩
  exact ⟨by rw [List.length_append]; exact hz, _, r1.append r2, IsTup.new _ _, tup_nodict⟩
end
end L2

namespace L2
open PySem PySem.Spec PyProof.Rows

/-! ### places -/
/-- the place that an index of any sign means -/
def ixN (n : Nat) (i : Int) : Option Nat := if 0 ≤ i then (if i < n then some i.toNat else none) else if -(n : Int) ≤ i then some (i + n).toNat else none
def atI {α : Type} (xs : List α) (i : Int) : Option α := (ixN xs.length i).bind fun j => xs[j]?
theorem ixN_seq {n : Nat} {i : Int} {j : Nat} (h : ixN n i = some j) : seqIndex? i n = some j ∧ j < n ∧ -(n : Int) ≤ i ∧ i < n := by
  unfold ixN at h
  by_cases h0 : 0 ≤ i
  · rw [if_pos h0] at h
    by_cases h1 : i < n
    · rw [if_pos h1] at h
      have e : i.toNat = j := Option.some.inj h
      exact ⟨by rw [seqIndex_of h0 h1, e], by omega, by omega, h1⟩
    · rw [if_neg h1] at h; cases h
  · rw [if_neg h0] at h
    by_cases h1 : -(n : Int) ≤ i
    · rw [if_pos h1] at h
      have e : (i + n).toNat = j := Option.some.inj h
      exact ⟨by rw [seqIndex_neg (by omega) h1, e], by omega, h1, by omega⟩
    · rw [if_neg h1] at h; cases h
theorem atI_get {α : Type} {xs : List α} {i : Int} {v : α} (h : atI xs i = some v) : ∃ j, seqIndex? i xs.length = some j ∧ xs[j]? = some v ∧ j < xs.length ∧ -(xs.length : Int) ≤ i ∧ i < xs.length := by
  unfold atI at h
  cases e : ixN xs.length i with
  | none => rw [e] at h; cases h
  | some j =>
    rw [e] at h
    obtain ⟨h1, h2, h3, h4⟩ := ixN_seq e
    exact ⟨j, h1, h, h2, h3, h4⟩
theorem atI_nat {α : Type} {xs : List α} {j : Nat} {v : α} (h : xs[j]? = some v) : atI xs (j : Int) = some v := by
  have hj : j < xs.length := (List.getElem?_eq_some_iff.mp h).1
  have e : ixN xs.length (j : Int) = some j := by
    unfold ixN
    rw [if_pos (by omega), if_pos (by omega)]; simp
  unfold atI; rw [e]; exact h
/-! ### what may be subscripted -/
/-- what stands as an index of a plain subscript -/
def PlainIx (b : Expr) : Prop := ∀ o i, subscripted b false o i = operate [o, i] (getItem o i)
/-- a subscript by values -/
def IxR (X : Cx) (r : R2) : Prop :=
  ∀ (value slice : Expr) (pins : List (Addr × Obj)) (s : Shared) (σ : St) (H : Hp) (x y : V) (v u : Value) (Q : VK), Inv X pins σ H s → RelV x v → RelV y u → r x y H Q →
    subscripted slice false v u = operate [v, u] (getItem v u) → wpAny (model X.prog X.w) X.A (subscriptTail value slice v u) (EP X pins σ Q) X.xe s
/-- a call of a builtin's method by values: the receiver, the arguments -/
def MtR (X : Cx) (id : String) (r : V → List V → Hp → VK → Prop) : Prop :=
  ∀ (pins : List (Addr × Obj)) (s : Shared) (σ : St) (H : Hp) (x : V) (xs : List V) (v : Value) (us : List Value) (Q : VK), Inv X pins σ H s → RelV x v → Vals xs us → r x xs H Q →
    wpAny (model X.prog X.w) X.A (call (.builtin id) (v :: us)) (EP X pins σ Q) X.xe s
section
variable {X : Cx} {a b : Expr} {ta tb : TE} {pos : Pos}
/-- a[b] -/
theorem pe_ix {r : R2} (hr : IxR X r) (ha : PE X a ta) (hb : PE X b tb) (hs : PlainIx b) : PE X (.Subscript a b pos) (tOp r ta tb) := by
  intro pins s σ H Q I h
  exact Subscript_ (binT ha hb I h fun v u s2 x y H2 I2 rx ry q => hr a b pins s2 σ H2 x y v u Q I2 rx ry q (hs _ _))

def rIxL (K : PySem.W.Frag) : R2 := fun x y H Q => ∃ p xs i v, x = .ref p ∧ y = .int i ∧ SqL K H p xs ∧ atI xs i = some v ∧ Q v H
def rIxT (K : PySem.W.Frag) : R2 := fun x y H Q => ∃ p xs i v, x = .ref p ∧ y = .int i ∧ SqT K H p xs ∧ atI xs i = some v ∧ Q v H
theorem ix_list : IxR X (rIxL X.K) := by
  intro value slice pins s σ H x y v u Q I rx ry h hs
  obtain ⟨p, xs, i, z, rfl, rfl, hq, he, q⟩ := h
  cases rx
  obtain ⟨t, rfl⟩ := ry
  obtain ⟨its, r, pl, hz⟩ := I.list hq
  obtain ⟨j, h1, h2, h3, h4, h5⟩ := atI_get he
  obtain ⟨w, ew, rw'⟩ := r.get h2
  have hl := r.length
  have hn := line63
  have fin : EP X pins σ Q w s := ⟨z, H, I, rw', q⟩
  by_cases h0 : 0 ≤ i
  · have hj : i.toNat = j := by
      rw [seqIndex_of h0 h5] at h1
      exact Option.some.inj h1
    exact item_listR pl.isList h0 (by omega) (by rw [hj]; simpa using ew) fin hs
  · have hj : (i + (its.toArray.size : Int)).toNat = j := by
      rw [seqIndex_neg (by omega) h4] at h1
      rw [List.size_toArray, ← hl]
      exact Option.some.inj h1
    exact subscriptTail_builtinR (x := w) pl.isList.typeIs slot_list_getitem.lookup
      (wpAny_getItem_list_neg (Q := fun r s' => r = w ∧ EP X pins σ Q r s') pl.isList (by omega) (by rw [List.size_toArray] <;> omega) (by omega) (by rw [hj]; simpa using ew) ⟨rfl, fin⟩) hs
theorem ix_tup : IxR X (rIxT X.K) := by
  intro value slice pins s σ H x y v u Q I rx ry h hs
  obtain ⟨p, xs, i, z, rfl, rfl, hq, he, q⟩ := h
  cases rx
  obtain ⟨t, rfl⟩ := ry
  obtain ⟨its, r, pl, hz⟩ := I.tuple hq
  obtain ⟨j, h1, h2, h3, h4, h5⟩ := atI_get he
  obtain ⟨w, ew, rw'⟩ := r.get h2
  have hl := r.length
  have hn := line63
  have fin : EP X pins σ Q w s := ⟨z, H, I, rw', q⟩
  exact subscriptTail_builtinR (x := w) pl.typeIs slot_tuple_getitem.lookup
    (getItem_tuple (j := j) (Q := fun r s' => r = w ∧ EP X pins σ Q r s') pl (by omega) (by omega) (by rw [List.size_toArray, ← hl]; exact h1) (by simpa using ew) ⟨rfl, fin⟩) hs
/-! ### xs[i] = v, any sign -/
/-- the list's object behind a store -/
theorem mapSeq_set (its : List Value) (n j : Nat) (u : Value) : Obj.mapSeq (·.setIfInBounds j u) { cls := .type "list", data := .seq its.toArray n } = { cls := .type "list", data := .seq (its.set j u).toArray n } := by
  simp [Obj.mapSeq]
theorem Inv.lst {pins : List (Addr × Obj)} {σ : St} {H : Hp} {s : Shared} {p : Addr} {xs : List V} (I : Inv X pins σ H s) (h : H p = some (.lst xs)) :
    ∃ (its : List Value) (n : Nat), Vals xs its ∧ s.heap.get? p = some { cls := .type "list", data := .seq its.toArray n } ∧ xs.length ≤ sizeLine := by
  obtain ⟨z, its, n, r, e⟩ := I.hok p _ h
  exact ⟨its, n, r, e, z⟩
/-- the list at p is written by an update of its object -/
theorem Inv.lstUpd {pins : List (Addr × Obj)} {σ : St} {H : Hp} {s : Shared} {p : Addr} {xs ys : List V} {its its' : List Value} {n n' : Nat} {f : Obj → Obj} (I : Inv X pins σ H s) (h : H p = some (.lst xs))
    (ho : s.heap.get? p = some { cls := .type "list", data := .seq its.toArray n }) (hf : f { cls := .type "list", data := .seq its.toArray n } = { cls := .type "list", data := .seq its'.toArray n' }) (r : Vals ys its') (hz : ys.length ≤ sizeLine) (t : Nat) :
    Inv X pins σ (upd H p (.lst ys)) { s with heap := s.heap.update p f, toks := t } := by
  have e : (s.heap.update p f).get? p = some { cls := .type "list", data := .seq its'.toArray n' } := by
    rw [Heap.get?_update_self f ho (by rw [hf] <;> rfl), hf]
  refine I.write (x := p) (e := p) (by rw [h]; trivial) (.inl rfl) (fun b u hb q => (Heap.get?_update_other _ _ (Ne.symm hb)).trans q) ⟨_, e⟩ ?_
  exact ⟨hz, its', n', r, e⟩
def rSetL : V → V → V → Hp → (Hp → Prop) → Prop := fun o i v H Q => ∃ p xs k j, o = .ref p ∧ i = .int k ∧ H p = some (.lst xs) ∧ ixN xs.length k = some j ∧ Q (upd H p (.lst (xs.set j v)))
theorem set_list : PSet X rSetL := by
  intro pins s σ H o i v ov iv u Q I ro ri rv h
  obtain ⟨p, xs, k, j, rfl, rfl, hp, hj, q⟩ := h
  cases ro
  obtain ⟨t, rfl⟩ := ri
  obtain ⟨its, n, r, ho, hz⟩ := I.lst hp
  obtain ⟨h1, h2, h3, h4⟩ := ixN_seq hj
  have hl := r.length
  have hn := line63
  have I' : Inv X pins σ (upd H p (.lst (xs.set j v))) { s with heap := s.heap.update p (Obj.mapSeq (·.setIfInBounds j u)) } :=
    I.lstUpd hp ho (mapSeq_set its n j u) (r.set rv j) (by rw [List.length_set]; exact hz) s.toks
  by_cases h0 : 0 ≤ k
  · have hk : k.toNat = j := by
      rw [seqIndex_of h0 h4] at h1
      exact Option.some.inj h1
    exact PySem.W.ki_setAt ho h0 (by omega) (by rw [List.size_toArray, ← hl]; exact h4) (by rw [hk]; exact ⟨_, I', q⟩)
  · have hk : (k + (its.toArray.size : Int)).toNat = j := by
      rw [seqIndex_neg (by omega) h3] at h1
      rw [List.size_toArray, ← hl]
      exact Option.some.inj h1
    exact PySem.W.ki_setBack ho (by omega) (by rw [List.size_toArray, ← hl]; exact h3) (by omega) (by rw [hk]; exact ⟨_, I', q⟩)

/-! ### slices -/
/-! ### in, not in: flat items -/
def flatV : V → Bool
  | .non => true
  | .bl _ => true
  | .int _ => true
  | .str _ => true
  | _ => false
/-- == of flat values -/
def eqV : V → V → Bool
  | .non, .non => true
  | .bl a, .bl b => a == b
  | .bl a, .int b => (if a then 1 else 0) == b
  | .int a, .bl b => a == (if b then 1 else 0)
  | .int a, .int b => a == b
  | .str a, .str b => a == b
  | _, _ => false
theorem eqAt_V {A : Around} {s : Shared} {y x : V} {u v : Value} (ry : RelV y u) (rx : RelV x v) (fy : flatV y = true) (fx : flatV x = true) : SeqAt.EqAt A s u v (eqV y x) := by
  cases y with
  | non =>
    cases ry
    cases x with
    | non => cases rx; exact SeqAt.EqAt.same _
    | bl b => cases rx; exact SeqAt.EqAt.none_bool b
    | int b => obtain ⟨t, rfl⟩ := rx; exact SeqAt.EqAt.none_int b t
    | str b => obtain ⟨t, rfl⟩ := rx; exact SeqAt.EqAt.none_str b t
    | _ => exact absurd (show false = true from fx) Bool.false_ne_true
  | bl a =>
    cases ry
    cases x with
    | non => cases rx; exact SeqAt.EqAt.bool_none a
    | bl b => cases rx; exact SeqAt.EqAt.bool_bool a b
    | int b => obtain ⟨t, rfl⟩ := rx; exact SeqAt.EqAt.bool_int a b t
    | str b => obtain ⟨t, rfl⟩ := rx; exact SeqAt.EqAt.bool_str a b t
    | _ => exact absurd (show false = true from fx) Bool.false_ne_true
  | int a =>
    obtain ⟨t', rfl⟩ := ry
    cases x with
    | non => cases rx; exact SeqAt.EqAt.int_none a t'
    | bl b => cases rx; exact SeqAt.EqAt.int_bool a t' b
    | int b => obtain ⟨t, rfl⟩ := rx; exact SeqAt.EqAt.int_int a t' b t
    | str b => obtain ⟨t, rfl⟩ := rx; exact SeqAt.EqAt.int_str a t' b t
    | _ => exact absurd (show false = true from fx) Bool.false_ne_true
  | str a =>
    obtain ⟨t', rfl⟩ := ry
    cases x with
    | non => cases rx; exact SeqAt.EqAt.str_none a t'
    | bl b => cases rx; exact SeqAt.EqAt.str_bool a t' b
    | int b => obtain ⟨t, rfl⟩ := rx; exact SeqAt.EqAt.str_int a t' b t
    | str b => obtain ⟨t, rfl⟩ := rx; exact SeqAt.EqAt.str_str a t' b t
    | _ => exact absurd (show false = true from fx) Bool.false_ne_true
  | _ => exact absurd (show false = true from fy) Bool.false_ne_true
/-- the items' answers, read off the values (a value's own answer does not lean on its token) -/
def eqU (x : V) (u : Value) : Bool := match u with
  | .none => eqV .non x
  | .bool b => eqV (.bl b) x
  | .int i _ => eqV (.int i) x
  | .str z _ => eqV (.str z) x
  | _ => false
theorem eqU_of {x y : V} {u : Value} (r : RelV y u) (f : flatV y = true) : eqU x u = eqV y x := by
  cases y with
  | non => cases r; rfl
  | bl b => cases r; rfl
  | int i => obtain ⟨t, rfl⟩ := r; rfl
  | str z => obtain ⟨t, rfl⟩ := r; rfl
  | _ => exact absurd (show false = true from f) Bool.false_ne_true
theorem any_eqU {x : V} : ∀ {xs : List V} {us : List Value}, Vals xs us → xs.all flatV = true → us.any (eqU x) = xs.any fun y => eqV y x
  | _, _, .nil, _ => rfl
  | y :: xs, u :: us, .cons r t, f => by
    rw [List.all_cons, Bool.and_eq_true] at f
    rw [List.any_cons, List.any_cons, eqU_of r f.1, any_eqU t f.2]
theorem mem_eqAt {A : Around} {s : Shared} {x : V} {v : Value} (rx : RelV x v) (fx : flatV x = true) : ∀ {xs : List V} {us : List Value}, Vals xs us → xs.all flatV = true → ∀ u ∈ us, SeqAt.EqAt A s u v (eqU x u)
  | _, _, .nil, _ => fun u hu => by cases hu
  | y :: xs, u :: us, .cons r t, f => fun u' hu => by
    rw [List.all_cons, Bool.and_eq_true] at f
    rcases List.mem_cons.mp hu with rfl | hu
    · rw [eqU_of r f.1]; exact eqAt_V r rx f.1 fx
    · exact mem_eqAt rx fx t f.2 u' hu
def inV (x : V) (xs : List V) : Bool := xs.any fun y => eqV y x
/-- x in a list or tuple of flat items -/
def rIn (K : PySem.W.Frag) (neg : Bool) : R2 := fun x y H Q => ∃ p xs, y = .ref p ∧ (SqL K H p xs ∨ SqT K H p xs) ∧ flatV x = true ∧ xs.all flatV = true ∧ Q (.bl (if neg then !inV x xs else inV x xs)) H
theorem op_in_seq : OpR X (compareOp .In) (rIn X.K false) := by
  intro pins s σ H x y v u Q I rx ry h
  obtain ⟨p, xs, rfl, hq, fx, fs, q⟩ := h
  cases ry
  rcases hq with hq | hq
  · obtain ⟨its, r, pl, hz⟩ := I.list hq
    refine SeqAt.in_listAt (eqU x) pl.isList (fun w hw => mem_eqAt rx fx r fs w (by simpa using hw)) ⟨.bl _, H, I, rfl, ?_⟩
    rw [show its.toArray.any (eqU x) = its.any (eqU x) by simp, any_eqU r fs]
    exact q
  · obtain ⟨its, r, pl, hz⟩ := I.tuple hq
    refine SeqAt.in_tupleAt (eqU x) pl (fun w hw => mem_eqAt rx fx r fs w (by simpa using hw)) ⟨.bl _, H, I, rfl, ?_⟩
    rw [show its.toArray.any (eqU x) = its.any (eqU x) by simp, any_eqU r fs]
    exact q
/-! ### len, list(x), tuple(x) of any list or tuple that is read -/
theorem call_len_seq : CallR X (.builtin "len") (fun xs H Q => ∃ p ys, xs = [.ref p] ∧ (SqL X.K H p ys ∨ SqT X.K H p ys) ∧ Q (.int ys.length) H) := by
  intro pins s σ H xs us Q I r h
  obtain ⟨p, ys, rfl, hq, q⟩ := h
  obtain ⟨u, rfl, rx⟩ := vals1 r
  cases rx
  have hn := line63
  rcases hq with hq | hq
  · obtain ⟨its, r', pl, hz⟩ := I.list hq
    have hlen := r'.length
    exact Calls.call_len_list pl.isList (by simp only [List.size_toArray] <;> omega) ⟨.int ys.length, H, I.tok _, ⟨s.toks + 1, by rw [List.size_toArray, hlen]⟩, q⟩
  · obtain ⟨its, r', pl, hz⟩ := I.tuple hq
    have hlen := r'.length
    exact len_tuple pl (by simp only [List.size_toArray] <;> omega) ⟨.int ys.length, H, I.tok _, ⟨s.toks + 1, by rw [List.size_toArray, hlen]⟩, q⟩
theorem call_list_of : CallR X (.type "list") (fun xs H Q => ∃ p ys, xs = [.ref p] ∧ (SqL X.K H p ys ∨ SqT X.K H p ys) ∧ ∀ l, H l = none → Q (.ref l) (upd H l (.lst ys))) := by
  intro pins s σ H xs us Q I r h
  obtain ⟨p, ys, rfl, hq, q⟩ := h
  obtain ⟨u, rfl, rx⟩ := vals1 r
  cases rx
  have fin : ∀ (its : List Value), Vals ys its → ys.length ≤ sizeLine → ∀ (h' : Heap) (c' : Nat), (∀ b o', s.heap.get? b = some o' → h'.get? b = some o') →
      h'.get? s.heap.objs.size = some { cls := .type "list", dict := none, data := .seq its.toArray c', slots := #[] } → EP X pins σ Q (.ref s.heap.objs.size) { s with heap := h' } := fun its r' hz h' c' kp e =>
    ⟨.ref s.heap.objs.size, _, I.laid (t' := s.toks) kp (Nat.le_refl _) (show ObjOk X.prog X.w _ h' _ (.lst ys) from ⟨hz, its, c', r', e⟩), rfl, q _ (I.hok.fresh (Nat.le_refl _))⟩
  rcases hq with hq | hq
  · obtain ⟨its, r', pl, hz⟩ := I.list hq
    have hlen := r'.length
    obtain ⟨o, ho, hc, n, hd⟩ := pl.isList
    exact call_list_seq p (.inl rfl) ho hc hd (fun h' c' kp e => fin its r' hz h' c' kp e) (by simp only [List.size_toArray] <;> omega)
  · obtain ⟨its, r', pl, hz⟩ := I.tuple hq
    have hlen := r'.length
    obtain ⟨o, ho, hc, n, hd⟩ := pl
    exact call_list_seq p (.inr rfl) ho hc hd (fun h' c' kp e => fin its r' hz h' c' kp e) (by simp only [List.size_toArray] <;> omega)
theorem call_tuple_of : CallR X (.type "tuple") (fun xs H Q => ∃ p ys, xs = [.ref p] ∧ ((SqL X.K H p ys ∧ ∀ l, H l = none → Q (.ref l) (upd H l (.tup ys))) ∨ (SqT X.K H p ys ∧ Q (.ref p) H))) := by
  intro pins s σ H xs us Q I r h
  obtain ⟨p, ys, rfl, h⟩ := h
  obtain ⟨u, rfl, rx⟩ := vals1 r
  cases rx
  rcases h with ⟨hq, q⟩ | ⟨hq, q⟩
  · obtain ⟨its, r', pl, hz⟩ := I.list hq
    have hlen := r'.length
    refine call_tuple_list pl.isList (fun h' kp => ?_) (by simp only [List.size_toArray] <;> omega)
    have I1 : Inv X pins σ H { s with heap := h' } := I.kept (t' := s.toks) kp
    have I2 : Inv X pins σ (upd H h'.objs.size (.tup ys)) { s with heap := h'.push { cls := .type "tuple", data := .seq its.toArray } } :=
      I1.laid (t' := s.toks) (fun b o e => Heap.get?_push_of_some _ e) (Nat.le_refl _) (show ObjOk X.prog X.w _ _ _ (.tup ys) from ⟨hz, its, r', IsTup.new _ _, tup_nodict⟩)
    exact ⟨.ref h'.objs.size, _, I2, rfl, q _ (I1.hok.fresh (Nat.le_refl _))⟩
  · obtain ⟨its, r', pl, hz⟩ := I.tuple hq
    exact call_tuple_same pl ⟨.ref p, H, I, rfl, q⟩

/-! ### the call of a builtin's method: o.m(..) -/
/-- the value is of that builtin type -/
def tyV (K : PySem.W.Frag) (T : String) (x : V) (H : Hp) : Prop := match x with
  | .str _ => T = "str"
  | .int _ => T = "int"
  | .ref p => (T = "list" ∧ ∃ xs, SqL K H p xs) ∨ (T = "tuple" ∧ ((∃ o, K.lookup p = some o ∧ o.cls = .type "tuple" ∧ o.dict = none) ∨ ∃ xs, H p = some (.tup xs))) ∨
      (T = "dict" ∧ ((∃ kvs, H p = some (.dK kvs)) ∨ ∃ kvs, H p = some (.dT kvs))) ∨ (T = "set" ∧ ∃ S n, H p = some (.set S n))
  | _ => False
theorem tyV_is {pins : List (Addr × Obj)} {σ : St} {H : Hp} {s : Shared} {T : String} {x : V} {v : Value} (I : Inv X pins σ H s) (r : RelV x v) (ty : tyV X.K T x H) :
    s.TypeIs v T ∧ ∀ a, v = .ref a → ∃ ob, s.heap.get? a = some ob ∧ ob.dict = none := by
  cases x with
  | str z =>
    obtain ⟨t, rfl⟩ := r
    cases (show T = "str" from ty)
    exact ⟨typeIs_str s z t, fun _ e => nomatch e⟩
  | int i =>
    obtain ⟨t, rfl⟩ := r
    cases (show T = "int" from ty)
    exact ⟨typeIs_int s i t, fun _ e => nomatch e⟩
  | ref p =>
    cases r
    rcases ty with ⟨rfl, xs, hq⟩ | ⟨rfl, ⟨o, hk, hc, hd⟩ | ⟨xs, hk⟩⟩ | ⟨rfl, hk⟩ | ⟨rfl, S, n, hk⟩
    · obtain ⟨its, _, pl, _⟩ := I.list hq
      refine ⟨pl.isList.typeIs, fun a e => ?_⟩
      cases e
      obtain ⟨o, n, e, c, hd, _⟩ := pl
      exact ⟨o, e, hd⟩
    · refine ⟨⟨o, I.kIn p o hk, hc⟩, fun a e => ?_⟩
      cases e
      exact ⟨o, I.kIn _ o hk, hd⟩
    · obtain ⟨_, _, _, ⟨o, e, hc, _⟩, nd⟩ := (show ObjOk X.prog X.w H s.heap p (.tup xs) from I.hok p _ hk)
      refine ⟨⟨o, e, hc⟩, fun a e2 => ?_⟩
      cases e2
      exact ⟨o, e, nd o e⟩
    · have z : ∃ o, s.heap.get? p = some o ∧ o.ExactDict := by
        rcases hk with ⟨kvs, hk⟩ | ⟨kvs, hk⟩
        · obtain ⟨_, _, _, _, o, _, _, e, ex, _⟩ := I.hok p _ hk
          exact ⟨o, e, ex⟩
        · obtain ⟨_, _, _, _, o, _, _, e, ex, _⟩ := I.hok p _ hk
          exact ⟨o, e, ex⟩
      obtain ⟨o, e, ex⟩ := z
      refine ⟨⟨o, e, ex.1⟩, fun a e2 => ?_⟩
      cases e2
      exact ⟨o, e, ex.2.1⟩
    · obtain ⟨o, _, _, _, e, ex, _⟩ := I.hok p _ hk
      refine ⟨⟨o, e, ex.1⟩, fun a e2 => ?_⟩
      cases e2
      exact ⟨o, e, ex.2.1⟩
  | _ => exact False.elim ty
def tBM (K : PySem.W.Frag) (T : String) (r : V → List V → Hp → VK → Prop) (to : TE) (t : TA) : TE := fun σ H Q => to σ H fun x H1 => tyV K T x H1 ∧ t σ H1 fun xs H2 => r x xs H2 Q
variable {o e : Expr} {es : List Expr} {to : TE} {t : TA} {name : Str} {apos cpos : Pos} {T id : String} {r : V → List V → Hp → VK → Prop}
theorem pe_bm (pa : PlainAttrs T) (slot : Slot T name id) (hty : typeOf (.builtin id) = pure (.type "method_descriptor")) (hm : MtR X id r) (ho : PE X o to) (ha : PA X (e :: es) t)
    (hbase : attributeBase o name X.env (eval o X.env) = eval o X.env := by rfl)
    (hfew : ((backTo cpos (starEach (e :: es) X.env)).all (fun x => !x.1) && (backToKw cpos (keywordEach [] X.env)).all (fun x => x.1.isSome)
      && decide ((e :: es).length + ([] : List Keyword).length + (if ([] : List Keyword).isEmpty then 0 else 1) < 30)) = true := by rfl)
    (hline : (apos.endLine == cpos.line) = true := by rfl) (hs : starEach (e :: es) X.env = (false, eval e X.env) :: starEach es X.env := by rfl) (hplain : (backTo cpos (starEach es X.env)).any (·.1) = false := by rfl) :
    PE X (.Call (.Attribute o name apos) (e :: es) [] cpos) (tBM X.K T r to t) := by
  intro pins s σ H Q I h
  refine wpAny_Call_method_late hbase hfew hline rfl (thn (ho pins s σ H _ I h) fun v s1 ⟨x, H1, I1, r1, ty, q1⟩ => ?_)
  obtain ⟨h1, h2⟩ := tyV_is I1 r1 ty
  refine ⟨T, id, pa, slot, hty, h1, h2, ?_⟩
  have hA := ha cpos pins s1 σ H1 _ I1 q1
  rw [hs] at hA ⊢
  refine Calls.callWith_builtin (by show (false || (backTo cpos (starEach es X.env)).any (·.1)) = false; rw [hplain] <;> rfl) (Calls.evalArgs_plain ?_)
  exact thn hA fun us s2 ⟨vs, H2, I2, r2, q2⟩ => hm pins s2 σ H2 x vs v us Q I2 r1 r2 q2
/- xs.append(e), list.index on a module's tuple .. are MtR facts of 06m -/
end
end L2

namespace L2
open PySem PySem.Spec PyProof.Rows

def MtM (X : Cx) (id : String) (r : V → List V → Hp → VK → Prop) : Prop :=
  ∀ (pins : List (Addr × Obj)) (s : Shared) (σ : St) (H : Hp) (x : V) (xs : List V) (v : Value) (us : List Value) (Q : VK), Inv X pins σ H s → RelV x v → Vals xs us → r x xs H Q →
    wpAny (model X.prog X.w) X.A (call (.builtin id) (v :: us)) (EP X pins σ Q) X.xe s

/-! ### lists of values -/
theorem Vals.one : ∀ {x : V} {us : List Value}, Vals [x] us → ∃ u, us = [u] ∧ RelV x u
  | _, _, .cons r .nil => ⟨_, rfl, r⟩
theorem Vals.eraseIdx : ∀ {xs : List V} {us : List Value} (i : Nat), Vals xs us → Vals (xs.eraseIdx i) (us.eraseIdx i)
  | _, _, _, .nil => .nil
  | _, _, 0, .cons _ t => t
  | _, _, i + 1, .cons r t => .cons r (Vals.eraseIdx i t)
theorem Vals.rep {xs : List V} {us : List Value} (h : Vals xs us) : ∀ k : Nat, Vals (List.replicate k xs).flatten (List.replicate k us).flatten
  | 0 => .nil
  | k + 1 => by
    rw [List.replicate_succ, List.replicate_succ, List.flatten_cons, List.flatten_cons]
    exact Vals.append h (Vals.rep h k)
theorem len_erase {α : Type} : ∀ (l : List α) (i : Nat), (l.eraseIdx i).length ≤ l.length
  | [], _ => Nat.le_refl _
  | _ :: _, 0 => Nat.le_succ _
  | _ :: r, i + 1 => Nat.succ_le_succ (len_erase r i)
theorem foldl_rep (its : List Value) : ∀ (k : Nat) (acc : List Value),
    List.foldl (fun x1 x2 => x1 ++ x2) acc.toArray (List.replicate k its.toArray) = (acc ++ (List.replicate k its).flatten).toArray
  | 0, acc => by simp
  | k + 1, acc => by
    have e : acc.toArray ++ its.toArray = (acc ++ its).toArray := by simp
    have e2 : (acc ++ its) ++ (List.replicate k its).flatten = acc ++ (List.replicate (k + 1) its).flatten := by
      rw [List.replicate_succ, List.flatten_cons, List.append_assoc]
    rw [← e2, ← foldl_rep its k (acc ++ its), ← e, List.replicate_succ, List.foldl_cons]

section
variable {X : Cx} {pins : List (Addr × Obj)} {σ : St} {H : Hp} {s : Shared} {l b : Addr} {xs ys zs : List V}

/-! ### the two steps: a tracked list is rewritten, a new list is laid -/
theorem Inv.lset {its its' : List Value} {n : Nat} {f : Array Value → Array Value} {t' : Nat} (I : Inv X pins σ H s) (hH : H l = some (.lst xs))
    (e : s.heap.get? l = some { cls := .type "list", data := .seq its.toArray n }) (hf : f its.toArray = its'.toArray) (hv : Vals ys its') (hz : ys.length ≤ sizeLine) :
    Inv X pins σ (upd H l (.lst ys)) { s with heap := s.heap.update l (Obj.mapSeq f), toks := t' } := by
  have q := PySem.IsL.update e f
  rw [hf] at q
  refine I.write (x := l) (e := l) (by rw [hH]; exact trivial) (.inl rfl) (fun b' u hb hu => (Heap.get?_update_other s.heap (Obj.mapSeq f) (Ne.symm hb)).trans hu) ⟨_, q⟩ ?_
  exact ⟨hz, its', _, hv, q⟩
theorem Inv.lnew {its : List Value} {t' : Nat} (I : Inv X pins σ H s) (hv : Vals ys its) (hz : ys.length ≤ sizeLine) :
    Inv X pins σ (upd H s.heap.objs.size (.lst ys)) { s with heap := s.heap.push { cls := .type "list", data := .seq its.toArray }, toks := t' } :=
  I.laid (fun _ _ q => Heap.get?_push_of_some _ q) (Nat.le_refl _) ⟨hz, its, 0, hv, Heap.get?_push_size _ rfl⟩
theorem Inv.fresh (I : Inv X pins σ H s) : H s.heap.objs.size = none := I.hok.fresh (Nat.le_refl _)
theorem Inv.lstM (I : Inv X pins σ H s) (hH : H l = some (.lst xs)) : xs.length ≤ sizeLine ∧ ∃ (its : List Value) (n : Nat), Vals xs its ∧ xs.length = its.length ∧ s.heap.get? l = some { cls := .type "list", data := .seq its.toArray n } := by
  obtain ⟨z, its, n, r, e⟩ := I.hok l _ hH
  exact ⟨z, its, n, r, r.length, e⟩

theorem notLongL {n : Nat} (h : n ≤ sizeLine) : Builtin.List.listTooLong n = false := by
  unfold Builtin.List.listTooLong
  exact decide_eq_false (by omega)
end

section
variable {X : Cx}

/-! ### methods -/
def rAppend : V → List V → Hp → VK → Prop := fun x vs H Q => ∃ l xs y, x = .ref l ∧ vs = [y] ∧ H l = some (.lst xs) ∧ xs.length < sizeLine ∧ Q .non (upd H l (.lst (xs ++ [y])))
theorem mt_append : MtM X "list.append" rAppend := by
  intro pins s σ H x vs v us Q I rx rv h
  obtain ⟨l, xs, y, rfl, rfl, hH, hz, q⟩ := h
  cases rx
  obtain ⟨u, rfl, ru⟩ := rv.one
  obtain ⟨z, its, n, r, hl, e⟩ := I.lstM hH
  refine call_meets F.slot_list_append ⟨_, e, rfl⟩ F.entry_list_append (F.args_list_append_2 _ _) (PySem.list_append l its.toArray n u (by rw [List.size_toArray]; omega)) ⟨e, ?_⟩
  refine ⟨.non, _, I.lset (its' := its ++ [u]) hH e (by simp) (r.append (.cons ru .nil)) ?_, rfl, q⟩
  rw [List.length_append, List.length_singleton]
  omega

def rExtend : V → List V → Hp → VK → Prop := fun x vs H Q => ∃ l b xs zs, x = .ref l ∧ vs = [.ref b] ∧ H l = some (.lst xs) ∧ H b = some (.lst zs) ∧ xs.length + zs.length ≤ sizeLine ∧ Q .non (upd H l (.lst (xs ++ zs)))
theorem mt_extend : MtM X "list.extend" rExtend := by
  intro pins s σ H x vs v us Q I rx rv h
  obtain ⟨l, b, xs, zs, rfl, rfl, hH, hB, hz, q⟩ := h
  cases rx
  obtain ⟨u, rfl, ru⟩ := rv.one
  cases ru
  obtain ⟨z, its, n, r, hl, e⟩ := I.lstM hH
  obtain ⟨z2, its2, n2, r2, hl2, e2⟩ := I.lstM hB
  have hsz : its.toArray.size + its2.toArray.size ≤ sizeLine := by rw [List.size_toArray, List.size_toArray]; omega
  have hlong : ¬ (!its.toArray.isEmpty && Builtin.List.listTooLong (its.toArray.size + its2.toArray.size)) = true := by
    rw [notLongL hsz, Bool.and_false]
    exact Bool.false_ne_true
  refine call_meets F.slot_list_extend ⟨_, e, rfl⟩ F.entry_list_extend (F.args_list_extend_2 _ _)
    (AutoSeq1.list_extend_list_list_0 l its.toArray n b its2.toArray n2 hlong (by rw [List.size_toArray]; omega) (by omega)) ⟨e, e2, ?_⟩
  refine ⟨.non, _, I.lset (its' := its ++ its2) hH e (by simp) (r.append r2) ?_, rfl, q⟩
  rw [List.length_append]
  omega

def rPopAt : V → List V → Hp → VK → Prop := fun x vs H Q => ∃ l xs i k y, x = .ref l ∧ vs = [.int i] ∧ H l = some (.lst xs) ∧ -(2 ^ 63) ≤ i ∧ i < 2 ^ 63 ∧ seqIndex? i xs.length = some k ∧ xs[k]? = some y ∧ Q y (upd H l (.lst (xs.eraseIdx k)))
theorem mt_popAt : MtM X "list.pop" rPopAt := by
  intro pins s σ H x vs v us Q I rx rv h
  obtain ⟨l, xs, i, k, y, rfl, rfl, hH, h1, h2, hk, hy, q⟩ := h
  cases rx
  obtain ⟨u, rfl, ru⟩ := rv.one
  obtain ⟨t, rfl⟩ := ru
  obtain ⟨z, its, n, r, hl, e⟩ := I.lstM hH
  obtain ⟨w, hw, rw'⟩ := r.get hy
  refine call_meets F.slot_list_pop ⟨_, e, rfl⟩ F.entry_list_pop (F.args_list_pop_2 _ _)
    (MeetsSeq.list_pop_at l its.toArray n i t k w (fitsIndex_both h1 h2) (by rw [List.size_toArray, ← hl]; exact hk) (by rw [← Array.getElem?_toList]; exact hw) (by rw [List.size_toArray]; omega)) ⟨e, ?_⟩
  refine ⟨y, _, I.lset (its' := its.eraseIdx k) hH e ?_ (r.eraseIdx k) ?_, rw', q⟩
  · show its.toArray.eraseIdxIfInBounds k = (its.eraseIdx k).toArray
    rw [List.eraseIdxIfInBounds_toArray]
  · have := len_erase xs k
    omega

/-! ### list + list, list += list, list * int -/
def rCat : R2 := fun x y H Q => ∃ l b xs zs, x = .ref l ∧ y = .ref b ∧ H l = some (.lst xs) ∧ H b = some (.lst zs) ∧ xs.length + zs.length ≤ sizeLine ∧ ∀ p, H p = none → Q (.ref p) (upd H p (.lst (xs ++ zs)))
theorem op_cat : OpR X (binaryOp .Add) rCat := by
  intro pins s σ H x y v u Q I rx ry h
  obtain ⟨l, b, xs, zs, rfl, rfl, hH, hB, hz, q⟩ := h
  cases rx
  cases ry
  obtain ⟨z, its, n, r, hl, e⟩ := I.lstM hH
  obtain ⟨z2, its2, n2, r2, hl2, e2⟩ := I.lstM hB
  refine PySem.P.add_list e e2 ?_ (by rw [List.size_toArray, List.size_toArray]; omega)
  have ea : its.toArray ++ its2.toArray = (its ++ its2).toArray := by simp
  rw [ea]
  exact ⟨.ref _, _, I.lnew (t' := s.toks) (r.append r2) (by rw [List.length_append]; omega), rfl, q _ I.fresh⟩
/-- a list times an int (a negative one is nothing) -/
def rRep : R2 := fun x y H Q => ∃ l k xs, x = .ref l ∧ y = .int k ∧ H l = some (.lst xs) ∧ -(2 ^ 63) ≤ k ∧ k < 2 ^ 63 ∧ xs.length * k.toNat ≤ sizeLine ∧
  ∀ p, H p = none → Q (.ref p) (upd H p (.lst (List.replicate k.toNat xs).flatten))
theorem len_rep {α : Type} (xs : List α) (k : Nat) : (List.replicate k xs).flatten.length = k * xs.length := by
  induction k with
  | zero => simp
  | succ k ih => rw [List.replicate_succ, List.flatten_cons, List.length_append, ih, Nat.succ_mul, Nat.add_comm]
theorem op_rep : OpR X (binaryOp .Mult) rRep := by
  intro pins s σ H x y v u Q I rx ry h
  obtain ⟨l, k, xs, rfl, rfl, hH, h1, h2, hz, q⟩ := h
  cases rx
  obtain ⟨t, rfl⟩ := ry
  obtain ⟨z, its, n, r, hl, e⟩ := I.lstM hH
  have hlen : its.toArray.size * k.toNat ≤ sizeLine := by rw [List.size_toArray, ← hl]; exact hz
  have hcap : ¬ its.toArray.size * k.toNat > (2 ^ 63 - 1) / 8 := by
    have : (sizeLine : Nat) ≤ (2 ^ 63 - 1) / 8 := by decide
    omega
  have hfit : ¬ (!Builtin.List.listFitsIndex k) = true := by
    rw [fitsIndex_both h1 h2]
    exact Bool.false_ne_true
  have hlong : ¬ Builtin.List.listTooLong (its.toArray.size * k.toNat) = true := by
    rw [notLongL hlen]
    exact Bool.false_ne_true
  have hnew : List.foldl (fun x1 x2 => x1 ++ x2) #[] (List.replicate (if its.toArray.isEmpty = true then 0 else k.toNat) its.toArray) = (List.replicate k.toNat its).flatten.toArray := by
    have f0 : ∀ m : Nat, List.foldl (fun x1 x2 => x1 ++ x2) #[] (List.replicate m its.toArray) = (List.replicate m its).flatten.toArray := fun m => by
      have := foldl_rep its m []
      rw [List.nil_append] at this
      exact this
    rw [f0]
    cases its with
    | nil => simp
    | cons a r' => rw [if_neg (by simp)]
  refine wpAny_binaryOp_repeat_ref (T := "list") (U := "int") (by decide) ⟨_, e, rfl⟩ (fun s' => typeIs_int s' k t) noFill_list_mul F.fills_int_mul F.slot_int_rmul repeat_list F.slot_int_index.lookup
    (call_meets F.slot_int_rmul (typeIs_int s k t) F.entry_int_rmul (F.args_int_rmul_2 _ _) (int___rmul___int_list k t l its.toArray n)
      ⟨e, rfl, ⟨_, e, rfl⟩, call_meets F.slot_list_mul ⟨_, e, rfl⟩ F.entry_list_mul (F.args_list_mul_2 _ _) (AutoListH.list___mul___list_int_3 l its.toArray n k t hfit hcap hlong) ⟨e, ?_⟩⟩)
  rw [hnew]
  exact ⟨.ref _, _, I.lnew (t' := s.toks) (r.rep k.toNat) (by rw [len_rep, Nat.mul_comm]; exact hz), rfl, q _ I.fresh⟩

/-! ### del xs[i] -/
end

/-! ### xs[a:b] = ys -/
section
variable {prog : Program} {w : World} {A : Around} {E : Value → Shared → Prop} {s : Shared}
end

section
variable {X : Cx}
end
end L2

namespace Att
open PySem PySem.W PySem.Calls PyProof.Rows

/-! ### the script -/
theorem ints_of_wellAll {P : Params} {h : Heap} : ∀ (ns : List Int) (vs : List Value), WellAll P h vs (ns.map WData.int) → IntsAre vs ns := by
  intro ns
  induction ns with
  | nil =>
    intro vs w
    rw [List.map_nil] at w
    cases w
    exact .nil
  | cons n ns ih =>
    intro vs w
    rw [List.map_cons] at w
    cases w with
    | cons a b =>
      cases a
      exact .cons _ _ (ih _ b)

theorem script_of {l : OpenLaw} {n : Nat} (hn : l.most = some n) {P : Params} {h : Heap} {args : List WData} {vals : List Value}
    (hpre : l.row.toRowW.claim.pre args = true) (hwl : WellAll P h vals args) :
    ∃ a vs ns, vals = [Value.ref a] ∧ args = [WData.list (ns.map WData.int)] ∧ h.get? a = some { cls := .type "list", data := .seq vs.toArray } ∧ IntsAre vs ns ∧ ns.length ≤ n := by
  have hsh : WShape.hasAll [] args [.list .int] = true := (pre_splitW hpre).1
  have hc : l.pre.holds [] { args := args } = true := (pre_splitW hpre).2
  obtain ⟨d, r, rfl, h1, h2⟩ := hasAllW_cons hsh
  obtain rfl := hasAllW_nil h2
  obtain ⟨xs, rfl, h3⟩ := hasW_list h1
  obtain ⟨ns, rfl⟩ := items_int h3
  have hlen : ns.length ≤ n := by
    unfold OpenLaw.pre at hc
    have h4 : (WTm.not (.lt (.lit (.int (n : Int))) (.len (.arg 0)))).holds [] { args := [.list (ns.map .int)] } = true := by
      have h4 := (holds_andW hc).1
      rw [hn] at h4
      exact h4
    have h5 := condW_of h4 (w_not (w_lt w_lit (w_len_list (w_arg rfl))))
    rw [List.length_map] at h5
    refine Nat.le_of_not_lt fun q => ?_
    have q' : (n : Int) < ((ns.length : Nat) : Int) := by omega
    first
      | (rw [decide_eq_true q'] at h5; exact absurd h5 (by decide))
      | (simp at h5; omega)
  cases hwl with
  | cons w1 w2 =>
    cases w2
    cases w1 with
    | list ho hall => exact ⟨_, _, ns, rfl, rfl, ho, ints_of_wellAll ns _ hall, hlen⟩

theorem post_true (l : OpenLaw) (args : List WData) : l.row.toRowW.claim.post args (.bool true) args = true :=
  postW_of (r := l.row.toRowW) (X := (true == true))
    (show WShape.has [] (.bool true) .bool = true by first | rfl | decide | simp [WShape.has, WShape.arms, WShape.armsAll])
    (show (WTm.eq .res (.lit (.bool true))).value [] { args := args, res := some (.bool true), after := args } = some (.bool (true == true)) from w_eq_bool (w_res rfl) w_lit) rfl

/-! ### the attachment: holds_open's last premise (the goal 'hc' behind k_head) from a wpAny of the law's body -/
/-- the same from a codeAny of the CALL (for a layer whose function contracts speak of calls) -/
theorem attach_call {l : OpenLaw} {n : Nat} {q : Program} {loose : List Str} {XP : (Str → Option Value) → Heap → Prop} {YP : World → Heap → Prop} {d : DefRec}
    (hn : l.most = some n) (hdf : d.params.defaults = [])
    (call : ∀ (w : World) (s₀ s₁ : Shared) (mg mb : Str → Option Value) (fa : Addr) (o : Obj) (pm cd doc : Value) (a : Addr) (vs : List Value) (ns : List Int),
      Ground q loose [] XP w s₀ mg mb s₁.heap → YP w s₁.heap →
      s₁.heap.get? fa = some o → o.data = .func (docDef d.name d.params d.body d.scope pm cd doc) → s₁.heap.CodeRec cd d.name → mg d.name = some (.ref fa) →
      s₁.heap.get? a = some { cls := .type "list", data := .seq vs.toArray } → IntsAre vs ns → ns.length ≤ n → s₁.gens = #[] →
      codeAny (model l.prog w) callerA (.call (.ref fa) ⟨[.ref a], []⟩) (fun r s' => r = .ok (.ret (.bool true)) ∧ OldK s₁.heap s'.heap ∧ s'.os = s₁.os ∧ AllBare s'.gens) s₁) :
    WalkO q loose XP YP l.row.toRowW d [] (fun f vs => PySem.call f vs) := by
  intro w s₀ s₁ mg mb G Y fa o pm cd doc dV kV ho hd hcd hD hmg hg args vals as hpre hlay hrd hwl hlo
  obtain rfl : dV = .none := Dflts.none hD hdf
  obtain rfl : kV = .none := Dflts.noKw hD
  obtain ⟨a, vs, ns, rfl, rfl, hobj, hints, hlen⟩ := script_of hn hpre hwl
  refine enter_call (codeAny_mono (call w s₀ s₁ mg mb fa o pm cd doc a vs ns G Y ho (fd_plain hd) hcd hmg hobj hints hlen hg) fun r s' hq => ?_)
  obtain ⟨rfl, h2, h3, h4⟩ := hq
  exact ⟨.inl ⟨.bool true, .bool true, [], rfl, fun _ => rfl, .bool true, post_true l _, fun _ => ⟨List.Pairwise.nil, fun _ hm => (nomatch hm)⟩⟩, h2, h3, h4⟩

/-! ### rules over ANY heap (no ledger) from facts about the written part K: the library's own take a ledger (News) for what they write -/
section
variable {prog : Program} {w : World} {A : Around} {E : Value → Shared → Prop} {s : Shared} {K : Frag}

/-! the whole heap as the ledger: makes every rule that writes through a ledger a rule over any heap -/
def ledger (h : Heap) (L d : Addr) : List (Addr × Obj) := (List.range h.objs.size).filterMap fun a => if a = L ∨ a = d then none else (h.get? a).map fun o => (a, o)
end
end Att

namespace L2
open PySem PySem.Spec PyProof.Rows

theorem vals_ints : ∀ {vs : List Value} {ns : List Int}, IntsAre vs ns → Vals (ns.map V.int) vs
  | _, _, .nil => .nil
  | _, _, .cons n t h => .cons ⟨t, rfl⟩ (vals_ints h)

/-- nothing is tracked but the script, known to the object (or it is an object of the module) -/
def Only (H : Hp) : Prop := ∀ b, H b = none ∨ ∃ o xs, H b = some (.frz o (.lst xs))

/-- THE HEAD: the law's promise, at the heap behind the top. F, the promise of the law's def, may use that base is part of the heap (so K.In base, base.Ns mainGlobals mg stand in Mod) -/
theorem law_call {P : Program} {w : World} {K : PySem.W.Frag} {mg mb : Str → Option Value} {CX : CXT} {k : Nat} {fa a : Addr} {fd : FuncData} {x : Str} {sp : Sp} {s₁ : Shared} {vs : List Value} {ns : List Int}
    (KX : K.In s₁.heap) (hns : s₁.heap.Ns mainGlobals mg) (hb : s₁.heap.Ns builtinsNs mb) (hbb : ∀ x : Str, x ≠ "__name__" → mb x = bootBuiltins x) (hlim : s₁.heap.NoLimit) (hg : s₁.gens = #[])
    (ha : s₁.heap.get? a = some { cls := .type "list", data := .seq vs.toArray }) (hi : IntsAre vs ns) (hl : ns.length ≤ sizeLine) (hr : Room k callerA)
    (F : ∀ base : Heap, K.In base → base.Ns mainGlobals mg → FnOk P w K mg base CX k fa fd [x] sp) (hbind : ∀ (s : Shared) (u : Value), BindsTo s fd ⟨[u], []⟩ [(x, u)])
    (hsp : ∀ H : Hp, Only H → SqL K H a (ns.map V.int) → sp [.ref a] H (fun v _ => v = .bl true) fun _ _ _ => False)
    (hCX : ∀ H e s', CX [] H s₁ (fun _ _ _ => False) e s' → False) :
    codeAny (model P w) callerA (.call (.ref fa) ⟨[.ref a], []⟩) (fun r s' => r = .ok (.ret (.bool true)) ∧ OldK s₁.heap s'.heap ∧ s'.os = s₁.os ∧ AllBare s'.gens) s₁ := by
  have rv := vals_ints hi
  have lenV := hi.length
  -- from an abstract heap in which nothing but the script may be tracked
  have core : ∀ H : Hp, Only H → SqL K H a (ns.map V.int) → HOk P w H s₁.heap → (∀ b, H b ≠ none → b = a) → (H a ≠ none → K.lookup a = none) →
      codeAny (model P w) callerA (.call (.ref fa) ⟨[.ref a], []⟩) (fun r s' => r = .ok (.ret (.bool true)) ∧ OldK s₁.heap s'.heap ∧ s'.os = s₁.os ∧ AllBare s'.gens) s₁ := by
    intro H hO hS hok hA hK
    have base_of : ∀ {b : Addr} {o : Obj}, s₁.heap.get? b = some o → H b = none → (hidT s₁.heap H).get? b = some o := fun e n => hidT_get e n
    have noA : ∀ {b : Addr} {o : Obj} {es : Array DictEntry} {ep : Nat}, s₁.heap.get? b = some o → o.data = .dict es ep → H b = none := fun {b o es ep} e d => by
      cases q : H b with
      | none => rfl
      | some u =>
        have e' : b = a := hA b (by rw [q]; simp)
        subst e'
        rw [ha] at e; cases e
        have d' : Data.seq vs.toArray _ = Data.dict es ep := d
        cases d'
    have nsK : ∀ {b : Addr} {m : Str → Option Value}, s₁.heap.Ns b m → (hidT s₁.heap H).Ns b m := fun {b m} ⟨o, es, ep, e, d, r⟩ => ⟨o, es, ep, base_of e (noA e d), d, r⟩
    have hKb : K.In (hidT s₁.heap H) := fun b o e => base_of (KX b o e) (by
      cases q : H b with
      | none => rfl
      | some u =>
        have e' : b = a := hA b (by rw [q]; simp)
        subst e'
        rw [hK (by rw [q]; simp)] at e; cases e)
    have hM : Mod K mg (hidT s₁.heap H) := ⟨hKb, nsK hns, ⟨mb, nsK hb, hbb⟩, let ⟨mc, h1, h2⟩ := hlim; ⟨mc, nsK h1, h2⟩⟩
    have e0 : Env0 P w K mg (hidT s₁.heap H) callerA [] s₁ H := ⟨rfl, hM, fun b o e => of_hidT e, Nat.le_of_eq (hidT_size _ _), trivial, fun b hb => absurd (show b ∈ ([] : List Addr) from hb) (by simp), hok, .of_eq hg⟩
    refine codeAny_mono ((F _ hKb (nsK hns)).run callerA [] s₁ H ⟨[.ref a], []⟩ [.ref a] [.ref a] _ _ hr e0 (hbind s₁ (.ref a)) (.cons rfl .nil) (hsp H hO hS)) fun r s' h => ?_
    cases r with
    | error e => exact (hCX H e s' h).elim
    | ok fl =>
      cases fl with
      | next => exact False.elim h
      | brk => exact False.elim h
      | cont => exact False.elim h
      | ret u =>
        obtain ⟨v, H', os, bare, un, hok', r', q⟩ := h
        have q' : v = .bl true := q
        subst q'
        obtain rfl : u = Value.bool true := r'
        refine ⟨rfl, OldK.of_keep fun b o e => ?_, os, bare⟩
        cases q : H b with
        | none => exact un.keep b o e q (by intro z; exact absurd (show b ∈ ([] : List Addr) from z) (by simp)) (by simp)
        | some u =>
          rcases hO b with z | ⟨ob, xs, z⟩
          · rw [q] at z; cases z
          · have z2 := un.frzs b ob _ z
            obtain ⟨e1, _⟩ := hok b _ z
            obtain ⟨e2, _⟩ := hok' b _ z2
            rw [e] at e1; cases e1
            exact e2
  cases hk : K.lookup a with
  | some o =>
    -- the script is one of the module's own objects
    have e := KX a o hk
    rw [ha] at e
    cases e
    refine core (fun _ => none) (fun _ => .inl rfl) (.inr ⟨_, vs.toArray, _, hk, rfl, rfl, rfl, by rw [List.size_toArray, lenV]; exact hl, by simpa using rv⟩) (fun b u z => by have z' : (none : Option HO) = some u := z; cases z') (fun b z => absurd rfl z) fun z => absurd rfl z
  | none =>
    refine core (fun b => if b = a then some (.frz { cls := .type "list", data := .seq vs.toArray } (.lst (ns.map V.int))) else none) (fun b => ?_) (.inl (.inr ⟨{ cls := .type "list", data := .seq vs.toArray }, if_pos rfl⟩)) (fun b u z => ?_) (fun b z => ?_) fun _ => hk
    · by_cases hb : b = a
      · exact .inr ⟨_, _, if_pos hb⟩
      · exact .inl (if_neg hb)
    · by_cases hb : b = a
      · have z' := (if_pos hb).symm.trans z
        cases z'
        subst hb
        exact ⟨ha, by rw [List.length_map]; exact hl, vs, _, rv, ha⟩
      · have z' := (if_neg hb).symm.trans z
        cases z'
    · by_cases hb : b = a
      · exact hb
      · exact absurd (if_neg hb) z
end L2

namespace L2
open PySem PySem.Spec PyProof.Rows

/-- the goal that k_head leaves (case hc), from the law's promise. F gives the function object fd (K's own) once, then the promise over every base -/
theorem walk_of {l : PySem.W.OpenLaw} {n k : Nat} {q : Program} {loose : List Str} {XP : (Str → Option Value) → Heap → Prop} {YP : World → Heap → Prop} {d : DefRec} {K : Params → PySem.W.Frag} {CX : World → CXT} {sp : World → Sp} {x : Str}
    (hn : l.most = some n) (hn2 : n ≤ sizeLine) (hdf : d.params.defaults = []) (hr : Room k callerA)
    (hY : ∀ (w : World) (h : Heap), YP w h → (K w.params).In h)
    (F : ∀ (w : World) (mg : Str → Option Value) (fa : Addr) (h : Heap), (K w.params).In h → h.Ns mainGlobals mg → mg d.name = some (.ref fa) →
      ∃ fd : FuncData, (∀ (s : Shared) (u : Value), BindsTo s fd ⟨[u], []⟩ [(x, u)]) ∧
        ∀ base : Heap, (K w.params).In base → base.Ns mainGlobals mg → FnOk l.prog w (K w.params) mg base (CX w) k fa fd [x] (sp w))
    (hsp : ∀ (w : World) (H : Hp) (a : Addr) (ns : List Int), ns.length ≤ n → Only H → SqL (K w.params) H a (ns.map V.int) → sp w [.ref a] H (fun v _ => v = .bl true) fun _ _ _ => False)
    (hCX : ∀ (w : World) (H : Hp) (s : Shared) (e : Value) (s' : Shared), CX w [] H s (fun _ _ _ => False) e s' → False) :
    PySem.W.WalkO q loose XP YP l.row.toRowW d [] (fun f vs => PySem.call f vs) := by
  refine Att.attach_call hn hdf fun w s₀ s₁ mg mb fa o pm cd doc a vs ns G Y ho hd hcd hmg hobj hints hlen hg => ?_
  have KX := hY w _ Y
  obtain ⟨fd, hb, hF⟩ := F w mg fa _ KX G.T.g hmg
  exact law_call KX G.T.g G.T.b G.T.builtins G.T.nolimit hg hobj hints (Nat.le_trans hlen hn2) hr hF hb (fun H hO hS => hsp w H a ns hlen hO hS) fun H e s' => hCX w H s₁ e s'
end L2

/- THE LAST THEOREM (shape; LID, My.* are yours):
   My.Adr: a structure of the addresses that your layer names (classes, functions); My.Txt K t: a structure (Prop) of the equations over K;
   My.txt_mk : {K} {implicit addresses ..} (e1 : nsIn K mainGlobals "law" = some (some (.ref f))) (e2 : K.lookup f = some ⟨oc, od, .func (fnOf "law" "law" params body scope dV kV doc pm an cdv ct), sl⟩) (e3 : codeIn K cdv "law" = true) .. : ∃ t, My.Txt K t

(the tactic k_is has no namespace: write k_is) -/

/-! SHORT WORDS over the layer: a def of the text, its body, what a loop and a test want. -/
namespace L2
open PySem PySem.Spec PyProof.Rows

/-! ### the text by places -/
def defArgs (s : Stmt) : Arguments := match s with
  | .FunctionDef _ a _ _ _ _ _ _ _ _ => a
  | _ => { posonlyargs := [], args := [], vararg := none, kwonlyargs := [], kw_defaults := [], kwarg := none, defaults := [] }
def defBody (s : Stmt) : List Stmt := match s with
  | .FunctionDef _ _ b _ _ _ _ _ _ _ => b
  | _ => []
def defScope (s : Stmt) : Scope := match s with
  | .FunctionDef _ _ _ _ _ _ sc _ _ _ => sc
  | _ => { kind := .function, names := [], isGenerator := false, isCoroutine := false }

/-! ### no exception leaves a def -/
abbrev CX0 : CXT := fun _ _ _ _ _ _ => False
abbrev E0 : XK := fun _ _ _ => False
theorem pass0 {X : Cx} : Passes CX0 X E0 := fun _ _ _ _ _ _ _ h => h.elim

/-! ### a def (or method) of the text as it stands behind the top -/
structure Fun (K : PySem.W.Frag) (x qual : Str) (st : Stmt) (f : Addr) (fd : FuncData) : Prop where
  ex : ∃ (oc : Value) (od : Option Addr) (kV doc pm : Value) (an : Option Addr) (cdv ct : Value) (osl : Array (Option Value)),
    fd = PySem.W.fnOf x qual (defArgs st) (defBody st) (defScope st) .none kV doc pm an cdv ct ∧ K.lookup f = some ⟨oc, od, .func fd, osl⟩ ∧ PySem.W.codeIn K cdv qual = true
  kp : PySem.W.keepIn K (.ref f) = true
section
variable {P : Program} {w : World} {K : PySem.W.Frag} {mg : Str → Option Value} {base : Heap}
/-- THE RULE for a def: its body as a term of rules, and the reading of that term -/
theorem Fun.ok {x qual : Str} {st : Stmt} {f : Addr} {fd : FuncData} {N ps : List Str} {k : Nat} {sp : Sp} {cm : Bool} (F : Fun K x qual st f fd) (S : FnScope N ps (defScope st)) (len : ∀ vs H Q E, sp vs H Q E → vs.length = ps.length)
    (hbody : ∀ (cdv : Value) (A : Around) (outer : List Env) (s : Shared) (H : Hp) (vs : List V) (Q : VK) (E : XK), Room k (A.deeper (envOfC qual (defScope st) s.heap.objs.size f cdv)) cm → sp vs H Q E →
      ∃ t, PSs (cxOf CX0 P w K mg base N qual (defScope st) f cdv A outer s H E cm).nox (defBody st) t ∧ t { nx := fun _ H' => Q .non H', rt := Q } (start N vs) H) : FnOk P w K mg base CX0 (k + 1) f fd ps sp cm := by
  obtain ⟨oc, od, kV, doc, pm, an, cdv, ct, osl, rfl, lk, hcd⟩ := F.ex
  refine fn_of lk hcd S len fun A outer s H vs Q E hr hsp => ?_
  obtain ⟨t, h, q⟩ := hbody cdv A outer s H vs Q E hr hsp
  exact ⟨t, h.nox, q⟩
/-- how its arguments bind (no defaults): h is «fun _ _ _ _ _ _ us hl => match us, hl with | [_, _], _ => rfl», one _ a parameter -/
theorem Fun.binds {x qual : Str} {st : Stmt} {f : Addr} {fd : FuncData} {ps : List Str} (F : Fun K x qual st f fd)
    (h : ∀ (kV doc pm : Value) (an : Option Addr) (cdv ct : Value) (us : List Value), us.length = ps.length → bindArgs (PySem.W.fnOf x qual (defArgs st) (defBody st) (defScope st) .none kV doc pm an cdv ct) ⟨us, []⟩ = pure (ps.zip us)) : Binds K fd ps [] := by
  obtain ⟨oc, od, kV, doc, pm, an, cdv, ct, osl, rfl, lk, hcd⟩ := F.ex
  exact .all (h kV doc pm an cdv ct)
theorem fun_mk {x qual : Str} {st : Stmt} {f : Addr} {oc : Value} {od an : Option Addr} {osl : Array (Option Value)} {kV doc pm cdv ct : Value} (l : K.lookup f = some ⟨oc, od, .func (PySem.W.fnOf x qual (defArgs st) (defBody st) (defScope st) .none kV doc pm an cdv ct), osl⟩)
    (c : PySem.W.codeIn K cdv qual = true) (k : PySem.W.keepIn K (.ref f) = true) : Fun K x qual st f (PySem.W.fnOf x qual (defArgs st) (defBody st) (defScope st) .none kV doc pm an cdv ct) := ⟨⟨oc, od, kV, doc, pm, an, cdv, ct, osl, rfl, l, c⟩, k⟩
end
/-! ### expressions in short: the name that stands in the i-th slot -/
section
variable {X : Cx}
theorem pv (i : Nat) {x : Str} {pos : Pos} (hN : X.N[i]? = some x := by rfl) (hv : Vis X.env.scope x := by first | exact Or.inl rfl | exact Or.inr (Or.inl rfl) | exact Or.inr (Or.inr rfl)) (hd : (x == ("__debug__" : Str)) = false := by decide)
    (hcd : (x == ("__classdict__" : Str)) = false := by decide) : PE X (.Name x pos) (tVar i) := pe_var hN hv hd hcd
end

/-! ### tests -/
theorem iteF {A B : Prop} (h : B) : if false = true then A else B := by
  rw [if_neg Bool.false_ne_true]
  exact h
theorem iteT {A B : Prop} (h : A) : if true = true then A else B := by
  rw [if_pos rfl]
  exact h
theorem ite2 {c A B : Prop} [Decidable c] (h1 : c → A) (h2 : ¬ c → B) : if c then A else B := by
  by_cases h : c
  · rw [if_pos h]
    exact h1 h
  · rw [if_neg h]
    exact h2 h
theorem iteNS {c A B : Prop} [Decidable c] (hc : c) (h : B) : if (!decide c) = true then A else B := by
  rw [decide_eq_true hc]
  exact iteF h

/-! ### heaps -/
/-- all that was tracked is as it was -/
def Same (H H' : Hp) : Prop := ∀ b o, H b = some o → H' b = some o
theorem Same.trans {H H1 H2 : Hp} (a : Same H H1) (b : Same H1 H2) : Same H H2 := fun c o h => b c o (a c o h)
theorem Same.free {H H' : Hp} (e : Same H H') {l : Addr} (h : H' l = Option.none) : H l = Option.none := by
  cases q : H l with
  | none => rfl
  | some o =>
    rw [e l o q] at h
    cases h
theorem Same.seq {K : PySem.W.Frag} {H H' : Hp} {a : Addr} {xs : List V} (e : Same H H') (h : SqL K H a xs) : SqL K H' a xs := by
  rcases h with (h | ⟨o, h⟩) | h
  · exact .inl (.inl (e _ _ h))
  · exact .inl (.inr ⟨o, e _ _ h⟩)
  · exact .inr h

end L2

set_option Elab.async false
set_option linter.all false
set_option maxRecDepth 100000
/-! ### list comprehensions (one for, none or one test) -/
namespace L2
open PySem PySem.Spec PyProof.Rows

section
variable {prog : Program} {w : World} {A : Around} {R : Result → Shared → Prop} {s : Shared}
theorem comp_loop_any {elt target iter : Expr} {ifs : List Expr} {scope : Scope} {pos : Pos} {it acc : Value} {env : Env} (I : Nat → Shared → Prop)
    (turn : ∀ n s, I n s → wpAny (model prog w) A (pyNext it) (fun r s₁ => match r with
      | none => R (.ok .next) s₁
      | some v => wpAny (model prog w) A (letOwnedTupleGo target it v) (fun _ s₁' => wpAny (model prog w) A (assign target env v) (fun _ s₂ =>
          wpAny (model prog w) A (forIn ifs true fun c r => if r = true then do let ok ← isTrue c env (eval c env); pure (ForInStep.yield ok) else pure (ForInStep.yield r)) (fun ok s₃ =>
            if ok = true then wpAny (model prog w) A (eval elt env) (fun x s₄ =>
              wpAny (model prog w) A (call (.builtin "list.append") [acc, x]) (fun _ s₅ => ∃ m, m < n ∧ I m s₅) (notedBy (model prog w) A env fun e s' => R (.error e) s') s₄) (notedBy (model prog w) A env fun e s' => R (.error e) s') s₃
            else ∃ m, m < n ∧ I m s₃) (notedBy (model prog w) A env fun e s' => R (.error e) s') s₂) (notedBy (model prog w) A env fun e s' => R (.error e) s') s₁') (notedBy (model prog w) A env fun e s' => R (.error e) s') s₁) (notedBy (model prog w) A env fun e s' => R (.error e) s') s)
    (n : Nat) (h : I n s) :
    codeAny (model prog w) A (.compLoop (.ListComp elt [⟨target, iter, ifs, 0⟩] scope pos) 0 it acc env) R s := by
  refine codeAny_loop rfl I (fun n s hI => ?_) n h
  show wpAny _ A ((compTurn (.ListComp elt [⟨target, iter, ifs, 0⟩] scope pos) 0 it acc env).onRaise (fun x => do noteFrame x env; theTreesLotGoes x)) _ _ s
  refine wpAny_noted ?_
  rw [compTurn_list]
  refine wpAny_bind (wpAny_standAt (wpAny_bind (wpAny_mono (turn n s hI) (fun r s₁ h₁ => ?_) fun _ _ h' => h')))
  cases r with
  | none => exact wpAny_pure h₁
  | some v =>
    refine wpAny_bind (wpAny_mono h₁ (fun _ s₁' h₁ => ?_) fun _ _ h' => h')
    refine wpAny_bind (wpAny_mono h₁ (fun _ s₂ h₂ => wpAny_bind (wpAny_mono h₂ (fun ok s₃ h₃ => ?_) fun _ _ h' => h')) fun _ _ h' => h')
    cases ok with
    | false => exact wpAny_pure ⟨rfl, h₃⟩
    | true =>
      exact wpAny_bind (wpAny_bind (wpAny_mono h₃ (fun x s₄ h₄ => wpAny_bind (wpAny_mono h₄ (fun _ s₅ h₅ => wpAny_pure (wpAny_pure ⟨rfl, h₅⟩)) fun _ _ h' => h')) fun _ _ h' => h'))
end

/-- the closure of a comprehension's block -/
def closL (env : Env) : List (Str × NameKind) → List (Str × Addr) → List (Str × Addr)
  | [], cs => cs
  | (n, k) :: r, cs => closL env r (if k == .free then (n, (env.cells.lookup n).getD 0) :: cs else cs)
def clos (scope : Scope) (env : Env) : List (Str × Addr) := closL env scope.names []
theorem forIn_closL {env : Env} : ∀ (ns : List (Str × NameKind)) (cs : List (Str × Addr)), (∀ x ∈ ns, x.2 = .free → ∃ c, env.cells.lookup x.1 = some c) →
    (forIn ns cs fun (x : Str × NameKind) (r : List (Str × Addr)) => (match x with | (name, kind) => if kind == .free then do let c ← cellOf env name; pure (ForInStep.yield ((name, c) :: r)) else pure (ForInStep.yield r) : Sem (ForInStep (List (Str × Addr))))) = (pure (closL env ns cs) : Sem (List (Str × Addr)))
  | [], cs, _ => rfl
  | (n, k) :: r, cs, h => by
    rw [List.forIn_cons]
    by_cases hk : k = .free
    · subst hk
      obtain ⟨c, hc⟩ := h (n, .free) List.mem_cons_self rfl
      have e : cellOf env n = pure c := by
        have hc' : env.cells.lookup n = some c := hc
        unfold cellOf; rw [hc']
      simp only [beq_self_eq_true, if_true, e, pure_bind]
      rw [forIn_closL r _ fun x hx => h x (List.mem_cons_of_mem _ hx)]
      have hc' : env.cells.lookup n = some c := hc
      simp [closL, hc']
    · have hb : (k == NameKind.free) = false := by simpa using hk
      simp only [hb, Bool.false_eq_true, if_false, pure_bind]
      rw [forIn_closL r _ fun x hx => h x (List.mem_cons_of_mem _ hx)]
      simp [closL, hb]
theorem closureFor_eq {scope : Scope} {env : Env} (h : ∀ x ∈ scope.names, x.2 = .free → ∃ c, env.cells.lookup x.1 = some c) : closureFor scope env = pure (clos scope env) := by
  unfold closureFor clos
  have := forIn_closL (env := env) scope.names [] h
  simp only [bind_pure]
  exact this
theorem closL_look {env : Env} {x : Str} {c : Addr} : ∀ (ns : List (Str × NameKind)) (cs : List (Str × Addr)), (∀ y ∈ ns, y.2 = .free → ∃ c, env.cells.lookup y.1 = some c) → (∀ c, cs.lookup x = some c → env.cells.lookup x = some c) →
    (closL env ns cs).lookup x = some c → env.cells.lookup x = some c
  | [], cs, _, hc, e => hc c e
  | (n, k) :: r, cs, h, hc, e => by
    refine closL_look r _ (fun y hy => h y (List.mem_cons_of_mem _ hy)) (fun c' e' => ?_) e
    by_cases hk : k = .free
    · subst hk
      obtain ⟨c₁, h₁⟩ := h (n, .free) List.mem_cons_self rfl
      have h₁' : env.cells.lookup n = some c₁ := h₁
      simp only [beq_self_eq_true, if_true, List.lookup_cons] at e'
      cases hx : x == n with
      | true =>
        rw [hx] at e'
        have hxn : x = n := by simpa using hx
        subst hxn
        rw [h₁'] at e' ⊢
        exact e'
      | false => rw [hx] at e'; exact hc c' e'
    · have hb : (k == NameKind.free) = false := by simpa using hk
      simp only [hb, Bool.false_eq_true, if_false] at e'
      exact hc c' e'
theorem closL_has {env : Env} {x : Str} : ∀ (ns : List (Str × NameKind)) (cs : List (Str × Addr)), ((x, NameKind.free) ∈ ns ∨ ∃ c, cs.lookup x = some c) → ∃ c, (closL env ns cs).lookup x = some c
  | [], cs, h => h.elim (fun z => nomatch z) fun z => z
  | (n, k) :: r, cs, h => by
    refine closL_has r _ ?_
    rcases h with h | ⟨c, h⟩
    · rcases List.mem_cons.mp h with e | h
      · cases e
        right
        simp
      · exact .inl h
    · right
      by_cases hk : k = .free
      · subst hk
        simp only [beq_self_eq_true, if_true, List.lookup_cons]
        cases x == n with
        | true => exact ⟨_, rfl⟩
        | false => exact ⟨c, h⟩
      · have hb : (k == NameKind.free) = false := by simpa using hk
        simp only [hb, Bool.false_eq_true, if_false]
        exact ⟨c, h⟩

theorem relabel_back {env : Env} {x : Str} {k' : NameKind} : ∀ {names : List (Str × NameKind)},
    (names.map fun (n, k) => if (k == NameKind.free && env.scope.kind == .function && env.kindOf n == some .cell) then (n, NameKind.cell) else (n, k)).lookup x = some k' →
    ∃ k, names.lookup x = some k ∧ (x, k) ∈ names ∧ (k' = k ∨ (k = .free ∧ k' = .cell))
  | [], h => by simp at h
  | (n, k) :: r, h => by
    have ih := @relabel_back env x k' r
    have h' : List.lookup x ((if (k == NameKind.free && env.scope.kind == .function && env.kindOf n == some .cell) = true then (n, NameKind.cell) else (n, k)) :: r.map fun (n, k) => if (k == NameKind.free && env.scope.kind == .function && env.kindOf n == some .cell) then (n, NameKind.cell) else (n, k)) = some k' := h
    cases hx : x == n with
    | true =>
      have hxn : x = n := by simpa using hx
      subst hxn
      refine ⟨k, by simp, List.mem_cons_self, ?_⟩
      by_cases hc : (k == NameKind.free && env.scope.kind == .function && env.kindOf x == some .cell) = true
      · rw [if_pos hc] at h'
        simp at h'
        have hk : k = .free := by
          cases k <;> simp at hc ⊢
        exact .inr ⟨hk, h'.symm⟩
      · rw [if_neg hc] at h'
        simp at h'
        exact .inl h'.symm
    | false =>
      have h2 : (r.map fun (n, k) => if (k == NameKind.free && env.scope.kind == .function && env.kindOf n == some .cell) then (n, NameKind.cell) else (n, k)).lookup x = some k' := by
        by_cases hc : (k == NameKind.free && env.scope.kind == .function && env.kindOf n == some .cell) = true
        · rw [if_pos hc] at h'; simp only [List.lookup_cons, hx] at h'; exact h'
        · rw [if_neg hc] at h'; simp only [List.lookup_cons, hx] at h'; exact h'
      obtain ⟨k0, e1, e2, e3⟩ := ih h2
      exact ⟨k0, by simp only [List.lookup_cons, hx]; exact e1, List.mem_cons_of_mem _ e2, e3⟩

/-- the block's context: s, H at the entry, ex the iterator's records -/
def cxC (X : Cx) (scope : Scope) (N : List Str) (C : Addr) (s : Shared) (H : Hp) (ex : List Addr) : Cx :=
  { X with N := N, s₀ := s, H₀ := H, env := compEnvC scope (clos scope X.env) C X.env, outer := X.stack, stack := X.stack, ex := ex, fn := fun _ => false, pn := [], xe := fun _ _ => False }

/-- a comprehension's scope in X; fr: its free names with their slots in X -/
structure CScope (X : Cx) (scope : Scope) (ls : List Str) (fr : List (Str × Nat)) : Prop where
  kind : scope.kind = .function
  nocell : ∀ y ∈ scope.names, y.2 ≠ .cell
  names : ∀ y ∈ scope.names, y.2 = .local → scope.names.lookup y.1 = some .local
  free : ∀ y ∈ scope.names, y.2 = .free → X.env.kindOf y.1 = some .cell ∨ X.env.kindOf y.1 = some .free
  slots : ∀ p ∈ fr, X.N[p.2]? = some p.1 ∧ scope.names.lookup p.1 = some .free

def startC (ls : List Str) (fr : List (Str × Nat)) (σ : St) : St := ls.map (fun _ => none) ++ fr.map fun p => (σ[p.2]?).join
section
variable {X : Cx} {scope : Scope} {ls : List Str} {fr : List (Str × Nat)}
theorem CScope.cells {pins : List (Addr × Obj)} {σ : St} {H : Hp} {s : Shared} (S : CScope X scope ls fr) (I : Inv X pins σ H s) : ∀ x ∈ scope.names, x.2 = .free → ∃ c, X.env.cells.lookup x.1 = some c :=
  fun x hx hk => I.ok.has x.1 (S.free x hx hk)
theorem CScope.look {pins : List (Addr × Obj)} {σ : St} {H : Hp} {s : Shared} (S : CScope X scope ls fr) (I : Inv X pins σ H s) {x : Str} {c : Addr} (e : (clos scope X.env).lookup x = some c) : X.env.cells.lookup x = some c :=
  closL_look scope.names [] (S.cells I) (fun _ z => by simp at z) e

theorem comp_ok {pins : List (Addr × Obj)} {σ : St} {H : Hp} {s : Shared} {C : Addr} {ex : List Addr} (S : CScope X scope ls fr) (I : Inv X pins σ H s) (hC : s.heap.objs.size ≤ C) (hex : ∀ b ∈ ex, FpOk X pins H b ∧ b < s.heap.objs.size) :
    (cxC X scope (ls ++ fr.map (·.1)) C s H ex).Ok where
  mod := I.ok.mod
  kind := S.kind
  glob := I.ok.glob
  blt := I.ok.blt
  above := hC
  inj := fun x y c e1 e2 => I.ok.inj x y c (S.look I e1) (S.look I e2)
  has := fun x h => by
    have h' : ∃ k', (relabel scope X.env).names.lookup x = some k' ∧ (k' = .cell ∨ k' = .free) := h.elim (fun z => ⟨_, z, .inl rfl⟩) fun z => ⟨_, z, .inr rfl⟩
    obtain ⟨k', e, hk⟩ := h'
    obtain ⟨k, e1, e2, e3⟩ := relabel_back e
    refine closL_has scope.names [] (.inl ?_)
    have hn := S.nocell _ e2
    rcases e3 with rfl | ⟨rfl, _⟩
    · rcases hk with rfl | rfl
      · exact absurd rfl hn
      · exact e2
    · exact e2
  cab := fun x c h => nomatch h
  hd := I.ok.hd
  frames := I.ok.frames
  stk := .inl rfl
  exf := fun b hb => by
    obtain ⟨⟨f0, f1, f2, f3, f4, f5⟩, hl⟩ := hex b hb
    exact ⟨Nat.ne_of_lt (Nat.lt_of_lt_of_le hl hC), fun x c e => f4 x c (S.look I e)⟩
  bs := I.bs
  bsz := Nat.le_trans I.ok.bsz I.sz
  noex := fun b o e hb => by
    obtain ⟨⟨f0, f1, f2, f3, f4, f5⟩, hl⟩ := hex b hb
    rcases f3 with z | z
    · exact I.ok.noex b o e z
    · exact absurd (Nat.lt_of_lt_of_le (Heap.lt_size e) (Nat.le_trans I.ok.bsz z)) (Nat.lt_irrefl _)
  exfs := fun b hb hf => by
    obtain ⟨⟨f0, f1, f2, f3, f4, f5⟩, hl⟩ := hex b hb
    exact (List.mem_cons.mp (I.stkSub b hf)).elim f1 f2
  funs := I.stack
  frf := I.stkFree

theorem comp_inv {pins : List (Addr × Obj)} {σ : St} {H : Hp} {s s' : Shared} {C : Addr} {m : Str → Option Value} {ex : List Addr} (S : CScope X scope ls fr) (I : Inv X pins σ H s) (hC : s.heap.objs.size ≤ C) (hex : ∀ b ∈ ex, FpOk X pins H b ∧ b < s.heap.objs.size)
    (ho : s'.os = s.os) (hg : AllBare s'.gens) (k : ∀ b o, s.heap.get? b = some o → s'.heap.get? b = some o) (hn : s'.heap.Ns C m) : Inv (cxC X scope (ls ++ fr.map (·.1)) C s H ex) [] (startC ls fr σ) H s' where
  ok := comp_ok S I hC hex
  os := ho
  bare := hg
  base := Un.kept k
  loc := by
    refine ⟨m, hn, fun i x v e1 e2 e3 => ?_⟩
    have e2' : (ls.map (fun _ => (none : Option V)) ++ fr.map fun p => (σ[p.2]?).join)[i]? = some (some v) := e2
    have e1' : (ls ++ fr.map (·.1))[i]? = some x := e1
    by_cases hi : i < ls.length
    · rw [List.getElem?_append_left (by simpa using hi), List.getElem?_map] at e2'
      cases q : ls[i]? with
      | none => rw [q] at e2'; cases e2'
      | some y => rw [q] at e2'; cases e2'
    · have hi' : ls.length ≤ i := Nat.le_of_not_lt hi
      rw [List.getElem?_append_right (by simpa using hi'), List.getElem?_map, List.length_map] at e2'
      rw [List.getElem?_append_right hi', List.getElem?_map] at e1'
      cases q : fr[i - ls.length]? with
      | none => rw [q] at e1'; cases e1'
      | some p =>
        rw [q] at e1' e2'
        have ex1 : p.1 = x := Option.some.inj e1'
        have hp : p ∈ fr := List.mem_of_getElem? q
        obtain ⟨hsl, hfree⟩ := S.slots p hp
        subst ex1
        have hv : σ[p.2]? = some (some v) := by
          have z : (σ[p.2]?).join = some v := Option.some.inj e2'
          cases w : σ[p.2]? with
          | none => rw [w] at z; cases z
          | some o => rw [w] at z; exact congrArg some z
        obtain ⟨m0, hn0, hl⟩ := id I.loc
        have vis' : ∃ k', (relabel scope X.env).names.lookup p.1 = some k' ∧ (k' = .local ∨ k' = .cell ∨ k' = .free) := by
          rcases e3 with z | z | z
          · exact ⟨_, z, .inl rfl⟩
          · exact ⟨_, z, .inr (.inl rfl)⟩
          · exact ⟨_, z, .inr (.inr rfl)⟩
        obtain ⟨k', ek, _⟩ := vis'
        obtain ⟨k0, f1, f2, f3⟩ := relabel_back ek
        rw [hfree] at f1
        cases f1
        have hk := S.free _ f2 rfl
        have hk' : k' = .cell ∨ k' = .free := f3.elim .inr fun z => .inl z.2
        have hvis : Vis X.env.scope p.1 := hk.elim (fun z => .inr (.inl z)) fun z => .inr (.inr z)
        obtain ⟨u, ru, lk⟩ := hl p.2 p.1 v hsl hv hvis
        obtain ⟨c', hc'⟩ : ∃ c, (clos scope X.env).lookup p.1 = some c := closL_has scope.names [] (.inl f2)
        refine ⟨u, ru, .inr ⟨hk'.elim (fun z => .inl (z ▸ ek)) fun z => .inr (z ▸ ek), c', hc', ?_⟩⟩
        rcases lk with ⟨z, _⟩ | ⟨_, c, ec, ic⟩
        · rcases hk with y | y <;> (rw [y] at z; cases z)
        · have := S.look I hc'
          rw [ec] at this
          cases this
          exact ic.keeps k
  cell := fun x c e => by
    obtain ⟨v, z⟩ := I.cell x c (S.look I e)
    exact ⟨v, z.keeps k⟩
  free := I.hok.fresh hC
  freeC := fun x c e => I.freeC x c (S.look I e)
  pin := fun p hp => nomatch hp
  hok := I.hok.kept k
  len := by simp [startC, cxC]

/-- none or one test -/
def PF (X : Cx) (ifs : List Expr) (t : TT) : Prop :=
  ∀ (pins : List (Addr × Obj)) (s : Shared) (σ : St) (H : Hp) (Q : Bool → Hp → Prop), Inv X pins σ H s → t σ H Q →
    wpAny (model X.prog X.w) X.A (forIn ifs true fun c r => if r = true then do let ok ← isTrue c X.env (eval c X.env); pure (ForInStep.yield ok) else pure (ForInStep.yield r)) (TP X pins σ Q) X.xe s
def tYes : TT := fun _ H Q => Q true H
theorem pf_nil {X : Cx} : PF X [] tYes := fun pins s σ H Q I h => wpAny_tests_nil ⟨H, I, h⟩
theorem pf_one {X : Cx} {c : Expr} {t : TT} (h : PT X c t) : PF X [c] t := fun pins s σ H Q I hw => wpAny_tests_one (h pins s σ H Q I hw)

/-- the list that was grown aside is tracked -/
theorem HOk.add {P : Program} {w : World} {H : Hp} {h : Heap} {a : Addr} {o : HO} (x : HOk P w H h) (hn : H a = none) (new : ObjOk P w (upd H a o) h a o) : HOk P w (upd H a o) h := fun b u e => by
  by_cases hb : b = a
  · subst hb; rw [upd_same] at e; cases e; exact new
  · rw [upd_ne hb] at e
    exact (x b u e).stay (fun _ _ _ q => q) (fun c q => by rw [upd_ne (ne_of_none q hn)]; exact q) fun c xs q => by rw [upd_ne (ne_of_none q hn)]; exact q
theorem Un.add {fs ex : List Addr} {H H' : Hp} {h h' : Heap} {a : Addr} {o : HO} (u : Un fs ex H H' h h') (ha : h.objs.size ≤ a) (hn : H' a = none) : Un fs ex H (upd H' a o) h h' where
  keep := u.keep
  slot := u.slot
  free := fun b ob q n hx => by rw [upd_ne (Nat.ne_of_lt (Nat.lt_of_lt_of_le (Heap.lt_size q) ha))]; exact u.free b ob q n hx
  there := u.there
  tups := fun b xs q => by
    have z := u.tups b xs q
    rw [upd_ne (ne_of_none z hn)]; exact z
  frzs := fun b ob xs q => by
    have z := u.frzs b ob xs q
    rw [upd_ne (ne_of_none z hn)]; exact z
  tbls := fun b ps q => by
    obtain ⟨more, z⟩ := u.tbls b ps q
    exact ⟨more, by rw [upd_ne (ne_of_none z hn)]; exact z⟩

/-- W: the invariant by the turn, a measure and the list so far -/
def tCompK (g : TG) (tf : TT) (te : TE) (σ0 : St) (J : It) (H : Hp) (Q : VK) : Prop :=
  ∃ W : Nat → Nat → List V → St → Hp → Prop, (∃ m, W 0 m [] σ0 H) ∧ ∀ i m ys σ H, W i m ys σ H →
    (J.stop i H ∧ ys.length ≤ sizeLine ∧ ∀ p, H p = none → Q (.ref p) (upd H p (.lst ys))) ∨
    (J.go i H ∧ ys.length ≤ sizeLine ∧ ∃ N : List V → St → Hp → Prop, (∀ ys σ' H', N ys σ' H' → ∃ m', m' < m ∧ W (i + 1) m' ys σ' H') ∧ ∀ x H1, J.yld i H x H1 → g x σ H1 fun σ2 H2 => tf σ2 H2 fun b H3 => if b = true then te σ2 H3 fun v H4 => N (ys ++ [v]) σ2 H4 else N ys σ2 H3)
def tComp (wi : TI) (ls : List Str) (fr : List (Str × Nat)) (g : TG) (tf : TT) (te : TE) : TE := fun σ H Q => wi σ H fun J H1 => tCompK g tf te (startC ls fr σ) J H1 Q

/-- the block, from the iterator on -/
theorem comp_block {pins : List (Addr × Obj)} {σ : St} {H : Hp} {s : Shared} {it : Addr} {fp : List Addr} {tn : Nat → Heap → Prop} {J : It} {tg elt iter : Expr} {ifs : List Expr} {pos : Pos} {g : TG} {tf : TT} {te : TE} {Q : VK} {E : Value → Shared → Prop} {RR : Value → Addr → Result → Shared → Prop}
    (S : CScope X scope ls fr) (hc : X.calm = true) (I : Inv X pins σ H s) (T : Turn X.prog X.w X.K tg J fp it tn) (st : tn 0 s.heap) (hf : ∀ b ∈ fp, FpOk X pins H b) (hq : tCompK g tf te (startC ls fr σ) J H Q)
    (hg : ∀ C s H ex, PG (cxC X scope (ls ++ fr.map (·.1)) C s H ex) tg g) (ht : ∀ C s H ex, PF (cxC X scope (ls ++ fr.map (·.1)) C s H ex) ifs tf) (he : ∀ C s H ex, PE (cxC X scope (ls ++ fr.map (·.1)) C s H ex) elt te)
    (hRR : ∀ (D C : Addr) (s' : Shared) (H' : Hp) (m : Str → Option Value), Inv X pins σ H' s' → s'.heap.Ns C m → s.heap.objs.size ≤ C → H' C = none → Q (.ref D) H' → RR (.ref D) C (.ok .next) s') :
    wpAny (model X.prog X.w) X.A (newList []) (fun acc s₃ => wpAny (model X.prog X.w) X.A (newFunctionEnv scope X.env.globals (clos scope X.env) [] X.env.qual none .none (some X.env)) (fun cenv s₄ =>
      codeAny (model X.prog X.w) X.A (.compStart (.ListComp elt [⟨tg, iter, ifs, 0⟩] scope pos) 0 (.ref it) acc { cenv with scope := relabel scope X.env }) (RR acc cenv.locals) s₄) E s₃) E s := by
  refine wpAny_newObj_type (wpAny_newFunctionEnv S.nocell (by intro y hy; simp at hy) (fun h₁ hns₁ hsb₁ => ?_) S.kind)
  dsimp only at hns₁ hsb₁ ⊢
  generalize hH2 : s.heap.push { cls := .type "list", dict := none, data := .seq ([] : List Value).toArray } = H2 at hns₁ hsb₁ ⊢
  have hC : H2.objs.size = s.heap.objs.size + 1 := by rw [← hH2, Heap.size_push]
  have hDC : s.heap.objs.size ≠ H2.objs.size := by rw [hC]; exact Nat.ne_of_lt (Nat.lt_succ_self _)
  have hCle : s.heap.objs.size ≤ H2.objs.size := by rw [hC]; exact Nat.le_succ _
  have below : ∀ b, b < s.heap.objs.size → b ≠ H2.objs.size ∧ b ≠ s.heap.objs.size := fun b hb => ⟨by rw [hC]; exact Nat.ne_of_lt (Nat.lt_succ_of_lt hb), Nat.ne_of_lt hb⟩
  have old : ∀ b o, s.heap.get? b = some o → h₁.get? b = some o := fun b o e => hsb₁.extBut b o (below b (Heap.lt_size e)).1 (Heap.get?_push_of_some _ (hH2 ▸ Heap.get?_push_of_some _ e))
  have hacc : h₁.PlainList s.heap.objs.size #[] := ⟨_, hsb₁.extBut _ _ hDC (Heap.get?_push_of_some _ (hH2 ▸ Heap.get?_push_size _ rfl))⟩
  have hfl : ∀ b ∈ fp, b < s.heap.objs.size := fun b hb => by
    obtain ⟨o, e, _⟩ := T.obj _ _ st b hb
    exact Heap.lt_size e
  have hex : ∀ b ∈ fp, FpOk X pins H b ∧ b < s.heap.objs.size := fun b hb => ⟨hf b hb, hfl b hb⟩
  generalize hs4 : ({ s with heap := h₁, toks := s.toks + ([] : List (Str × Value)).length } : Shared) = s4
  generalize hX : cxC X scope (ls ++ fr.map (·.1)) H2.objs.size s H fp = Y
  have I4 : Inv Y [] (startC ls fr σ) H s4 := by
    rw [← hX, ← hs4]
    exact comp_inv S I hCle hex rfl I.bare old hns₁
  have YP : Y.prog = X.prog := by rw [← hX]; rfl
  have Yw : Y.w = X.w := by rw [← hX]; rfl
  have YK : Y.K = X.K := by rw [← hX]; rfl
  have YA : Y.A = X.A := by rw [← hX]; rfl
  have Yc : Y.calm = true := by rw [← hX]; exact hc
  have Yx : Y.xe = fun _ _ => False := by rw [← hX]; rfl
  have Yl : Y.env.locals = H2.objs.size := by rw [← hX]; rfl
  have Yok : (cxC X scope (ls ++ fr.map (·.1)) H2.objs.size s H fp).Ok := comp_ok S I hCle hex
  have fpY : ∀ {H' : Hp} {o : Obj}, (∀ b ∈ fp, H' b = none) → ∀ b ∈ fp, FpOk Y [(s.heap.objs.size, o)] H' b := fun {H' o} hn b hb => by
    rw [← hX]
    obtain ⟨f0, f1, f2, f3, f4, f5⟩ := hf b hb
    refine ⟨hn b hb, (below b (hfl b hb)).1, fun z => Yok.exfs b hb z, .inl hb, fun x c e => f4 x c (S.look I e), fun p hp => ?_⟩
    have e : p = (s.heap.objs.size, o) := by simpa [cxC] using hp
    subst e
    exact Ne.symm (below b (hfl b hb)).2
  have pinD : ∀ {σ' : St} {H' : Hp} {s' : Shared} {its : Array Value} {n : Nat}, Inv Y [] σ' H' s' → H' s.heap.objs.size = none → s'.heap.get? s.heap.objs.size = some { cls := .type "list", data := .seq its n } →
      Inv Y [(s.heap.objs.size, { cls := .type "list", data := .seq its n })] σ' H' s' := fun {σ' H' s' its n} I' hn e => I'.pins_of fun p hp => by
    have ep : p = (s.heap.objs.size, { cls := .type "list", data := .seq its n }) := by simpa using hp
    subst ep
    refine ⟨e, hn, by rw [Yl]; exact hDC, ?_, fun v z => nomatch z⟩
    rw [← hX]
    exact fun hb => I.nofs (Nat.le_refl _) ((List.mem_cons.mp (I.stkSub _ hb)).resolve_left fun z => absurd I.lt (by rw [← z]; exact Nat.lt_irrefl _))
  obtain ⟨W, ⟨m0, w0⟩, turn⟩ := hq
  have E1 : ∀ {α : Type} {t : Sem α} {Q1 : α → Shared → Prop} {s1 : Shared} {E1 : Value → Shared → Prop}, wpAny (model X.prog X.w) X.A t Q1 Y.xe s1 → wpAny (model X.prog X.w) X.A t Q1 E1 s1 := fun h => wpAny_mono h (fun _ _ z => z) fun _ _ z => by rw [Yx] at z; exact z.elim
  have endC : ∀ {σ' : St} {H' : Hp} {s' : Shared} {its : List Value} {ys : List V}, Inv Y [] σ' H' s' → H' s.heap.objs.size = none → s'.heap.PlainList s.heap.objs.size its.toArray → Vals ys its → ys.length ≤ sizeLine →
      (∀ p, H' p = none → Q (.ref p) (upd H' p (.lst ys))) → RR (.ref s.heap.objs.size) H2.objs.size (.ok .next) s' := fun {σ' H' s' its ys} I' hn ⟨n, e⟩ rv hz q => by
    subst hX
    obtain ⟨m, hm, _⟩ := id I'.loc
    have hCn : H' H2.objs.size = none := I'.free
    refine hRR _ _ s' (upd H' s.heap.objs.size (.lst ys)) m (I.call' I'.os (Un.add I'.base (Nat.le_refl _) hn) (I'.hok.add hn ⟨hz, its, n, rv, e⟩) I'.bare fun b hb => ?_) hm hCle (by rw [upd_ne (Ne.symm hDC)]; exact hCn) (q _ hn)
    obtain ⟨f0, f1, f2, f3, f4, f5⟩ := hf b hb
    exact ⟨f3, f1, f4, f5⟩
  have loop : codeAny (model X.prog X.w) X.A (.compLoop (.ListComp elt [⟨tg, iter, ifs, 0⟩] scope pos) 0 (.ref it) (.ref s.heap.objs.size) Y.env) (RR (.ref s.heap.objs.size) H2.objs.size) s4 := by
    refine comp_loop_any (fun n s' => ∃ (i : Nat) (σ' : St) (H' : Hp) (ys : List V) (its : List Value), Inv Y [] σ' H' s' ∧ tn i s'.heap ∧ (∀ b ∈ fp, H' b = none) ∧ H' s.heap.objs.size = none ∧ s'.heap.PlainList s.heap.objs.size its.toArray ∧ Vals ys its ∧ W i n ys σ' H') ?_ m0
      ⟨0, startC ls fr σ, H, [], [], I4, T.keep _ _ _ st fun b _ o e => by rw [← hs4]; exact old b o e, fun b hb => (hf b hb).1, I.hok.fresh (Nat.le_refl _), by rw [← hs4]; exact hacc, .nil, w0⟩
    rintro n s5 ⟨i, σ5, H5, ys, its, I5, st5, fr5, hn5, ⟨nn, e5⟩, rv, w5⟩
    have I5p := pinD I5 hn5 e5
    rcases turn i n ys σ5 H5 w5 with ⟨stop, hz, qn⟩ | ⟨go, hz, NN, hNN, step⟩
    · rw [← YA]
      refine thn (T.done Y YP Yw YK Yc i _ s5 σ5 H5 _ I5p (fpY fr5) st5 stop) fun r s6 ⟨hr, I6⟩ => ?_
      subst hr
      exact endC (I6.pins_of fun p hp => nomatch hp) hn5 ⟨nn, (I6.pin _ (List.mem_append_right _ List.mem_cons_self)).1⟩ rv hz qn
    · have hit := T.item Y YP Yw YK Yc i _ s5 σ5 H5 (notedBy (model X.prog X.w) X.A Y.env fun e s' => RR (Value.ref s.heap.objs.size) H2.objs.size (Except.error e) s') I5p (fpY fr5) st5 go
      rw [YA] at hit
      refine thn hit fun r s6 ⟨u, hr, h6⟩ => ?_
      subst hr
      refine thn h6 fun _ s7 ⟨x, H7, I7, r7, y7, st7, fr7⟩ => ?_
      have I7' := I7.pinned (fpY fr7) (T.obj _ _ st7)
      have h8 := hg H2.objs.size s H fp
      have h9 := ht H2.objs.size s H fp
      have h10 := he H2.objs.size s H fp
      rw [hX] at h8 h9 h10
      have a8 := h8 _ s7 σ5 H7 x u _ I7' r7 (step x H7 y7)
      rw [YP, Yw, YA] at a8
      refine thn (E1 a8) fun _ s8 ⟨σ8, H8, I8, q8⟩ => ?_
      have a9 := h9 _ s8 σ8 H8 _ I8 q8
      rw [YP, Yw, YA] at a9
      refine thn (E1 a9) fun b s9 ⟨H9, I9, q9⟩ => ?_
      have back : ∀ {σ' : St} {H' : Hp} {s' : Shared}, Inv Y ([(s.heap.objs.size, { cls := .type "list", data := .seq its.toArray nn })] ++ pinsAt fp s7.heap) σ' H' s' →
          tn (i + 1) s'.heap ∧ (∀ b ∈ fp, H' b = none) ∧ H' s.heap.objs.size = none ∧ s'.heap.PlainList s.heap.objs.size its.toArray := fun {σ' H' s'} I' => by
        have hp := I'.pin (s.heap.objs.size, { cls := .type "list", data := .seq its.toArray nn }) (List.mem_append_right _ (List.mem_append_left _ List.mem_cons_self))
        refine ⟨T.keep _ _ _ st7 fun b hb o e => (I'.pin (b, o) (List.mem_append_right _ (List.mem_append_right _ (mem_pinsAt hb e)))).1, fun b hb => ?_, hp.2.1, ⟨nn, hp.1⟩⟩
        obtain ⟨o, e, d⟩ := T.obj _ _ st7 b hb
        exact (I'.pin (b, o) (List.mem_append_right _ (List.mem_append_right _ (mem_pinsAt hb e)))).2.1
      cases b with
      | false =>
        rw [if_neg Bool.false_ne_true] at q9 ⊢
        obtain ⟨m', hm, w9⟩ := hNN _ _ _ q9
        obtain ⟨z1, z2, z3, z4⟩ := back I9
        exact ⟨m', hm, i + 1, σ8, H9, ys, its, I9.pins_of (fun p hp => nomatch hp), z1, z2, z3, z4, rv, w9⟩
      | true =>
        rw [if_pos rfl] at q9 ⊢
        have a10 := h10 _ s9 σ8 H9 _ I9 q9
        rw [YP, Yw, YA] at a10
        refine thn (E1 a10) fun xv s10 ⟨v, H10, I10, rx, q10⟩ => ?_
        obtain ⟨m', hm, w10⟩ := hNN _ _ _ q10
        obtain ⟨z1, z2, z3, z4⟩ := back I10
        have hlen : its.length = ys.length := (rv.length).symm
        refine wpAny_list_append_plain z4 (fun h' pl sb => ?_) (by rw [List.size_toArray, hlen]; exact hz)
        refine ⟨m', hm, i + 1, σ8, H10, ys ++ [v], its ++ [xv], ?_, ?_, z2, z3, ?_, rv.append (.cons rx .nil), w10⟩
        · have I10' : Inv Y [] σ8 H10 s10 := I10.pins_of fun p hp => nomatch hp
          refine I10'.turned (t' := s10.toks) (it := s.heap.objs.size) (fun b o hb e => (sb.2 b hb).trans e) z3 (by rw [Yl]; exact hDC) (.inr ?_) (fun x c e => ?_) fun p hp => ?_
          · rw [← hX]; exact Nat.le_refl _
          · rw [← hX] at e
            intro z
            obtain ⟨v0, q0⟩ := I.cell x c (S.look I e)
            exact absurd q0.lt (by rw [z]; exact Nat.lt_irrefl _)
          · rw [← hX] at hp; exact nomatch hp
        · refine T.keep _ _ _ z1 fun b hb o e => (sb.2 b (below b (hfl b hb)).2).trans e
        · have : (its ++ [xv]).toArray = its.toArray.push xv := by simp
          rw [this]; exact pl
  have hYe : Y.env = { newEnv scope H2.objs.size X.env.globals (clos scope X.env) X.env.qual none .none (some X.env) builtinsNs with scope := relabel scope X.env } := by rw [← hX]; rfl
  rw [← hYe]
  rw [hYe] at loop ⊢
  refine codeAny_compStart_list loop ?_
  exact T.self _ 0 _ _ _ (T.keep _ _ _ st fun b _ o e => by rw [← hs4]; exact old b o e) loop

/-- a comprehension as a value -/
theorem pe_comp {wi : TI} {tg elt iter : Expr} {ifs : List Expr} {pos : Pos} {g : TG} {tf : TT} {te : TE} (S : CScope X scope ls fr) (hc : X.calm = true) (hi : PI X tg iter wi)
    (hg : ∀ C s H ex, PG (cxC X scope (ls ++ fr.map (·.1)) C s H ex) tg g) (ht : ∀ C s H ex, PF (cxC X scope (ls ++ fr.map (·.1)) C s H ex) ifs tf) (he : ∀ C s H ex, PE (cxC X scope (ls ++ fr.map (·.1)) C s H ex) elt te)
    (hs : ∀ x, foldedSetIterable iter X.env x = pure x := by intro _; rfl) : PE X (.ListComp elt [⟨tg, iter, ifs, 0⟩] scope pos) (tComp wi ls fr g tf te) := by
  intro pins s σ H Q I h
  rw [eval_ListComp]
  refine wpAny_comprehension_free (use := none) rfl hs (closureFor_eq (S.cells I)) S.kind S.names (thn (hi pins s σ H _ I h) fun xv s₁ h₁ => thn h₁ fun itv s₂ h₂ => ?_)
  obtain ⟨it, fp, tn, J, H2, rfl, I2, T, st, hf, q⟩ := h₂
  refine comp_block (RR := fun acc C => compPost (model X.prog X.w) X.A X.xe none (EP X pins σ Q) acc C) S hc I2 T st hf q hg ht he ?_
  intro D C s' H' m I' hn hC hCn hq
  refine ⟨m, hn, fun h' sb => ?_⟩
  have nC : ∀ {b : Addr}, b < s₂.heap.objs.size → b ≠ C := fun hb => Nat.ne_of_lt (Nat.lt_of_lt_of_le hb hC)
  refine ⟨.ref D, H', I'.turned (t' := s'.toks) (it := C) (fun b o hb e => (sb.2 b hb).trans e) hCn (Ne.symm (nC I2.lt)) (.inr (Nat.le_trans I2.sz hC)) (fun x c e => ?_) fun p hp => ?_, rfl, hq⟩
  · obtain ⟨v0, q0⟩ := I2.cell x c e
    exact nC q0.lt
  · exact nC (Heap.lt_size (I2.pin p hp).1)
/-- x = [..] (the name is stored ahead of the block's end) -/
theorem ps_comp {wi : TI} {tg elt iter : Expr} {ifs : List Expr} {pos spos py : Pos} {y : Str} {i : Nat} {g : TG} {tf : TT} {te : TE} (S : CScope X scope ls fr) (hc : X.calm = true) (hi : PI X tg iter wi)
    (hg : ∀ C s H ex, PG (cxC X scope (ls ++ fr.map (·.1)) C s H ex) tg g) (ht : ∀ C s H ex, PF (cxC X scope (ls ++ fr.map (·.1)) C s H ex) ifs tf) (he : ∀ C s H ex, PE (cxC X scope (ls ++ fr.map (·.1)) C s H ex) elt te)
    (hN : X.N.Nodup) (hy : X.N[i]? = some y) (hl : X.env.scope.names.lookup y = some .local) (hsw : swapsWith (.ListComp elt [⟨tg, iter, ifs, 0⟩] scope pos) (some (.Name y py)) spos.line X.env = pure true)
    (hs : ∀ x, foldedSetIterable iter X.env x = pure x := by intro _; rfl) : PS X (.Assign [.Name y py] (.ListComp elt [⟨tg, iter, ifs, 0⟩] scope pos) spos) (tAsg (tComp wi ls fr g tf te) (gName i)) := by
  intro pins s σ H D I h
  rw [exec_Assign_Name_used _ _ _ _ hsw]
  refine wpAny_bind (wpAny_standAt (wpAny_bind ?_))
  show wpAny _ X.A (do let _ ← comprehension (.ListComp elt [⟨tg, iter, ifs, 0⟩] scope pos) scope X.env _ (newList []) false (eval iter X.env) (some (assign (.Name y py) X.env))) _ _ s
  refine wpAny_bind (wpAny_mono (wpAny_comprehension_free (use := some (assign (.Name y py) X.env)) (Q := fun _ s' => SP X pins D .next s') rfl hs (closureFor_eq (S.cells I)) S.kind S.names
    (thn (hi pins s σ H _ I h) fun xv s₁ h₁ => thn h₁ fun itv s₂ h₂ => ?_)) (fun _ s' hq => wpAny_pure (wpAny_pure hq)) fun _ _ e => e)
  obtain ⟨it, fp, tn, J, H2, rfl, I2, T, st, hf, q⟩ := h₂
  refine comp_block (RR := fun acc C => compPost (model X.prog X.w) X.A X.xe (some (assign (.Name y py) X.env)) (fun _ s' => SP X pins D .next s') acc C) S hc I2 T st hf q hg ht he ?_
  intro D1 C s' H' m I' hn hC hCn hq
  have nC : ∀ {b : Addr}, b < s₂.heap.objs.size → b ≠ C := fun hb => Nat.ne_of_lt (Nat.lt_of_lt_of_le hb hC)
  have cC : ∀ x c, X.env.cells.lookup x = some c → c ≠ C := fun x c e => by
    obtain ⟨v0, q0⟩ := I2.cell x c e
    exact nC q0.lt
  show wpAny _ X.A (assign (.Name y py) X.env (.ref D1)) _ _ _
  refine wpAny_assign_Name (store_ok2 I' hN hy (.inl hl) (v := .ref D1) rfl (fun s3 I3 hsb => ?_) (.inr hl))
  obtain ⟨a, sb1, ha⟩ := hsb
  have haC : C ≠ a := by
    rcases ha with rfl | e
    · exact Ne.symm (nC I2.lt)
    · exact Ne.symm (cC _ _ e)
  refine ⟨m, hn.sameBut sb1 haC, fun h' sb => ⟨_, H', I3.turned (t' := s3.toks) (it := C) (fun b o hb e => (sb.2 b hb).trans e) hCn (Ne.symm (nC I2.lt)) (.inr (Nat.le_trans I2.sz hC)) cC fun p hp => nC (Heap.lt_size (I2.pin p hp).1), hq⟩⟩
end

/-! ### the forms one uses -/
theorem comp_list {K : PySem.W.Frag} {a : Addr} {xs : List V} {g : TG} {tf : TT} {te : TE} {σ : St} {H : Hp} {Q : VK} (Pv : Nat → List V → St → Hp → Prop) (h0 : Pv 0 [] σ H) (hl : ∀ i ys σ H, i ≤ xs.length → Pv i ys σ H → SqL K H a xs ∧ ys.length ≤ sizeLine)
    (hs : ∀ i x ys σ H, xs[i]? = some x → Pv i ys σ H → g x σ H fun σ2 H2 => tf σ2 H2 fun b H3 => if b = true then te σ2 H3 fun v H4 => Pv (i + 1) (ys ++ [v]) σ2 H4 else Pv (i + 1) ys σ2 H3)
    (hd : ∀ ys σ H, Pv xs.length ys σ H → ∀ p, H p = none → Q (.ref p) (upd H p (.lst ys))) : tCompK g tf te σ (Itl K a) H Q := by
  refine ⟨fun i m ys σ H => m = xs.length - i ∧ i ≤ xs.length ∧ Pv i ys σ H, ⟨xs.length, by simp, Nat.zero_le _, h0⟩, ?_⟩
  rintro i m ys σ H ⟨rfl, hi, p⟩
  obtain ⟨q, hz⟩ := hl i ys σ H hi p
  by_cases hlt : i < xs.length
  · refine .inr ⟨⟨xs, xs[i], q, by simp [hlt]⟩, hz, Pv (i + 1), fun ys' σ' H' p' => ⟨xs.length - (i + 1), by omega, rfl, hlt, p'⟩, fun x H' y => ?_⟩
    obtain ⟨e, y⟩ := y
    subst e
    exact hs i x ys σ _ (y xs q) p
  · have e : i = xs.length := by omega
    subst e
    exact .inl ⟨⟨xs, q, Nat.le_refl _⟩, hz, hd ys σ H p⟩
theorem comp_tup {K : PySem.W.Frag} {a : Addr} {xs : List V} {g : TG} {tf : TT} {te : TE} {σ : St} {H : Hp} {Q : VK} (Pv : Nat → List V → St → Hp → Prop) (h0 : Pv 0 [] σ H) (hl : ∀ i ys σ H, i ≤ xs.length → Pv i ys σ H → SqT K H a xs ∧ ys.length ≤ sizeLine)
    (hs : ∀ i x ys σ H, xs[i]? = some x → Pv i ys σ H → g x σ H fun σ2 H2 => tf σ2 H2 fun b H3 => if b = true then te σ2 H3 fun v H4 => Pv (i + 1) (ys ++ [v]) σ2 H4 else Pv (i + 1) ys σ2 H3)
    (hd : ∀ ys σ H, Pv xs.length ys σ H → ∀ p, H p = none → Q (.ref p) (upd H p (.lst ys))) : tCompK g tf te σ (Itt K a) H Q := by
  refine ⟨fun i m ys σ H => m = xs.length - i ∧ i ≤ xs.length ∧ Pv i ys σ H, ⟨xs.length, by simp, Nat.zero_le _, h0⟩, ?_⟩
  rintro i m ys σ H ⟨rfl, hi, p⟩
  obtain ⟨q, hz⟩ := hl i ys σ H hi p
  by_cases hlt : i < xs.length
  · refine .inr ⟨⟨xs, xs[i], q, by simp [hlt]⟩, hz, Pv (i + 1), fun ys' σ' H' p' => ⟨xs.length - (i + 1), by omega, rfl, hlt, p'⟩, fun x H' y => ?_⟩
    obtain ⟨e, y⟩ := y
    subst e
    exact hs i x ys σ _ (y xs q) p
  · have e : i = xs.length := by omega
    subst e
    exact .inl ⟨⟨xs, q, Nat.le_refl _⟩, hz, hd ys σ H p⟩
theorem comp_range {lo : Int} {n : Nat} {g : TG} {tf : TT} {te : TE} {σ : St} {H : Hp} {Q : VK} (Pv : Nat → List V → St → Hp → Prop) (h0 : Pv 0 [] σ H) (hl : ∀ i ys σ H, i ≤ n → Pv i ys σ H → ys.length ≤ sizeLine)
    (hs : ∀ i ys σ H, i < n → Pv i ys σ H → g (.int (lo + i)) σ H fun σ2 H2 => tf σ2 H2 fun b H3 => if b = true then te σ2 H3 fun v H4 => Pv (i + 1) (ys ++ [v]) σ2 H4 else Pv (i + 1) ys σ2 H3)
    (hd : ∀ ys σ H, Pv n ys σ H → ∀ p, H p = none → Q (.ref p) (upd H p (.lst ys))) : tCompK g tf te σ (Itr lo n) H Q := by
  refine ⟨fun i m ys σ H => m = n - i ∧ i ≤ n ∧ Pv i ys σ H, ⟨n, by simp, Nat.zero_le _, h0⟩, ?_⟩
  rintro i m ys σ H ⟨rfl, hi, p⟩
  have hz := hl i ys σ H hi p
  by_cases hlt : i < n
  · refine .inr ⟨hlt, hz, Pv (i + 1), fun ys' σ' H' p' => ⟨n - (i + 1), by omega, rfl, hlt, p'⟩, fun x H' y => ?_⟩
    obtain ⟨e, y⟩ := y
    subst e y
    exact hs i ys σ _ hlt p
  · have e : i = n := by omega
    subst e
    exact .inl ⟨Nat.le_refl _, hz, hd ys σ H p⟩

/-- the scope's conditions, to be decided -/
def cscopeB (sc : Scope) (N : List Str) (scope : Scope) (fr : List (Str × Nat)) : Bool :=
  (scope.kind == .function) && scope.names.all (fun y => y.2 != .cell) && scope.names.all (fun y => y.2 != .local || scope.names.lookup y.1 == some .local) &&
  scope.names.all (fun y => y.2 != .free || sc.names.lookup y.1 == some .cell || sc.names.lookup y.1 == some .free) && fr.all (fun p => N[p.2]? == some p.1 && scope.names.lookup p.1 == some .free)
theorem cs_of {X : Cx} {scope : Scope} {ls : List Str} {fr : List (Str × Nat)} (sc : Scope) (N : List Str) (h1 : X.env.scope = sc) (h2 : X.N = N) (h : cscopeB sc N scope fr = true) : CScope X scope ls fr := by
  subst h1 h2
  simp only [cscopeB, Bool.and_eq_true, List.all_eq_true, Bool.or_eq_true, bne_iff_ne, beq_iff_eq, ne_eq] at h
  obtain ⟨⟨⟨⟨a, b⟩, c⟩, d⟩, e⟩ := h
  refine ⟨a, b, fun y hy hk => (c y hy).resolve_left fun z => z hk, fun y hy hk => ?_, e⟩
  rcases d y hy with (z | z) | z
  · exact absurd hk z
  · exact .inl z
  · exact .inr z
theorem pgc {X : Cx} {scope : Scope} {ls : List Str} {fr : List (Str × Nat)} {C : Addr} {s : Shared} {H : Hp} {ex : List Addr} {x : Str} {pos : Pos} (i : Nat) (hN : (ls ++ fr.map (·.1)).Nodup) (hi : (ls ++ fr.map (·.1))[i]? = some x) (hx : scope.names.lookup x = some .local) :
    PG (cxC X scope (ls ++ fr.map (·.1)) C s H ex) (.Name x pos) (gName i) :=
  pg_name hN hi (.inl (lookup_relabel_local hx)) (.inr (lookup_relabel_local hx))
/-- names within a block, to be decided over the two scopes -/
def relN (scope sc : Scope) : List (Str × NameKind) := scope.names.map fun (n, k) => if (k == .free && sc.kind == .function && sc.names.lookup n == some .cell) then (n, .cell) else (n, k)
def visB (scope sc : Scope) (x : Str) : Bool := match (relN scope sc).lookup x with | some .local => true | some .cell => true | some .free => true | _ => false
theorem pvc (sc : Scope) (i : Nat) {X : Cx} {scope : Scope} {N : List Str} {C : Addr} {s : Shared} {H : Hp} {ex : List Addr} {x : Str} {pos : Pos} (hN : N[i]? = some x := by rfl) (hs : X.env.scope = sc := by rfl) (hv : visB scope sc x = true := by decide +kernel)
    (hd : (x == ("__debug__" : Str)) = false := by decide +kernel) (hcd : (x == ("__classdict__" : Str)) = false := by decide +kernel) : PE (cxC X scope N C s H ex) (.Name x pos) (tVar i) := by
  subst hs
  refine pe_var hN ?_ hd hcd
  have hv' : visB scope X.env.scope x = true := hv
  unfold visB at hv'
  show (relN scope X.env.scope).lookup x = some .local ∨ (relN scope X.env.scope).lookup x = some .cell ∨ (relN scope X.env.scope).lookup x = some .free
  split at hv'
  · rename_i e; exact .inl e
  · rename_i e; exact .inr (.inl e)
  · rename_i e; exact .inr (.inr e)
  · cases hv'
theorem glc (sc : Scope) {X : Cx} {scope : Scope} {N : List Str} {C : Addr} {s : Shared} {H : Hp} {ex : List Addr} {x : Str} (hs : X.env.scope = sc := by rfl) (h : ((relN scope sc).lookup x == some .globalImplicit) = true := by decide +kernel) : Gl (cxC X scope N C s H ex) x := by
  subst hs
  exact eq_of_beq h
end L2

set_option Elab.async false
set_option linter.all false
set_option maxRecDepth 100000
namespace L2
open PySem PySem.Spec PyProof.Rows

/-! ### ints sorted falling -/
theorem perm_ge_eq {a b : List Int} (ha : a.Pairwise (· ≥ ·)) (hb : b.Pairwise (· ≥ ·)) (p : a.Perm b) : a = b :=
  p.eq_of_pairwise (le := fun x y => x ≥ y) (fun x y _ _ h1 h2 => Int.le_antisymm h2 h1) ha hb
section
variable {prog : Program} {w : World} {A : Around} {E : Value → Shared → Prop} {s : Shared}
theorem sorted_ints_revT {l : Addr} {vs : List Value} {ns : List Int} {b : Bool} {Q : Value → Shared → Prop} (hl : IsTup s.heap l vs.toArray) (hI : IntsAre vs ns) (h64 : vs.length < 64)
    (h : ∀ (out : List Value) (n : Nat) (h1 h' : Heap) (ns' : List Int), (∀ b o, s.heap.get? b = some o → h1.get? b = some o) → (∀ b o, h1.get? b = some o → h'.get? b = some o) → h'.get? h1.objs.size = some (seqObj "list" out.toArray n) → IntsAre out ns' → ns'.Perm ns → Ordered b ns' → Q (.ref h1.objs.size) { s with heap := h' }) :
    wpAny (model prog w) A (call (.builtin "sorted") [.ref l] [(Str.ofString "reverse", .bool b)]) Q E s := by
  refine call_function_entry_kw kind_sorted plain_sorted entry_sorted (args_sorted_rev _ _) ?_
  unfold Builtin.«sorted»
  refine wpAny_bind (m := checkCount "sorted" 1 1 _) (wpAny_pure ?_)
  obtain ⟨o, ho, hc, n, hd⟩ := hl
  refine wpAny_bind (wpAny_collect_seq l (.inr rfl) ho hc hd (fun h1 hk1 => ?_) (by simp [sizeLine_eq]; omega))
  refine wpAny_bind (wpAny_newList ?_)
  have hoL : (h1.push (seqObj "list" vs.toArray 0)).get? h1.objs.size = some (seqObj "list" vs.toArray 0) := Heap.get?_push_size _ rfl
  refine wpAny_bind (wpAny_holding (wpAny_call_entry_kw slot_list_sort ⟨_, hoL, rfl⟩ entry_list_sort (list_sort_tree_rev hoL hI h64 fun out ns' a1 a2 a3 => ⟨_, rfl, ?_⟩) (args_list_sort_rev _ _)))
  obtain ⟨e, he⟩ := sortedHeap_at (vs := vs) (out := out) hoL
  refine wpAny_pure ⟨_, rfl, h out.toList e h1 _ ns' hk1 (fun b o hb => ?_) he a1 a2 a3⟩
  have hlt := Heap.lt_size hb
  rw [sortedHeap_old (Nat.ne_of_lt hlt) (by rw [Heap.size_push]; exact Nat.lt_succ_of_lt hlt)]
  exact Heap.get?_push_of_some _ hb
end

section
variable {X : Cx}
def rSortR (K : PySem.W.Frag) (b : Bool) : V → Hp → VK → Prop := fun x H Q => ∃ a ns, x = .ref a ∧ (SqL K H a (ns.map V.int) ∨ SqT K H a (ns.map V.int)) ∧ ns.length < 64 ∧ ∀ ns' p, ns'.Perm ns → Ordered b ns' → H p = none → Q (.ref p) (upd H p (.lst (ns'.map V.int)))
def tSortR (K : PySem.W.Frag) (b : Bool) (te : TE) : TE := fun σ H Q => te σ H fun x H1 => rSortR K b x H1 Q
theorem small64 {n : Nat} (h : n < 64) : n ≤ sizeLine := Nat.le_trans (Nat.le_of_lt h) (by decide)
/-- sorted(e, reverse=True) -/
theorem pe_sortR {e : Expr} {te : TE} {b : Bool} {p kp cp pos : Pos} {j : Nat} (hg : Gl X "sorted") (hm : X.mg "sorted" = none) (he : PE X e te)
    (hse : starEach [e] X.env = [(false, eval e X.env)] := by rfl) : PE X (.Call (.Name "sorted" p) [e] [⟨some "reverse", .Constant (.bool b) j cp, kp⟩] pos) (tSortR X.K b te) := by
  intro pins s σ H Q I h
  refine wpAny_Call_Name_kw (ld_blt I hg hm boot_sorted ?_ (by decide) (by decide))
  refine callWith_kw (thn (pa_cons he pa_nil hse pos pins s σ H (fun vs H1 => match vs with | [x] => rSortR X.K b x H1 Q | _ => False) I h) fun us s1 ⟨vs, H1, I1, r1, q1⟩ => ?_) (by rw [hse]; rfl) (by rw [hse]; rfl)
  match vs, r1, q1 with
  | [x], r1, q =>
    obtain ⟨u, rfl, ru⟩ := vals1 r1
    refine kws_cons (Constant_bool (kws_nil ?_))
    obtain ⟨a, ns, rfl, hq, hl, q⟩ := q
    cases ru
    show wpAny _ _ (call (.builtin "sorted") [.ref a] [(Str.ofString "reverse", .bool b)]) _ _ _
    rcases hq with hq | hq
    · obtain ⟨its, r', pl, hz⟩ := I1.list hq
      have hlen := r'.length
      rw [List.length_map] at hlen
      refine sorted_ints_rev pl.isList (intsAre_of r') (by omega) fun out ns' a1 a2 a3 => ?_
      obtain ⟨n, hn⟩ := sortedAll_at s1.heap its out
      have hz' : (ns'.map V.int).length ≤ sizeLine := by rw [List.length_map, a2.length_eq]; exact small64 hl
      exact ⟨.ref _, _, I1.laid (t' := s1.toks) (fun _ _ => sortedAll_old) (Nat.le_succ _) (show ObjOk X.prog X.w _ _ _ (.lst (ns'.map V.int)) from ⟨hz', out.toList, n, vals_ints a1, by simpa [seqObj] using hn⟩), rfl, q ns' _ a2 a3 (I1.hok.fresh (Nat.le_succ _))⟩
    · obtain ⟨its, r', pl, hz⟩ := I1.tuple hq
      have hlen := r'.length
      rw [List.length_map] at hlen
      refine sorted_ints_revT pl (intsAre_of r') (by omega) fun out n h1 h' ns' k1 k2 e a1 a2 a3 => ?_
      have hz' : (ns'.map V.int).length ≤ sizeLine := by rw [List.length_map, a2.length_eq]; exact small64 hl
      have I2 : Inv X pins σ H1 { s1 with heap := h1 } := I1.kept (t' := s1.toks) k1
      exact ⟨.ref _, _, I2.laid (t' := s1.toks) k2 (Nat.le_refl _) (show ObjOk X.prog X.w _ _ _ (.lst (ns'.map V.int)) from ⟨hz', out, n, vals_ints a1, by simpa [seqObj] using e⟩), rfl, q ns' _ a2 a3 (I2.hok.fresh (Nat.le_refl _))⟩

theorem preSum_list (ns : List Int) : ∀ j, preSum (fun i => ns.getD i 0) j = (ns.take j).sum
  | 0 => by simp [preSum]
  | j + 1 => by
    rw [preSum, preSum_list ns j]
    by_cases h : j < ns.length
    · rw [List.take_succ_eq_append_getElem h, List.sum_append, List.sum_cons, List.sum_nil]
      have e : ns.getD j 0 = ns[j] := by simp [h]
      rw [e]
      omega
    · rw [List.take_of_length_le (by omega), List.take_of_length_le (by omega)]
      have : ns[j]? = none := List.getElem?_eq_none (by omega)
      simp [List.getD, this]
theorem vals_int_at {ns : List Int} {its : List Value} (r : Vals (ns.map V.int) its) (i : Nat) (v : Value) (e : its.toArray[i]? = some v) : ∃ t, v = .int (ns.getD i 0) t := by
  have e' : its[i]? = some v := by simpa using e
  have hi : i < its.length := (List.getElem?_eq_some_iff.mp e').1
  have hl := r.length
  rw [List.length_map] at hl
  have hx : (ns.map V.int)[i]? = some (V.int (ns.getD i 0)) := by
    have hi' : i < ns.length := by omega
    simp [hi']
  obtain ⟨u, hu, t, rfl⟩ := r.get hx
  rw [e'] at hu
  cases hu
  exact ⟨t, rfl⟩
/-- sum(x) of a list or tuple of ints -/
theorem call_sum_ints (hc : X.calm = true) : CallR X (.builtin "sum") (fun xs H Q => ∃ (a : Addr) (ns : List Int), xs = [.ref a] ∧ (SqL X.K H a (ns.map V.int) ∨ SqT X.K H a (ns.map V.int)) ∧ Q (.int ns.sum) H) := by
  intro pins s σ H xs us Q I r h
  obtain ⟨a, ns, rfl, hq, q⟩ := h
  obtain ⟨u, rfl, ru⟩ := vals1 r
  cases ru
  have hh : X.A.in1.handled = none := I.ok.hd hc
  have fin : ∀ {its : List Value} (h' : Heap) (tk : Nat) (t' : Tok), Vals (ns.map V.int) its → (∀ b o, s.heap.get? b = some o → h'.get? b = some o) → EP X pins σ Q (.int (preSum (fun i => ns.getD i 0) its.toArray.size) t') { s with heap := h', toks := tk } := fun {its} h' tk t' r' hk => by
    have hl := r'.length
    rw [List.length_map] at hl
    refine ⟨.int ns.sum, H, I.kept hk, ⟨t', ?_⟩, q⟩
    rw [preSum_list, List.size_toArray, ← hl, List.take_length]
  rcases hq with hq | hq
  · obtain ⟨its, r', pl, hz⟩ := I.list hq
    have hlt : a < s.heap.objs.size := by obtain ⟨_, e, _⟩ := pl.isList; exact Heap.lt_size e
    refine call_sum_walkG (wpAny_pyIter_list pl.isList ⟨_, _, _, _, _, _, fun i => ns.getD i 0, rfl, Walks.list (A := X.A.in1) hh _ a (Nat.ne_of_lt hlt) its.toArray, ⟨⟨_, Heap.get?_push_size _ rfl, rfl, rfl⟩, pl.isList.push _⟩, fun b hb => ?_, vals_int_at r', fun h' tk t' hk => fin h' tk t' r' fun b o e => hk b o (by simpa using Nat.ne_of_lt (Heap.lt_size e)) (Heap.get?_push_of_some _ e)⟩)
    show b < (s.heap.push _).objs.size
    rw [Heap.size_push]
    rcases List.mem_cons.mp hb with rfl | hb
    · exact Nat.lt_succ_self _
    · rcases List.mem_cons.mp hb with rfl | hb
      · exact Nat.lt_succ_of_lt hlt
      · cases hb
  · obtain ⟨its, r', pl, hz⟩ := I.tuple hq
    have pl' : s.heap.IsTuple a its.toArray := pl
    have hlt : a < s.heap.objs.size := by obtain ⟨_, e, _⟩ := pl; exact Heap.lt_size e
    refine call_sum_walkG (wpAny_pyIter_tuple pl' ⟨_, _, _, _, _, _, fun i => ns.getD i 0, rfl, Walks.tuple (A := X.A.in1) hh _ a (Nat.ne_of_lt hlt) its.toArray, ⟨⟨_, Heap.get?_push_size _ rfl, rfl, rfl⟩, pl'.at fun o e => Heap.get?_push_of_some _ e⟩, fun b hb => ?_, vals_int_at r', fun h' tk t' hk => fin h' tk t' r' fun b o e => hk b o (by simpa using Nat.ne_of_lt (Heap.lt_size e)) (Heap.get?_push_of_some _ e)⟩)
    show b < (s.heap.push _).objs.size
    rw [Heap.size_push]
    rcases List.mem_cons.mp hb with rfl | hb
    · exact Nat.lt_succ_self _
    · rcases List.mem_cons.mp hb with rfl | hb
      · exact Nat.lt_succ_of_lt hlt
      · cases hb

/-! ### x.count(y) over flat items -/
def cntV (y : V) (xs : List V) : Nat := xs.countP fun x => eqV x y
theorem cnt_eqU {x : V} : ∀ {xs : List V} {us : List Value}, Vals xs us → xs.all flatV = true → us.countP (eqU x) = cntV x xs
  | _, _, .nil, _ => rfl
  | y :: xs, u :: us, .cons r t, f => by
    rw [List.all_cons, Bool.and_eq_true] at f
    unfold cntV
    rw [List.countP_cons, List.countP_cons, eqU_of r f.1, cnt_eqU t f.2]
    rfl
def rCount (K : PySem.W.Frag) (SQ : PySem.W.Frag → Hp → Addr → List V → Prop) : V → List V → Hp → VK → Prop := fun x vs H Q => ∃ a xs y, x = .ref a ∧ vs = [y] ∧ SQ K H a xs ∧ flatV y = true ∧ xs.all flatV = true ∧ Q (.int (cntV y xs)) H
theorem mt_countT : MtR X "tuple.count" (rCount X.K SqT) := by
  intro pins s σ H x vs v us Q I rx rv h
  obtain ⟨a, xs, y, rfl, rfl, hq, fy, fs, q⟩ := h
  cases rx
  obtain ⟨u, rfl, ru⟩ := rv.one
  obtain ⟨its, r, pl, hz⟩ := I.tuple hq
  obtain ⟨o, ho, hc, n, hd⟩ := pl
  obtain ⟨c, dd, dt, sl⟩ := o
  cases hc
  cases hd
  refine call_meets F.slot_tuple_count ⟨_, ho, rfl⟩ F.entry_tuple_count (F.args_tuple_count_2 _ _) (SeqAt.tuple_countAt a its.toArray n dd sl u (eqU y)) ⟨ho, fun w hw => mem_eqAt ru fy r fs w (by simpa using hw), ?_⟩
  refine ⟨.int _, H, I.tok _, ⟨s.toks, ?_⟩, q⟩
  rw [show its.toArray.toList = its from rfl, cnt_eqU r fs]
theorem mt_countL : MtR X "list.count" (rCount X.K SqL) := by
  intro pins s σ H x vs v us Q I rx rv h
  obtain ⟨a, xs, y, rfl, rfl, hq, fy, fs, q⟩ := h
  cases rx
  obtain ⟨u, rfl, ru⟩ := rv.one
  obtain ⟨its, r, pl, hz⟩ := I.list hq
  obtain ⟨o, ho, hc, n, hd⟩ := pl.isList
  obtain ⟨c, dd, dt, sl⟩ := o
  cases hc
  cases hd
  refine call_meets F.slot_list_count ⟨_, ho, rfl⟩ F.entry_list_count (F.args_list_count_2 _ _) (SeqAt.list_countAt a its.toArray n dd sl u (eqU y)) ⟨ho, fun w hw => mem_eqAt ru fy r fs w (by simpa using hw), ?_⟩
  refine ⟨.int _, H, I.tok _, ⟨s.toks, ?_⟩, q⟩
  rw [show its.toArray.toList = its from rfl, cnt_eqU r fs]
theorem cntV_ints (k : Int) (ns : List Int) : cntV (.int k) (ns.map V.int) = ns.count k := by
  unfold cntV
  rw [List.countP_map, List.count_eq_countP]
  congr 1
theorem flat_ints (ns : List Int) : (ns.map V.int).all flatV = true := by
  rw [List.all_map]; simp [flatV]

/-! ### isinstance(x, T), T a built-in type -/
theorem call_isi : CallR X (.builtin "isinstance") (fun xs H Q => ∃ x T t b, xs = [x, .ty T] ∧ TyOf X.K H x t ∧ PySem.W.kitOne X.K t (.type T) = some b ∧ Q (.bl b) H) := by
  intro pins s σ H xs us Q I r h
  obtain ⟨x, T, t, b, rfl, ty, hk, q⟩ := h
  obtain ⟨u, v, rfl, ru, rv⟩ := vals2 r
  cases (show v = Value.type T from rv)
  exact isinst_ok I ru ty hk fun tk => ⟨.bl b, H, I.tok tk, rfl, q⟩
end
/-! ### which built-in type lies beneath which -/
theorem kit_int_int {K : PySem.W.Frag} : PySem.W.kitOne K (.type "int") (.type "int") = some true := by unfold PySem.W.kitOne; rw [if_pos (by decide +kernel)]
theorem kit_int_bool {K : PySem.W.Frag} : PySem.W.kitOne K (.type "int") (.type "bool") = some false := by
  unfold PySem.W.kitOne
  rw [if_neg (by decide +kernel)]
  rfl
theorem kit_tup_tup {K : PySem.W.Frag} : PySem.W.kitOne K (.type "tuple") (.type "tuple") = some true := by unfold PySem.W.kitOne; rw [if_pos (by decide +kernel)]
theorem kit_list_list {K : PySem.W.Frag} : PySem.W.kitOne K (.type "list") (.type "list") = some true := by unfold PySem.W.kitOne; rw [if_pos (by decide +kernel)]
end L2

set_option Elab.async false
set_option linter.all false
set_option maxRecDepth 100000
namespace L2
open PySem PySem.Spec PyProof.Rows
/-! ### the drawn state: [great, rest, cells, count] -/
theorem noPylong_big {x y : Int} (h0 : 0 < y) (h : y ≤ 10 ^ 100) : Builtin.divisionGoesByPylong x y = false := by
  refine PyProof.noPylong_of_log2 ?_
  have hn : y.natAbs ≠ 0 := by omega
  have h1 : y.natAbs ≤ 10 ^ 100 := by omega
  refine (Nat.log2_lt hn).mpr (Nat.lt_of_le_of_lt h1 (by decide +kernel))
def CDivB (i j : Int) : Prop := 0 < j ∧ j ≤ 10 ^ 100
theorem op_fdivB {X : Cx} : OpR X (binaryOp .FloorDiv) (rI CDivB fun i j => .int (i / j)) := opI fun i j _ _ _ _ _ hc q => by
  refine floordiv_int (by have := hc.1; omega) ?_ (.inl (noPylong_big hc.1 hc.2))
  rw [Int.fdiv_eq_ediv_of_nonneg _ (Int.le_of_lt hc.1)]
  exact q
theorem get_list {X : Cx} : PGet X (fun x y H Q => ∃ p xs i v, x = .ref p ∧ y = .int i ∧ SqL X.K H p xs ∧ 0 ≤ i ∧ xs[i.toNat]? = some v ∧ Q v H) := by
  intro pins s σ H o i ov iv Q I ro ri h
  obtain ⟨p, xs, k, v, rfl, rfl, hq, h0, hv, q⟩ := h
  cases ro
  obtain ⟨t, rfl⟩ := ri
  obtain ⟨its, r, pl, hz⟩ := I.list hq
  have hlen := r.length
  have hn := line63
  obtain ⟨u, hu, ru⟩ := r.get hv
  have hk := (List.getElem?_eq_some_iff.mp hv).1
  exact wpAny_getItem_list pl.isList h0 (by omega) (by simpa using hu) ⟨v, H, I, ru, q⟩

/-- what holds between two statements -/
theorem seqJoin {A B : TS} {D : Ends} {σ : St} {H : Hp} (R : St → Hp → Prop) (h : ∀ nx : St → Hp → Prop, (∀ σ' H', R σ' H' → nx σ' H') → A { D with nx := nx } σ H) (hR : ∀ σ' H', R σ' H' → B D σ' H') : tSeq A B D σ H := h (B D) hR
/-- what may change is at S alone -/
def Keep (S : List Addr) (H H' : Hp) : Prop := ∀ b o, H b = some o → b ∉ S → H' b = some o
theorem Keep.refl (S : List Addr) (H : Hp) : Keep S H H := fun _ _ h _ => h
theorem Keep.trans {S : List Addr} {H H1 H2 : Hp} (a : Keep S H H1) (b : Keep S H1 H2) : Keep S H H2 := fun c o h n => b c o (a c o h n) n
theorem Keep.new {S : List Addr} {H : Hp} {p : Addr} {o : HO} (h : H p = none) : Keep S H (upd H p o) := fun b u e _ => by rw [upd_ne (ne_of_none e h)]; exact e
theorem Keep.set {S : List Addr} {H : Hp} {p : Addr} {o : HO} (h : p ∈ S) : Keep S H (upd H p o) := fun b u e n => by
  have hb : b ≠ p := fun z => n (by rw [z]; exact h)
  rw [upd_ne hb]; exact e
theorem Same.keep {S : List Addr} {H H' : Hp} (h : Same H H') : Keep S H H' := fun b o e _ => h b o e
structure StAt (H : Hp) (st ga ca : Addr) (N : Nat) : Prop where
  ex : ∃ (gs cs : List Int) (q n : Int), H st = some (.lst [.ref ga, .int q, .ref ca, .int n]) ∧ H ga = some (.lst (gs.map V.int)) ∧ H ca = some (.lst (cs.map V.int)) ∧
    gs.length ≤ 63 ∧ (∀ x ∈ gs, 0 < x) ∧ 0 ≤ q ∧ 0 ≤ n ∧ n ≤ N
  gc : ga ≠ ca
  sg : st ≠ ga
  sc : st ≠ ca
theorem StAt.nin {H : Hp} {st ga ca : Addr} {N : Nat} (S : StAt H st ga ca N) {p : Addr} (h : H p = none) : p ∉ [st, ga] := by
  obtain ⟨gs, cs, q, n, h1, h2, _⟩ := S.ex
  intro z
  rcases List.mem_cons.mp z with rfl | z
  · rw [h1] at h; cases h
  · rcases List.mem_cons.mp z with rfl | z
    · rw [h2] at h; cases h
    · cases z
theorem StAt.mono {H : Hp} {st ga ca : Addr} {N M : Nat} (S : StAt H st ga ca N) (h : N ≤ M) : StAt H st ga ca M := by
  obtain ⟨gs, cs, q, n, h1, h2, h3, h4, h5, h6, h7, h8⟩ := S.ex
  exact ⟨⟨gs, cs, q, n, h1, h2, h3, h4, h5, h6, h7, by omega⟩, S.gc, S.sg, S.sc⟩
theorem StAt.same {H H' : Hp} {st ga ca : Addr} {N : Nat} (S : StAt H st ga ca N) (h : Same H H') : StAt H' st ga ca N := by
  obtain ⟨gs, cs, q, n, h1, h2, h3, r⟩ := S.ex
  exact ⟨⟨gs, cs, q, n, h _ _ h1, h _ _ h2, h _ _ h3, r⟩, S.gc, S.sg, S.sc⟩
theorem Same.new {H : Hp} {p : Addr} {o : HO} (h : H p = none) : Same H (upd H p o) := fun b u e => by rw [upd_ne (ne_of_none e h)]; exact e
theorem pick {ns : List Int} {r : Int} (h0 : 0 ≤ r) (h1 : r < ns.length) : ∃ v, v ∈ ns ∧ atI (ns.map V.int) r = some (.int v) := by
  obtain ⟨j, rfl⟩ : ∃ j : Nat, r = (j : Int) := ⟨r.toNat, by omega⟩
  have hj : j < ns.length := by omega
  exact ⟨ns[j], List.getElem_mem hj, atI_nat (by rw [List.getElem?_map, List.getElem?_eq_getElem hj]; rfl)⟩
theorem Keep.at {S : List Addr} {H H' : Hp} (k : Keep S H H') {b : Addr} {o : HO} (h : H b = some o) (n : b ∉ S) : H' b = some o := k b o h n
theorem Keep.free {S : List Addr} {H H' : Hp} (k : Keep S H H') {b : Addr} (h : H' b = none) (n : b ∉ S) : H b = none := by
  cases q : H b with
  | none => rfl
  | some o => rw [k b o q n] at h; cases h
theorem map_at {ns : List Int} {i : Nat} {x : V} (h : (ns.map V.int)[i]? = some x) : ∃ z, ns[i]? = some z ∧ x = .int z := by
  rw [List.getElem?_map] at h
  cases hn : ns[i]? with
  | none => rw [hn] at h; cases h
  | some z => rw [hn] at h; exact ⟨z, rfl, (Option.some.inj h).symm⟩
/-- one heap lies in another -/
def lies (ns ms : List Int) : Bool := ns.all fun x => decide (ns.count x ≤ ms.count x)
theorem all_take {α : Type} {p : α → Bool} {l : List α} {i : Nat} {x : α} (hx : l[i]? = some x) : (l.take (i + 1)).all p = ((l.take i).all p && p x) := by
  have hi := (List.getElem?_eq_some_iff.mp hx).1
  have ex := (List.getElem?_eq_some_iff.mp hx).2
  rw [List.take_succ_eq_append_getElem hi, List.all_append, ex]
  simp
theorem all_false {α : Type} {p : α → Bool} {l : List α} {x : α} (hx : x ∈ l) (h : p x = false) : l.all p = false := by
  rw [List.all_eq_false]
  exact ⟨x, hx, by simp [h]⟩
theorem StAt.nin3 {H : Hp} {st ga ca : Addr} {N : Nat} (S : StAt H st ga ca N) {p : Addr} (h : H p = none) : p ∉ [st, ga, ca] := by
  obtain ⟨gs, cs, q, n, h1, h2, h3, _⟩ := S.ex
  intro z
  simp only [List.mem_cons, List.not_mem_nil, or_false] at z
  rcases z with rfl | rfl | rfl
  · rw [h1] at h; cases h
  · rw [h2] at h; cases h
  · rw [h3] at h; cases h
theorem nin2 {st ga ca p : Addr} (h : p ∉ [st, ga, ca]) : p ∉ [st, ga] := fun z => h (by
  simp only [List.mem_cons, List.not_mem_nil, or_false] at z ⊢
  rcases z with z | z
  · exact .inl z
  · exact .inr (.inl z))
theorem StAt.upd {H : Hp} {st ga ca : Addr} {N : Nat} {p : Addr} {o : HO} (S : StAt H st ga ca N) (h : p ∉ [st, ga, ca]) : StAt (upd H p o) st ga ca N := by
  obtain ⟨gs, cs, q, n, h1, h2, h3, r⟩ := S.ex
  have n1 : st ≠ p := fun z => h (by simp [z])
  have n2 : ga ≠ p := fun z => h (by simp [z])
  have n3 : ca ≠ p := fun z => h (by simp [z])
  exact ⟨⟨gs, cs, q, n, by rw [upd_ne n1]; exact h1, by rw [upd_ne n2]; exact h2, by rw [upd_ne n3]; exact h3, r⟩, S.gc, S.sg, S.sc⟩
theorem Keep.updN {S : List Addr} {H H' : Hp} {p : Addr} {o : HO} (k : Keep S H H') (h : H p = none) : Keep S H (L2.upd H' p o) := fun b u e n => by
  rw [upd_ne (ne_of_none e h)]
  exact k b u e n
end L2

set_option Elab.async false
set_option linter.all false
set_option maxRecDepth 100000
namespace L2
open PySem PySem.Spec PyProof.Rows

/-! ### == and != of tuples and lists, whatever they hold -/
/-- two values of one kind are compared -/
def EqK (X : Cx) (α : Type) [DecidableEq α] (R : α → V → Hp → Prop) (n : Nat) : Prop :=
  ∀ (pins : List (Addr × Obj)) (σ : St) (H : Hp) (s : Shared) (A : Around) (a b : α) (v w : V) (u u' : Value), Inv X pins σ H s → A.units + n < cLine → R a v H → R b w H → RelV v u → RelV w u' → SeqAt.EqAt A s u u' (decide (a = b))
/-- the values of a tuple, of a list -/
inductive All2 {α : Type} (R : α → V → Hp → Prop) (H : Hp) : List α → List V → Prop
  | nil : All2 R H [] []
  | cons {a : α} {v : V} {l : List α} {xs : List V} : R a v H → All2 R H l xs → All2 R H (a :: l) (v :: xs)
theorem All2.length {α : Type} {R : α → V → Hp → Prop} {H : Hp} : ∀ {l : List α} {xs : List V}, All2 R H l xs → l.length = xs.length
  | _, _, .nil => rfl
  | _, _, .cons _ t => by simp [t.length]
theorem All2.get {α : Type} {R : α → V → Hp → Prop} {H : Hp} : ∀ {l : List α} {xs : List V} {i : Nat} {x : V}, All2 R H l xs → xs[i]? = some x → ∃ a, l[i]? = some a ∧ R a x H
  | _, _, _, _, .nil, e => by simp at e
  | _, _, 0, _, .cons r _, e => by simp at e; subst e; exact ⟨_, rfl, r⟩
  | _, _, i + 1, x, .cons _ t, e => by
    obtain ⟨u, h1, h2⟩ := All2.get (i := i) (x := x) t (by simpa using e)
    exact ⟨u, by simpa using h1, h2⟩
theorem All2.append {α : Type} {R : α → V → Hp → Prop} {H : Hp} : ∀ {l l' : List α} {xs xs' : List V}, All2 R H l xs → All2 R H l' xs' → All2 R H (l ++ l') (xs ++ xs')
  | _, _, _, _, .nil, s => s
  | _, _, _, _, .cons r t, s => .cons r (t.append s)
theorem All2.imp {α : Type} {R : α → V → Hp → Prop} {H H' : Hp} (f : ∀ a v, R a v H → R a v H') : ∀ {l : List α} {xs : List V}, All2 R H l xs → All2 R H' l xs
  | _, _, .nil => .nil
  | _, _, .cons r t => .cons (f _ _ r) (t.imp f)
def RInt : Int → V → Hp → Prop := fun i v _ => v = .int i
theorem all2_ints {H : Hp} : ∀ (ns : List Int), All2 RInt H ns (ns.map V.int)
  | [] => .nil
  | _ :: r => .cons rfl (all2_ints r)
/-- a tuple of such values -/
def RTup (K : PySem.W.Frag) {α : Type} (R : α → V → Hp → Prop) : List α → V → Hp → Prop := fun l v H => ∃ p xs, v = .ref p ∧ SqT K H p xs ∧ All2 R H l xs
def RLst (K : PySem.W.Frag) {α : Type} (R : α → V → Hp → Prop) : List α → V → Hp → Prop := fun l v H => ∃ p xs, v = .ref p ∧ SqL K H p xs ∧ All2 R H l xs
theorem all_range_eq {α : Type} [DecidableEq α] {l m : List α} {e : Nat → Bool} (h : ∀ j a b, l[j]? = some a → m[j]? = some b → e j = decide (a = b)) : ((List.range (min l.length m.length)).all e && l.length == m.length) = decide (l = m) := by
  rw [Bool.eq_iff_iff]
  simp only [Bool.and_eq_true, List.all_eq_true, List.mem_range, beq_iff_eq, decide_eq_true_eq]
  constructor
  · rintro ⟨h1, h2⟩
    refine List.ext_getElem h2 fun j j1 j2 => ?_
    have := h1 j (by omega)
    rw [h j _ _ (List.getElem?_eq_getElem j1) (List.getElem?_eq_getElem j2)] at this
    exact of_decide_eq_true this
  · rintro rfl
    refine ⟨fun j hj => ?_, rfl⟩
    have hj' : j < l.length := by omega
    rw [h j _ _ (List.getElem?_eq_getElem hj') (List.getElem?_eq_getElem hj')]
    exact decide_eq_true rfl
section
variable {X : Cx}
theorem eqk_int : EqK X Int RInt 0 := fun pins σ H s A a b v w u u' I hu r1 r2 q1 q2 => by
  unfold RInt at r1 r2
  subst r1 r2
  obtain ⟨t, rfl⟩ := q1
  obtain ⟨t', rfl⟩ := q2
  have := SeqAt.EqAt.int_int (A := A) (s := s) a t b t'
  rwa [show (a == b) = decide (a = b) from rfl] at this
variable {α : Type} [DecidableEq α] {R : α → V → Hp → Prop} {n : Nat}
/-- the items' answers -/
theorem eqk_items (h : EqK X α R n) {pins : List (Addr × Obj)} {σ : St} {H : Hp} {s : Shared} {A : Around} {l m : List α} {xs ys : List V} {us ws : List Value} (I : Inv X pins σ H s) (hu : A.units + (n + 1) < cLine)
    (r1 : All2 R H l xs) (r2 : All2 R H m ys) (q1 : Vals xs us) (q2 : Vals ys ws) :
    ∃ e : Nat → Bool, (∀ j (h1 : j < us.toArray.size) (h2 : j < ws.toArray.size), SeqAt.EqAt A.in1 s us.toArray[j] ws.toArray[j] (e j)) ∧ (∀ j a b, l[j]? = some a → m[j]? = some b → e j = decide (a = b)) := by
  refine ⟨fun j => match l[j]?, m[j]? with | some a, some b => decide (a = b) | _, _ => false, fun j h1 h2 => ?_, fun j a b e1 e2 => by simp only [e1, e2]⟩
  have l1 := q1.length
  have l2 := q2.length
  have l3 := r1.length
  have l4 := r2.length
  simp only [List.size_toArray] at h1 h2
  have hx : xs[j]? = some xs[j] := List.getElem?_eq_getElem (by omega)
  have hy : ys[j]? = some ys[j] := List.getElem?_eq_getElem (by omega)
  obtain ⟨a, ea, ra⟩ := r1.get hx
  obtain ⟨b, eb, rb⟩ := r2.get hy
  obtain ⟨u, eu, ru⟩ := q1.get hx
  obtain ⟨w, ew, rw'⟩ := q2.get hy
  have e1 : us.toArray[j]'(by simpa using h1) = u := by
    have := (List.getElem?_eq_some_iff.mp eu).2
    simpa using this
  have e2 : ws.toArray[j]'(by simpa using h2) = w := by
    have := (List.getElem?_eq_some_iff.mp ew).2
    simpa using this
  rw [e1, e2]
  simp only [ea, eb]
  exact h pins σ H s A.in1 a b _ _ u w I (by show A.units + 1 + n < cLine; omega) ra rb ru rw'
theorem rc_tup (h : EqK X α R n) {pins : List (Addr × Obj)} {σ : St} {H : Hp} {s : Shared} {A : Around} {l m : List α} {p q : Addr} (I : Inv X pins σ H s) (hu : A.units + (n + 1) < cLine) (r1 : RTup X.K R l (.ref p) H) (r2 : RTup X.K R m (.ref q) H) :
    SeqAt.RcAt A s (.ref p) (.ref q) (decide (l = m)) := by
  obtain ⟨_, xs, e1, h1, a1⟩ := r1
  obtain ⟨_, ys, e2, h2, a2⟩ := r2
  cases e1
  cases e2
  obtain ⟨us, v1, t1, z1⟩ := I.tuple h1
  obtain ⟨ws, v2, t2, z2⟩ := I.tuple h2
  obtain ⟨e, he, hd⟩ := eqk_items h I hu a1 a2 v1 v2
  have := SeqAt.RcAt.tuples (e := e) t1 t2 (by omega) he
  rw [List.size_toArray, List.size_toArray, ← v1.length, ← v2.length, ← a1.length, ← a2.length, all_range_eq hd] at this
  exact this
theorem eqk_tup (h : EqK X α R n) (det : ∀ (pins : List (Addr × Obj)) (σ : St) (H : Hp) (s : Shared) (a b : α) (v : V), Inv X pins σ H s → R a v H → R b v H → a = b) : EqK X (List α) (RTup X.K R) (n + 1) := fun pins σ H s A a b v w u u' I hu r1 r2 q1 q2 => by
  obtain ⟨p, xs, rfl, h1, a1⟩ := id r1
  obtain ⟨q, ys, rfl, h2, a2⟩ := id r2
  cases q1
  cases q2
  by_cases hpq : p = q
  · subst hpq
    have e := I.tuple_inj h1 h2
    subst e
    have : a = b := by
      clear r1 r2 h1 h2 hu
      induction a1 generalizing b with
      | nil => cases a2; rfl
      | cons r t ih =>
        cases a2 with
        | cons r' t' => rw [det pins σ H s _ _ _ I r r', ih _ t']
    rw [decide_eq_true this]
    exact SeqAt.EqAt.same _
  · exact SeqAt.EqAt.of_refs hpq (rc_tup h I hu r1 r2)
theorem det_int (pins : List (Addr × Obj)) (σ : St) (H : Hp) (s : Shared) (a b : Int) (v : V) (I : Inv X pins σ H s) (h1 : RInt a v H) (h2 : RInt b v H) : a = b := by
  unfold RInt at h1 h2
  rw [h1] at h2
  cases h2
  rfl
theorem op_neT' (h : EqK X α R n) (hu : X.A.units + (n + 1) < cLine) : OpR X (compareOp .NotEq) (fun x y H Q => ∃ l m, RTup X.K R l x H ∧ RTup X.K R m y H ∧ Q (.bl (!decide (l = m))) H) := by
  intro pins s σ H x y v u Q I rx ry hq
  obtain ⟨l, m, r1, r2, q⟩ := hq
  obtain ⟨p, xs, rfl, h1, a1⟩ := r1
  obtain ⟨p', ys, rfl, h2, a2⟩ := r2
  cases rx
  cases ry
  obtain ⟨us, v1, t1, z1⟩ := I.tuple h1
  obtain ⟨ws, v2, t2, z2⟩ := I.tuple h2
  obtain ⟨e, he, hd⟩ := eqk_items h I hu a1 a2 v1 v2
  have ee := all_range_eq hd
  have this := SeqAt.RcNeAt.tuples (e := e) t1 t2 (by omega) he
  rw [List.size_toArray, List.size_toArray, ← v1.length, ← v2.length, ← a1.length, ← a2.length, ee] at this
  exact this X.prog X.w X.xe _ ⟨.bl _, H, I, rfl, q⟩
theorem op_neL' (h : EqK X α R n) (hu : X.A.units + (n + 1) < cLine) : OpR X (compareOp .NotEq) (fun x y H Q => ∃ l m, RLst X.K R l x H ∧ RLst X.K R m y H ∧ Q (.bl (!decide (l = m))) H) := by
  intro pins s σ H x y v u Q I rx ry hq
  obtain ⟨l, m, r1, r2, q⟩ := hq
  obtain ⟨p, xs, rfl, h1, a1⟩ := r1
  obtain ⟨p', ys, rfl, h2, a2⟩ := r2
  cases rx
  cases ry
  obtain ⟨us, v1, t1, z1⟩ := I.list h1
  obtain ⟨ws, v2, t2, z2⟩ := I.list h2
  obtain ⟨e, he, hd⟩ := eqk_items h I hu a1 a2 v1 v2
  have ee := all_range_eq hd
  have s1 : us.toArray.size = l.length := by rw [List.size_toArray, ← v1.length, ← a1.length]
  have s2 : ws.toArray.size = m.length := by rw [List.size_toArray, ← v2.length, ← a2.length]
  by_cases hl : l.length = m.length
  · have this := SeqAt.RcNeAt.lists (e := e) t1.isList t2.isList (by rw [s1, s2, hl]) (by omega) he
    rw [s1] at this
    rw [hl, Nat.min_self, beq_self_eq_true, Bool.and_true, ← hl] at ee
    rw [ee] at this
    exact this X.prog X.w X.xe _ ⟨.bl _, H, I, rfl, q⟩
  · have this := SeqAt.RcNeAt.lists_lengths t1.isList t2.isList (by rw [s1, s2]; simpa using hl) (show X.A.units < cLine by omega)
    have hne : ¬ l = m := fun e => hl (by rw [e])
    rw [decide_eq_false hne] at q
    exact this X.prog X.w X.xe _ ⟨.bl _, H, I, rfl, q⟩
end
/-- of ints -/
theorem RTup.ints {K : PySem.W.Frag} {H : Hp} {p : Addr} {ns : List Int} (h : SqT K H p (ns.map V.int)) : RTup K RInt ns (.ref p) H := ⟨p, _, rfl, h, all2_ints ns⟩
end L2
namespace L2
open PySem PySem.Spec PyProof.Rows
theorem huR {A : Around} {k n : Nat} {cm : Bool} (hr : Room k A cm) (h : n ≤ 64 := by decide) : A.units + n < cLine := Nat.lt_of_le_of_lt (Nat.add_le_add_left h _) hr.units
end L2
namespace HT
open PySem PySem.Spec PyProof.Rows
section
variable {prog : Program} {w : World} {A : Around} {E : Value → Shared → Prop} {s : Shared}
theorem getItem_tuple_whole {t sl : Addr} {items : Array Value} {vl vu : Value} {lo hi : Option Int} {Q : Value → Shared → Prop} (ht : IsTup s.heap t items) (hs : s.heap.IsSliceOf sl vl vu .none) (pl : IsPart vl lo) (pu : IsPart vu hi)
    (hw : sIx items.size 0 lo = 0 ∧ sIx items.size items.size hi = items.size) (h : Q (.ref t) s) : wpAny (model prog w) A (getItem (.ref t) (.ref sl)) Q E s := by
  obtain ⟨os, hos, hcs, hds⟩ := id hs
  have hTs : s.TypeIs (.ref sl) "slice" := ⟨os, hos, hcs⟩
  unfold getItem
  try with_reducible refine wpAny_holding ?_
  first | refine wpAny_bind (wpAny_pure ?_) | skip
  refine wpAny_bind (wpAny_sequenceKey ht.typeIs (by decide) ?_)
  refine wpAny_bind (wpAny_callSpecial?_slot (name := Str.ofString "__getitem__") ht.typeIs PyProof.Rows.slot_tuple_getitem
    (wpAny_call_entry PyProof.Rows.slot_tuple_getitem ht.typeIs entry_tuple_getitem ?_ (args_tuple_getitem _ _)))
  show wpAny _ _ (Builtin.Tuple.tupleItemsOf (.ref t) >>= _) _ _ s
  refine wpAny_bind (tupleItemsOf_ ht ?_)
  refine wpAny_bind (wpAny_typeOf hTs ?_)
  rw [if_pos (by decide)]
  refine wpAny_bind (sliceApplied_gen hs pl pu ?_)
  have hyes : (((sIx items.size 0 lo : Nat) : Int) == 0 && (1 : Int) == 1 && (sIx items.size items.size hi - sIx items.size 0 lo) == items.size) = true := by
    rw [hw.1, hw.2]; simp
  show wpAny _ _ (if (((sIx items.size 0 lo : Nat) : Int) == 0 && (1 : Int) == 1 && (sIx items.size items.size hi - sIx items.size 0 lo) == items.size) = true then _ else _) _ _ s
  rw [if_pos hyes]
  refine wpAny_bind ?_
  unfold Builtin.Tuple.tupleIsExact
  refine wpAny_bind (wpAny_typeOf ht.typeIs (wpAny_pure ?_))
  rw [if_pos (by decide)]
  first
    | exact wpAny_bind (wpAny_rule (wpAny_bind (wpAny_pure (wpAny_pure ⟨_, rfl, wpAny_pure h⟩))))
    | exact wpAny_bind (wpAny_rule (wpAny_pure ⟨_, rfl, wpAny_pure h⟩))
end
end HT
namespace L2
open PySem PySem.Spec PyProof.Rows
section
variable {X : Cx}
theorem sl_tupW : SlR X (fun x lo hi H Q => ∃ a xs, x = .ref a ∧ SqT X.K H a xs ∧ (HT.sIx xs.length 0 lo = 0 ∧ HT.sIx xs.length xs.length hi = xs.length) ∧ Q (.ref a) H) := by
  intro pins s σ H x v vl vu lo hi sl Q I rx hs pl pu h
  obtain ⟨a, xs, rfl, hx, hw, q⟩ := h
  cases rx
  obtain ⟨its, r, ht, hz⟩ := I.tuple hx
  have hlen : its.toArray.size = xs.length := by rw [List.size_toArray]; exact r.length.symm
  refine ⟨"tuple", _, PyProof.Rows.slot_tuple_getitem.lookup, ht.typeIs, ?_⟩
  exact HT.getItem_tuple_whole ht hs pl pu (by rw [hlen]; exact hw) ⟨.ref a, H, I, rfl, q⟩
/-- t[lo:hi], the whole one or a new one -/
def rSlTA (K : PySem.W.Frag) : V → Option Int → Option Int → Hp → VK → Prop := fun x lo hi H Q => (∃ a xs, x = .ref a ∧ SqT K H a xs ∧ (HT.sIx xs.length 0 lo = 0 ∧ HT.sIx xs.length xs.length hi = xs.length) ∧ Q (.ref a) H) ∨ rSlT K x lo hi H Q
theorem sl_tupA : SlR X (rSlTA X.K) := sl_tupW.or sl_tup
end
end L2

set_option Elab.async false
set_option linter.all false
set_option maxRecDepth 100000
namespace HT
open PySem PySem.Spec PyProof.Rows
def lexGt : List Int → List Int → Bool
  | [], [] => false
  | [], _ :: _ => false
  | _ :: _, [] => true
  | x :: xs, y :: ys => if x = y then lexGt xs ys else decide (y < x)
section
open PySem.SeqAt
open PySem.AutoSeq1 (wpAny_loadPart')
open PySem.MeetsSeq PySem.MeetsSeq2 PySem.MeetsSeq3
end

section
variable {prog : Program} {w : World} {A : Around} {E : Value → Shared → Prop} {s : Shared}

end
end HT
namespace L2
open PySem PySem.Spec PyProof.Rows
section
variable {X : Cx}
/-! ### texts -/
/-! ### a loop over a text's signs -/
end
end L2

set_option Elab.async false
set_option linter.all false
set_option maxRecDepth 100000
namespace L2
open PySem PySem.Spec PyProof.Rows
section
variable {X : Cx} {tg : Expr}
end
section
variable {X : Cx}
/-- all(list of truths) -/
theorem call_all_bools (hc : X.calm = true) : CallR X (.builtin "all") (fun xs H Q => ∃ (a : Addr) (bs : List Bool), xs = [.ref a] ∧ SqL X.K H a (bs.map V.bl) ∧ Q (.bl (bs.all id)) H) := by
  intro pins s σ H xs us Q I r h
  obtain ⟨a, bs, rfl, hq, q⟩ := h
  obtain ⟨u, rfl, ru⟩ := vals1 r
  cases ru
  have hh : X.A.in1.handled = none := I.ok.hd hc
  obtain ⟨its, r', pl, hz⟩ := I.list hq
  have hl := r'.length
  rw [List.length_map] at hl
  have hlt : a < s.heap.objs.size := by obtain ⟨_, e, _⟩ := pl.isList; exact Heap.lt_size e
  refine call_all_walk (wpAny_pyIter_list pl.isList ⟨_, _, _, _, _, _, fun i => bs.getD i false, rfl, Walks.list (A := X.A.in1) hh _ a (Nat.ne_of_lt hlt) its.toArray, ⟨⟨_, Heap.get?_push_size _ rfl, rfl, rfl⟩, pl.isList.push _⟩, ?_, fun h' tk hk => ?_⟩)
  · intro i v s' Q' E' hv hQ
    have hv' : its[i]? = some v := by simpa using hv
    have hi : i < bs.length := by have := (List.getElem?_eq_some_iff.mp hv').1; omega
    have hx : (bs.map V.bl)[i]? = some (V.bl (bs.getD i false)) := by simp [hi]
    obtain ⟨u, hu, ru⟩ := r'.get hx
    rw [hv'] at hu
    cases hu
    cases ru
    exact wpAny_truthy_bool hQ
  · have e : (List.range its.toArray.size).all (fun i => bs.getD i false) = bs.all id := by
      rw [List.size_toArray, ← hl, Bool.eq_iff_iff]
      simp only [List.all_eq_true, List.mem_range, id]
      constructor
      · intro h b hb
        obtain ⟨i, hi, rfl⟩ := List.mem_iff_getElem.mp hb
        have := h i hi
        simpa [hi] using this
      · intro h i hi
        have := h bs[i] (List.getElem_mem hi)
        simpa [hi] using this
    rw [e]
    exact ⟨.bl _, H, I.kept fun b o e => hk b o (by simpa using Nat.ne_of_lt (Heap.lt_size e)) (Heap.get?_push_of_some _ e), rfl, q⟩
end
end L2

set_option Elab.async false
set_option linter.all false
set_option maxRecDepth 100000
namespace L2
open PySem PySem.Spec PyProof.Rows PySem.NumText PySem.Calls
/-! ### numbers written -/
/-! ### joined and split by one sign -/
end L2

set_option Elab.async false
set_option linter.all false
set_option maxRecDepth 100000
namespace L2
open PySem PySem.Spec PyProof.Rows PySem.NumText
end L2

set_option Elab.async false
set_option linter.all false
set_option maxRecDepth 100000
namespace L2
open PySem PySem.Spec PyProof.Rows

/-! ### the stations of a flight, with the exception's own dict kept in sight -/
theorem mapF_dict (f : Array Value → Array Value) (o : Obj) : (Obj.mapFields f o).dict = o.dict := by
  obtain ⟨c, d, dat, sl⟩ := o
  cases dat <;> rfl
/-- noted: its record, where it flies -/
def TrD (h base : Heap) (e : Addr) (C : Value) (dd : Option Addr) (fl : Value) : Prop :=
  ∃ oe vs T oT ts, h.get? e = some oe ∧ (oe.cls = C ∧ oe.dict = dd) ∧ oe.data = .fields vs ∧ vs[1]? = some (.ref T) ∧
    base.get? T = none ∧ T ≠ e ∧ h.get? T = some oT ∧ oT.data = .fields ts ∧ ts[3]? = some fl
def FlyD (base : Heap) (l : List Env) (e : Addr) (C : Value) (dd : Option Addr) (h : Heap) : Prop := base.StaysIn h ∧ base.get? e = none ∧ h.FunFrames base l ∧ TrD h base e C dd .none
def HeldD (base : Heap) (l : List Env) (e : Addr) (C : Value) (dd : Option Addr) (L : Addr) (h : Heap) : Prop := base.StaysIn h ∧ base.get? e = none ∧ h.FunFrames base l ∧ TrD h base e C dd (rawInt L)
/-- what is no record stays but for its slots -/
def UpS (h h' : Heap) : Prop := ∀ b o, h.get? b = some o → (∀ vs, o.data ≠ .fields vs) → ∃ sl, h'.get? b = some { o with slots := sl }
theorem UpS.same (h : Heap) : UpS h h := fun _ o q _ => ⟨o.slots, q⟩
section
variable {M : Model} {A : Around} {E : Value → Shared → Prop} {s : Shared} {base : Heap} {env : Env} {outer : List Env} {L e : Addr} {C : Value} {dd : Option Addr} {Q : Unit → Shared → Prop}
/-- a record's field set: all else stays -/
theorem upd_away {h : Heap} {T : Addr} {oT : Obj} {ts : Array Value} (hT : h.get? T = some oT) (hd : oT.data = .fields ts) (f : Array Value → Array Value) :
    (∀ b, b ≠ T → (h.update T (Obj.mapFields f)).get? b = h.get? b) ∧ (∀ b o, h.get? b = some o → (∀ vs, o.data ≠ .fields vs) → (h.update T (Obj.mapFields f)).get? b = some o) ∧ (h.update T (Obj.mapFields f)).get? T = some (Obj.mapFields f oT) := by
  have far : ∀ b, b ≠ T → (h.update T (Obj.mapFields f)).get? b = h.get? b := fun b n => Heap.get?_update_other _ _ (Ne.symm n)
  refine ⟨far, fun b o q n => ?_, Heap.get?_update_self _ hT (Obj.isFreed_of_fields (Obj.data_mapFields hd _))⟩
  refine (far b fun z => ?_).trans q
  subst z
  rw [hT] at q
  cases q
  exact n ts hd
/-- flight set -/
theorem st_flight {l : List Env} {fl : Value} (f : Option Addr) (k1 : base.StaysIn s.heap) (k2 : s.heap.FunFrames base l) (k3 : TrD s.heap base e C dd fl)
    (q : ∀ h', base.StaysIn h' → h'.FunFrames base l → TrD h' base e C dd (f.elim Value.none fun f => rawInt f) → UpS s.heap h' → Q () { s with heap := h' }) : wpAny M A (setFlight (.ref e) f) Q E s := by
  obtain ⟨oe, vs, T, oT, ts, g1, g2, g3, g4, g5, g6, g7, g8, g9⟩ := k3
  have z3 : 3 < ts.size := (Array.getElem?_eq_some_iff.mp g9).1
  obtain ⟨far, non, own⟩ := upd_away g7 g8 (·.setIfInBounds 3 (f.elim Value.none fun f => rawInt f))
  unfold setFlight
  refine wpAny_bind (wpAny_field g1 g3 g4 ?_)
  rw [if_pos (by simp)]
  refine wpAny_setField g7 g8 z3 (q _ ?_ ?_ ?_ fun b o q n => ⟨o.slots, non b o q n⟩)
  · intro b o qb
    refine (far b fun z => ?_).trans (k1 b o qb)
    rw [z, g5] at qb
    cases qb
  · exact k2.of_keeps fun b o qb n => ⟨o, non b o qb n, rfl⟩
  · exact ⟨oe, vs, T, _, _, (far e (Ne.symm g6)).trans g1, g2, g3, g4, g5, g6, own, Obj.data_mapFields g8 _, by simp [z3]⟩
/-- a new record in front -/
theorem st_entry {oe : Obj} {vs : Array Value} {head : Value} {more : Bool} (fr : A.frames = some (env :: outer)) (k2 : s.heap.FunFrames base (env :: outer)) (hL : env.frame = some L) (g1 : s.heap.get? e = some oe) (k1 : base.StaysIn s.heap) (ne : base.get? e = none)
    (g3 : oe.data = .fields vs) (z1 : 1 < vs.size) (q : ∀ h', base.StaysIn h' → h'.FunFrames base (env :: outer) → TrD h' base e oe.cls oe.dict (rawInt L) → UpS s.heap h' → Q () { s with heap := h' }) :
    wpAny M A (do
      let a ← frameOf env
      let pl ← entryPlaceOf L more
      let b ← EntryCells.newEntry head a .none (rawInt L) .none pl
      setField (.ref e) 1 b) Q E s := by
  have nf : e ∉ (env :: outer).filterMap (·.frame) := fun z => by
    obtain ⟨_, o, ho, n⟩ := k2.mem z
    rw [g1] at ho
    cases ho
    exact n vs g3
  refine wpAny_bind (wpAny_frameOf_fun fr k2 hL fun h1 x1 => ?_)
  refine wpAny_bind (wpAny_entryPlaceOf fun pl hpl => ?_)
  unfold EntryCells.newEntry newFields
  refine wpAny_bind (wpAny_newObj_type ?_ (hpl.sizeOk5 _ _ _ _ _))
  have e1 : h1.get? e = some oe := by rw [x1.2.1 e nf]; exact g1
  have b1 : base.StaysIn h1 := fun b o qb => by
    rw [x1.2.1 b fun z => by rw [(k2.mem z).1] at qb; cases qb]
    exact k1 b o qb
  generalize hR : ({ cls := .type "traceback", dict := none, data := .fields ([head, .ref L, .none, rawInt L, .none] ++ (if pl.isEmpty then List.replicate 6 Value.none else pl)).toArray } : Obj) = R
  have dR : R.data = .fields ([head, .ref L, .none, rawInt L, .none] ++ (if pl.isEmpty then List.replicate 6 Value.none else pl)).toArray := by rw [← hR]
  have fR : R.isFreed = false := Obj.isFreed_of_fields dR
  have e2 : (h1.push R).get? e = some oe := Heap.get?_push_of_some _ e1
  refine wpAny_setField e2 g3 z1 ?_
  have nT : h1.objs.size ≠ e := Nat.ne_of_gt (Heap.lt_size e1)
  obtain ⟨far, non, own⟩ := upd_away e2 g3 (·.setIfInBounds 1 (Value.ref h1.objs.size))
  have keep : ∀ b o, b ≠ e → h1.get? b = some o → ((h1.push R).update e (Obj.mapFields (·.setIfInBounds 1 (Value.ref h1.objs.size)))).get? b = some o := fun b o n qb => by
    rw [far b n]
    exact Heap.get?_push_of_some _ qb
  have ne' : ∀ b o, s.heap.get? b = some o → (∀ vs, o.data ≠ .fields vs) → b ≠ e := fun b o qb n z => by
    rw [z, g1] at qb
    cases qb
    exact n vs g3
  refine q _ ?_ ?_ ?_ ?_
  · exact fun b o qb => keep b o (fun z => by rw [z, ne] at qb; cases qb) (b1 b o qb)
  · refine k2.of_keeps fun b o qb n => ?_
    obtain ⟨sl, y⟩ := x1.2.2 b o qb
    exact ⟨_, keep b _ (ne' b o qb n) y, rfl⟩
  · refine ⟨_, _, h1.objs.size, R, _, own, ⟨Obj.cls_mapFields _ _, mapF_dict _ _⟩, Obj.data_mapFields g3 _, by simp [z1], b1.fresh, nT, ?_, dR, ?_⟩
    · rw [far _ nT]
      exact Heap.get?_push_size h1 fR
    · simp
  · intro b o qb n
    obtain ⟨sl, y⟩ := x1.2.2 b o qb
    exact ⟨sl, keep b _ (ne' b o qb n) y⟩
/-- noted here: one that flies -/
theorem st_note (fr : A.frames = some (env :: outer)) (hL : env.frame = some L) (x : FlyD base (env :: outer) e C dd s.heap) (q : ∀ h', HeldD base (env :: outer) e C dd L h' → UpS s.heap h' → Q () { s with heap := h' }) : wpAny M A (noteFrame (.ref e) env) Q E s := by
  obtain ⟨k1, ne, k2, oe, vs, T, oT, ts, g1, ⟨rfl, rfl⟩, g3, g4, g5, g6, g7, g8, g9⟩ := x
  obtain ⟨far, non, own⟩ := upd_away g7 g8 (·.setIfInBounds 3 Value.none)
  unfold noteFrame
  simp only [hL]
  refine wpAny_bind (wpAny_field g1 g3 g4 ?_)
  rw [if_pos (by simp)]
  refine wpAny_bind (wpAny_field g7 g8 g9 ?_)
  rw [if_neg (by simp [rawInt])]
  refine wpAny_bind (wpAny_setField g7 g8 (Array.getElem?_eq_some_iff.mp g9).1 ?_)
  refine st_entry fr (k2.of_keeps fun b o qb n => ⟨o, non b o qb n, rfl⟩) hL ((far e (Ne.symm g6)).trans g1) (fun b o qb => ?_) ne g3 (Array.getElem?_eq_some_iff.mp g4).1 fun h' y1 y2 y3 y4 => q h' ⟨y1, ne, y2, y3⟩ fun b o qb n => y4 b o (non b o qb n) n
  refine (far b fun z => ?_).trans (k1 b o qb)
  rw [z, g5] at qb
  cases qb
/-- .. and one that is noted here already -/
theorem st_again {fl : Value} (hL : env.frame = some L) (x : TrD s.heap base e C dd (rawInt L)) (q : Q () s) : wpAny M A (noteFrame (.ref e) env) Q E s := by
  obtain ⟨oe, vs, T, oT, ts, g1, g2, g3, g4, g5, g6, g7, g8, g9⟩ := x
  unfold noteFrame
  simp only [hL]
  refine wpAny_bind (wpAny_field g1 g3 g4 ?_)
  rw [if_pos (by simp)]
  refine wpAny_bind (wpAny_field g7 g8 g9 ?_)
  rw [if_pos (by simp)]
  exact wpAny_pure q
/-- .. and one just made -/
theorem st_first {oe : Obj} {vs : Array Value} (fr : A.frames = some (env :: outer)) (k2 : s.heap.FunFrames base (env :: outer)) (hL : env.frame = some L) (g1 : s.heap.get? e = some oe) (k1 : base.StaysIn s.heap) (ne : base.get? e = none)
    (g3 : oe.data = .fields vs) (g4 : vs[1]? = some .none) (q : ∀ h', HeldD base (env :: outer) e oe.cls oe.dict L h' → UpS s.heap h' → Q () { s with heap := h' }) : wpAny M A (noteFrame (.ref e) env) Q E s := by
  unfold noteFrame
  simp only [hL]
  refine wpAny_bind (wpAny_field g1 g3 g4 ?_)
  rw [if_neg (by decide)]
  exact st_entry fr k2 hL g1 k1 ne g3 (Array.getElem?_eq_some_iff.mp g4).1 fun h' y1 y2 y3 y4 => q h' ⟨y1, ne, y2, y3⟩ y4
end
/-! ### exceptions: how one lies behind a call, and within a body -/
/-- B: all that stays as it is while the exception flies (all but the frames, the exception and its records) -/
structure Cov (s₀ : Heap) (H₀ : Hp) (fr ex : List Addr) (H' : Hp) (B : Heap) : Prop where
  trk : ∀ b u, H' b = some u → ∃ o, B.get? b = some o
  old : ∀ b o, s₀.get? b = some o → H₀ b = none → b ∉ fr → b ∉ ex → B.get? b = some o
  all : ∀ b o, s₀.get? b = some o → b ∉ fr → b ∉ ex → ∃ o', B.get? b = some o'
def CX1 (P : Program) (w : World) : CXT := fun outer H s E ev s' => ∃ (e : Addr) (C : Value) (dd : Option Addr) (H' : Hp), ev = .ref e ∧ E C dd H' ∧ s'.os = s.os ∧ AllBare s'.gens ∧ Un (frs outer) [] H H' s.heap s'.heap ∧ HOk P w H' s'.heap ∧ H' e = none ∧
  ∃ B, FlyD B outer e C dd s'.heap ∧ Cov s.heap H (frs outer) [] H' B
/-- within a body: just made, come from a callee, or noted here -/
inductive ExcSt (B : Heap) (l : List Env) (L e : Addr) (C : Value) (dd : Option Addr) (h : Heap) : Prop where
  | made (oe : Obj) (vs : Array Value) : B.StaysIn h → h.FunFrames B l → B.get? e = none → h.get? e = some oe → oe.cls = C → oe.dict = dd → oe.data = .fields vs → vs[1]? = some .none → ExcSt B l L e C dd h
  | fly : FlyD B l e C dd h → ExcSt B l L e C dd h
  | held : HeldD B l e C dd L h → ExcSt B l L e C dd h
theorem ExcSt.stays {B : Heap} {l : List Env} {L e : Addr} {C : Value} {dd : Option Addr} {h : Heap} (x : ExcSt B l L e C dd h) : B.StaysIn h := by
  cases x with
  | made oe vs a b c => exact a
  | fly a => exact a.1
  | held a => exact a.1
theorem ExcSt.frames {B : Heap} {l : List Env} {L e : Addr} {C : Value} {dd : Option Addr} {h : Heap} (x : ExcSt B l L e C dd h) : h.FunFrames B l := by
  cases x with
  | made oe vs a b c => exact b
  | fly a => exact a.2.2.1
  | held a => exact a.2.2.1
structure ExcAt (X : Cx) (H' : Hp) (e : Addr) (C : Value) (dd : Option Addr) (s' : Shared) : Prop where
  os : s'.os = X.s₀.os
  bare : AllBare s'.gens
  un : Un X.fs X.ex X.H₀ H' X.s₀.heap s'.heap
  hok : HOk X.prog X.w H' s'.heap
  fe : H' e = none
  st : ∃ B, Cov X.s₀.heap X.H₀ (frs X.stack) X.ex H' B ∧ ExcSt B X.stack X.env.locals e C dd s'.heap
/-- the heap turns while the exception flies -/
theorem Cov.turn {P : Program} {w : World} {s₀ h h' : Heap} {H₀ H' : Hp} {fr fs ex : List Addr} {B : Heap} (c : Cov s₀ H₀ fr ex H' B) (hs : ∀ b ∈ fs, b ∈ fr) (hnf : ∀ b ∈ fr, ∃ o, h.get? b = some o ∧ ∀ vs, o.data ≠ .fields vs) (b1 : B.StaysIn h) (b2 : B.StaysIn h')
    (up : ∀ b o, h.get? b = some o → (∀ vs, o.data ≠ .fields vs) → ∃ sl, h'.get? b = some { o with slots := sl }) (un : Un fs ex H₀ H' s₀ h) (hok : HOk P w H' h)
    (hfs : ∀ b o, s₀.get? b = some o → b ∈ fr → b ∈ fs) : Un fs ex H₀ H' s₀ h' ∧ HOk P w H' h' := by
  refine ⟨⟨fun b o q n hb hx => ?_, fun b o q n hb hx => ?_, un.free, fun b o q hx => ?_, un.tups, un.frzs, un.tbls⟩, fun b u e => ?_⟩
  · by_cases hf : b ∈ fr
    · exact absurd (hfs b o q hf) hb
    · exact b2 b o (c.old b o q n hf hx)
  · obtain ⟨sl, e1⟩ := un.slot b o q n hb hx
    obtain ⟨o1, e2, nf⟩ := hnf b (hs b hb)
    rw [e1] at e2
    cases e2
    obtain ⟨sl', e3⟩ := up b _ e1 nf
    exact ⟨sl', e3⟩
  · by_cases hf : b ∈ fr
    · obtain ⟨o1, e2, nf⟩ := hnf b hf
      obtain ⟨sl', e3⟩ := up b _ e2 nf
      exact ⟨_, e3⟩
    · obtain ⟨o', e⟩ := c.all b o q hf hx
      exact ⟨o', b2 b o' e⟩
  · refine (hok b u e).stay (fun d v hd q => ?_) (fun _ q => q) fun _ _ q => q
    have hd' : ∃ u', H' d = some u' := by
      rcases hd with rfl | hd
      · exact ⟨u, e⟩
      · exact ⟨_, hd⟩
    obtain ⟨u', hu'⟩ := hd'
    obtain ⟨o, ho⟩ := c.trk d u' hu'
    have := b1 d o ho
    rw [q] at this
    cases this
    exact b2 d v ho
theorem frames_nf {B h : Heap} {l : List Env} (x : h.FunFrames B l) : ∀ b ∈ frs l, ∃ o, h.get? b = some o ∧ ∀ vs, o.data ≠ .fields vs := fun b hb => by
  obtain ⟨_, o, ho, hnf⟩ := x.mem hb
  exact ⟨o, ho, hnf⟩
/-- what is wanted of an exception that leaves a body -/
def XE (X : Cx) (E : XK) : Value → Shared → Prop := fun ev s' => ∃ (e : Addr) (C : Value) (dd : Option Addr) (H' : Hp), ev = .ref e ∧ E C dd H' ∧ ExcAt X H' e C dd s'
section
variable {X : Cx} {outer : List Env}
/-- a body's own frame is the top one -/
structure Own (X : Cx) : Prop where
  ok : X.Ok
  top : X.stack = X.env :: X.outer
  fr : X.env.frame = some X.env.locals
theorem Own.sub (o : Own X) : ∀ b ∈ X.fs, b ∈ frs X.stack := fun b hb => by
  rw [o.top]; unfold frs; rw [List.filterMap_cons, o.fr]; exact List.mem_cons_of_mem _ hb
theorem Own.old (o : Own X) : ∀ b ob, X.s₀.heap.get? b = some ob → b ∈ frs X.stack → b ∈ X.fs := fun b ob q hb => by
  rw [o.top] at hb
  unfold frs at hb
  rw [List.filterMap_cons, o.fr] at hb
  rcases List.mem_cons.mp hb with rfl | hb
  · exact absurd (Nat.lt_of_lt_of_le (Heap.lt_size q) o.ok.above) (Nat.lt_irrefl _)
  · exact hb
/-- noted here -/
theorem ExcAt.note {M : Model} {E' : Value → Shared → Prop} {H' : Hp} {e : Addr} {C : Value} {dd : Option Addr} {s' : Shared} {Q : Unit → Shared → Prop} (o : Own X) (x : ExcAt X H' e C dd s')
    (h : ∀ s'', ExcAt X H' e C dd s'' → (∃ B, HeldD B X.stack e C dd X.env.locals s''.heap ∧ Cov X.s₀.heap X.H₀ (frs X.stack) X.ex H' B) → Q () s'') : wpAny M X.A (noteFrame (.ref e) X.env) Q E' s' := by
  obtain ⟨B, c, st⟩ := x.st
  have fin : ∀ {h' : Heap}, HeldD B X.stack e C dd X.env.locals h' → UpS s'.heap h' → Q () { s' with heap := h' } := fun {h'} hh up => by
    obtain ⟨u, k⟩ := c.turn o.sub (frames_nf st.frames) st.stays hh.1 up x.un x.hok o.old
    exact h _ ⟨x.os, x.bare, u, k, x.fe, B, c, .held hh⟩ ⟨B, hh, c⟩
  have hfr : X.A.frames = some (X.env :: X.outer) := by rw [← o.top]; exact o.ok.frames
  cases st with
  | made oe vs b1 b2 b3 he hc hdd hd h1 =>
    subst hc hdd
    rw [o.top] at b2
    exact st_first hfr b2 o.fr he b1 b3 hd h1 fun h' hh up => fin (by rw [o.top]; exact hh) up
  | fly hf =>
    rw [o.top] at hf
    exact st_note hfr o.fr hf fun h' hh up => fin (by rw [o.top]; exact hh) up
  | held hh =>
    exact st_again (fl := .none) o.fr hh.2.2.2 (fin hh (UpS.same _))
/-- flight set once more -/
theorem ExcAt.back {M : Model} {E' : Value → Shared → Prop} {H' : Hp} {e : Addr} {C : Value} {dd : Option Addr} {s' : Shared} {Q : Unit → Shared → Prop} (o : Own X) (x : ExcAt X H' e C dd s') (hx : ∃ B, HeldD B X.stack e C dd X.env.locals s'.heap ∧ Cov X.s₀.heap X.H₀ (frs X.stack) X.ex H' B)
    (h : ∀ s'', ExcAt X H' e C dd s'' → Q () s'') : wpAny M X.A (do
      if (← field (.ref e) 1) == .none then unsupported "frame.own-activation:exception-without-traceback"
      setFlight (.ref e) X.env.frame) Q E' s' := by
  obtain ⟨B, ⟨f1, f2, f3, f4⟩, c⟩ := hx
  obtain ⟨oe, vs, T, oT, ts, he, hcls, hd, h1, hnT, hTe, hT, hdT, h3⟩ := id f4
  refine wpAny_bind (wpAny_field he hd h1 ?_)
  rw [if_neg (show ¬ ((Value.ref T == Value.none) = true) from by simp)]
  rw [o.fr]
  refine st_flight (some X.env.locals) f1 f3 f4 fun h' k1 k2 k3 up => ?_
  obtain ⟨u, k⟩ := c.turn o.sub (frames_nf f3) f1 k1 up x.un x.hok o.old
  exact h _ ⟨x.os, x.bare, u, k, x.fe, B, c, .held ⟨k1, f2, k2, k3⟩⟩
theorem XE.passes {E : XK} (o : Own X) : PassesOwn (model X.prog X.w) X.A X.env (XE X E) := fun ev s' hx => by
  obtain ⟨e, C, dd, H', rfl, hE, x⟩ := hx
  exact x.note o fun s'' x'' hh => x''.back o hh fun s3 x3 => ⟨e, C, dd, H', rfl, hE, x3⟩
/-- the exception leaves the body -/
theorem ExcAt.leave {M : Model} {E' : Value → Shared → Prop} {H' : Hp} {e : Addr} {C : Value} {dd : Option Addr} {s' : Shared} {E : XK} (o : Own X) (hex : X.ex = []) (x : ExcAt X H' e C dd s') (hE : E C dd H') :
    wpAny M X.A (leaving X.env (.ref e)) (fun _ s'' => CX1 X.prog X.w X.outer X.H₀ X.s₀ E (.ref e) s'') E' s' := by
  unfold leaving
  refine wpAny_bind (x.note o fun s2 x2 ⟨B, ⟨f1, f2, f3, f4⟩, c⟩ => ?_)
  refine st_flight none f1 f3 f4 fun h' k1 k2 k3 up => ?_
  obtain ⟨u, k⟩ := c.turn o.sub (frames_nf f3) f1 k1 up x2.un x2.hok o.old
  rw [hex] at u c
  rw [o.top] at k2
  obtain ⟨_, _, k2⟩ := k2
  exact ⟨e, C, dd, H', rfl, hE, x2.os, x2.bare, u, k, x2.fe, B, ⟨k1, f2, k2, k3⟩, c.trk, fun b ob q n hb hx => c.old b ob q n (fun z => hb (o.old b ob q z)) hx, fun b ob q hb hx => c.all b ob q (fun z => hb (o.old b ob q z)) hx⟩
/-- an exception of a callee, in the caller's body -/
theorem ExcAt.come {pins : List (Addr × Obj)} {σ : St} {H : Hp} {s : Shared} {E : XK} {ev : Value} {s' : Shared} (o : Own X) (I : Inv X pins σ H s) (h : CX1 X.prog X.w X.stack H s E ev s') :
    ∃ (e : Addr) (C : Value) (dd : Option Addr) (H' : Hp), ev = .ref e ∧ E C dd H' ∧ ExcAt X H' e C dd s' := by
  obtain ⟨e, C, dd, H', rfl, hE, hos, hb, un, hok, fe, B, hf, c⟩ := h
  have neL : ∀ b ob, X.s₀.heap.get? b = some ob → b ≠ X.env.locals := fun b ob q => Nat.ne_of_lt (Nat.lt_of_lt_of_le (Heap.lt_size q) I.ok.above)
  refine ⟨e, C, dd, H', rfl, hE, hos.trans I.os, hb, ⟨fun b ob q n hb hx => ?_, fun b ob q n hb hx => ?_, fun b ob q n hx => ?_, fun b ob q hx => ?_, fun b xs q => un.tups b xs (I.base.tups b xs q), fun b ob u q => un.frzs b ob u (I.base.frzs b ob u q), fun b ps q => ?_⟩, hok, fe, B, ⟨c.trk, fun b ob q n hb hx => ?_, fun b ob q hb hx => ?_⟩, .fly hf⟩
  · refine un.keep b ob (I.base.keep b ob q n hb hx) (I.base.free b ob q n hx) (fun z => ?_) (by simp)
    exact hb (o.old b ob q z)
  · obtain ⟨sl, e1⟩ := I.base.slot b ob q n hb hx
    obtain ⟨sl', e2⟩ := un.any e1 (I.base.free b ob q n hx) (by simp)
    exact ⟨sl', e2⟩
  · obtain ⟨o', e1⟩ := I.base.there b ob q hx
    exact un.free b o' e1 (I.base.free b ob q n hx) (by simp)
  · obtain ⟨o', e1⟩ := I.base.there b ob q hx
    exact un.there b o' e1 (by simp)
  · obtain ⟨m1, e1⟩ := I.base.tbls b ps q
    obtain ⟨m2, e2⟩ := un.tbls b _ e1
    exact ⟨m1 ++ m2, by rw [e2, Array.append_assoc]⟩
  · exact c.old b ob (I.base.keep b ob q n (fun z => hb (o.sub b z)) hx) (I.base.free b ob q n hx) hb (by simp)
  · obtain ⟨o', e1⟩ := I.base.there b ob q hx
    exact c.all b o' e1 hb (by simp)
end
end L2

set_option Elab.async false
set_option linter.all false
set_option maxRecDepth 100000
namespace L2
open PySem PySem.Spec PyProof.Rows

theorem PSs.wished {X : Cx} {E : Value → Shared → Prop} {st : List Stmt} {t : TS} (h : PSs (X.wish E) st t) (hE : X.Ok → ∀ ev s', E ev s' → X.xe ev s') : PSs X st t := fun pins s σ H D I hw =>
  wpAny_mono (h pins s σ H D (I.wish E) hw) (fun f s' q => q.unwish) fun ev s' q => hE I.ok ev s' q
section
variable {P : Program} {w : World} {K : PySem.W.Frag} {mg : Str → Option Value} {base : Heap}
/-- a def's body and what may leave it: E of every exception's class and heap -/
theorem Fun.okE {x qual : Str} {st : Stmt} {f : Addr} {fd : FuncData} {N ps : List Str} {k : Nat} {sp : Sp} {cm : Bool} (F : Fun K x qual st f fd) (S : FnScope N ps (defScope st)) (len : ∀ vs H Q E, sp vs H Q E → vs.length = ps.length)
    (hbody : ∀ (cdv : Value) (A : Around) (outer : List Env) (s : Shared) (H : Hp) (vs : List V) (Q : VK) (E : XK), Room k (A.deeper (envOfC qual (defScope st) s.heap.objs.size f cdv)) cm → sp vs H Q E →
      ∃ t, PSs ((cxOf (CX1 P w) P w K mg base N qual (defScope st) f cdv A outer s H E cm).wish (XE (cxOf (CX1 P w) P w K mg base N qual (defScope st) f cdv A outer s H E cm) E)) (defBody st) t ∧ t { nx := fun _ H' => Q .non H', rt := Q } (start N vs) H) : FnOk P w K mg base (CX1 P w) (k + 1) f fd ps sp cm := by
  obtain ⟨oc, od, kV, doc, pm, an, cdv, ct, osl, rfl, lk, hcd⟩ := F.ex
  refine fn_of lk hcd S len fun A outer s H vs Q E hr hsp => ?_
  obtain ⟨t, h, q⟩ := hbody cdv A outer s H vs Q E hr hsp
  refine ⟨t, h.wished fun ok ev s' hx => ?_, q⟩
  obtain ⟨e, C, dd, H', rfl, hE, x⟩ := hx
  exact ExcAt.leave (X := cxOf (CX1 P w) P w K mg base N qual (defScope st) f cdv A outer s H E cm) ⟨ok, rfl, rfl⟩ rfl x hE
end
/-- what a callee raises reaches this body's wish -/
theorem pass1 {X : Cx} {E E' : XK} (top : X.stack = X.env :: X.outer) (fr : X.env.frame = some X.env.locals) (h : ∀ C dd H', E' C dd H' → E C dd H') : Passes (CX1 X.prog X.w) (X.wish (XE X E)) E' := fun pins σ H s e s' I hx => by
  obtain ⟨e, C, dd, H', rfl, hE, x⟩ := ExcAt.come (X := X) ⟨I.unwish.ok, top, fr⟩ I.unwish hx
  exact ⟨e, C, dd, H', rfl, h C dd H' hE, x⟩
/-- the loops' condition -/
theorem own1 {X : Cx} {E : XK} (top : X.stack = X.env :: X.outer) (fr : X.env.frame = some X.env.locals) (ok : X.Ok) : PassesOwn (model (X.wish (XE X E)).prog (X.wish (XE X E)).w) (X.wish (XE X E)).A (X.wish (XE X E)).env (X.wish (XE X E)).xe := XE.passes (X := X) ⟨ok, top, fr⟩

/-! ### raise -/
theorem ObjOk.some {P : Program} {w : World} {H : Hp} {h : Heap} {a : Addr} {o : HO} (x : ObjOk P w H h a o) : ∃ ob, h.get? a = some ob := by
  induction o with
  | lst xs => obtain ⟨_, _, _, _, e⟩ := x; exact ⟨_, e⟩
  | tup xs => obtain ⟨_, _, _, ⟨ob, e, _⟩, _⟩ := x; exact ⟨_, e⟩
  | dK kvs => obtain ⟨_, _, _, _, o, _, _, e, _⟩ := x; exact ⟨_, e⟩
  | dT kvs => obtain ⟨_, _, _, _, o, _, _, e, _⟩ := x; exact ⟨_, e⟩
  | set S n => obtain ⟨ob, _, _, _, e, _⟩ := x; exact ⟨_, e⟩
  | ins C dx fs => obtain ⟨_, _, _, e, _⟩ := x; exact ⟨_, e⟩
  | own y => exact x
  | xd fs => obtain ⟨_, ⟨ob, _, _, e, _⟩, _⟩ := x; exact ⟨_, e⟩
  | rng lo hi => obtain ⟨_, _, _, e⟩ := x; exact ⟨_, e⟩
  | frz ob u _ => exact ⟨_, x.1⟩
  | tbl ps => exact ⟨_, x⟩
  | met f y => exact ⟨_, x⟩
  | ext φ => exact x.2.1
/-- an exception just made -/
theorem ExcAt.made {X : Cx} {pins : List (Addr × Obj)} {σ : St} {H : Hp} {s : Shared} {h' : Heap} {e : Addr} {C : Value} {args : List Value} (I : Inv X pins σ H s) (m : Heap.MadeExcOf s.heap h' e C args) : ExcAt X H e C none { s with heap := h' } := by
  obtain ⟨t, he, htn, ht⟩ := m.there
  have k : ∀ b ob, s.heap.get? b = some ob → h'.get? b = some ob := m.keeps
  have hnone : H e = none := by
    cases q : H e with
    | none => rfl
    | some u =>
      obtain ⟨ob, e1⟩ := (I.hok e u q).some
      rw [m.new] at e1
      cases e1
  have sub : ∀ b, b ∉ frs X.stack → b ∉ X.fs := fun b hb z => by
    rcases I.ok.stk with e | ⟨e, hf⟩
    · rw [e] at hb; exact hb z
    · rw [e] at hb
      unfold frs at hb
      rw [List.filterMap_cons, hf] at hb
      exact hb (List.mem_cons_of_mem _ z)
  refine ⟨I.os, I.bare, I.base.trans (Un.kept k), I.hok.kept k, hnone, PySem.W.hideAll s.heap (frs X.stack), ⟨fun b u q => ?_, fun b ob q n hb hx => ?_, fun b ob q hb hx => ?_⟩, ?_⟩
  · obtain ⟨ob, e1⟩ := (I.hok b u q).some
    exact ⟨ob, PySem.W.hideAll_get _ e1 fun z => by rw [I.stkFree b z] at q; cases q⟩
  · exact PySem.W.hideAll_get _ (I.base.keep b ob q n (sub b hb) hx) hb
  · obtain ⟨o', e1⟩ := I.base.there b ob q hx
    exact ⟨o', PySem.W.hideAll_get _ e1 hb⟩
  · refine .made _ _ (fun b ob q => k b ob (PySem.W.of_hideAll _ q)) ?_ ?_ he rfl rfl rfl rfl
    · refine (PySem.W.funFrames_hide I.stack fun env hm a ha => List.mem_filterMap.mpr ⟨env, hm, ha⟩).of_keeps fun b ob q _ => ⟨ob, k b ob q, rfl⟩
    · cases q : (PySem.W.hideAll s.heap (frs X.stack)).get? e with
      | none => rfl
      | some ob => have := PySem.W.of_hideAll _ q; rw [m.new] at this; cases this
/-- an own exception class beneath ValueError, without an __init__ along the way -/
def bmV : List Value := [.type "ValueError", .type "Exception", .type "BaseException", .type "object"]
structure ExcC (K : PySem.W.Frag) (C : Addr) : Prop where
  inn : PySem.W.excIn K C bmV "ValueError.__new__" = true
  kp : PySem.W.keepIn K (.ref C) = true
theorem ExcC.obj {K : PySem.W.Frag} {C : Addr} {h : Heap} (c : ExcC K C) (X : K.In h) : ∃ (bm : List Value) (N : Addr) (nm q : Str) (bs : List Value) (hdct : Bool) (sn : List Str) (sub : List Value) (ab : Bool) (col : Option Bool) (dd : Option Addr) (k0 k1 k2 k3 k5 : Option Value) (mN : Str → Option Value),
    h.get? C = some (excClassObj nm q C N bs bm hdct sn sub ab col dd k0 k1 k2 k3 k5 "ValueError.__new__") ∧ h.Ns N mN ∧ mN "__init__" = none ∧ OwnTail h bmV bm ∧ K.lookup C = some (excClassObj nm q C N bs bm hdct sn sub ab col dd k0 k1 k2 k3 k5 "ValueError.__new__") := by
  have q := c.inn
  unfold PySem.W.excIn at q
  split at q
  · rename_i dd cd sl ho
    split at q
    · rename_i C' bm k0 k1 k2 k3 n k5 hm hs
      simp only [Bool.and_eq_true, beq_iff_eq, Bool.not_eq_true'] at q
      obtain ⟨⟨⟨⟨⟨rfl, rfl⟩, hdel⟩, ht⟩, hok⟩, hni⟩ := q
      obtain ⟨nm, bs, mro, ns, qn, hd, sn, sub, ab, col, del⟩ := cd
      dsimp only at hm hdel hok hni
      subst hm hdel
      have hsl : sl = #[k0, k1, k2, k3, some (.builtin "ValueError.__new__"), k5] := by
        obtain ⟨l⟩ := sl
        simp only at hs
        rw [hs]
      subst hsl
      exact ⟨bm, ns, nm, qn, bs, hd, sn, sub, ab, col, dd, k0, k1, k2, k3, k5, _, X _ _ ho, .of_isNs (PySem.W.isNs_of_in X hok), PySem.W.nsMap_none_of_in X hok hni, PySem.W.tail_of_in X ht, ho⟩
    · cases q
  · cases q
/-- raise C(args) -/
def tRaise (C : Addr) (E : XK) (ta : TA) : TS := fun _ σ H => ta σ H fun vs H1 => vs.length ≤ sizeLine ∧ E (.ref C) none H1
theorem ps_raise {X : Cx} {E : XK} {C : Addr} {x : Str} {a : Expr} {args : List Expr} {np cpos pos : Pos} {ta : TA} (hc : X.calm = true) (c : ExcC X.K C) (hg : Gl (X.wish (XE X E)) x) (hm : X.mg x = some (.ref C)) (ha : PA (X.wish (XE X E)) (a :: args) ta)
    (hd : (x == ("__debug__" : Str)) = false := by decide) (he : starEach (a :: args) X.env = (false, eval a X.env) :: starEach args X.env := by rfl) (hplain : (backTo cpos (starEach args X.env)).any (·.1) = false := by rfl) :
    PS (X.wish (XE X E)) (.Raise (some (.Call (.Name x np) (a :: args) [] cpos)) none pos) (tRaise C E ta) := by
  intro pins s σ H D I hw
  obtain ⟨bm, N, nm, q, bs, hdct, sn, sub, ab, col, dd, k0, k1, k2, k3, k5, mN, hC, hn, hni, hT, hlk⟩ := c.obj I.ok.mod.kin
  have hpl : (backTo cpos (starEach (a :: args) X.env)).any (·.1) = false := by
    rw [he]
    show (false || (backTo cpos (starEach args X.env)).any (·.1)) = false
    rw [hplain]; rfl
  refine wpAny_Raise_call_subU (C := C) (mN := mN) (nm := nm) (q := q) (N := N) (bs := bs) (hdct := hdct) (sn := sn) (sub := sub) (ab := ab) (col := col) (dd := dd) (k0 := k0) (k1 := k1) (k2 := k2) (k3 := k3) (k5 := k5) (bmB := bmV) PySem.F.excBase_ValueError (by decide) PySem.F.excBase_ValueError (hT.hasType (by decide)) (I.ok.hd hc) hpl hni ?_
  refine ld_glob I hg hm ⟨rfl, ?_⟩ hd
  have hA := ha cpos pins s σ H _ I hw
  rw [show (X.wish (XE X E)).env = X.env from rfl, he] at hA
  rw [he]
  refine Calls.evalArgs_plain (thn hA fun us s1 ⟨vs, H1, I1, r, hl, hE⟩ => ?_)
  have kb : ∀ b ob, X.base.get? b = some ob → s1.heap.get? b = some ob := I1.bk
  exact ⟨rfl, by rw [← r.length]; exact hl, kb _ _ hC, hn.keeps kb, hT.keeps kb, fun h' e m => ⟨e, .ref C, none, H1, rfl, hE, ExcAt.made I1.unwish m⟩⟩
end L2

set_option Elab.async false
set_option linter.all false
set_option maxRecDepth 100000
namespace L2
open PySem PySem.Spec PyProof.Rows

/-! ### an exception that has landed: noted here, its flight ended -/
section
variable {X : Cx} {pins : List (Addr × Obj)} {σ : St} {H H' : Hp} {s s3 : Shared} {e : Addr} {C : Value} {dd : Option Addr}
end

/-! ### within the suite: the exception is marked -/
section
variable {X : Cx} {pins : List (Addr × Obj)} {σ : St} {H : Hp} {s : Shared} {e : Addr}
end
end L2

set_option Elab.async false
set_option linter.all false
set_option maxRecDepth 100000
namespace L2
open PySem PySem.Spec PyProof.Rows PySem.W PySem.Calls PySem.Builtin PySem.Builtin.ObjectAttr PySem.Builtin.Getset_descriptor

/-! ### isinstance of an exception: only its class is known -/
/-- what the fragment says of an own class whose instances have no dict yet -/
structure ClsE (K : Frag) (D : Addr) : Prop where
  ga : findIn K (.ref D) "__getattribute__" = some (some (.builtin "BaseException.__getattribute__"))
  gn : findIn K (.ref D) "__getattr__" = some none
  fd : findIn K (.ref D) "__class__" = some (some (.builtin "object.__class__"))
  sp : specialIn K (.builtin "object.__class__") "__get__" = some (some (.builtin "getset_descriptor.__get__"))
  tk : takesIn K (.builtin "object.__class__") = some true
  ob : mroIn K D (.type "object") = some true
  be : mroIn K D (.type "BaseException") = some true
/-! ### which classes an except clause takes -/
end L2

set_option Elab.async false
set_option linter.all false
set_option maxRecDepth 100000
namespace L2
open PySem PySem.Spec PyProof.Rows PySem.W

/-! ### try: f(..) except S as n: suite -/
section
variable {X : Cx} {k : Nat} {f : Addr} {fd : FuncData} {ps : List Str} {sp : Sp} {dvs : List V} {ds : List Value} {x : Str} {p pos : Pos} {e : Expr} {es : List Expr} {t : TA} {cm : Bool}
end
end L2

set_option Elab.async false
set_option linter.all false
set_option maxRecDepth 100000
namespace L2
open PySem PySem.Spec PyProof.Rows PySem.W
/-- with the context's facts at hand -/
theorem ps_ok {X : Cx} {st : Stmt} {t : TS} (h : X.Ok → PS X st t) : PS X st t := fun pins s σ H D I hw => h I.ok pins s σ H D I hw
/-- a callee that may raise, called where it doesn't -/
theorem pass01 {X : Cx} {P : Program} {w : World} : Passes (CX1 P w) X E0 := fun _ _ _ _ _ _ _ ⟨_, _, _, _, _, h, _⟩ => h.elim
theorem ownE {X : Cx} {E : XK} (ok : (X.wish (XE X E)).Ok) (top : X.stack = X.env :: X.outer := by rfl) (fr : X.env.frame = some X.env.locals := by rfl) : PassesOwn (model (X.wish (XE X E)).prog (X.wish (XE X E)).w) (X.wish (XE X E)).A (X.wish (XE X E)).env (X.wish (XE X E)).xe := own1 top fr ok.unwish
theorem passE {X : Cx} {E : XK} (top : X.stack = X.env :: X.outer := by rfl) (fr : X.env.frame = some X.env.locals := by rfl) : Passes (CX1 X.prog X.w) (X.wish (XE X E)) E := pass1 top fr fun _ _ _ h => h
end L2

set_option Elab.async false
set_option linter.all false
set_option maxRecDepth 100000
namespace L2
open PySem PySem.Spec PyProof.Rows

/-! ### zip(a, b) walked by a tuple target -/
def itName : Bool → String
  | true => "tuple_iterator"
  | false => "list_iterator"
/-- an iterator over a tuple (k = true) or a list -/
def IterAt (k : Bool) (h : Heap) (it l : Addr) (i : Nat) : Prop := ∃ o, h.get? it = some o ∧ o.cls = .type (itName k) ∧ o.data = .fields #[.ref l, .int i 0]
def SeqIs (k : Bool) (h : Heap) (l : Addr) (items : Array Value) : Prop :=
  match k with
  | true => h.IsTuple l items
  | false => h.IsList l items
theorem IterAt.kept {k : Bool} {h h' : Heap} {it l : Addr} {i : Nat} (x : IterAt k h it l i) (f : ∀ o, h.get? it = some o → h'.get? it = some o) : IterAt k h' it l i :=
  let ⟨o, e, r⟩ := x; ⟨o, f o e, r⟩
theorem IterAt.lt {k : Bool} {h : Heap} {it l : Addr} {i : Nat} (x : IterAt k h it l i) : it < h.objs.size := let ⟨_, e, _⟩ := x; Heap.lt_size e
theorem SeqIs.kept {k : Bool} {h h' : Heap} {l : Addr} {items : Array Value} (x : SeqIs k h l items) (f : ∀ o, h.get? l = some o → h'.get? l = some o) : SeqIs k h' l items := by
  cases k
  · obtain ⟨o, e, r⟩ := x; exact ⟨o, f o e, r⟩
  · obtain ⟨o, e, r⟩ := x; exact ⟨o, f o e, r⟩
theorem SeqIs.lt {k : Bool} {h : Heap} {l : Addr} {items : Array Value} (x : SeqIs k h l items) : l < h.objs.size := by
  cases k
  · obtain ⟨o, e, _⟩ := x; exact Heap.lt_size e
  · obtain ⟨o, e, _⟩ := x; exact Heap.lt_size e
section
variable {prog : Program} {w : World} {A : Around} {E : Value → Shared → Prop} {s : Shared}
theorem nextOf_tup {it l : Addr} {i : Nat} {items : Array Value} {Q : Value → Shared → Prop} (hit : s.heap.IsTupleIter it l i) (ht : s.heap.IsTuple l items)
    (h : match items[i]? with
      | some x => ∀ h', h'.IsTupleIter it l (i + 1) → Heap.SameBut it s.heap h' → Q x { s with heap := h' }
      | none => A.handled = none ∧ ∀ h' e, Heap.ExtBut it s.heap h' → (∃ o, h'.get? e = some o ∧ o.cls = .type "StopIteration") → E (.ref e) { s with heap := h' }) :
    wpAny (model prog w) A (Builtin.SmallTypes.nextOf (.ref it)) Q E s := by
  obtain ⟨oi, e1, c1, d1⟩ := id hit
  obtain ⟨ot, e2, _, m2, d2⟩ := ht
  unfold Builtin.SmallTypes.nextOf
  refine wpAny_bind (wpAny_callSpecial?_slot (name := Str.ofString "__next__") hit.typeIs F.slot_tuple_iterator_next (wpAny_call_entry F.slot_tuple_iterator_next hit.typeIs F.entry_tuple_iterator_next ?_ (F.args_tuple_iterator_next_1 _)))
  show wpAny _ _ (field (.ref it) 0 >>= _) _ _ s
  refine wpAny_bind (wpAny_field e1 d1 (x := .ref l) rfl ?_)
  show wpAny _ _ (if (Value.ref l == Value.none) = true then _ else _) _ _ s
  rw [if_neg (show ¬ ((Value.ref l == Value.none) = true) from Bool.false_ne_true)]
  show wpAny _ _ (field (.ref it) 1 >>= _) _ _ s
  refine wpAny_bind (wpAny_field e1 d1 (x := .int i 0) rfl ?_)
  show wpAny _ _ (seqItems? (.ref l) >>= _) _ _ s
  refine wpAny_bind (wpAny_seqItems e2 d2 ?_)
  cases hx : items[i]? with
  | some x =>
    rw [hx] at h
    simp only [Int.toNat_natCast, hx]
    refine wpAny_bind (wpAny_setField e1 d1 (by simp) (wpAny_pure ⟨x, rfl, wpAny_pure (h _ ?_ (Heap.SameBut.update ..))⟩))
    refine ⟨_, Heap.get?_update_self _ e1 (Obj.isFreed_of_fields (Obj.data_mapFields d1 _)), (Obj.cls_mapFields ..).trans c1, ?_⟩
    rw [Obj.data_mapFields d1]
    simp [rawInt]
  | none =>
    rw [hx] at h
    obtain ⟨hh, h⟩ := h
    simp only [Int.toNat_natCast, hx]
    refine wpAny_bind (wpAny_rule (wpAny_bind (wpAny_setField e1 d1 (by simp) ?_)))
    show wpAny _ _ (newExc (.type "StopIteration") [] >>= _) _ _ _
    refine wpAny_bind ?_
    simp only [newExc, newTuple]
    refine wpAny_bind (wpAny_newObj_type ?_ (by size_fits))
    refine wpAny_bind (m := firstArgMember _ _) (wpAny_of_eq (a := Value.none) (by first | rfl | (simp only [firstArgMember]; rfl)) ?_)
    refine wpAny_newObj_type ?_ (by size_fits)
    simp only [raiseNew]
    refine wpAny_bind (wpAny_handled ?_)
    first | rw [show A.in1.handled = none from hh] | rw [hh]
    exact wpAny_bind (wpAny_pure (wpAny_throw (h _ _ (((Heap.SameBut.update ..).extBut.push _).push _) ⟨_, Heap.get?_push_size _ rfl, rfl⟩)))
/-- the next one of a list's or tuple's iterator -/
theorem nextS {k : Bool} {it l : Addr} {i : Nat} {items : Array Value} {x : Value} {Q : Value → Shared → Prop} (hit : IterAt k s.heap it l i) (hl : SeqIs k s.heap l items) (hx : items[i]? = some x)
    (hQ : ∀ h', IterAt k h' it l (i + 1) → Heap.SameBut it s.heap h' → Q x { s with heap := h' }) : wpAny (model prog w) A (Builtin.SmallTypes.nextOf (.ref it)) Q E s := by
  cases k
  · exact wpAny_nextOf_list_item hit hl hx hQ
  · exact nextOf_tup hit hl (by rw [hx]; exact hQ)
theorem endS {k : Bool} {it l : Addr} {i : Nat} {items : Array Value} {Q : Value → Shared → Prop} (hh : A.handled = none) (hit : IterAt k s.heap it l i) (hl : SeqIs k s.heap l items) (hx : items[i]? = none)
    (hE : ∀ h' e, Heap.ExtBut it s.heap h' → (∃ o, h'.get? e = some o ∧ o.cls = .type "StopIteration") → E (.ref e) { s with heap := h' }) : wpAny (model prog w) A (Builtin.SmallTypes.nextOf (.ref it)) Q E s := by
  cases k
  · exact wpAny_nextOf_list_end hh hit hl hx hE
  · exact nextOf_tup hit hl (by rw [hx]; exact ⟨hh, hE⟩)
end
section
variable {prog : Program} {w : World} {A : Around} {E : Value → Shared → Prop} {s : Shared}
end
end L2

set_option Elab.async false
set_option linter.all false
set_option maxRecDepth 100000
namespace L2
open PySem PySem.Spec PyProof.Rows
section
variable {X : Cx} {pins : List (Addr × Obj)} {σ : St} {H : Hp} {s : Shared} {h' : Heap}
/-- untracked records of ours have turned -/
theorem Inv.turnedL {t' : Nat} {ch : List Addr} (I : Inv X pins σ H s) (hf : ∀ b ∈ ch, FpOk X pins H b) (k : ∀ b o, b ∉ ch → s.heap.get? b = some o → h'.get? b = some o) : Inv X pins σ H { s with heap := h', toks := t' } := by
  have nch : ∀ b u, H b = some u → b ∉ ch := fun b u e z => by rw [(hf b z).1] at e; cases e
  refine I.step (g' := s.gens) (d' := s.drawn) (ch := ch) (fun b hb => ⟨(hf b hb).2.2.2.1, (hf b hb).2.1, (hf b hb).2.2.2.2.1, (hf b hb).2.2.2.2.2⟩) (fun b o _ _ hc e _ => k b o hc e) (fun b o _ _ hc e _ => ⟨o.slots, k b o hc e⟩) (fun _ _ _ _ n => n)
    (fun b o hc e => ⟨o, k b o hc e⟩) (fun _ _ e => e) (fun _ _ _ e => e) (fun b ps e => ⟨#[], by rw [e]; simp⟩) (fun m hm => ?_) (fun b u e => ?_) I.bare
  · obtain ⟨o, es, ep, ho, r⟩ := hm
    exact ⟨o, es, ep, k _ o (fun z => (hf _ z).2.1 rfl) ho, r⟩
  · refine (I.hok b u e).stay (fun c v hc q => k c v ?_ q) (fun _ q => q) fun _ _ q => q
    rcases hc with z | z
    · rw [z]; exact nch b u e
    · exact nch c _ z
/-- .. and a new object is laid and tracked -/
theorem Inv.turnedN {t' : Nat} {ch : List Addr} {T : Addr} {o : HO} (I : Inv X pins σ H s) (hf : ∀ b ∈ ch, FpOk X pins H b) (k : ∀ b o, b ∉ ch → s.heap.get? b = some o → h'.get? b = some o) (hT : s.heap.objs.size ≤ T)
    (new : ObjOk X.prog X.w (upd H T o) h' T o) : Inv X pins σ (upd H T o) { s with heap := h', toks := t' } := by
  have nch : ∀ b u, H b = some u → b ∉ ch := fun b u e z => by rw [(hf b z).1] at e; cases e
  have hn : H T = none := I.hok.fresh hT
  refine I.step (g' := s.gens) (d' := s.drawn) (ch := ch) (fun b hb => ⟨(hf b hb).2.2.2.1, (hf b hb).2.1, (hf b hb).2.2.2.2.1, (hf b hb).2.2.2.2.2⟩) (fun b o _ _ hc e _ => k b o hc e) (fun b o _ _ hc e _ => ⟨o.slots, k b o hc e⟩)
    (fun b u _ e n => by rw [upd_ne (Nat.ne_of_lt (Nat.lt_of_lt_of_le (Heap.lt_size e) hT))]; exact n)
    (fun b o hc e => ⟨o, k b o hc e⟩) (fun b xs e => by rw [upd_ne (ne_of_none e hn)]; exact e) (fun b u xs e => by rw [upd_ne (ne_of_none e hn)]; exact e) (fun b ps e => ⟨#[], by rw [upd_ne (ne_of_none e hn), e]; simp⟩) (fun m hm => ?_) (fun b u e => ?_) I.bare
  · obtain ⟨o, es, ep, ho, r⟩ := hm
    exact ⟨o, es, ep, k _ o (fun z => (hf _ z).2.1 rfl) ho, r⟩
  · by_cases hb : b = T
    · subst hb; rw [upd_same] at e; cases e; exact new
    · rw [upd_ne hb] at e
      refine (I.hok b u e).stay (fun c v hc q => k c v ?_ q) (fun c q => by rw [upd_ne (ne_of_none q hn)]; exact q) fun c xs q => by rw [upd_ne (ne_of_none q hn)]; exact q
      rcases hc with z | z
      · rw [z]; exact nch b u e
      · exact nch c _ z
end
/-- a list or a tuple -/
def Sq (k : Bool) (K : PySem.W.Frag) (H : Hp) (a : Addr) (xs : List V) : Prop :=
  match k with
  | true => SqT K H a xs
  | false => SqL K H a xs
theorem Inv.sq {X : Cx} {pins : List (Addr × Obj)} {σ : St} {H : Hp} {s : Shared} {k : Bool} {a : Addr} {xs : List V} (I : Inv X pins σ H s) (h : Sq k X.K H a xs) : ∃ its : List Value, Vals xs its ∧ SeqIs k s.heap a its.toArray ∧ xs.length ≤ sizeLine := by
  cases k
  · obtain ⟨its, r, p, z⟩ := I.list h
    exact ⟨its, r, p.isList, z⟩
  · exact I.tuple h
theorem Inv.sq_inj {X : Cx} {pins : List (Addr × Obj)} {σ : St} {H : Hp} {s : Shared} {k : Bool} {a : Addr} {xs ys : List V} (I : Inv X pins σ H s) (h : Sq k X.K H a xs) (h' : Sq k X.K H a ys) : xs = ys := by
  cases k
  · exact I.list_inj h h'
  · exact I.tuple_inj h h'
theorem pair_ok {P : Program} {w : World} {H : Hp} {h : Heap} {T : Addr} {x y : V} {u v : Value} (r1 : RelV x u) (r2 : RelV y v) (e : IsPair h T u v) : ObjOk P w H h T (.tup [x, y]) := by
  refine ⟨by show 2 ≤ sizeLine; decide, [u, v], .cons r1 (.cons r2 .nil), ⟨_, e, rfl, _, rfl⟩, fun o q => ?_⟩
  rw [e] at q
  cases q
  rfl
section
variable {X : Cx} {elts : List Expr} {x1 : Nat} {tpos : Pos}
end
end L2

set_option Elab.async false
set_option linter.all false
set_option maxRecDepth 100000
namespace L2
open PySem PySem.Spec PyProof.Rows
/-! ### zip in a comprehension, in a loop -/
/-! ### max and min of ints, with a default or without -/
section
variable {prog : Program} {w : World} {A : Around} {E : Value → Shared → Prop} {s : Shared}
theorem call_tree_kw {id : String} {b : Builtin} {args : List Value} {kw : List (Str × Value)} {Q : Value → Shared → Prop} (hk : builtinKind id = none) (hp : plainId id = true) (hb : entryFor table id = some b) (ha : argsOk id ⟨args, kw⟩)
    (hc : wpAny (model prog w) A.in1 (b ⟨args, kw⟩) (fun fin s' => match fin with
      | .done f => (match (Except.ok f : Result) with | .ok (.ret v) => Q v s' | .ok _ => False | .error e => E e s')
      | .again c' => c'.quiet = true ∧ codeAny (model prog w) A c' (fun r s' => match r with | .ok (.ret v) => Q v s' | .ok _ => False | .error e => E e s') s') E s) : wpAny (model prog w) A (call (.builtin id) args kw) Q E s := by
  refine wpAny_call (codeAny_call_builtin hp hb ?_)
  simp only [checkBuiltinCall, hk]
  cases hsig : Manifest.signature? id with
  | none => exact wpAny_pure hc
  | some sig =>
    have ha' : Bind.checkArgs id sig ⟨args, kw⟩ = pure () := by simpa only [argsOk, hsig] using ha
    simp only [ha']
    exact wpAny_pure hc
end
theorem best_le {val : Nat → Int} : ∀ n j : Nat, j ≤ n → val j ≤ val (argBest (fun i j => decide (val i > val j)) n)
  | 0, j, h => by
    have : j = 0 := by omega
    subst this
    exact Int.le_refl _
  | n + 1, j, h => by
    unfold argBest
    by_cases c : val (n + 1) > val (argBest (fun i j => decide (val i > val j)) n)
    · simp only [decide_eq_true c, if_true]
      by_cases e : j = n + 1
      · rw [e]; exact Int.le_refl _
      · have := best_le (val := val) n j (by omega); omega
    · simp only [decide_eq_false c, Bool.false_eq_true, if_false]
      by_cases e : j = n + 1
      · rw [e]; omega
      · exact best_le n j (by omega)
theorem best_ge {val : Nat → Int} : ∀ n j : Nat, j ≤ n → val (argBest (fun i j => decide (val i < val j)) n) ≤ val j
  | 0, j, h => by
    have : j = 0 := by omega
    subst this
    exact Int.le_refl _
  | n + 1, j, h => by
    unfold argBest
    by_cases c : val (n + 1) < val (argBest (fun i j => decide (val i < val j)) n)
    · simp only [decide_eq_true c, if_true]
      by_cases e : j = n + 1
      · rw [e]; exact Int.le_refl _
      · have := best_ge (val := val) n j (by omega); omega
    · simp only [decide_eq_false c, Bool.false_eq_true, if_false]
      by_cases e : j = n + 1
      · rw [e]; omega
      · exact best_ge n j (by omega)
theorem best_lt (bt : Nat → Nat → Bool) : ∀ n : Nat, argBest bt n ≤ n
  | 0 => Nat.le_refl _
  | n + 1 => by
    unfold argBest
    split
    · exact Nat.le_refl _
    · exact Nat.le_trans (best_lt bt n) (Nat.le_succ n)

section
variable {prog : Program} {w : World} {A : Around} {R : Result → Shared → Prop} {I : Addr} {fp wr : List Addr} {n : Nat} {P : Nat → Value → Prop} {St : Nat → Heap → Prop}
end
section
variable {prog : Program} {w : World} {A : Around} {E : Value → Shared → Prop} {s : Shared}
end
section
variable {X : Cx}
def Ismax (m : Int) (ns : List Int) : Prop := m ∈ ns ∧ ∀ x ∈ ns, x ≤ m
theorem ismax_of {ns : List Int} (hn : 0 < ns.length) : Ismax (ns.getD (argBest (fun i j => decide (ns.getD i 0 > ns.getD j 0)) (ns.length - 1)) 0) ns := by
  have hb := best_lt (fun i j => decide (ns.getD i 0 > ns.getD j 0)) (ns.length - 1)
  have at' : ∀ j, j < ns.length → ns.getD j 0 = ns[j]! := fun j h => by simp [h]
  refine ⟨?_, fun x hx => ?_⟩
  · have hl : argBest (fun i j => decide (ns.getD i 0 > ns.getD j 0)) (ns.length - 1) < ns.length := by omega
    generalize argBest (fun i j => decide (ns.getD i 0 > ns.getD j 0)) (ns.length - 1) = k at hl
    have : ns.getD k 0 = ns[k] := by simp [hl]
    rw [this]
    exact List.getElem_mem hl
  · obtain ⟨j, hj, rfl⟩ := List.mem_iff_getElem.mp hx
    have h1 := best_le (val := fun i => ns.getD i 0) (ns.length - 1) j (by omega)
    have h2 : ns.getD j 0 = ns[j] := by simp [hj]
    rw [← h2]
    exact h1
/-- max(e), e a list of one int at least -/
theorem call_max_ints (hc : X.calm = true) : CallR X (.builtin "max") (fun xs H Q => ∃ (a : Addr) (ns : List Int), xs = [.ref a] ∧ SqL X.K H a (ns.map V.int) ∧ ns ≠ [] ∧ ∀ m, Ismax m ns → Q (.int m) H) := by
  intro pins s σ H xs us Q I r h
  obtain ⟨a, ns, rfl, hq, hne, q⟩ := h
  obtain ⟨u, rfl, ru⟩ := vals1 r
  cases ru
  have hh : X.A.in1.handled = none := I.ok.hd hc
  obtain ⟨its, rv, p, hz⟩ := I.list hq
  have hl := rv.length
  rw [List.length_map] at hl
  have hlt : a < s.heap.objs.size := by obtain ⟨_, e, _⟩ := p.isList; exact Heap.lt_size e
  have hn : 0 < ns.length := List.length_pos_iff.mpr hne
  refine call_max_walk (wpAny_pyIter_list p.isList ⟨_, _, _, _, _, _, _, rfl, Walks.list (A := X.A.in1) hh _ a (Nat.ne_of_lt hlt) its.toArray, ⟨⟨_, Heap.get?_push_size _ rfl, rfl, rfl⟩, p.isList.push _⟩, fun b hb => ?_, by rw [List.size_toArray, ← hl]; exact hn, CmpOf.ints_gt (fun i => ns.getD i 0) (vals_int_at rv), fun v h' tk p1 kk => ?_⟩)
  · show b < (s.heap.push _).objs.size
    rw [Heap.size_push]
    rcases List.mem_cons.mp hb with rfl | hb
    · exact Nat.lt_succ_self _
    · rcases List.mem_cons.mp hb with rfl | hb
      · exact Nat.lt_succ_of_lt hlt
      · cases hb
  · rw [List.size_toArray, ← hl] at p1
    obtain ⟨t, e⟩ := vals_int_at rv _ v p1
    exact ⟨.int _, H, I.kept fun b o e => kk b o (by simpa using Nat.ne_of_lt (Heap.lt_size e)) (Heap.get?_push_of_some _ e), ⟨t, e⟩, q _ (ismax_of hn)⟩
end

section
variable {prog : Program} {w : World} {A : Around} {R : Result → Shared → Prop} {I : Addr} {fp wr : List Addr} {n : Nat} {P : Nat → Value → Prop} {St : Nat → Heap → Prop}
theorem args_min_default (a v : Value) : argsOk "min" ⟨[a], [(Str.ofString "default", v)]⟩ := by unfold argsOk; kernel_rfl
theorem min_loopK {kw : List (Str × Value)} (W : Walks prog w A.in1 I fp wr n P St) (bt : Nat → Nat → Bool) (hc : CmpOf prog w A.in1 .Lt P bt) (S : Addr) (hSf : S ∉ fp) : ∀ (k j : Nat) (s : Shared) (vb : Value) (c : Nat), n - (j + 1) = k → j + 1 ≤ n → St (j + 1) s.heap → P (argBest bt j) vb →
    s.heap.get? S = some { cls := .type "list", dict := none, data := .seq #[vb, vb] c, slots := #[] } →
    (∀ v h' tk, P (argBest bt (n - 1)) v → (∀ b o, b ∉ wr → b ≠ S → s.heap.get? b = some o → h'.get? b = some o) → R (.ok (.ret v)) { s with heap := h', toks := tk }) →
    codeAny (model prog w) A (.builtin "min.loop" ⟨[.ref I, .none, .ref S], kw⟩) R s := by
  have hSw : S ∉ wr := fun h => hSf (W.sub _ h)
  have nm : (toString "min" ++ toString ".loop" : String) = "min.loop" := by decide
  intro k
  induction k with
  | zero =>
    intro j s vb c hk hj st hP hS hR
    have hn : j + 1 = n := by omega
    refine codeAny_builtin F.entry_min_loop ?_
    rw [Around.under_plainId F.plain_min_loop _]
    show wpAny _ A.in1 (seqItems? (.ref S) >>= _) _ _ s
    refine wpAny_bind (wpAny_seqItems hS rfl ?_)
    show wpAny _ A.in1 (tryCatch (pyNext (.ref I)) _ >>= _) _ _ s
    refine wpAny_bind (wpAny_tryCatch (W.done s _ _ (hn ▸ st) fun h' tk kk => ?_))
    have hS' := kk S _ hSw hS
    show wpAny _ A.in1 (updateSeq S (fun _ => #[]) >>= _) _ _ _
    refine wpAny_bind (wpAny_updateSeq hS' rfl (wpAny_bind (wpAny_letGo (wpAny_pure ?_))))
    exact hR vb _ tk (by rw [← hn]; exact hP) fun b o n1 n2 e => (Heap.get?_update_other _ _ (Ne.symm n2)).trans (kk b o n1 e)
  | succ k ih =>
    intro j s vb c hk hj st hP hS hR
    have hlt : j + 1 < n := by omega
    refine codeAny_builtin F.entry_min_loop ?_
    rw [Around.under_plainId F.plain_min_loop _]
    show wpAny _ A.in1 (seqItems? (.ref S) >>= _) _ _ s
    refine wpAny_bind (wpAny_seqItems hS rfl ?_)
    show wpAny _ A.in1 (tryCatch (pyNext (.ref I)) _ >>= _) _ _ s
    refine wpAny_bind (wpAny_tryCatch (W.item (j + 1) s _ _ hlt st fun v h' tk hPv st' kk => ?_))
    have hS' := kk S _ hSw hS
    show wpAny _ A.in1 (tryCatch (holding [v, v] (richCompare .Lt v vb >>= _)) _ >>= _) _ _ _
    refine wpAny_bind (wpAny_tryCatch (wpAny_holding (wpAny_bind (hc (j + 1) (argBest bt j) v vb _ _ _ hPv hP ?_))))
    refine wpAny_bind (wpAny_holding (wpAny_truthy_bool ?_))
    refine wpAny_bind (wpAny_letGo (wpAny_pure ?_))
    cases hb : bt (j + 1) (argBest bt j) with
    | true =>
      simp only [if_true]
      refine wpAny_bind (wpAny_updateSeq hS' rfl (wpAny_bind (wpAny_letGo ?_)))
      rw [nm]
      refine wpAny_pure ⟨plainId_quiet F.plain_min_loop _, ih (j + 1) _ v _ (by omega) hlt (W.frame _ _ _ st' fun b q o e => ?_) (by simp only [argBest, hb, if_true]; exact hPv) (Heap.get?_update_self _ hS' rfl) fun v2 h2 t2 p2 k2 => ?_⟩
      · exact (Heap.get?_update_other _ _ (fun h : S = b => hSf (by rw [h]; exact q))).trans e
      · exact hR v2 h2 t2 p2 fun b o n1 n2 e => k2 b o n1 n2 ((Heap.get?_update_other _ _ (Ne.symm n2)).trans (kk b o n1 e))
    | false =>
      simp only [Bool.false_eq_true, if_false]
      refine wpAny_bind (wpAny_letGo ?_)
      rw [nm]
      refine wpAny_pure ⟨plainId_quiet F.plain_min_loop _, ih (j + 1) _ vb c (by omega) hlt st' (by simp only [argBest, hb, Bool.false_eq_true, if_false]; exact hP) hS' fun v2 h2 t2 p2 k2 => ?_⟩
      exact hR v2 h2 t2 p2 fun b o n1 n2 e => k2 b o n1 n2 (kk b o n1 e)
/-- from an empty list on -/
theorem min_loop0 {d : Value} {s : Shared} {c : Nat} (W : Walks prog w A.in1 I fp wr n P St) (bt : Nat → Nat → Bool) (hc : CmpOf prog w A.in1 .Lt P bt) (S : Addr) (hSf : S ∉ fp) (st : St 0 s.heap)
    (hS : s.heap.get? S = some { cls := .type "list", dict := none, data := .seq #[] c, slots := #[] })
    (hR : ∀ v h' tk, (0 < n → P (argBest bt (n - 1)) v) → (n = 0 → v = d) → (∀ b o, b ∉ wr → b ≠ S → s.heap.get? b = some o → h'.get? b = some o) → R (.ok (.ret v)) { s with heap := h', toks := tk }) :
    codeAny (model prog w) A (.builtin "min.loop" ⟨[.ref I, .none, .ref S], [(Str.ofString "default", d)]⟩) R s := by
  have hSw : S ∉ wr := fun h => hSf (W.sub _ h)
  have nm : (toString "min" ++ toString ".loop" : String) = "min.loop" := by decide
  refine codeAny_builtin F.entry_min_loop ?_
  rw [Around.under_plainId F.plain_min_loop _]
  show wpAny _ A.in1 (seqItems? (.ref S) >>= _) _ _ s
  refine wpAny_bind (wpAny_seqItems hS rfl ?_)
  show wpAny _ A.in1 (tryCatch (pyNext (.ref I)) _ >>= _) _ _ s
  by_cases h0 : n = 0
  · refine wpAny_bind (wpAny_tryCatch (W.done s _ _ (h0 ▸ st) fun h' tk kk => ?_))
    show wpAny _ A.in1 (rule _ >>= _) _ _ _
    refine wpAny_bind (wpAny_rule (wpAny_pure ?_))
    exact hR d h' tk (fun z => absurd h0 (Nat.ne_of_gt z)) (fun _ => rfl) fun b o n1 _ e => kk b o n1 e
  · have hn : 0 < n := Nat.pos_of_ne_zero h0
    refine wpAny_bind (wpAny_tryCatch (W.item 0 s _ _ hn st fun v h' tk hPv st' kk => ?_))
    have hS' := kk S _ hSw hS
    show wpAny _ A.in1 (updateSeq S (fun _ => #[v, v]) >>= _) _ _ _
    refine wpAny_bind (wpAny_updateSeq hS' rfl ?_)
    rw [nm]
    refine wpAny_pure ⟨plainId_quiet F.plain_min_loop _, min_loopK W bt hc S hSf _ 0 _ v _ rfl hn (W.frame _ _ _ st' fun b q o e => ?_) hPv (Heap.get?_update_self _ hS' rfl) fun v2 h2 t2 p2 k2 => ?_⟩
    · exact (Heap.get?_update_other _ _ (fun h : S = b => hSf (by rw [h]; exact q))).trans e
    · exact hR v2 h2 t2 (fun _ => p2) (fun z => absurd z h0) fun b o n1 n2 e => k2 b o n1 n2 ((Heap.get?_update_other _ _ (Ne.symm n2)).trans (kk b o n1 e))
end
section
variable {prog : Program} {w : World} {A : Around} {E : Value → Shared → Prop} {s : Shared}
theorem call_min_default {x d : Value} {Q : Value → Shared → Prop}
    (h : wpAny (model prog w) A.in1 (pyIter x) (fun it s2 => ∃ I fp wr n P St bt, it = .ref I ∧ Walks prog w A.in1 I fp wr n P St ∧ St 0 s2.heap ∧ (∀ b ∈ fp, b < s2.heap.objs.size) ∧ CmpOf prog w A.in1 .Lt P bt ∧
      ∀ v h' tk, (0 < n → P (argBest bt (n - 1)) v) → (n = 0 → v = d) → (∀ b o, b ∉ wr → s2.heap.get? b = some o → h'.get? b = some o) → Q v { s2 with heap := h', toks := tk }) E s) :
    wpAny (model prog w) A (call (.builtin "min") [x] [(Str.ofString "default", d)]) Q E s := by
  have nm : (toString "min" ++ toString ".loop" : String) = "min.loop" := by decide
  refine call_tree_kw F.kind_min F.plain_min F.entry_min (args_min_default _ _) ?_
  show wpAny _ A.in1 (Builtin.Builtins.bindParams "min" ["key", "default"] 0 ⟨[], [(Str.ofString "default", d)]⟩ >>= _) _ _ s
  refine wpAny_bind (wpAny_of_eq (show Builtin.Builtins.bindParams "min" ["key", "default"] 0 ⟨[], [(Str.ofString "default", d)]⟩ = pure [none, some d] from rfl) ?_)
  refine wpAny_bind (wpAny_pure ?_)
  refine wpAny_bind (wpAny_mono h (fun it s2 h2 => ?_) fun _ _ e => e)
  obtain ⟨I, fp, wr, n, P, St, bt, rfl, W, st, hfp, hc, hQ⟩ := h2
  refine wpAny_bind (wpAny_newObj_type ?_)
  have hSf : s2.heap.objs.size ∉ fp := fun hm => Nat.lt_irrefl _ (hfp _ hm)
  rw [nm]
  refine wpAny_pure ⟨plainId_quiet F.plain_min_loop _, min_loop0 W bt hc s2.heap.objs.size hSf (W.frame _ _ _ st fun b _ o e => Heap.get?_push_of_some _ e) (Heap.get?_push_size _ rfl) fun v h' tk p1 p2 kk => ?_⟩
  exact hQ v h' tk p1 p2 fun b o n1 e => kk b o n1 (Nat.ne_of_lt (Heap.lt_size e)) (Heap.get?_push_of_some _ e)
end
section
variable {X : Cx}
def Ismin (m : Int) (ns : List Int) : Prop := m ∈ ns ∧ ∀ x ∈ ns, m ≤ x
theorem ismin_of {ns : List Int} (hn : 0 < ns.length) : Ismin (ns.getD (argBest (fun i j => decide (ns.getD i 0 < ns.getD j 0)) (ns.length - 1)) 0) ns := by
  have hb := best_lt (fun i j => decide (ns.getD i 0 < ns.getD j 0)) (ns.length - 1)
  have at' : ∀ j, j < ns.length → ns.getD j 0 = ns[j]! := fun j h => by simp [h]
  refine ⟨?_, fun x hx => ?_⟩
  · have hl : argBest (fun i j => decide (ns.getD i 0 < ns.getD j 0)) (ns.length - 1) < ns.length := by omega
    generalize argBest (fun i j => decide (ns.getD i 0 < ns.getD j 0)) (ns.length - 1) = k at hl
    have : ns.getD k 0 = ns[k] := by simp [hl]
    rw [this]
    exact List.getElem_mem hl
  · obtain ⟨j, hj, rfl⟩ := List.mem_iff_getElem.mp hx
    have h1 := best_ge (val := fun i => ns.getD i 0) (ns.length - 1) j (by omega)
    have h2 : ns.getD j 0 = ns[j] := by simp [hj]
    rw [← h2]
    exact h1
/-- the iterator of a list or tuple of ints, walked -/
theorem min_walkI {pins : List (Addr × Obj)} {σ : St} {H : Hp} {s : Shared} {k : Bool} {a : Addr} {ns : List Int} {E : Value → Shared → Prop} {d : Value} {Q : Value → Shared → Prop} (hc : X.calm = true) (I : Inv X pins σ H s) (hq : Sq k X.K H a (ns.map V.int))
    (h : ∀ h' tk v, (∀ b o, s.heap.get? b = some o → h'.get? b = some o) → (0 < ns.length → ∃ m t, v = .int m t ∧ Ismin m ns) → (ns.length = 0 → v = d) → Q v { s with heap := h', toks := tk }) :
    wpAny (model X.prog X.w) X.A (call (.builtin "min") [.ref a] [(Str.ofString "default", d)]) Q E s := by
  have hh : X.A.in1.handled = none := I.ok.hd hc
  obtain ⟨its, rv, p, hz⟩ := I.sq hq
  have hl := rv.length
  rw [List.length_map] at hl
  have hlt := p.lt
  have fin : ∀ (h' : Heap) (tk : Nat) (v : Value), (∀ b o, s.heap.get? b = some o → h'.get? b = some o) → (0 < its.toArray.size → its.toArray[argBest (fun i j => decide (ns.getD i 0 < ns.getD j 0)) (its.toArray.size - 1)]? = some v) → (its.toArray.size = 0 → v = d) → Q v { s with heap := h', toks := tk } := fun h' tk v kk p1 p2 => by
    rw [List.size_toArray, ← hl] at p1 p2
    refine h h' tk v kk (fun hn => ?_) p2
    obtain ⟨t, e⟩ := vals_int_at rv _ v (p1 hn)
    exact ⟨_, t, e, ismin_of hn⟩
  have apart : ∀ b ∈ [s.heap.objs.size, a], b < s.heap.objs.size + 1 := fun b hb => by
    rcases List.mem_cons.mp hb with rfl | hb
    · exact Nat.lt_succ_self _
    · rcases List.mem_cons.mp hb with rfl | hb
      · exact Nat.lt_succ_of_lt hlt
      · cases hb
  cases k
  · refine call_min_default (wpAny_pyIter_list p ⟨_, _, _, _, _, _, _, rfl, Walks.list (A := X.A.in1) hh _ a (Nat.ne_of_lt hlt) its.toArray, ⟨⟨_, Heap.get?_push_size _ rfl, rfl, rfl⟩, Heap.IsList.push p _⟩, fun b hb => ?_, CmpOf.ints_lt (fun i => ns.getD i 0) (vals_int_at rv), fun v h' tk p1 p2 kk => ?_⟩)
    · show b < (s.heap.push _).objs.size
      rw [Heap.size_push]
      exact apart b hb
    · exact fin h' tk v (fun b o e => kk b o (by simpa using Nat.ne_of_lt (Heap.lt_size e)) (Heap.get?_push_of_some _ e)) p1 p2
  · refine call_min_default (wpAny_pyIter_tuple p ⟨_, _, _, _, _, _, _, rfl, Walks.tuple (A := X.A.in1) hh _ a (Nat.ne_of_lt hlt) its.toArray, ⟨⟨_, Heap.get?_push_size _ rfl, rfl, rfl⟩, Heap.IsTuple.push p _⟩, fun b hb => ?_, CmpOf.ints_lt (fun i => ns.getD i 0) (vals_int_at rv), fun v h' tk p1 p2 kk => ?_⟩)
    · show b < (s.heap.push _).objs.size
      rw [Heap.size_push]
      exact apart b hb
    · exact fin h' tk v (fun b o e => kk b o (by simpa using Nat.ne_of_lt (Heap.lt_size e)) (Heap.get?_push_of_some _ e)) p1 p2
/-- min(e, default=d), e a list or tuple of ints -/
def rminD (K : PySem.W.Frag) (k : Bool) (x d : V) (H : Hp) (Q : VK) : Prop := ∃ a ns, x = .ref a ∧ Sq k K H a (ns.map V.int) ∧ ∀ v, ((ns = [] ∧ v = d) ∨ ∃ m, v = .int m ∧ Ismin m ns) → Q v H
def tminD (K : PySem.W.Frag) (k : Bool) (te td : TE) : TE := fun σ H Q => te σ H fun x H1 => td σ H1 fun d H2 => rminD K k x d H2 Q
theorem pe_minD (k : Bool) {e dE : Expr} {te td : TE} {p kp pos : Pos} (hc : X.calm = true) (hg : Gl X "min") (hm : X.mg "min" = none) (he : PE X e te) (hd : PE X dE td)
    (hse : starEach [e] X.env = [(false, eval e X.env)] := by rfl) : PE X (.Call (.Name "min" p) [e] [⟨some "default", dE, kp⟩] pos) (tminD X.K k te td) := by
  intro pins s σ H Q I h
  refine wpAny_Call_Name_kw (ld_blt I hg hm boot_min ?_ (by decide) (by decide))
  refine callWith_kw (thn (pa_cons he pa_nil hse pos pins s σ H (fun vs H1 => match vs with | [x] => td σ H1 fun d H2 => rminD X.K k x d H2 Q | _ => False) I h) fun us s1 ⟨vs, H1, I1, r1, q1⟩ => ?_) (by rw [hse]; rfl) (by rw [hse]; rfl)
  match vs, r1, q1 with
  | [x], r1, q =>
    obtain ⟨u, rfl, ru⟩ := vals1 r1
    refine kws_cons (thn (hd pins s1 σ H1 _ I1 q) fun dv s2 ⟨d, H2, I2, r2, q2⟩ => kws_nil ?_)
    obtain ⟨a, ns, rfl, hq, q3⟩ := q2
    cases ru
    show wpAny _ _ (call (.builtin "min") [.ref a] [(Str.ofString "default", dv)]) _ _ _
    refine min_walkI hc I2 hq fun h' tk v kk p1 p2 => ?_
    by_cases hn : 0 < ns.length
    · obtain ⟨m, t, rfl, hm⟩ := p1 hn
      exact ⟨.int m, H2, I2.kept kk, ⟨t, rfl⟩, q3 _ (.inr ⟨m, rfl, hm⟩)⟩
    · have e0 : ns.length = 0 := by omega
      rw [p2 e0]
      exact ⟨d, H2, I2.kept kk, r2, q3 _ (.inl ⟨List.length_eq_zero_iff.mp e0, rfl⟩)⟩
end
end L2

set_option Elab.async false
set_option linter.all false
set_option maxRecDepth 100000
namespace L2
open PySem PySem.Spec PyProof.Rows
/-! ### a tuple times an int of two at least -/
/-- a tuple as a comprehension's target -/
theorem pg_tupC {X : Cx} {scope : Scope} {N : List Str} {C : Addr} {s : Shared} {H : Hp} {ex : List Addr} {es : List Expr} {k : Nat} {t : TGs} {pos : Pos} (n : Nat) (hc : X.calm = true) (h : PGs (cxC X scope N C s H ex) es t)
    (hn : (assignEach es (cxC X scope N C s H ex).env).length = n) (hst : (assignEach es (cxC X scope N C s H ex).env).findIdx? (·.1) = none) : PG (cxC X scope N C s H ex) (.Tuple es k pos) (gTup X.K n t) := pg_tup hc h hn hst
end L2

set_option Elab.async false
set_option linter.all false
set_option maxRecDepth 100000
namespace L2
open PySem PySem.Spec PyProof.Rows

/-! ### lists of pairs as tables -/
section
variable {κ : Type} [DecidableEq κ]
def valV (kvs : List (κ × V)) (k : κ) : Option V := (kvs.find? fun kv => decide (kv.1 = k)).map (·.2)
/-- in its place, or at the end -/
def putK (kvs : List (κ × V)) (k : κ) (v : V) : List (κ × V) :=
  if (kvs.any fun kv => decide (kv.1 = k)) = true then kvs.map (fun kv => if kv.1 = k then (kv.1, v) else kv) else kvs ++ [(k, v)]
theorem valV_pos {p : κ × V} {r : List (κ × V)} {k : κ} (e : p.1 = k) : valV (p :: r) k = some p.2 := by simp [valV, List.find?_cons, e]
theorem valV_neg {p : κ × V} {r : List (κ × V)} {k : κ} (e : ¬ p.1 = k) : valV (p :: r) k = valV r k := by simp [valV, List.find?_cons, e]
theorem valV_any (k : κ) : ∀ kvs : List (κ × V), (kvs.any fun kv => decide (kv.1 = k)) = (valV kvs k).isSome
  | [] => rfl
  | p :: r => by
    rw [List.any_cons]
    by_cases e : p.1 = k
    · simp only [valV_pos e, decide_eq_true e, Bool.true_or, Option.isSome_some]
    · rw [valV_neg e, decide_eq_false e, Bool.false_or]; exact valV_any k r
theorem length_putK (kvs : List (κ × V)) (k : κ) (v : V) : (putK kvs k v).length ≤ kvs.length + 1 := by
  unfold putK
  split
  · rw [List.length_map]; omega
  · rw [List.length_append, List.length_cons, List.length_nil]; omega
theorem putK_new {kvs : List (κ × V)} {k : κ} (v : V) (h : valV kvs k = none) : putK kvs k v = kvs ++ [(k, v)] := by
  unfold putK
  rw [valV_any, h]
  exact if_neg (by decide)

theorem RelO.isSome_eq {o : Option V} {u : Option Value} (r : RelO o u) : o.isSome = u.isSome := by
  cases o with
  | none => cases u with
    | none => rfl
    | some _ => exact (show False from r).elim
  | some _ => cases u with
    | none => exact (show False from r).elim
    | some _ => rfl
theorem KV.any {kvs : List (κ × V)} {vs : List (κ × Value)} (r : KV kvs vs) (k : κ) : (kvs.any fun kv => decide (kv.1 = k)) = vs.any fun kv => decide (kv.1 = k) := by
  unfold KV at r
  induction r with
  | nil => rfl
  | cons h t ih => rw [List.any_cons, List.any_cons, ih, h.1]
theorem KV.repl {kvs : List (κ × V)} {vs : List (κ × Value)} (r : KV kvs vs) (k : κ) {y : V} {u : Value} (ry : RelV y u) :
    KV (kvs.map fun kv => if kv.1 = k then (kv.1, y) else kv) (vs.map fun kv => if kv.1 = k then (kv.1, u) else kv) := by
  unfold KV at r ⊢
  induction r with
  | nil => exact .nil
  | @cons p q ps qs h t ih =>
    rw [List.map_cons, List.map_cons]
    refine .cons ?_ ih
    obtain ⟨h1, h2⟩ := h
    by_cases e : p.1 = k
    · rw [if_pos e, if_pos (h1.symm.trans e)]; exact ⟨h1, ry⟩
    · rw [if_neg e, if_neg (fun z => e (h1.trans z))]; exact ⟨h1, h2⟩
theorem KV.put {kvs : List (κ × V)} {vs : List (κ × Value)} (r : KV kvs vs) (k : κ) {y : V} {u : Value} (ry : RelV y u) : KV (putK kvs k y) (stored vs k u) := by
  unfold putK stored
  rw [r.any k]
  by_cases e : (vs.any fun kv => decide (kv.1 = k)) = true
  · rw [if_pos e, if_pos e]; exact r.repl k ry
  · rw [if_neg e, if_neg e]; exact Paired.snoc r ⟨rfl, ry⟩
theorem KV.length {kvs : List (κ × V)} {vs : List (κ × Value)} (r : KV kvs vs) : kvs.length = vs.length := Paired.length r
end


/-! ### a tracked dict, its keys ints and texts or tuples of these -/
theorem kV_is {P : Program} {w : World} {k : Key} {u : Value} (r : RelV (kV k) u) : (mixKind P w).is k u = true := by
  cases k with
  | inl i => obtain ⟨t, e⟩ := (show ∃ t, u = Value.int i t from r); subst e; exact mixKind_int P w i t
  | inr x => obtain ⟨t, e⟩ := (show ∃ t, u = Value.str x t from r); subst e; exact mixKind_str P w x t
theorem items_are {P : Program} {w : World} : ∀ {ks : List Key} {us : List Value}, Vals (ks.map kV) us → ItemsAre (mixKind P w) ks us
  | [], _, r => by rw [List.map_nil] at r; cases r; exact .nil
  | k :: ks, _, r => by
    rw [List.map_cons] at r
    cases r with
    | cons h t => exact .cons (kV_is h) (items_are t)

/-- raw entries of a dict with tuple keys -/
abbrev KT (H : Hp) : List (List Key × V) → List (List Key × Addr × Value) → Prop := Paired fun p q => p.1 = q.1 ∧ H q.2.1 = some (.tup (p.1.map kV)) ∧ RelV p.2 q.2.2
theorem KT.val {H : Hp} {kvs : List (List Key × V)} {xs : List (List Key × Addr × Value)} (r : KT H kvs xs) (k : List Key) : RelO (valV kvs k) ((atKey xs k).map (·.2)) := by
  induction r with
  | nil => exact True.intro
  | @cons p q ps qs h t ih =>
    obtain ⟨h1, _, h2⟩ := h
    by_cases e : p.1 = k
    · have e' : q.1 = k := h1.symm.trans e
      have b : atKey (q :: qs) k = some q.2 := by simp [atKey, List.find?_cons, e']
      rw [valV_pos e, b]; exact h2
    · have e' : ¬ q.1 = k := fun z => e (h1.trans z)
      have b : atKey (q :: qs) k = atKey qs k := by simp [atKey, List.find?_cons, e']
      rw [valV_neg e, b]; exact ih
theorem KT.repl {H : Hp} {kvs : List (List Key × V)} {xs : List (List Key × Addr × Value)} (r : KT H kvs xs) (k : List Key) {y : V} {u : Value} (ry : RelV y u) :
    KT H (kvs.map fun kv => if kv.1 = k then (kv.1, y) else kv) (xs.map (putAt k u)) := by
  induction r with
  | nil => exact .nil
  | @cons p q ps qs h t ih =>
    rw [List.map_cons, List.map_cons]
    refine .cons ?_ ih
    obtain ⟨h1, h2, h3⟩ := h
    unfold putAt
    by_cases e : p.1 = k
    · rw [if_pos e, if_pos (h1.symm.trans e)]; exact ⟨h1, h2, ry⟩
    · rw [if_neg e, if_neg (fun z => e (h1.trans z))]; exact ⟨h1, h2, h3⟩
theorem KT.put {H : Hp} {kvs : List (List Key × V)} {xs : List (List Key × Addr × Value)} (r : KT H kvs xs) (k : List Key) {b : Addr} {y : V} {u : Value} (hb : H b = some (.tup (k.map kV))) (ry : RelV y u) :
    KT H (putK kvs k y) (storedH xs k b u) := by
  have e : (kvs.any fun kv => decide (kv.1 = k)) = (atKey xs k).isSome := by
    rw [valV_any, (r.val k).isSome_eq, Option.isSome_map]
  unfold putK storedH
  rw [e]
  by_cases q : (atKey xs k).isSome = true
  · rw [if_pos q, if_pos q]; exact r.repl k ry
  · rw [if_neg q, if_neg q]; exact Paired.snoc r ⟨rfl, hb, ry⟩
theorem KT.keeps {H H' : Hp} {kvs : List (List Key × V)} {xs : List (List Key × Addr × Value)} (r : KT H kvs xs) (ht : ∀ b ys, H b = some (.tup ys) → H' b = some (.tup ys)) : KT H' kvs xs :=
  Paired.mapP r fun _ _ z => ⟨z.1, ht _ _ z.2.1, z.2.2⟩

section
variable {P : Program} {w : World} {H : Hp} {h : Heap} {a : Addr}
theorem rd_of {u : HO} (ok : HOk P w H h) (e : Rd H a u) : ObjOk P w H h a u := e.ok ok
theorem dk_rd {kvs : List (Key × V)} (ok : HOk P w H h) (e : Rd H a (.dK kvs)) : kvs.length ≤ sizeLine ∧ (a == sysModules) = false ∧ ∃ vs, KV kvs vs ∧ h.DictOf (mixKind P w) a vs :=
  show ObjOk P w H h a (.dK kvs) from rd_of ok e
theorem dk_of {kvs : List (Key × V)} (ok : HOk P w H h) (e : H a = some (.dK kvs)) : kvs.length ≤ sizeLine ∧ (a == sysModules) = false ∧ ∃ vs, KV kvs vs ∧ h.DictOf (mixKind P w) a vs := dk_rd ok (.inl e)
/-- a tracked tuple of ints and texts is a key -/
theorem key_of {ks : List Key} (ok : HOk P w H h) (e : H a = some (.tup (ks.map kV))) : (tupleKind (mixKind P w)).is h ks a := by
  obtain ⟨_, its, r, ⟨o, h1, h2, n, h3⟩, _⟩ := (show ObjOk P w H h a (.tup (ks.map kV)) from ok a _ e)
  exact ⟨o, its.toArray, n, h1, h2, h3, by simpa using items_are r⟩
theorem dt_rd {kvs : List (List Key × V)} (ok : HOk P w H h) (e : Rd H a (.dT kvs)) : kvs.length ≤ sizeLine ∧ (a == sysModules) = false ∧
    ∃ xs, KT H kvs xs ∧ h.DictOfH (tupleKind (mixKind P w)) a xs := by
  obtain ⟨z, y, xs, r, o, es, ep, h1, h2, h3, h4, h5⟩ := (show ObjOk P w H h a (.dT kvs) from rd_of ok e)
  refine ⟨z, y, xs, r, o, es, ep, h1, h2, h3, h4, fun x hx => ?_, h5⟩
  have all : ∀ {l : List (List Key × V)} {m : List (List Key × Addr × Value)}, KT H l m → ∀ x ∈ m, (tupleKind (mixKind P w)).is h x.1 x.2.1 := by
    intro l m q
    induction q with
    | nil => intro x hx; exact nomatch hx
    | @cons p q ps qs hq t ih =>
      intro x hx
      rcases List.mem_cons.mp hx with e | hx
      · subst e
        exact key_of ok (by rw [← hq.1]; exact hq.2.1)
      · exact ih x hx
  exact all r x hx
theorem dt_of {kvs : List (List Key × V)} (ok : HOk P w H h) (e : H a = some (.dT kvs)) : kvs.length ≤ sizeLine ∧ (a == sysModules) = false ∧
    ∃ xs, KT H kvs xs ∧ h.DictOfH (tupleKind (mixKind P w)) a xs := dt_rd ok (.inl e)
end

/-- the heap behind a[y] = v -/
def DPut (H : Hp) (a : Addr) (y v : V) (H' : Hp) : Prop :=
  (∃ kvs k, H a = some (.dK kvs) ∧ y = kV k ∧ kvs.length < sizeLine ∧ H' = upd H a (.dK (putK kvs k v))) ∨
  ∃ kvs k b, H a = some (.dT kvs) ∧ y = .ref b ∧ H b = some (.tup (k.map kV)) ∧ kvs.length < sizeLine ∧ H' = upd H a (.dT (putK kvs k v))
theorem DPut.k {H : Hp} {a : Addr} {kvs : List (Key × V)} {k : Key} {v : V} (e : H a = some (.dK kvs)) (hl : kvs.length < sizeLine) : DPut H a (kV k) v (upd H a (.dK (putK kvs k v))) := .inl ⟨kvs, k, e, rfl, hl, rfl⟩
section
variable {X : Cx} {pins : List (Addr × Obj)} {σ : St} {H : Hp} {s : Shared} {a : Addr} {y v : V} {u r : Value} {o : Option V} {A : Around} {E : Value → Shared → Prop}

theorem Inv.big (I : Inv X pins σ H s) : sysModules < s.heap.objs.size := by
  have h : mainGlobals < s.heap.objs.size := (I.mod.glob.keeps I.bk).lt
  exact Nat.lt_trans (by decide) h

/-- a dict's object is replaced -/
theorem d_write {h' : Heap} {t' : Nat} {ob : HO} (I : Inv X pins σ H s) (mu : Mut (H a)) (hs : Heap.SameBut a s.heap h') (he : ∃ q, h'.get? a = some q) (new : ObjOk X.prog X.w (upd H a ob) h' a ob) :
    Inv X pins σ (upd H a ob) { s with heap := h', toks := t' } :=
  I.write (x := a) (e := a) mu (.inl rfl) (fun b q hb z => (hs.2 b hb).trans z) he new
theorem dk_new {P : Program} {w : World} {H' : Hp} {h' : Heap} {kvs : List (Key × V)} {vs : List (Key × Value)} (z : kvs.length ≤ sizeLine) (hd : (a == sysModules) = false) (rel : KV kvs vs) (dd : h'.DictOf (mixKind P w) a vs) :
    ObjOk P w H' h' a (.dK kvs) := ⟨z, hd, vs, rel, dd⟩
/-- d[y] = v -/
theorem d_setItem {H' : Hp} {Q : Unit → Shared → Prop} (hu : A.units + 1 < cLine) (I : Inv X pins σ H s) (g : DPut H a y v H') (ry : RelV y u) (rv : RelV v r) (h : ∀ s', Inv X pins σ H' s' → Q () s') :
    wpAny (model X.prog X.w) A (setItem (.ref a) u r) Q E s := by
  rcases g with ⟨kvs, k, e, ey, l, eH⟩ | ⟨kvs, k, b, e, ey, eb, l, eH⟩
  · subst ey eH
    obtain ⟨z, hd, vs, rel, dd⟩ := dk_of I.hok e
    have hz : vs.length ≤ sizeLine := by rw [← rel.length]; exact z
    have hl : (putK kvs k v).length ≤ sizeLine := by have := length_putK kvs k v; omega
    refine wpAny_setItem_pairs (hsz := hz) (kV_is ry) dd fun h' dd' hs => h _ ?_
    have he : ∃ q, h'.get? a = some q := let ⟨q, _, _, hq, _⟩ := dd'; ⟨q, hq⟩
    exact d_write I (by rw [e]; exact True.intro) hs he (dk_new hl hd (rel.put k rv) dd')
  · subst ey eH
    cases (show u = Value.ref b from ry)
    obtain ⟨z, hd, xs, rel, dd⟩ := dt_of I.hok e
    have hz : xs.length ≤ sizeLine := by rw [← Paired.length rel]; exact z
    have hl : (putK kvs k v).length ≤ sizeLine := by have := length_putK kvs k v; omega
    refine wpAny_setItem_heap (hsz := hz) (tupleKind_room_in1 hu) (key_of I.hok eb) dd fun h' dd' hs => h _ ?_
    obtain ⟨q, es, ep, hq, h2, h3, h4, _, h5⟩ := dd'
    refine d_write I (by rw [e]; exact True.intro) hs ⟨q, hq⟩ ⟨hl, hd, _, (rel.put k eb rv).keeps fun c ys ec => ?_, q, es, ep, hq, h2, h3, h4, h5⟩
    rw [upd_ne (ne_of ec e (fun z => nomatch z))]
    exact ec
end

section
variable {X : Cx} {pins : List (Addr × Obj)} {σ : St} {H : Hp} {s : Shared} {a : Addr} {kvs : List (Key × V)} {k : Key} {u : Value} {A : Around} {E : Value → Shared → Prop}
end


/-! ### readings and rules -/
/-- d[y] = v -/
def sDPut (td ty tv : TE) : TS := fun D σ H => tv σ H fun v H1 => td σ H1 fun x H2 => ty σ H2 fun y H3 => ∃ a H4, x = .ref a ∧ DPut H3 a y v H4 ∧ D.nx σ H4
section
variable {X : Cx} {o i e value : Expr} {pos pos' tpos : Pos} {td ty tv : TE}
theorem ps_dput (hu : X.A.units + 1 < cLine) (ho : PE X o td) (hi : PE X i ty) (hv : PE X value tv) (hs : swapsWith value (some (.Subscript o i pos')) pos.line X.env = pure false) :
    PS X (.Assign [.Subscript o i pos'] value pos) (sDPut td ty tv) := by
  intro pins s σ H D I h
  refine wpAny_Assign_Subscript (thn (hv pins s σ H _ I h) fun r s1 ⟨v, H1, I1, rv, q1⟩ => thn (ho pins s1 σ H1 _ I1 q1) fun u s2 ⟨x, H2, I2, rx, q2⟩ => thn (hi pins s2 σ H2 _ I2 q2) fun iv s3 ⟨y, H3, I3, ry, a, H4, ex, g, q3⟩ => ?_) hs
  subst ex
  obtain rfl : u = Value.ref a := rx
  exact d_setItem hu I3 g ry rv fun s4 I4 => ⟨σ, H4, I4, q3⟩
end


/-! ### displays -/
theorem dk_empty {P : Program} {w : World} {H : Hp} (h : Heap) (hb : sysModules < h.objs.size) : ObjOk P w H (h.push { cls := .type "dict", data := .dict #[] }) h.objs.size (.dK []) :=
  ⟨Nat.zero_le _, beq_eq_false_iff_ne.mpr (Ne.symm (Nat.ne_of_lt hb)), [], .nil, Heap.DictOf.new h⟩
/-- {}, to be a dict of the kind that is wanted -/
def tDNewK : TE := fun _ H Q => ∀ p, H p = none → Q (.ref p) (upd H p (.dK []))
section
variable {X : Cx} {pos : Pos}
theorem pe_dnewK : PE X (.Dict [] [] pos) tDNewK := fun pins s σ H Q I h =>
  wpAny_Dict_empty ⟨.ref s.heap.objs.size, _, I.laid (a := s.heap.objs.size) (o := .dK []) (t' := s.toks) (fun _ _ q => Heap.get?_push_of_some _ q) (Nat.le_refl _) (dk_empty s.heap I.big), rfl, h _ (I.hok.fresh (Nat.le_refl _))⟩
end

/-! ### methods -/
section
variable {X : Cx} {pins : List (Addr × Obj)} {σ : St} {H : Hp} {s : Shared} {a : Addr} {y d : V} {u r : Value} {o : Option V} {A : Around} {E : Value → Shared → Prop}
end

section
variable {X : Cx} {o e f : Expr} {apos cpos : Pos} {td ty tx : TE}
end

/-! ### dict(d): a copy -/
section
variable {X : Cx} {pins : List (Addr × Obj)} {σ : St} {H : Hp} {s : Shared} {a : Addr} {kvs : List (Key × V)} {A : Around} {E : Value → Shared → Prop}
end


section
variable {X : Cx} {pins : List (Addr × Obj)} {σ : St} {H : Hp} {s : Shared} {a : Addr} {y : V} {u : Value} {A : Around} {E : Value → Shared → Prop}
end
end L2
namespace L2
open PySem PySem.Spec PyProof.Rows
/-! ### a dict's pairs: keys that differ -/
section
variable {κ : Type} [DecidableEq κ]
theorem valV_not {kvs : List (κ × V)} {k : κ} (h : valV kvs k = none) : ¬ k ∈ kvs.map (·.1) := by
  intro m
  obtain ⟨p, hp, e⟩ := List.mem_map.mp m
  have q : (kvs.any fun kv => decide (kv.1 = k)) = true := List.any_eq_true.mpr ⟨p, hp, decide_eq_true e⟩
  rw [valV_any, h] at q
  exact absurd q (by simp)
theorem valV_in {kvs : List (κ × V)} {k : κ} {v : V} (h : valV kvs k = some v) : k ∈ kvs.map (·.1) := by
  have q : (kvs.any fun kv => decide (kv.1 = k)) = true := by
    rw [valV_any, h]
    all_goals rfl
  obtain ⟨p, hp, e⟩ := List.any_eq_true.mp q
  exact List.mem_map.mpr ⟨p, hp, of_decide_eq_true e⟩
end
end L2

set_option Elab.async false
set_option linter.all false
set_option maxRecDepth 100000
namespace L2
open PySem PySem.Spec PyProof.Rows
/-! ### sorted(d, reverse=b), d a dict whose keys are ints -/
theorem paired_of {α β : Type} {R : α → β → Prop} : ∀ {xs : List α} {ys : List β}, xs.length = ys.length → (∀ (j : Nat) x y, xs[j]? = some x → ys[j]? = some y → R x y) → Paired R xs ys
  | [], [], _, _ => .nil
  | x :: xs, y :: ys, hl, h => .cons (h 0 x y rfl rfl) (paired_of (by simpa using hl) fun j a b e1 e2 => h (j + 1) a b (by simpa using e1) (by simpa using e2))
theorem kv_keys {kvs : List (Key × V)} {vs : List (Key × Value)} (r : KV kvs vs) : vs.map (·.1) = kvs.map (·.1) := by
  unfold KV at r
  induction r with
  | nil => rfl
  | cons h _ ih => rw [List.map_cons, List.map_cons, ih, h.1]
section
variable {prog : Program} {w : World} {A : Around} {E : Value → Shared → Prop} {s : Shared}
theorem sorted_collected {x : Value} {ns : List Int} {b : Bool} {Q : Value → Shared → Prop} (h64 : ns.length < 64)
    (hc : ∀ (R : List Value → Shared → Prop), (∀ h' tk (vs : List Value), (∀ b o, s.heap.get? b = some o → h'.get? b = some o) → IntsAre vs ns → R vs { s with heap := h', toks := tk }) → wpAny (model prog w) A.in1 (collect x) R E s)
    (h : ∀ (out : List Value) (n : Nat) (h1 h' : Heap) (tk : Nat) (ns' : List Int), (∀ b o, s.heap.get? b = some o → h1.get? b = some o) → (∀ b o, h1.get? b = some o → h'.get? b = some o) → h'.get? h1.objs.size = some (seqObj "list" out.toArray n) → IntsAre out ns' → ns'.Perm ns → Ordered b ns' → Q (.ref h1.objs.size) { s with heap := h', toks := tk }) :
    wpAny (model prog w) A (call (.builtin "sorted") [x] [(Str.ofString "reverse", .bool b)]) Q E s := by
  refine call_function_entry_kw kind_sorted plain_sorted entry_sorted (args_sorted_rev _ _) ?_
  unfold Builtin.«sorted»
  refine wpAny_bind (m := checkCount "sorted" 1 1 _) (wpAny_pure ?_)
  refine wpAny_bind (hc _ fun h1 tk vs hk1 hI => ?_)
  have hlv : vs.length < 64 := by rw [← hI.length] at h64; exact h64
  refine wpAny_bind (wpAny_newList ?_ (Nat.le_trans (Nat.le_of_lt hlv) (by decide)))
  have hoL : (h1.push (seqObj "list" vs.toArray 0)).get? h1.objs.size = some (seqObj "list" vs.toArray 0) := Heap.get?_push_size _ rfl
  refine wpAny_bind (wpAny_holding (wpAny_call_entry_kw slot_list_sort ⟨_, hoL, rfl⟩ entry_list_sort (list_sort_tree_rev hoL hI hlv fun out ns' a1 a2 a3 => ⟨_, rfl, ?_⟩) (args_list_sort_rev _ _)))
  obtain ⟨e, he⟩ := sortedHeap_at (vs := vs) (out := out) hoL
  refine wpAny_pure ⟨_, rfl, h out.toList e h1 _ tk ns' hk1 (fun b o hb => ?_) he a1 a2 a3⟩
  have hlt := Heap.lt_size hb
  rw [sortedHeap_old (Nat.ne_of_lt hlt) (by rw [Heap.size_push]; exact Nat.lt_succ_of_lt hlt)]
  exact Heap.get?_push_of_some _ hb
end
section
variable {X : Cx}
def rSortD (b : Bool) : V → Hp → VK → Prop := fun x H Q => ∃ a kvs ns, x = .ref a ∧ H a = some (.dK kvs) ∧ kvs.map (·.1) = (ns : List Int).map Sum.inl ∧ ns.length < 64 ∧ ∀ ns' p, ns.Nodup → ns'.Perm ns → Ordered b ns' → H p = none → Q (.ref p) (upd H p (.lst (ns'.map V.int)))
def tSortD (b : Bool) (te : TE) : TE := fun σ H Q => te σ H fun x H1 => rSortD b x H1 Q
theorem pe_sortD {e : Expr} {te : TE} {b : Bool} {p kp cp pos : Pos} {j : Nat} (hcm : X.calm = true) (hg : Gl X "sorted") (hm : X.mg "sorted" = none) (he : PE X e te)
    (hse : starEach [e] X.env = [(false, eval e X.env)] := by rfl) : PE X (.Call (.Name "sorted" p) [e] [⟨some "reverse", .Constant (.bool b) j cp, kp⟩] pos) (tSortD b te) := by
  intro pins s σ H Q I h
  refine wpAny_Call_Name_kw (ld_blt I hg hm boot_sorted ?_ (by decide) (by decide))
  refine callWith_kw (thn (pa_cons he pa_nil hse pos pins s σ H (fun vs H1 => match vs with | [x] => rSortD b x H1 Q | _ => False) I h) fun us s1 ⟨vs, H1, I1, r1, q1⟩ => ?_) (by rw [hse]; rfl) (by rw [hse]; rfl)
  match vs, r1, q1 with
  | [x], r1, q =>
    obtain ⟨u, rfl, ru⟩ := vals1 r1
    refine kws_cons (Constant_bool (kws_nil ?_))
    obtain ⟨a, kvs, ns, rfl, hq, hks, hl, q⟩ := q
    cases ru
    show wpAny _ _ (call (.builtin "sorted") [.ref a] [(Str.ofString "reverse", .bool b)]) _ _ _
    have hh : X.A.in1.handled = none := I1.ok.hd hcm
    obtain ⟨hz, lo, ws, rel, o, es, ep, ho, hex, hd, hko, hpr, hnd⟩ := dk_of I1.hok hq
    have hkeys : ws.map (·.1) = ns.map Sum.inl := by rw [kv_keys rel, hks]
    have hlen : ws.length = ns.length := by
      have := congrArg List.length hkeys
      simpa using this
    have hdup : ns.Nodup := by
      rw [hkeys] at hnd
      exact (List.Pairwise.of_map (S := fun a b => a ≠ b) Sum.inl (fun a b h z => h (by rw [z])) hnd)
    refine sorted_collected hl (fun R hR => PySem.W.kdu_collect (A := X.A.in1) (PySem.W.kdl_dict (knd := mixKind X.prog X.w) (kvs := ws) (ep := ep) lo) hh ⟨o, es, ho, hex, hd, hko, hpr, hnd⟩ (by rw [hlen]; exact small64 hl) fun h' tk acc hk hacc => hR h' tk acc.toList hk ?_) fun out n h1 h' tk ns' k1 k2 e a1 a2 a3 => ?_
    · have hla : acc.toList.length = ns.length := by rw [Array.length_toList, hacc.1, hlen]
      refine intsAre_of (paired_of (by rw [List.length_map, hla]) fun j x y e1 e2 => ?_)
      obtain ⟨z, hz, rfl⟩ := map_at e1
      obtain ⟨kk, xx, hkk, his⟩ := hacc.2 j y (by rw [← Array.getElem?_toList]; exact e2)
      have e3 : (ws.map (·.1))[j]? = some kk := by rw [List.getElem?_map, hkk]; rfl
      rw [hkeys, List.getElem?_map, hz] at e3
      have e4 : Sum.inl z = kk := Option.some.inj e3
      subst e4
      rcases keyIs_shape (show keyIs (Sum.inl z) y = true from his) with ⟨i, t, e5, e6⟩ | ⟨i, t, e5, e6⟩
      · cases e5
        exact ⟨t, e6⟩
      · cases e5
    · have hz' : (ns'.map V.int).length ≤ sizeLine := by rw [List.length_map, a2.length_eq]; exact small64 hl
      have I2 : Inv X pins σ H1 { s1 with heap := h1 } := I1.kept (t' := s1.toks) k1
      exact ⟨.ref _, _, I2.laid (t' := tk) k2 (Nat.le_refl _) (show ObjOk X.prog X.w _ _ _ (.lst (ns'.map V.int)) from ⟨hz', out, n, vals_ints a1, by simpa [seqObj] using e⟩), rfl, q ns' _ hdup a2 a3 (I2.hok.fresh (Nat.le_refl _))⟩
end
end L2

set_option Elab.async false
set_option linter.all false
set_option maxRecDepth 100000
namespace L2
open PySem PySem.Spec PyProof.Rows
section
variable {X : Cx}
/-- t + u, whatever they hold -/
def rCatA (K : PySem.W.Frag) : R2 := fun x y H Q => ∃ a b xs ys, x = .ref a ∧ y = .ref b ∧ SqT K H a xs ∧ SqT K H b ys ∧ xs.length + ys.length ≤ sizeLine ∧
  (xs = [] → Q (.ref b) H) ∧ (xs ≠ [] → ys = [] → Q (.ref a) H) ∧ (xs ≠ [] → ys ≠ [] → ∀ p, H p = none → Q (.ref p) (upd H p (.tup (xs ++ ys))))
theorem op_catA : OpR X (binaryOp .Add) (rCatA X.K) := by
  intro pins s σ H x y v u Q I rx ry h
  obtain ⟨a, b, xs, ys, rfl, rfl, ha, hb, hz, q0, q1, q2⟩ := h
  by_cases hx : xs = []
  · cases rx
    cases ry
    obtain ⟨its, r1, p1, _⟩ := I.tuple ha
    obtain ⟨its2, r2, p2, _⟩ := I.tuple hb
    obtain ⟨⟨cls, dd, data, sl⟩, ho, hc, n, hd⟩ := id p1
    obtain ⟨⟨cls2, dd2, data2, sl2⟩, ho2, hc2, n2, hd2⟩ := id p2
    simp only at hc hd hc2 hd2
    subst hc hd hc2 hd2
    have e0 : its.toArray.isEmpty = true := by
      have := r1.nil_iff.mpr hx
      simp [this]
    exact concat_meets ⟨_, ho, rfl⟩ ⟨_, ho2, rfl⟩ noFill_tuple_add seq_tuple_add PySem.F.slot_tuple_add PySem.F.entry_tuple_add (PySem.F.args_tuple_add_2 _ _)
      (tuple_addW0 a b its.toArray its2.toArray n n2 dd dd2 sl sl2 e0) ⟨ho, ho2, ⟨.ref b, H, I, rfl, q0 hx⟩⟩
  · exact op_catT pins s σ H (.ref a) (.ref b) v u Q I rx ry ⟨a, b, xs, ys, rfl, rfl, ha, hb, hx, hz, q1 hx, q2 hx⟩
/-- range(n) as a value -/
def tRng1 (ta : TA) : TE := fun σ H Q => ta σ H fun vs H1 => ∃ j : Int, vs = [.int j] ∧ ∀ p, H1 p = none → Q (.ref p) (upd H1 p (.rng 0 j))
theorem pe_rng1 {a : Expr} {ta : TA} {p pos : Pos} (hg : Gl X "range") (hm : X.mg "range" = none) (ha : PA X [a] ta) (hs : starEach [a] X.env = [(false, eval a X.env)] := by rfl) : PE X (.Call (.Name "range" p) [a] [] pos) (tRng1 ta) := by
  intro pins s σ H Q I h
  refine Call_ (ld_blt I hg hm boot_range (PyProof.Rows.callWith_type1 (thn (ha pos pins s σ H _ I h) fun us s1 ⟨vs, H1, I1, r1, q1⟩ => ?_) hs rfl))
  obtain ⟨j, e, q⟩ := q1
  subst e
  cases r1 with
  | cons r rr =>
    cases rr
    obtain ⟨t, rfl⟩ := r
    refine call_range_1 ?_
    exact ⟨.ref _, _, I1.laid (o := .rng 0 j) (fun b o e => Heap.get?_push_of_some _ e) (Nat.le_refl _) ⟨_, _, _, Heap.get?_push_size _ rfl⟩, rfl, q _ (I1.hok.fresh (Nat.le_refl _))⟩
/-- list(r), r a range -/
theorem call_list_rng (hc : X.calm = true) : CallR X (.type "list") (fun xs H Q => ∃ (p : Addr) (hi : Int), xs = [.ref p] ∧ H p = some (.rng 0 hi) ∧ 0 ≤ hi ∧ hi ≤ 100000 ∧ ∀ l, H l = none → Q (.ref l) (upd H l (.lst (((List.range hi.toNat).map fun (k : Nat) => (k : Int)).map V.int)))) := by
  intro pins s σ H xs us Q I r h
  obtain ⟨p, hi, rfl, hq, h0, h1, q⟩ := h
  obtain ⟨u, rfl, ru⟩ := vals1 r
  cases ru
  obtain ⟨t1, t2, t3, e⟩ := I.hok p _ hq
  have hn : Builtin.Range.rangeSize 0 hi 1 = ((hi.toNat : Nat) : Int) := by rw [rangeSize_one]; split <;> omega
  refine call_list_range (I.ok.hd hc) e (small_one (by decide) (by decide) (by omega) (by omega)) hn (by omega) fun h' tk acc c kk hS hacc => ?_
  refine ⟨.ref _, _, I.laid (t' := tk) (o := .lst (((List.range hi.toNat).map fun (k : Nat) => (k : Int)).map V.int)) kk (Nat.le_refl _) ⟨?_, acc.toList, c, paired_of ?_ (fun j x y e1 e2 => ?_), by simpa using hS⟩, rfl, q _ (I.hok.fresh (Nat.le_refl _))⟩
  · rw [List.length_map, List.length_map, List.length_range]
    have : (100000 : Nat) ≤ sizeLine := by decide
    omega
  · rw [List.length_map, List.length_map, List.length_range, Array.length_toList, hacc.1]
  · obtain ⟨z, hz, rfl⟩ := map_at e1
    obtain ⟨tk, rfl⟩ := hacc.2 j y (by rw [← Array.getElem?_toList]; exact e2)
    rw [List.getElem?_map] at hz
    cases hr : (List.range hi.toNat)[j]? with
    | none => rw [hr] at hz; cases hz
    | some k =>
      rw [hr] at hz
      have ek : j = k := by
        obtain ⟨h1, h2⟩ := List.getElem?_eq_some_iff.mp hr
        rw [List.getElem_range] at h2
        exact h2
      have : (k : Int) = z := Option.some.inj hz
      refine ⟨tk, ?_⟩
      rw [← this, ← ek]
      simp
end
end L2

set_option Elab.async false
set_option linter.all false
namespace L2
/-! ### heaps turned about -/
def cntG (ns : List Int) (k : Int) : Nat := (ns.filter fun x => decide (k ≤ x)).length
def turn (ns : List Int) : List Int := (List.range (ns.headD 0).toNat).map fun (k : Nat) => ((cntG ns ((k : Int) + 1) : Nat) : Int)
end L2

set_option Elab.async false
set_option linter.all false
namespace L2
open PySem PySem.Spec PyProof.Rows
/-! ### tuples stay; lists of tuples of ints -/
def Tups (H H' : Hp) : Prop := ∀ b xs, H b = some (.tup xs) → H' b = some (.tup xs)
theorem Tups.trans {H H1 H2 : Hp} (a : Tups H H1) (b : Tups H1 H2) : Tups H H2 := fun c xs h => b c xs (a c xs h)
theorem Same.tups {H H' : Hp} (h : Same H H') : Tups H H' := fun b xs e => h b _ e
theorem Keep.tups {H H' : Hp} {st ga ca : Addr} {N : Nat} (K : Keep [st, ga] H H') (S : StAt H st ga ca N) : Tups H H' := fun b xs e => K b _ e (fun z => by
  obtain ⟨gs, cs, q, n, h1, h2, _⟩ := S.ex
  simp only [List.mem_cons, List.not_mem_nil, or_false] at z
  rcases z with rfl | rfl
  · rw [h1] at e; cases e
  · rw [h2] at e; cases e)
theorem Tups.set {H : Hp} {l : Addr} {xs : List V} {o : HO} (h : H l = some (.lst xs)) : Tups H (upd H l o) := fun b ys e => by
  rw [upd_ne (ne_of e h (by intro z; cases z))]; exact e
def Tup1 (hs : List Int) (v : V) (H : Hp) : Prop := ∃ q, v = .ref q ∧ H q = some (.tup (hs.map V.int))
theorem Tup1.mv {H H' : Hp} {hs : List Int} {v : V} (t : Tups H H') (h : Tup1 hs v H) : Tup1 hs v H' := let ⟨q, e, h⟩ := h; ⟨q, e, t _ _ h⟩
theorem All2.mv {H H' : Hp} {ls : List (List Int)} {xs : List V} (t : Tups H H') (h : All2 Tup1 H ls xs) : All2 Tup1 H' ls xs := h.imp fun _ _ z => z.mv t
theorem All2.at {α : Type} {R : α → V → Hp → Prop} {H : Hp} : ∀ {l : List α} {xs : List V} {i : Nat} {a : α}, All2 R H l xs → l[i]? = some a → ∃ x, xs[i]? = some x ∧ R a x H
  | _, _, _, _, .nil, e => by simp at e
  | _, _, 0, _, .cons r _, e => by simp at e; subst e; exact ⟨_, rfl, r⟩
  | _, _, i + 1, a, .cons _ t, e => by
    obtain ⟨u, h1, h2⟩ := All2.at (i := i) (a := a) t (by simpa using e)
    exact ⟨u, by simpa using h1, h2⟩
theorem All2.snoc {α : Type} {R : α → V → Hp → Prop} {H : Hp} {l : List α} {xs : List V} {a : α} {x : V} (h : All2 R H l xs) (r : R a x H) : All2 R H (l ++ [a]) (xs ++ [x]) := h.append (.cons r .nil)
/-! ### joined heaps -/
def maxC : List (List Int) → Int → Nat
  | [], _ => 0
  | h :: r, x => max (h.count x) (maxC r x)
def IsJoin (ls : List (List Int)) (ms : List Int) : Prop := ms.Pairwise (· ≥ ·) ∧ ∀ x, ms.count x = maxC ls x
theorem IsJoin.uniq {ls : List (List Int)} {a b : List Int} (h1 : IsJoin ls a) (h2 : IsJoin ls b) : a = b :=
  perm_ge_eq h1.1 h2.1 (List.perm_iff_count.mpr fun x => by rw [h1.2, h2.2])
theorem maxC_le {ls : List (List Int)} {x : Int} {B : Nat} (h : ∀ l ∈ ls, l.count x ≤ B) : maxC ls x ≤ B := by
  induction ls with
  | nil => exact Nat.zero_le _
  | cons a r ih =>
    have h1 := h a (by simp)
    have h2 := ih fun l hl => h l (by simp [hl])
    rw [maxC]; omega
theorem le_maxC {ls : List (List Int)} {x : Int} {l : List Int} (h : l ∈ ls) : l.count x ≤ maxC ls x := by
  induction ls with
  | nil => cases h
  | cons a r ih =>
    rw [maxC]
    rcases List.mem_cons.mp h with rfl | h
    · omega
    · have := ih h; omega
theorem maxC_flat (ls : List (List Int)) (x : Int) : maxC ls x ≤ ls.flatten.count x := by
  induction ls with
  | nil => exact Nat.zero_le _
  | cons a r ih => rw [maxC, List.flatten_cons, List.count_append]; omega
theorem maxC_zero {ls : List (List Int)} {x : Int} (h : x ∉ ls.flatten) : maxC ls x = 0 := by
  have := maxC_flat ls x
  rw [List.count_eq_zero_of_not_mem h] at this
  omega
/-- the greatest of the numbers -/
theorem max_of_counts {ls : List (List Int)} {x m : Int} (h : Ismax m (ls.map fun l => ((l.count x : Nat) : Int))) : m = ((maxC ls x : Nat) : Int) := by
  obtain ⟨h1, h2⟩ := h
  obtain ⟨l, hl, rfl⟩ := List.mem_map.mp h1
  have a := le_maxC (x := x) hl
  have b : maxC ls x ≤ l.count x := maxC_le fun k hk => by
    have := h2 _ (List.mem_map.mpr ⟨k, hk, rfl⟩)
    omega
  omega
def blow (f : Int → Nat) : List Int → List Int
  | [] => []
  | u :: r => List.replicate (f u) u ++ blow f r
theorem blow_append (f : Int → Nat) (a b : List Int) : blow f (a ++ b) = blow f a ++ blow f b := by
  induction a with
  | nil => rfl
  | cons u r ih => rw [List.cons_append, blow, ih, blow, List.append_assoc]
theorem blow_mem {f : Int → Nat} {us : List Int} {x : Int} (h : x ∈ blow f us) : x ∈ us := by
  induction us with
  | nil => exact h
  | cons u r ih =>
    rcases List.mem_append.mp h with h | h
    · rw [List.eq_of_mem_replicate h]; simp
    · simp [ih h]
theorem blow_count {f : Int → Nat} {us : List Int} (hn : us.Nodup) (x : Int) : (blow f us).count x = if x ∈ us then f x else 0 := by
  induction us with
  | nil => rfl
  | cons u r ih =>
    obtain ⟨h1, h2⟩ := List.nodup_cons.mp hn
    rw [blow, List.count_append, ih h2, List.count_replicate]
    by_cases e : u = x
    · subst e; simp [h1]
    · have e' : ¬ x = u := fun z => e z.symm
      simp [e, e', List.mem_cons]
theorem blow_pw {f : Int → Nat} {us : List Int} (h : us.Pairwise (· ≥ ·)) : (blow f us).Pairwise (· ≥ ·) := by
  induction us with
  | nil => exact .nil
  | cons u r ih =>
    obtain ⟨h1, h2⟩ := List.pairwise_cons.mp h
    refine List.pairwise_append.mpr ⟨?_, ih h2, fun a ha b hb => ?_⟩
    · exact List.pairwise_replicate.mpr (Or.inr (Int.le_refl _))
    · rw [List.eq_of_mem_replicate ha]
      exact h1 _ (blow_mem hb)
theorem blow_join {ls : List (List Int)} {us : List Int} (hn : us.Nodup) (hp : us.Pairwise (· ≥ ·)) (hm : ∀ x, x ∈ us ↔ x ∈ ls.flatten) : IsJoin ls (blow (maxC ls) us) := by
  refine ⟨blow_pw hp, fun x => ?_⟩
  rw [blow_count hn]
  by_cases h : x ∈ us
  · rw [if_pos h]
  · rw [if_neg h, maxC_zero fun z => h ((hm x).mpr z)]
/-! ### choices -/
def chG (ns : List Int) : List (List Int) := ns.foldl (fun cs n => cs ++ cs.map (· ++ [n])) [[]]
theorem chG_snoc (ns : List Int) (n : Int) : chG (ns ++ [n]) = chG ns ++ (chG ns).map (· ++ [n]) := by
  unfold chG; rw [List.foldl_append]; rfl
theorem chG_len : ∀ (k : Nat) (ns : List Int), ns.length = k → (chG ns).length = 2 ^ k
  | 0, ns, h => by rw [List.length_eq_zero_iff.mp h]; rfl
  | k + 1, ns, h => by
    have hne : ns ≠ [] := fun z => by rw [z] at h; cases h
    have e := (List.dropLast_concat_getLast hne).symm
    rw [e, chG_snoc, List.length_append, List.length_map, chG_len k ns.dropLast (by rw [List.length_dropLast]; omega), Nat.pow_succ]
    omega
theorem chG_mem : ∀ (k : Nat) (ns : List Int), ns.length = k → ∀ c ∈ chG ns, c.length ≤ k ∧ ∀ x ∈ c, x ∈ ns
  | 0, ns, h, c, hc => by
    rw [List.length_eq_zero_iff.mp h] at hc
    have : c = [] := by simpa [chG] using hc
    rw [this]
    exact ⟨Nat.le_refl _, fun x hx => nomatch hx⟩
  | k + 1, ns, h, c, hc => by
    have hne : ns ≠ [] := fun z => by rw [z] at h; cases h
    have e := (List.dropLast_concat_getLast hne).symm
    rw [e, chG_snoc] at hc
    have ih := chG_mem k ns.dropLast (by rw [List.length_dropLast]; omega)
    rcases List.mem_append.mp hc with hc | hc
    · obtain ⟨a, b⟩ := ih c hc
      exact ⟨by omega, fun x hx => (List.dropLast_sublist ns).subset (b x hx)⟩
    · obtain ⟨d, hd, rfl⟩ := List.mem_map.mp hc
      obtain ⟨a, b⟩ := ih d hd
      refine ⟨by simp; omega, fun x hx => ?_⟩
      rcases List.mem_append.mp hx with hx | hx
      · exact (List.dropLast_sublist ns).subset (b x hx)
      · have : x = ns.getLast hne := by simpa using hx
        rw [this]; exact List.getLast_mem hne
theorem putK_keys {κ : Type} [DecidableEq κ] {kvs : List (κ × V)} {k : κ} {v w : V} (h : valV kvs k = some v) : (putK kvs k w).map (·.1) = kvs.map (·.1) := by
  unfold putK
  rw [if_pos (by rw [valV_any, h]; rfl), List.map_map]
  refine List.map_congr_left fun x _ => ?_
  show (if x.1 = k then (x.1, w) else x).1 = x.1
  split <;> rfl
end L2

set_option Elab.async false
set_option linter.all false
namespace L2
open PySem PySem.Spec PyProof.Rows
/-! ### rules within a comprehension: the fragment by its own name -/
section
variable {X : Cx}
theorem OpR.kk {f : Value → Value → Sem Value} (K0 : PySem.W.Frag) (r : PySem.W.Frag → R2) (ho : OpR X f (r X.K)) (h : X.K = K0) : OpR X f (r K0) := by subst h; exact ho
theorem IxR.kk (K0 : PySem.W.Frag) (r : PySem.W.Frag → R2) (ho : IxR X (r X.K)) (h : X.K = K0) : IxR X (r K0) := by subst h; exact ho
theorem CallR.kk {f : Value} (K0 : PySem.W.Frag) (r : PySem.W.Frag → List V → Hp → VK → Prop) (ho : CallR X f (r X.K)) (h : X.K = K0) : CallR X f (r K0) := by subst h; exact ho
theorem MtR.kk {id : String} (K0 : PySem.W.Frag) (r : PySem.W.Frag → V → List V → Hp → VK → Prop) (ho : MtR X id (r X.K)) (h : X.K = K0) : MtR X id (r K0) := by subst h; exact ho
def rLenSq (K : PySem.W.Frag) : List V → Hp → VK → Prop := fun xs H Q => ∃ p ys, xs = [.ref p] ∧ (SqL K H p ys ∨ SqT K H p ys) ∧ Q (.int ys.length) H
theorem call_len_seqK (K0 : PySem.W.Frag) (h : X.K = K0) : CallR X (.builtin "len") (rLenSq K0) := CallR.kk K0 rLenSq call_len_seq h
theorem op_catAK (K0 : PySem.W.Frag) (h : X.K = K0) : OpR X (binaryOp .Add) (rCatA K0) := OpR.kk K0 rCatA op_catA h
theorem ix_tupK (K0 : PySem.W.Frag) (h : X.K = K0) : IxR X (rIxT K0) := IxR.kk K0 rIxT ix_tup h
theorem mt_countTK (K0 : PySem.W.Frag) (h : X.K = K0) : MtR X "tuple.count" (rCount K0 SqT) := MtR.kk K0 (fun K => rCount K SqT) mt_countT h
theorem mt_countLK (K0 : PySem.W.Frag) (h : X.K = K0) : MtR X "list.count" (rCount K0 SqL) := MtR.kk K0 (fun K => rCount K SqL) mt_countL h
variable {o e : Expr} {es : List Expr} {to : TE} {t : TA} {name : Str} {apos cpos : Pos} {T id : String} {r : V → List V → Hp → VK → Prop}
theorem pe_bmK (K0 : PySem.W.Frag) (h : X.K = K0) (pa : PlainAttrs T) (slot : Slot T name id) (hty : typeOf (.builtin id) = pure (.type "method_descriptor")) (hm : MtR X id r) (ho : PE X o to) (ha : PA X (e :: es) t)
    (hbase : attributeBase o name X.env (eval o X.env) = eval o X.env := by rfl)
    (hfew : ((backTo cpos (starEach (e :: es) X.env)).all (fun x => !x.1) && (backToKw cpos (keywordEach [] X.env)).all (fun x => x.1.isSome) && decide ((e :: es).length + ([] : List Keyword).length + (if ([] : List Keyword).isEmpty then 0 else 1) < 30)) = true := by rfl)
    (hline : (apos.endLine == cpos.line) = true := by rfl) (hs : starEach (e :: es) X.env = (false, eval e X.env) :: starEach es X.env := by rfl) (hplain : (backTo cpos (starEach es X.env)).any (·.1) = false := by rfl) : PE X (.Call (.Attribute o name apos) (e :: es) [] cpos) (tBM K0 T r to t) := by
  subst h
  exact pe_bm pa slot hty hm ho ha hbase hfew hline hs hplain
theorem pt_truthK {a : Expr} {ta : TE} (K0 : PySem.W.Frag) (h : X.K = K0) (ha : PE X a ta) (he : ∀ whole, isTrue a X.env whole = (do let v ← whole; standAt a.pos; holding [v] (truthy v))) : PT X a (fun σ H Q => ta σ H fun x H' => ∃ k, TruV K0 x H' k ∧ Q k H') := by
  subst h
  exact pt_truth ha he
end
end L2

set_option Elab.async false
set_option linter.all false
namespace L2
open PySem PySem.Spec PyProof.Rows
/-- the numbers of a rule's heaps -/
def upto (n : Nat) : List Int := (List.range n).map fun (k : Nat) => (k : Int)
theorem upto_succ (n : Nat) : upto (n + 1) = upto n ++ [(n : Int)] := by unfold upto; rw [List.range_succ, List.map_append]; rfl
theorem upto_len (n : Nat) : (upto n).length = n := by unfold upto; simp
theorem upto_mem {n : Nat} {x : Int} (h : x ∈ upto n) : 0 ≤ x ∧ x < n := by
  unfold upto at h
  obtain ⟨k, hk, rfl⟩ := List.mem_map.mp h
  rw [List.mem_range] at hk
  omega
/-- the next choices, one by one -/
theorem cat_one {K : PySem.W.Frag} {H : Hp} {q : Addr} {hs : List Int} {z : Int} {t : Addr} {Q : V → Hp → Prop} (hq : H q = some (.tup (hs.map V.int))) (ht : H t = some (.tup [V.int z])) (hl : hs.length ≤ 60)
    (k : ∀ (v : V) (H' : Hp), Tup1 (hs ++ [z]) v H' → Same H H' → Q v H') : rCatA K (.ref q) (.ref t) H Q := by
  refine ⟨q, t, _, _, rfl, rfl, SqT.of hq, SqT.of ht, ?_, fun e => ?_, fun _ e => ?_, fun _ _ p hp => ?_⟩
  · rw [List.length_map]
    exact Nat.le_trans (m := 61) (by simp; omega) (by decide)
  · have : hs = [] := List.map_eq_nil_iff.mp e
    subst this
    exact k _ _ ⟨t, rfl, ht⟩ (fun _ _ h => h)
  · cases e
  · exact k _ _ ⟨p, rfl, by rw [upd_same, List.map_append]; rfl⟩ (Same.new hp)
/-- a heap of a rule -/
structure GoodH (n : Nat) (h : List Int) : Prop where
  ln : h.length ≤ n
  bd : ∀ x ∈ h, 1 ≤ x ∧ x ≤ 10 ^ 60
  pw : h.Pairwise (· ≥ ·)
theorem GoodH.mono {n m : Nat} {h : List Int} (g : GoodH n h) (hm : n ≤ m) : GoodH m h := ⟨Nat.le_trans g.ln hm, g.bd, g.pw⟩
/-- the rule so far -/
structure RB (H0 H : Hp) (st ga ca l : Addr) (N i : Nat) (rule : List (List Int)) (xs : List V) : Prop where
  li : H l = some (.lst xs)
  h2 : All2 Tup1 H rule xs
  nw : H0 l = none
  ni : l ∉ [st, ga, ca]
  ln : rule.length = i
  gd : ∀ h ∈ rule, GoodH (4 + i) h
  sa : StAt H st ga ca N
  kp : Keep [st, ga] H0 H
theorem RB.drawn {H0 H H2 : Hp} {st ga ca l : Addr} {N M i : Nat} {rule : List (List Int)} {xs : List V} (R : RB H0 H st ga ca l N i rule xs) (S2 : StAt H2 st ga ca M) (K2 : Keep [st, ga] H H2) : RB H0 H2 st ga ca l M i rule xs :=
  ⟨K2.at R.li (nin2 R.ni), R.h2.mv (K2.tups R.sa), R.nw, R.ni, R.ln, R.gd, S2, R.kp.trans K2⟩
theorem RB.same {H0 H H2 : Hp} {st ga ca l : Addr} {N i : Nat} {rule : List (List Int)} {xs : List V} (R : RB H0 H st ga ca l N i rule xs) (s : Same H H2) : RB H0 H2 st ga ca l N i rule xs :=
  R.drawn (R.sa.same s) s.keep
theorem RB.mono {H0 H : Hp} {st ga ca l : Addr} {N M i : Nat} {rule : List (List Int)} {xs : List V} (R : RB H0 H st ga ca l N i rule xs) (h : N ≤ M) : RB H0 H st ga ca l M i rule xs :=
  ⟨R.li, R.h2, R.nw, R.ni, R.ln, R.gd, R.sa.mono h, R.kp⟩
theorem RB.push {H0 H : Hp} {st ga ca l : Addr} {N i : Nat} {rule : List (List Int)} {xs : List V} {q : Addr} {hs : List Int} (R : RB H0 H st ga ca l N i rule xs) (hq : H q = some (.tup (hs.map V.int))) (g : GoodH (4 + (i + 1)) hs) :
    RB H0 (upd H l (.lst (xs ++ [.ref q]))) st ga ca l N (i + 1) (rule ++ [hs]) (xs ++ [.ref q]) := by
  have t : Tups H (upd H l (.lst (xs ++ [.ref q]))) := Tups.set R.li
  refine ⟨upd_same, (R.h2.mv t).snoc ⟨q, rfl, t _ _ hq⟩, R.nw, R.ni, by simp [R.ln], fun h hh => ?_, R.sa.upd R.ni, R.kp.updN R.nw⟩
  rcases List.mem_append.mp hh with hh | hh
  · exact (R.gd h hh).mono (by omega)
  · have : h = hs := by simpa using hh
    rw [this]; exact g
/-- the heaps that a choice names -/
def pickG (rule : List (List Int)) (ch : List Int) : List (List Int) := ch.map fun j => rule.getD j.toNat []
theorem pick_at {H : Hp} {rule : List (List Int)} {rs : List V} (h2 : All2 Tup1 H rule rs) {j : Int} (h0 : 0 ≤ j) (h1 : j < rule.length) : ∃ v, atI rs j = some v ∧ Tup1 (rule.getD j.toNat []) v H := by
  obtain ⟨n, rfl⟩ : ∃ n : Nat, j = (n : Int) := ⟨j.toNat, by omega⟩
  have hn : n < rule.length := by omega
  obtain ⟨x, hx, r⟩ := h2.at (List.getElem?_eq_getElem hn)
  refine ⟨x, atI_nat hx, ?_⟩
  have : rule.getD (n : Int).toNat [] = rule[n] := by simp [hn]
  rw [this]
  exact r
theorem flat_le {B : Nat} : ∀ {ls : List (List Int)}, (∀ l ∈ ls, l.length ≤ B) → ls.flatten.length ≤ B * ls.length
  | [], _ => Nat.zero_le _
  | l :: r, h => by
    have h1 := h l (by simp)
    have h2 := flat_le (ls := r) fun m hm => h m (by simp [hm])
    rw [List.flatten_cons, List.length_append, List.length_cons, Nat.mul_succ]
    omega
/-- one part ahead of a parting -/
theorem cat_front {K : PySem.W.Frag} {H : Hp} {q : Addr} {hs : List Int} {z : Int} {t : Addr} {Q : V → Hp → Prop} (hq : H q = some (.tup (hs.map V.int))) (ht : H t = some (.tup [V.int z])) (hl : hs.length ≤ 100)
    (k : ∀ (v : V) (H' : Hp), Tup1 (z :: hs) v H' → Same H H' → Q v H') : rCatA K (.ref t) (.ref q) H Q := by
  refine ⟨t, q, _, _, rfl, rfl, SqT.of ht, SqT.of hq, ?_, (fun e => by cases e), fun _ e => ?_, fun _ _ p hp => ?_⟩
  · rw [List.length_map]
    exact Nat.le_trans (m := 101) (by simp; omega) (by decide)
  · have : hs = [] := List.map_eq_nil_iff.mp e
    subst this
    exact k _ _ ⟨t, rfl, ht⟩ (fun _ _ h => h)
  · exact k _ _ ⟨p, rfl, by rw [upd_same]; rfl⟩ (Same.new hp)
/-- a filter, one by one -/
theorem filter_take {α : Type} (p : α → Bool) {l : List α} {i : Nat} {x : α} (h : l[i]? = some x) : (l.take (i + 1)).filter p = (l.take i).filter p ++ if p x = true then [x] else [] := by
  obtain ⟨hi, e⟩ := List.getElem?_eq_some_iff.mp h
  rw [List.take_succ_eq_append_getElem hi, List.filter_append, e]
  by_cases c : p x = true
  · rw [List.filter_cons, if_pos c, if_pos c]; rfl
  · rw [List.filter_cons, if_neg c, if_neg c]; rfl
end L2

set_option Elab.async false
set_option linter.all false
set_option maxRecDepth 100000
namespace L2
open PySem PySem.Spec PyProof.Rows
open AutoSeq1 (wpAny_loadPart')
/-! ### enumerate(a), a a list or a tuple, walked by a tuple target -/
theorem drawsS {prog : Program} {w : World} {A : Around} (hh : A.handled = none) (k : Bool) (it l : Addr) (hne : l ≠ it) (items : Array Value) :
    Draws prog w A it [it, l] items.size (fun i v => items[i]? = some v) (fun i h => IterAt k h it l i ∧ SeqIs k h l items) where
  live := fun _ _ st => let ⟨o, ho, _⟩ := st.1; ⟨o, ho⟩
  frame := fun _ _ _ st hk => ⟨st.1.kept fun o e => hk it (by simp) o e, st.2.kept fun o e => hk l (by simp) o e⟩
  item := fun i s Q E hi st hQ => nextS st.1 st.2 (x := items[i]) (by simp [hi]) fun h' a b => hQ _ h' s.toks (by simp [hi]) ⟨a, st.2.kept fun o e => b.extBut _ _ hne e⟩ b
  done := fun s Q E st hE => endS hh st.1 st.2 (by simp) hE
def eH1 (k : Bool) (h : Heap) (l : Addr) : Heap := h.push { cls := .type (itName k), data := .fields #[.ref l, .int 0 0] }
def eH2 (k : Bool) (h : Heap) (l : Addr) : Heap := (eH1 k h l).push { cls := .type "enumerate", data := .fields #[.none, .bool false, .ref h.objs.size, rawInt 0, .none, .none] }
set_option maxHeartbeats 1000000 in
theorem enum_tup_meets (l : Addr) (items : Array Value) (n : Nat) (dct : Option Addr) (sl : Array (Option Value)) :
    Meets (Builtin.«enumerate.__new__» ⟨[.type "enumerate", .ref l], []⟩) (fun _ R s => s.heap.get? l = some { cls := .type "tuple", dict := dct, data := .seq items n, slots := sl } ∧ R (.ok (.ret (.ref (eH1 true s.heap l).objs.size))) { s with heap := eH2 true s.heap l }) :=
  .of_wp fun prog w A R s h => by
    obtain ⟨hp, g, d, tk, os⟩ := s
    obtain ⟨hl, h⟩ := h
    have hsub := sub_enumerate
    have hL : Heap.IsTuple (Shared.heap ⟨hp, g, d, tk, os⟩) l items := ⟨_, hl, rfl, n, rfl⟩
    wp_walk using wpAny_loadPart' hl
    refine wpAny_stack_any fun st => wpAny_pure ?_
    split
    · rename_i c _ _ _ _ _
      cases (c == Value.type "enumerate")
      all_goals (wp_walk using wpAny_loadPart' hl, wpAny_pyIter_tuple hL; exact ⟨_, rfl, h⟩)
    · wp_walk using wpAny_loadPart' hl, wpAny_pyIter_tuple hL
      exact ⟨_, rfl, h⟩
section
variable {prog : Program} {w : World} {A : Around} {E : Value → Shared → Prop} {s : Shared}
theorem call_enumS {k : Bool} {l : Addr} {items : Array Value} {Q : Value → Shared → Prop} (hL : SeqIs k s.heap l items)
    (h : ∀ h', IsEnum h' (s.heap.objs.size + 1) s.heap.objs.size 0 .none → IterAt k h' s.heap.objs.size l 0 → (∀ b o, s.heap.get? b = some o → h'.get? b = some o) → Q (.ref (s.heap.objs.size + 1)) { s with heap := h' }) :
    wpAny (model prog w) A (call (.type "enumerate") [.ref l]) Q E s := by
  cases k
  · exact call_enumerate_list hL fun h' a b _ c => h h' a b c
  · obtain ⟨⟨c, dct, dt, sl⟩, hl, hc, n, hd⟩ := hL
    replace hc : c = .type "tuple" := hc
    replace hd : dt = .seq items n := hd
    subst hc hd
    refine callType_new F.called_enumerate (by decide) (F.typeCall_enumerate_1 _) (F.newCall_enumerate_1 _) (fun obj => F.args_object_init_2 obj _) F.entry_enumerate_new (enum_tup_meets l items n dct sl) ⟨hl, ?_⟩
    have n1 : (eH1 true s.heap l).objs.size = s.heap.objs.size + 1 := Heap.size_push ..
    have f2 : (eH2 true s.heap l).get? (eH1 true s.heap l).objs.size = some _ := Heap.get?_push_size _ rfl
    have f1 : (eH2 true s.heap l).get? s.heap.objs.size = some _ := Heap.get?_push_of_some _ (Heap.get?_push_size _ rfl)
    show _ ∧ _
    rw [n1] at f2 ⊢
    exact ⟨⟨_, f2, rfl⟩, h _ f2 ⟨_, f1, rfl, rfl⟩ fun b o e => Heap.get?_push_of_some _ (Heap.get?_push_of_some _ e)⟩
end
def Ite (K : PySem.W.Frag) (k : Bool) (a : Addr) : It :=
  ⟨fun i H => ∃ xs x, Sq k K H a xs ∧ xs[i]? = some x,
   fun i H v H' => ∃ T x, H T = none ∧ v = .ref T ∧ H' = upd H T (.tup [.int i, x]) ∧ ∀ xs, Sq k K H a xs → xs[i]? = some x,
   fun i H => ∃ xs, Sq k K H a xs ∧ xs.length = i⟩
theorem turn_enum {P : Program} {w : World} {K : PySem.W.Frag} {elts : List Expr} {x1 : Nat} {pos : Pos} (k : Bool) (a e it : Addr) (hei : e ≠ it) (hai : a ≠ it) (hae : a ≠ e) :
    Turn P w K (.Tuple elts x1 pos) (Ite K k a) [e, it] e (fun i h => (∃ old, IsEnum h e it i old) ∧ IterAt k h it a i) where
  mem := by simp
  obj := fun i h st c hc => by
    obtain ⟨⟨old, g0⟩, ⟨o1, e1, _, d1⟩⟩ := st
    simp only [List.mem_cons, List.not_mem_nil, or_false] at hc
    rcases hc with rfl | rfl
    · exact ⟨_, g0, fun v q => by cases q⟩
    · exact ⟨_, e1, fun v q => by rw [d1] at q; cases q⟩
  keep := fun i h h' st f => by
    obtain ⟨⟨old, g0⟩, g1⟩ := st
    exact ⟨⟨old, f e (by simp) _ g0⟩, g1.kept (f it (by simp))⟩
  item := by
    intro X hP hw hK hc i pins s σ H E I hf st hg
    subst hP hw hK
    obtain ⟨xs, x, hq, hx⟩ := hg
    obtain ⟨us, rv, p, _⟩ := I.sq hq
    obtain ⟨u, hu, ru⟩ := rv.get hx
    obtain ⟨⟨old, g0⟩, g1⟩ := st
    have hlt : i < us.toArray.size := by
      have := (List.getElem?_eq_some_iff.mp hu).1
      simpa using this
    have hh : X.A.in1.handled = none := I.ok.hd hc
    refine wpAny_pyNext_enum_itemD (drawsS hh k it a hai us.toArray) g0 ⟨g1, p⟩ hlt hei (by simp [hei, Ne.symm hae]) fun y h' tk hy ho hst hT _ kk => ⟨_, rfl, ?_⟩
    have ey : y = u := by
      have : us.toArray[i]? = some u := by simpa using hu
      rw [this] at hy
      exact (Option.some.inj hy).symm
    subst ey
    refine wpAny_letOwnedTupleGo_enum (s := { s with heap := h', toks := tk + 1 }) ho fun h2 he2 sb => ?_
    have up : ∀ c o, c ≠ e → h'.get? c = some o → h2.get? c = some o := fun c o n q => (sb.2 c n).trans q
    have lt : e < s.heap.objs.size := Heap.lt_size g0
    have tp : IsPair h2 s.heap.objs.size (.int i tk) y := up _ _ (Nat.ne_of_gt lt) hT
    have I1 : Inv X pins σ (upd H s.heap.objs.size (.tup [.int i, x])) { s with heap := h2, toks := tk + 1 } := I.turnedN (t' := tk + 1) (ch := [e, it]) hf (fun c o n q => up c o (fun z => n (by simp [z])) (kk c o (fun z => n (by simp [z])) (fun z => n (by simp [z])) q)) (Nat.le_refl _) (pair_ok ⟨tk, rfl⟩ ru tp)
    refine ⟨.ref s.heap.objs.size, _, I1, rfl, ⟨_, x, I.hok.fresh (Nat.le_refl _), rfl, rfl, fun xs' h => by rw [I.sq_inj h hq]; exact hx⟩, ⟨⟨y, by simpa using he2⟩, hst.1.kept fun o q => up _ _ (Ne.symm hei) q⟩, fun c hc => ?_⟩
    have hlt2 : c < s.heap.objs.size := by
      simp only [List.mem_cons, List.not_mem_nil, or_false] at hc
      rcases hc with rfl | rfl
      · exact lt
      · exact g1.lt
    rw [upd_ne (Nat.ne_of_lt hlt2)]
    exact (hf c hc).1
  done := by
    intro X hP hw hK hc i pins s σ H E I hf st hg
    subst hP hw hK
    obtain ⟨xs, hq, hl⟩ := hg
    obtain ⟨us, rv, p, _⟩ := I.sq hq
    obtain ⟨⟨old, g0⟩, g1⟩ := st
    have hh : X.A.in1.handled = none := I.ok.hd hc
    have e1 : i = us.toArray.size := by
      have := rv.length
      rw [← hl, this]; simp
    rw [e1] at g1
    exact wpAny_pyNext_enum_endD (drawsS hh k it a hai us.toArray) g0 ⟨g1, p⟩ fun h' kk => ⟨rfl, I.turnedL (t' := s.toks) (ch := [e, it]) hf fun c o n q => kk c o (fun z => n (by simp [z])) q⟩
  self := fun _ _ _ _ _ st h => by
    obtain ⟨⟨old, g0⟩, _⟩ := st
    exact wpAny_pyIter_enum g0 h
section
variable {X : Cx} {elts : List Expr} {x1 : Nat} {tpos : Pos}
def iEnum (K : PySem.W.Frag) (k : Bool) (ta : TA) : TI := fun σ H R => ta σ H fun vs H1 => ∃ a, vs = [.ref a] ∧ (∃ xs, Sq k K H1 a xs) ∧ R (Ite K k a) H1
theorem pi_enum (k : Bool) {a : Expr} {ta : TA} {p pos : Pos} (hg : Gl X "enumerate") (hm : X.mg "enumerate" = none) (ha : PA X [a] ta) (hs : starEach [a] X.env = [(false, eval a X.env)] := by rfl) : PI X (.Tuple elts x1 tpos) (.Call (.Name "enumerate" p) [a] [] pos) (iEnum X.K k ta) := by
  intro pins s σ H R I h
  refine Call_ (ld_blt I hg hm boot_enumerate (PyProof.Rows.callWith_type1 (thn (ha pos pins s σ H _ I h) fun us s1 ⟨vs, H1, I1, r1, q1⟩ => ?_) hs rfl))
  obtain ⟨a, e, ⟨xs, hq⟩, q⟩ := q1
  subst e
  cases r1 with
  | cons r rr =>
    cases rr
    cases r
    obtain ⟨us, rv, p, _⟩ := I1.sq hq
    have hlt := p.lt
    refine call_enumS p fun h' g0 g1 kk => ?_
    have I2 : Inv X pins σ H1 { s1 with heap := h' } := I1.kept (t' := s1.toks) kk
    refine wpAny_pyIter_enum (s := { s1 with heap := h' }) g0 ⟨_, [s1.heap.objs.size + 1, s1.heap.objs.size], _, _, H1, rfl, I2, turn_enum k a _ _ (Nat.succ_ne_self _) (Nat.ne_of_lt hlt) (Nat.ne_of_lt (Nat.lt_succ_of_lt hlt)), ⟨⟨_, g0⟩, g1⟩, fun c hc => ?_, q⟩
    have hle : s1.heap.objs.size ≤ c := by
      have hc' : c = s1.heap.objs.size + 1 ∨ c = s1.heap.objs.size := by simpa using hc
      rcases hc' with e | e <;> rw [e] <;> first | exact Nat.le_refl _ | exact Nat.le_add_right _ _
    exact I1.fpOk hle (I1.hok.fresh hle)
end
theorem comp_enum {K : PySem.W.Frag} {k : Bool} {a : Addr} {xs : List V} {g : TG} {tf : TT} {te : TE} {σ : St} {H : Hp} {Q : VK} (Pv : Nat → List V → St → Hp → Prop) (h0 : Pv 0 [] σ H)
    (hl : ∀ i zs σ H, i ≤ xs.length → Pv i zs σ H → Sq k K H a xs ∧ zs.length ≤ sizeLine)
    (hs : ∀ i x zs σ H T, xs[i]? = some x → Pv i zs σ H → H T = none → g (.ref T) σ (upd H T (.tup [.int i, x])) fun σ2 H2 => tf σ2 H2 fun b H3 => if b = true then te σ2 H3 fun v H4 => Pv (i + 1) (zs ++ [v]) σ2 H4 else Pv (i + 1) zs σ2 H3)
    (hd : ∀ zs σ H, Pv xs.length zs σ H → ∀ p, H p = none → Q (.ref p) (upd H p (.lst zs))) : tCompK g tf te σ (Ite K k a) H Q := by
  refine ⟨fun i m zs σ H => m = xs.length - i ∧ i ≤ xs.length ∧ Pv i zs σ H, ⟨_, (Nat.sub_zero _).symm, Nat.zero_le _, h0⟩, ?_⟩
  rintro i m zs σ H ⟨rfl, hi, p⟩
  obtain ⟨q1, hz⟩ := hl i zs σ H hi p
  by_cases hlt : i < xs.length
  · refine .inr ⟨⟨xs, xs[i], q1, by simp [hlt]⟩, hz, Pv (i + 1), fun ys' σ' H' p' => ⟨xs.length - (i + 1), by omega, rfl, hlt, p'⟩, fun x H' y => ?_⟩
    obtain ⟨T, u, hT, rfl, rfl, e1⟩ := y
    exact hs i u zs σ H T (e1 xs q1) p hT
  · have e : i = xs.length := by omega
    rw [e] at p
    exact .inl ⟨⟨xs, q1, e.symm⟩, hz, hd zs σ H p⟩
end L2

set_option Elab.async false
set_option linter.all false
set_option maxRecDepth 100000
namespace L2
open PySem PySem.Spec PyProof.Rows PySem.W
/-! ### try: f(..) except S: suite, without a name -/
/-! ### f'text{e}', e an int -/
def tFs (x : Str) (te : TE) : TE := fun σ H Q => te σ H fun v H1 => ∃ i, v = .int i ∧ i.natAbs.log2 < 1920 ∧ (x ++ (toString i : Str)).length ≤ sizeLine ∧ Q (.str (x ++ toString i)) H1
theorem empty_cat (x : Str) : Str.empty ++ x = x := by
  show (⟨#[] ++ x.cps⟩ : Str) = x
  simp
theorem pe_fstr {X : Cx} {x : Str} {j : Nat} {e : Expr} {te : TE} {p1 p2 pos : Pos} (hx : x.length ≤ sizeLine) (he : PE X e te) (hs : evalEach [] X.env = [] := by rfl) : PE X (.JoinedStr [.Constant (.str x) j p1, .FormattedValue e (-1) none p2] pos) (tFs x te) := by
  intro pins s σ H Q I h
  refine JoinedStr_many (joinParts_cons (Calls.Constant_str ?_))
  show (Str.empty ++ x).length ≤ sizeLine ∧ _
  rw [empty_cat, hs]
  obtain I1 := I.tok (s.toks + 1)
  refine ⟨hx, joinParts_cons (FormattedValue_plain (thn (he pins _ σ H _ I1 h) fun v s1 ⟨y, H1, I2, r, q⟩ => ?_))⟩
  obtain ⟨i, rfl, hd, hl, q⟩ := q
  obtain ⟨t, rfl⟩ := r
  refine formatField_int_small hd ?_
  exact ⟨hl, joinParts_nil ⟨.str _, H1, (I2.tok _).tok _, ⟨_, rfl⟩, q⟩ hl⟩
end L2

set_option Elab.async false
set_option linter.all false
set_option maxRecDepth 100000
namespace L2
open PySem PySem.Spec PyProof.Rows
/-! ### range(n, 0, -1) -/
/-- n, n - 1, .. 1 -/
def Itd (n : Nat) : It := ⟨fun i _ => i < n, fun i H x H' => H' = H ∧ x = .int ((n : Int) - i), fun i _ => n ≤ i⟩
theorem turn_down {P : Program} {w : World} {K : PySem.W.Frag} {tg : Expr} (it : Addr) (n : Nat) : Turn P w K tg (Itd n) [it] it (fun i h => IsRangeIter h it ((n : Int) + (i : Nat) * (-1)) ((n : Int) - (i : Nat)) (-1)) where
  mem := by simp
  obj := fun i h st b hb => by
    have e : b = it := by simpa using hb
    subst e
    exact ⟨_, st, fun v z => by
      have z' : Data.fields _ = Data.cell v := z
      cases z'⟩
  keep := fun i h h' st k => k it (by simp) _ st
  item := by
    intro X hP hw hK hc i pins s σ H E I hf st hg
    subst hP hw hK
    obtain ⟨f0, f1, f2, f3, f4, f5⟩ := hf it (by simp)
    have W := Walks.range (prog := X.prog) (w := X.w) (I.ok.hd hc) it (n : Int) (-1) n
    refine W.item i s _ _ hg st fun v h' tk hv st' kk => ?_
    obtain ⟨t, rfl⟩ := hv
    have I1 : Inv X pins σ H { s with heap := h', toks := tk } := I.turned (fun b o hb e => kk b o (by simpa using hb) e) f0 f1 f3 f4 f5
    refine ⟨_, rfl, go_of (s := { s with heap := h', toks := tk }) (n := "range_iterator") st' rfl rfl (by decide) ⟨.int ((n : Int) - i), H, I1, ⟨t, ?_⟩, ⟨rfl, rfl⟩, st', fun b hb => (hf b hb).1⟩⟩
    have : (n : Int) + (i : Int) * (-1) = (n : Int) - i := by omega
    rw [this]
  done := by
    intro X hP hw hK hc i pins s σ H E I hf st hg
    subst hP hw hK
    obtain ⟨f0, f1, f2, f3, f4, f5⟩ := hf it (by simp)
    exact wpAny_pyNext_range_end (I.ok.hd hc) st (by have : n ≤ i := hg; omega) fun h' eb => ⟨rfl, I.turned (t' := s.toks) (fun b o hb e => eb b o hb e) f0 f1 f3 f4 f5⟩
  self := fun _ _ _ _ _ st h => wpAny_pyIter_rangeiter st h
section
variable {X : Cx} {tg : Expr}
theorem size_down (n : Nat) : Builtin.Range.rangeSize (n : Int) 0 (-1) = (n : Int) := by
  unfold Builtin.Range.rangeSize
  rw [if_neg (by decide)]
  have e : ((-(-1 : Int))) = 1 := by decide
  split
  · rw [e, Int.ediv_one]; omega
  · omega
theorem small_down {n : Nat} (h : n ≤ 100000) : Builtin.Range.small (n : Int) 0 (-1) = true := by
  unfold Builtin.Range.small
  rw [size_down]
  simp only [Builtin.Range.rangeFitsLong, Bool.and_eq_true, Bool.or_eq_true, decide_eq_true_eq, beq_iff_eq, show ¬ ((-1 : Int) > 0) by decide, if_false]
  omega
def iDown (ta : TA) : TI := fun σ H R => ta σ H fun vs H1 => ∃ n : Nat, vs = [.int n, .int 0, .int (-1)] ∧ n ≤ 100000 ∧ R (Itd n) H1
theorem pi_down {a b c : Expr} {ta : TA} {p pos : Pos} (hg : Gl X "range") (hm : X.mg "range" = none) (ha : PA X [a, b, c] ta) (hs : starEach [a, b, c] X.env = (false, eval a X.env) :: starEach [b, c] X.env := by rfl) (hs2 : (backTo pos (starEach [b, c] X.env)).any (·.1) = false := by rfl) :
    PI X tg (.Call (.Name "range" p) [a, b, c] [] pos) (iDown ta) := by
  intro pins s σ H R I h
  refine Call_ (ld_blt I hg hm boot_range (PyProof.Rows.callWith_type1 (thn (ha pos pins s σ H _ I h) fun us s1 ⟨vs, H1, I1, r1, q1⟩ => ?_) hs hs2))
  obtain ⟨n, e, hn, q⟩ := q1
  subst e
  cases r1 with
  | cons r rr =>
    cases rr with
    | cons r' rr =>
      cases rr with
      | cons r'' rr =>
        cases rr
        obtain ⟨t, rfl⟩ := r
        obtain ⟨t', rfl⟩ := r'
        obtain ⟨t'', rfl⟩ := r''
        refine call_range_3 (by decide) ?_ (.inl (PyProof.noPylong_small (by decide)))
        refine wpAny_pyIter_range (s := { s1 with heap := s1.heap.push { cls := .type "range", data := .fields #[.int n t, .int 0 t', .int (-1) t''] } }) (Heap.get?_push_size _ rfl) (small_down hn) ?_
        have I2 : Inv X pins σ H1 { s1 with heap := s1.heap.push { cls := .type "range", data := .fields #[.int n t, .int 0 t', .int (-1) t''] } } := I1.kept (t' := s1.toks) fun b o e => Heap.get?_push_of_some _ e
        refine ⟨_, [(s1.heap.push { cls := .type "range", data := .fields #[.int n t, .int 0 t', .int (-1) t''] }).objs.size], _, _, H1, rfl, I2.kept (t' := s1.toks) fun b o e => Heap.get?_push_of_some _ e, turn_down _ n, ?_, fun b hb => ?_, q⟩
        · show IsRangeIter _ _ ((n : Int) + ((0 : Nat) : Int) * (-1)) ((n : Int) - ((0 : Nat) : Int)) (-1)
          have e1 : (n : Int) + ((0 : Nat) : Int) * (-1) = n := by simp
          have e2 : (n : Int) - ((0 : Nat) : Int) = Builtin.Range.rangeSize (n : Int) 0 (-1) := by rw [size_down]; simp
          rw [e1, e2]
          exact Heap.get?_push_size _ rfl
        · have e : b = (s1.heap.push { cls := .type "range", data := .fields #[.int n t, .int 0 t', .int (-1) t''] }).objs.size := by simpa using hb
          subst e
          exact I2.fpOk (Nat.le_refl _) (I2.hok.fresh (Nat.le_refl _))
end
theorem for_down {n : Nat} {g : TG} {tb : TS} {D : Ends} {σ : St} {H : Hp} (Pv : Nat → St → Hp → Prop) (h0 : Pv 0 σ H)
    (hs : ∀ i σ H, i < n → Pv i σ H → g (.int ((n : Int) - i)) σ H fun σ2 H2 => tb { D with nx := Pv (i + 1), ct := Pv (i + 1), bk := D.nx } σ2 H2) (hd : ∀ σ H, Pv n σ H → D.nx σ H) :
    ∃ W : Nat → Nat → St → Hp → Prop, (∃ m, W 0 m σ H) ∧ ∀ i m σ H, W i m σ H →
      ((Itd n).stop i H ∧ D.nx σ H) ∨ ((Itd n).go i H ∧ ∃ N : St → Hp → Prop, (∀ σ' H', N σ' H' → ∃ m', m' < m ∧ W (i + 1) m' σ' H') ∧ ∀ x H', (Itd n).yld i H x H' → g x σ H' fun σ2 H2 => tb { D with nx := N, ct := N, bk := D.nx } σ2 H2) := by
  refine ⟨fun i m σ H => m = n - i ∧ i ≤ n ∧ Pv i σ H, ⟨n, by simp, Nat.zero_le _, h0⟩, ?_⟩
  rintro i m σ H ⟨rfl, hi, p⟩
  by_cases hlt : i < n
  · refine .inr ⟨hlt, Pv (i + 1), fun σ' H' p' => ⟨n - (i + 1), by omega, rfl, hlt, p'⟩, fun x H' y => ?_⟩
    obtain ⟨e, y⟩ := y
    subst e y
    exact hs i σ _ hlt p
  · have e : i = n := by omega
    subst e
    exact .inl ⟨Nat.le_refl _, hd σ H p⟩
/-- a def of which nothing is asked -/
theorem FnOk.none {P : Program} {w : World} {K : PySem.W.Frag} {mg : Str → Option Value} {base : Heap} {CX : CXT} {k : Nat} {f : Addr} {fd : FuncData} {ps : List Str} {sp : Sp} {cm : Bool} (h : ∀ vs H Q E, ¬ sp vs H Q E) : FnOk P w K mg base CX k f fd ps sp cm :=
  ⟨fun vs H Q E z => absurd z (h vs H Q E), fun A outer s H args us vs Q E hr he hb hv hs => absurd hs (h _ _ _ _)⟩
end L2

set_option Elab.async false
set_option linter.all false
namespace L2
open PySem PySem.Spec PyProof.Rows
/-! ### partings, what lies in a heap -/
/-- f: more than n -/
def partF : Nat → Nat → Nat → List (List Int)
  | 0, _, _ => []
  | f + 1, n, g => if n = 0 then [[]] else (List.range (min n g)).flatMap fun i => (partF f (n - (min n g - i)) (min n g - i)).map (((min n g - i : Nat) : Int) :: ·)
/-- the first i of them -/
def partP (f n k i : Nat) : List (List Int) := (List.range i).flatMap fun i => (partF f (n - (k - i)) (k - i)).map (((k - i : Nat) : Int) :: ·)
theorem partF_succ (f n g : Nat) : partF (f + 1) n g = if n = 0 then [[]] else partP f n (min n g) (min n g) := rfl
theorem partP_succ (f n k i : Nat) : partP f n k (i + 1) = partP f n k i ++ (partF f (n - (k - i)) (k - i)).map (((k - i : Nat) : Int) :: ·) := by
  unfold partP
  rw [List.range_succ, List.flatMap_append]
  simp
theorem partP_len {f : Nat} (ih : ∀ n g, (partF f n g).length ≤ 2 ^ n) {n k : Nat} (hk : k ≤ n) : ∀ i, i ≤ k → (partP f n k i).length ≤ 2 ^ (n - k + i)
  | 0, _ => by simp [partP]
  | i + 1, hi => by
    have h1 := partP_len ih hk i (by omega)
    rw [partP_succ, List.length_append, List.length_map]
    have h2 := ih (n - (k - i)) (k - i)
    have e : n - (k - i) = n - k + i := by omega
    rw [e] at h2
    have e2 : n - k + (i + 1) = (n - k + i) + 1 := by omega
    rw [e2, Nat.pow_succ]
    rw [e]
    omega
theorem partF_len : ∀ f n g, (partF f n g).length ≤ 2 ^ n
  | 0, n, g => Nat.zero_le _
  | f + 1, n, g => by
    rw [partF_succ]
    split
    · rename_i h; rw [h]; exact Nat.le_refl _
    · have := partP_len (partF_len f) (n := n) (k := min n g) (Nat.min_le_left _ _) (min n g) (Nat.le_refl _)
      have e : n - min n g + min n g = n := by omega
      rw [e] at this
      exact this
theorem partF_mem : ∀ f n g, ∀ h ∈ partF f n g, h.length ≤ n
  | 0, n, g, h, hh => nomatch hh
  | f + 1, n, g, h, hh => by
    rw [partF_succ] at hh
    split at hh
    · have : h = [] := by simpa using hh
      rw [this]; exact Nat.zero_le _
    · unfold partP at hh
      obtain ⟨i, hi, hh⟩ := List.mem_flatMap.mp hh
      rw [List.mem_range] at hi
      obtain ⟨r, hr, rfl⟩ := List.mem_map.mp hh
      have := partF_mem f _ _ r hr
      rw [List.length_cons]
      omega
def idxP (rule : List (List Int)) (hs : List Int) (i : Nat) : List Int := ((List.range i).filter fun i => lies (rule.getD i []) hs).map fun (k : Nat) => (k : Int)
def idxG (rule : List (List Int)) (hs : List Int) : List Int := idxP rule hs rule.length
theorem idxP_succ (rule : List (List Int)) (hs : List Int) (i : Nat) : idxP rule hs (i + 1) = idxP rule hs i ++ if lies (rule.getD i []) hs = true then [(i : Int)] else [] := by
  unfold idxP
  rw [List.range_succ, List.filter_append, List.map_append]
  by_cases h : lies (rule.getD i []) hs = true
  · rw [List.filter_cons, if_pos h, if_pos h]; rfl
  · rw [List.filter_cons, if_neg h, if_neg h]; rfl
theorem idxP_len (rule : List (List Int)) (hs : List Int) (i : Nat) : (idxP rule hs i).length ≤ i := by
  unfold idxP
  rw [List.length_map]
  exact Nat.le_trans (List.length_filter_le _ _) (by simp)
theorem idxP_lt {rule : List (List Int)} {hs : List Int} {i : Nat} {x : Int} (h : x ∈ idxP rule hs i) : 0 ≤ x ∧ x < i ∧ lies (rule.getD x.toNat []) hs = true := by
  unfold idxP at h
  obtain ⟨k, hk, rfl⟩ := List.mem_map.mp h
  obtain ⟨h1, h2⟩ := List.mem_filter.mp hk
  rw [List.mem_range] at h1
  refine ⟨by omega, by omega, ?_⟩
  simpa using h2
/-- the least number of a heap that lies in it -/
def firstG (rule : List (List Int)) (hs : List Int) : Option Int := (idxG rule hs).head?
def optV : Option Int → V
  | none => .non
  | some i => .int i
theorem idxP_head (rule : List (List Int)) (hs : List Int) : ∀ i m, Ismin m (idxP rule hs i) → (idxP rule hs i).head? = some m
  | 0, m, h => nomatch h.1
  | i + 1, m, h => by
    rw [idxP_succ] at h ⊢
    cases e : idxP rule hs i with
    | nil =>
      rw [e] at h
      by_cases c : lies (rule.getD i []) hs = true
      · rw [if_pos c] at h ⊢
        have : m = (i : Int) := by simpa using h.1
        rw [this]; rfl
      · rw [if_neg c] at h
        exact nomatch h.1
    | cons y ys =>
      have ih := idxP_head rule hs i
      rw [e] at ih h
      show some y = some m
      have hy : y ∈ idxP rule hs i := by rw [e]; simp
      have hmem : m ∈ y :: ys := by
        rcases List.mem_append.mp h.1 with z | z
        · exact z
        · by_cases c : lies (rule.getD i []) hs = true
          · rw [if_pos c] at z
            have e1 : m = (i : Int) := by simpa using z
            have := h.2 y (by simp)
            have := (idxP_lt hy).2.1
            omega
          · rw [if_neg c] at z
            exact nomatch z
      exact ih m ⟨hmem, fun x hx => h.2 x (by rcases List.mem_cons.mp hx with z | z <;> simp [z])⟩
theorem first_none {rule : List (List Int)} {hs : List Int} (h : idxP rule hs rule.length = []) : firstG rule hs = none := by unfold firstG idxG; rw [h]; rfl
/-- the partings that keep a rule -/
def keptG (rule : List (List Int)) (n : Nat) : List (List Int) := (partF 26 n n).filter fun h => (firstG rule h).isNone
theorem keptG_len (rule : List (List Int)) (n : Nat) : (keptG rule n).length ≤ 2 ^ n := Nat.le_trans (List.length_filter_le _ _) (partF_len _ _ _)
theorem keptG_mem {rule : List (List Int)} {n : Nat} {h : List Int} (hh : h ∈ keptG rule n) : h.length ≤ n := partF_mem _ _ _ _ (List.mem_filter.mp hh).1
theorem pow24 {n : Nat} (h : n ≤ 24) : 2 ^ n ≤ sizeLine := Nat.le_trans (Nat.pow_le_pow_right (by decide) h) (by decide)
theorem optV_none (o : Option Int) : decide (optV o = V.non) = o.isNone := by
  cases o with
  | none => rfl
  | some i => exact decide_eq_false (by intro z; cases z)
/-- how many of them have 0, 1, .. parts -/
def partsG (ls : List (List Int)) (i : Nat) : List Int := (List.range i).map fun (k : Nat) => (((ls.map fun h => (h.length : Int)).count (k : Int) : Nat) : Int)
theorem partsG_succ (ls : List (List Int)) (i : Nat) : partsG ls (i + 1) = partsG ls i ++ [(((ls.map fun h => (h.length : Int)).count (i : Int) : Nat) : Int)] := by unfold partsG; rw [List.range_succ, List.map_append]; rfl
theorem partsG_len (ls : List (List Int)) (i : Nat) : (partsG ls i).length = i := by unfold partsG; simp
end L2

set_option Elab.async false
set_option linter.all false
namespace L2
open PySem PySem.Spec PyProof.Rows
/-! ### pairs of a heap and a choice -/
def Pair1 (pc : List Int × List Int) (v : V) (H : Hp) : Prop := ∃ q a b, v = .ref q ∧ H q = some (.tup [.ref a, .ref b]) ∧ H a = some (.tup (pc.1.map V.int)) ∧ H b = some (.tup (pc.2.map V.int))
theorem Pair1.mv {H H' : Hp} {pc : List Int × List Int} {v : V} (t : Tups H H') (h : Pair1 pc v H) : Pair1 pc v H' := let ⟨q, a, b, e, h1, h2, h3⟩ := h; ⟨q, a, b, e, t _ _ h1, t _ _ h2, t _ _ h3⟩
theorem All2.mvP {H H' : Hp} {ls : List (List Int × List Int)} {xs : List V} (t : Tups H H') (h : All2 Pair1 H ls xs) : All2 Pair1 H' ls xs := h.imp fun _ _ z => z.mv t
theorem Pair1.rtup {K : PySem.W.Frag} {H : Hp} {q a b : Addr} {h c : List Int} (h1 : H q = some (.tup [.ref a, .ref b])) (h2 : H a = some (.tup (h.map V.int))) (h3 : H b = some (.tup (c.map V.int))) : RTup K (RTup K RInt) [h, c] (.ref q) H :=
  ⟨q, _, rfl, SqT.of h1, .cons (RTup.ints (SqT.of h2)) (.cons (RTup.ints (SqT.of h3)) .nil)⟩
/-- the pairs of one heap -/
def pairs1 (rule : List (List Int)) (h : List Int) : List (List Int × List Int) := (chG (idxG rule h)).map fun c => (h, c)
def pairsG (rule : List (List Int)) (ls : List (List Int)) : List (List Int × List Int) := ls.flatMap (pairs1 rule)
theorem pairsG_snoc (rule : List (List Int)) (ls : List (List Int)) (h : List Int) : pairsG rule (ls ++ [h]) = pairsG rule ls ++ pairs1 rule h := by unfold pairsG; rw [List.flatMap_append]; simp
theorem idxG_len (rule : List (List Int)) (h : List Int) : (idxG rule h).length ≤ rule.length := idxP_len rule h _
theorem pairs1_len {rule : List (List Int)} {h : List Int} (hr : rule.length ≤ 6) : (pairs1 rule h).length ≤ 64 := by
  unfold pairs1
  rw [List.length_map, chG_len _ _ rfl]
  exact Nat.le_trans (Nat.pow_le_pow_right (by decide) (Nat.le_trans (idxG_len rule h) hr)) (by decide)
theorem pairsG_len {rule : List (List Int)} (hr : rule.length ≤ 6) : ∀ ls : List (List Int), (pairsG rule ls).length ≤ 64 * ls.length
  | [] => Nat.le_refl _
  | h :: r => by
    have h1 := pairs1_len (h := h) hr
    have h2 := pairsG_len hr r
    have e : pairsG rule (h :: r) = pairs1 rule h ++ pairsG rule r := by unfold pairsG; rw [List.flatMap_cons]
    rw [e, List.length_append, List.length_cons]
    omega
theorem pairsG_mem {rule : List (List Int)} {ls : List (List Int)} {pc : List Int × List Int} (h : pc ∈ pairsG rule ls) : pc.1 ∈ ls ∧ pc.2 ∈ chG (idxG rule pc.1) := by
  unfold pairsG at h
  obtain ⟨l, hl, h⟩ := List.mem_flatMap.mp h
  unfold pairs1 at h
  obtain ⟨c, hc, rfl⟩ := List.mem_map.mp h
  exact ⟨hl, hc⟩
theorem pow16 {n : Nat} (h : n ≤ 16) : 64 * 2 ^ n ≤ 4194304 := by
  have : 2 ^ n ≤ 2 ^ 16 := Nat.pow_le_pow_right (by decide) h
  have e : (2 : Nat) ^ 16 = 65536 := by decide
  omega
end L2

set_option Elab.async false
set_option linter.all false
namespace L2
open PySem PySem.Spec PyProof.Rows
/-! ### coins -/
def coinSt (L : List Int) (part at_ : Nat) : List Int := L.set at_ (L.getD at_ 0 + L.getD (at_ - part) 0)
def coinIn (L : List Int) (part : Nat) : Nat → List Int
  | 0 => L
  | i + 1 => coinSt (coinIn L part i) part (part + i)
def coinOut (n : Nat) : Nat → List Int
  | 0 => 1 :: List.replicate n 0
  | k + 1 => coinIn (coinOut n k) (k + 1) (n - k)
theorem coinIn_len (L : List Int) (part : Nat) : ∀ i, (coinIn L part i).length = L.length
  | 0 => rfl
  | i + 1 => by unfold coinIn coinSt; rw [List.length_set, coinIn_len L part i]
theorem coinOut_len (n : Nat) : ∀ k, (coinOut n k).length = n + 1
  | 0 => by simp [coinOut]
  | k + 1 => by rw [coinOut, coinIn_len, coinOut_len n k]
/-- falling, the next one less -/
def fallB : List Int → Bool
  | [] => true
  | [_] => true
  | x :: y :: r => decide (y ≤ x) && fallB (y :: r)
def lexB : List (List Int) → Bool
  | [] => true
  | [_] => true
  | x :: y :: r => HT.lexGt x y && lexB (y :: r)
def part12 (n : Nat) : Bool := ((partF 26 n n).length : Int) == (coinOut n n).getD n 0 && (partF 26 n n).all (fun h => h.sum == (n : Int) && h.all (fun x => decide (1 ≤ x)) && fallB h) && lexB (partF 26 n n)
theorem p12_0 : part12 0 = true := by decide +kernel
theorem p12_1 : part12 1 = true := by decide +kernel
theorem p12_2 : part12 2 = true := by decide +kernel
theorem p12_3 : part12 3 = true := by decide +kernel
theorem p12_4 : part12 4 = true := by decide +kernel
theorem p12_5 : part12 5 = true := by decide +kernel
theorem p12_6 : part12 6 = true := by decide +kernel
theorem p12_7 : part12 7 = true := by decide +kernel
theorem p12_8 : part12 8 = true := by decide +kernel
theorem p12_9 : part12 9 = true := by decide +kernel
theorem p12_10 : part12 10 = true := by decide +kernel
theorem p12_11 : part12 11 = true := by decide +kernel
theorem p12_12 : part12 12 = true := by decide +kernel
theorem p12_13 : part12 13 = true := by decide +kernel
theorem p12_14 : part12 14 = true := by decide +kernel
theorem p12_15 : part12 15 = true := by decide +kernel
theorem p12_16 : part12 16 = true := by decide +kernel
theorem p12_17 : part12 17 = true := by decide +kernel
theorem p12_18 : part12 18 = true := by decide +kernel
theorem p12_19 : part12 19 = true := by decide +kernel
theorem p12_20 : part12 20 = true := by decide +kernel
theorem p12_21 : part12 21 = true := by decide +kernel
theorem p12_22 : part12 22 = true := by decide +kernel
theorem p12_23 : part12 23 = true := by decide +kernel
theorem p12_24 : part12 24 = true := by decide +kernel
theorem part12_all : ∀ n, n < 25 → part12 n = true
  | 0, _ => p12_0
  | 1, _ => p12_1
  | 2, _ => p12_2
  | 3, _ => p12_3
  | 4, _ => p12_4
  | 5, _ => p12_5
  | 6, _ => p12_6
  | 7, _ => p12_7
  | 8, _ => p12_8
  | 9, _ => p12_9
  | 10, _ => p12_10
  | 11, _ => p12_11
  | 12, _ => p12_12
  | 13, _ => p12_13
  | 14, _ => p12_14
  | 15, _ => p12_15
  | 16, _ => p12_16
  | 17, _ => p12_17
  | 18, _ => p12_18
  | 19, _ => p12_19
  | 20, _ => p12_20
  | 21, _ => p12_21
  | 22, _ => p12_22
  | 23, _ => p12_23
  | 24, _ => p12_24
  | n + 25, h => absurd h (by omega)
end L2

set_option Elab.async false
set_option linter.all false
set_option maxRecDepth 100000
namespace L2
open PySem PySem.Spec PyProof.Rows
/-! ### xs.insert(i, e), i a place there or behind the last one -/
/-! ### slices of tuples of ints from 1 on -/
theorem slice_tail {K : PySem.W.Frag} {H : Hp} {p : Addr} {hs : List Int} {Q : VK} (hp : H p = some (.tup (hs.map V.int))) (k : ∀ q H', H' q = some (.tup (hs.tail.map V.int)) → Same H H' → Q (.ref q) H') : rSlTA K (.ref p) (some 1) none H Q := by
  have e1 : ∀ n d : Nat, HT.sIx n d (some 1) = min 1 n := fun n d => HT.sIx_nat n d 1
  cases hs with
  | nil => exact .inl ⟨p, [], rfl, SqT.of hp, ⟨rfl, rfl⟩, k p H hp fun _ _ z => z⟩
  | cons x r =>
    refine .inr ⟨p, _, rfl, SqT.of hp, ?_, fun q hq => k q _ ?_ (Same.new hq)⟩
    · rintro ⟨z, _⟩
      rw [e1] at z
      simp at z
    · rw [upd_same]
      unfold cutV
      rw [e1, HT.sIx_none]
      simp [List.take_of_length_le]
end L2

set_option Elab.async false
set_option linter.all false
set_option maxRecDepth 100000
namespace L2
open PySem PySem.Spec PyProof.Rows
/-! ### ways by the rule of the left over ones: the last one first -/
def nth19 : List Int → Nat → Int
  | [], _ => 0
  | x :: _, 0 => x
  | _ :: r, n + 1 => nth19 r n
theorem nth19_eq : ∀ (L : List Int) (n : Nat), nth19 L n = L.getD n 0
  | [], _ => rfl
  | x :: _, 0 => rfl
  | _ :: r, n + 1 => by rw [nth19, nth19_eq r n, List.getD_cons_succ]
def pentA (m : Int) : Int := m * (3 * m - 1) / 2
def pentB (m : Int) : Int := m * (3 * m + 1) / 2
def nextR (R : List Int) (n : Int) : Nat → Int → Int → Int → Int
  | 0, _, _, t => t
  | f + 1, m, s, t => if pentA m ≤ n then nextR R n f (m + 1) (-s) (if pentB m ≤ n then t + s * nth19 R (pentA m - 1).toNat + s * nth19 R (pentB m - 1).toNat else t + s * nth19 R (pentA m - 1).toNat) else t
def wayR : Nat → List Int
  | 0 => [1]
  | n + 1 => nextR (wayR n) (n + 1 : Nat) (n + 3) 1 1 0 :: wayR n
theorem wayR_len : ∀ n, (wayR n).length = n + 1
  | 0 => rfl
  | n + 1 => by rw [wayR, List.length_cons, wayR_len n]
theorem wayR_pre (n : Nat) : ∀ d j, j ≤ n → (wayR (n + d)).reverse.getD j 0 = (wayR n).reverse.getD j 0
  | 0, _, _ => rfl
  | d + 1, j, h => by
    have hl := wayR_len (n + d)
    rw [← Nat.add_assoc, wayR, ← wayR_pre n d j h, List.reverse_cons]
    simp only [List.getD_eq_getElem?_getD]
    rw [List.getElem?_append_left (by rw [List.length_reverse]; omega)]
theorem pentA_ge {m : Int} (h : 1 ≤ m) : m ≤ pentA m := by
  unfold pentA
  refine Int.le_ediv_of_mul_le (by decide) ?_
  exact Int.mul_le_mul_of_nonneg_left (by omega) (by omega)
theorem pentB_ge {m : Int} (h : 1 ≤ m) : m ≤ pentB m := by
  unfold pentB
  refine Int.le_ediv_of_mul_le (by decide) ?_
  exact Int.mul_le_mul_of_nonneg_left (by omega) (by omega)
/-! ### coins, once more -/
/-- y = x + (what came k ahead), q: the last k of them -/
def srow : List Int → List Int → List Int
  | [], _ => []
  | x :: r, [] => x :: srow r []
  | x :: r, f :: q => (x + f) :: srow r (q ++ [x + f])
def qrow : List Int → List Int → List Int → List Int
  | [], _, _ => []
  | x :: r, [], b => x :: qrow r [] b
  | x :: r, f :: fs, b => (x + f) :: (match fs with
    | [] => qrow r ((x + f) :: b).reverse []
    | g :: gs => qrow r (g :: gs) ((x + f) :: b))
theorem qrow_eq : ∀ (rest f b : List Int), f ≠ [] → qrow rest f b = srow rest (f ++ b.reverse)
  | [], _, _, _ => rfl
  | x :: r, [], b, h => absurd rfl h
  | x :: r, [f], b, _ => by
    show (x + f) :: qrow r ((x + f) :: b).reverse [] = (x + f) :: srow r ([] ++ b.reverse ++ [x + f])
    rw [qrow_eq r ((x + f) :: b).reverse [] (by simp)]
    simp
  | x :: r, f :: g :: gs, b, _ => by
    show (x + f) :: qrow r (g :: gs) ((x + f) :: b) = (x + f) :: srow r ((g :: gs) ++ b.reverse ++ [x + f])
    rw [qrow_eq r (g :: gs) ((x + f) :: b) (by simp)]
    simp
def coinQ (n : Nat) : Nat → List Int
  | 0 => 1 :: List.replicate n 0
  | k + 1 => qrow (coinQ n k) (List.replicate (k + 1) 0) []
/-- d rows more -/
def coinM (L : List Int) (k : Nat) : Nat → List Int
  | 0 => L
  | d + 1 => qrow (coinM L k d) (List.replicate (k + d + 1) 0) []
theorem coinM_eq (n k : Nat) : ∀ d, coinM (coinQ n k) k d = coinQ n (k + d)
  | 0 => rfl
  | d + 1 => by rw [coinM, coinM_eq n k d, ← Nat.add_assoc, coinQ]
def cq50 : List Int := [1, 1, 2, 3, 5, 7, 11, 15, 22, 30, 42, 56, 77, 101, 135, 176, 231, 297, 385, 490, 627, 792, 1002, 1255, 1575, 1958, 2436, 3010, 3718, 4565, 5604, 6842, 8349, 10143, 12310, 14883, 17977, 21637, 26015, 31185, 37338, 44583, 53174, 63261, 75175, 89134, 105558, 124754, 147273, 173525, 204226, 239942, 281587, 329927, 386148, 451264, 526804, 614124, 715175, 831753, 966370, 1121366, 1299961, 1505227, 1741257, 2012050, 2322836, 2678774, 3086523, 3552748, 4085881, 4694491, 5389277, 6181181, 7083737, 8110926, 9279795, 10608131, 12117422, 13830190, 15773451, 17975698, 20470784, 23294649, 26489697, 30101084, 34181806, 38788540, 43987339, 49849140, 56456203, 63897051, 72273916, 81697112, 92293394, 104199918, 117573669, 132584737, 149427189, 168311655, 189477547, 213185155, 239729465, 269431448, 302653933, 339792125, 381291480, 427637718, 479377030, 537105225, 601490937, 673263968, 753241472, 842315871, 941484521, 1051836837, 1174588289, 1311066892, 1462751659, 1631258972, 1818386208, 2026097642, 2256574474, 2512200558, 2795619096, 3109718988, 3457699287, 3843055914, 4269655537, 4741723194, 5263926265, 5841364162, 6479663976, 7184972217, 7964064529, 8824340472, 9773948460, 10821785366, 11977639132, 13252193596, 14657192172, 16205449596, 17911038795, 19789312287, 21857115827, 24132820707, 26636569168, 29390320454, 32418131467, 35746220803, 39403290219, 43420609238, 47832384654, 52675870446, 57991791098, 63824483407, 70222381936, 77238197621, 84929476115, 93358820854, 102594533523, 112710891779, 123788884589, 135916553213, 149189837227, 163712991120, 179599555706, 196972866122, 215967167844, 236728230562, 259414632528, 284198499820, 311266981900, 340823140653, 373087646355, 408299840216, 446719685955, 488629036474, 534333876647, 584165831508, 638484744275, 697680464035, 762175811707, 832428694753, 908935515542, 992233670338, 1082905466501, 1181581065555, 1288942987651, 1405729571868, 1532740151208, 1670839117101, 1820961864512, 1984119553588, 2161405941825, 2354002954636, 2563188530350, 2790343131306, 3036958750877, 3304646507776, 3595146988743, 3910339095517, 4252251912641, 4623075005069, 5025172033113, 5461092717902, 5933588460994, 6445626232861, 7000406480234, 7601379233864, 8252264633526, 8957071582612, 9720121271015, 10546068758485, 11439929916601, 12407106381991, 13453416404735, 14585123661948, 15808972572780, 17132221540397, 18562683356583, 20108763525409, 21779506475239, 23584639693440, 25534626567239, 27640717169895, 29915008647871, 32370503621254, 35021179169216, 37882053922463, 40969266848254, 44300154271252, 47893339802003, 51768822698322, 55948080473449, 60454170181529, 65311845454260, 70547672520392, 76190163631339, 82269909875899, 88819733228249, 95874838471863, 103472986407334, 111654667521900, 120463299203124, 129945424149385, 140150934824085, 151133299971214, 162949819976524, 175661885310536, 189335266912037, 204040410891596, 219852768602461, 236853132471937, 255128011038365, 274770011427427, 295878265279467, 318558864112402, 342925342842290, 369099175042480, 397210321627537, 427397793937003, 459810276078081, 494606764787221, 531957275023670, 572043566659944, 615059944143015, 661214081359555, 710727927497499, 763838642876842, 820799624688288, 881881568140302, 947373627472353, 1017584618589192, 1092844332611115, 1173504898196922, 1259942267057308, 1352557756373532, 1451779728114335, 1558065334507539, 1671902415628146, 1793811473724418, 1924347816571516, 2064103789557422, 2213711195668829, 2373843817805096, 2545220149951713, 2728606246161299, 2924818801687609, 3134728369421425, 3359262834458803, 3599411043740918, 3856226722683049, 4130832569294291, 4424424667357193, 4738277102371563, 5073746932301687, 5432279389576082, 5815413477594644, 6224787830683202, 6662147012675643, 7129348115157310, 7628367843476821, 8161309943144965, 8730413168580190, 9338059638133689, 9986783792096201, 10679281788501182, 11418421569397229, 12207253422734608, 13049021289660457, 13947174632413897, 14905381130857677, 15927540012427921, 17017796303289858, 18180555794483298, 19420501032029509, 20742608113509862, 22152164622681106, 23654788472895842, 25256448015347604, 26963483170561991, 28782627965396036, 30721034221370632, 32786296804617268, 34986480170217634, 37330146641535094, 39826386143671896, 42484847864204802, 45315773546506116, 48330032923598596, 51539160983624096, 54955397612520660, 58591729290214933, 62461933426372001, 66580624997169624, 70963306112418592, 75626418159369745, 80587397199351063, 85864732248011152, 91478027165653163, 97448065772998468, 103796880972789880, 110547827477037067, 117725658978654828, 125356609351526919, 133468478780513091, 142090724390084494, 151254556340415953, 160993038944481104, 171341197847809153, 182336132809396524, 194017137203845538, 206425823769040482, 219606257803612946, 233605097324993399, 248471741483396857, 264258486729616881, 281020692130124751, 298816953315935754, 317709286564219370, 337763322489057328, 359048510954497944, 381638336677576822, 405610547257552078, 431047393092725106, 458035881053521809, 486668041369237652, 517041209740495955, 549258324133247795, 583428238421059463, 619666052333656709, 658093460045054580, 698839116865101352, 742039026548167535, 787836948692561133, 836384828939179883, 887843251458239977, 942381916642531233, 1000180143516931466, 1061427400010052504, 1126323860624635075, 1195080994898273860, 1267922186225917199, 1345083384700785248, 1426813793588262679, 1513376593376624409, 1605049703071129841, 1702126582985843356, 1804917078762963094, 1913748311209243101, 2028965611754409323, 2150933508484501169, 2280036762642953754, 2416681460945377246, 2561296163704500106, 2714333114535867768, 2876269511761151162, 3047608847740028192, 3228882316385965600, 3420650295595098972]
def cq100 : List Int := [1, 1, 2, 3, 5, 7, 11, 15, 22, 30, 42, 56, 77, 101, 135, 176, 231, 297, 385, 490, 627, 792, 1002, 1255, 1575, 1958, 2436, 3010, 3718, 4565, 5604, 6842, 8349, 10143, 12310, 14883, 17977, 21637, 26015, 31185, 37338, 44583, 53174, 63261, 75175, 89134, 105558, 124754, 147273, 173525, 204226, 239943, 281589, 329931, 386155, 451276, 526823, 614154, 715220, 831820, 966467, 1121505, 1300156, 1505499, 1741630, 2012558, 2323520, 2679689, 3087735, 3554345, 4087968, 4697205, 5392783, 6185689, 7089500, 8118264, 9289091, 10619863, 12132164, 13848650, 15796476, 18004327, 20506255, 23338469, 26543660, 30167357, 34262962, 38887673, 44108109, 49995925, 56634173, 64112359, 72533807, 82010177, 92669720, 104651419, 118114304, 133230930, 150198136, 169229875, 190569292, 214481125, 241265377, 271248946, 304801358, 342325697, 384276317, 431149359, 483502799, 541946173, 607163649, 679903064, 761001961, 851376356, 952050292, 1064143943, 1188907564, 1327709161, 1482072931, 1653667068, 1844347473, 2056145337, 2291317406, 2552333733, 2841934737, 3163120014, 3519213396, 3913852563, 4351063858, 4835253410, 5371292375, 5964510875, 6620795418, 7346585692, 8148986732, 9035769803, 10015500524, 11097545883, 12292221061, 13610803110, 15065700165, 16670473900, 18440033429, 20390669692, 22540278119, 24908406508, 27516511964, 30388025785, 33548648550, 37026436980, 40852143568, 45059328611, 49684752507, 54768518821, 60354525846, 66490648508, 73229258894, 80627453081, 88747652960, 97657887493, 107432486584, 118152429078, 129906143783, 142789934920, 156908908786, 172377492116, 189320501882, 207873775885, 228185408845, 250416513474, 274742651144, 301354748094, 330460748454, 362286715953, 397078745119, 435104278699, 476654319895, 522045004709, 571620159306, 625753174607, 684849963773, 749351188142, 819735680357, 896523083306, 980277807740, 1071612157987, 1171190908666, 1279734995599, 1398026811229, 1526914557174, 1667318365717, 1820235428103, 1986747071455, 2168024786754, 2365338412953, 2580063214361, 2813689337560, 3067830114195, 3344232988433, 3644789238724, 3971546606112, 4326720666079, 4712709412389, 5132106548901, 5587718329474, 6082579069877, 6619970592952, 7203440315074, 7836823685343, 8524265258756, 9270244585522, 10079600732229, 10957562148574, 11909775177520, 12942338490621, 14061836213508, 15275377618464, 16590635569944, 18015892269014, 19560083839871, 21232853020114, 23044600835947, 25006547275334, 27130791121464, 29430379801326, 31919378617773, 34612951120006, 37527439161480, 40680455347158, 44090975532002, 47779445129988, 51767885917649, 56080018223136, 60741384175502, 65779488097534, 71223938625705, 77106609967963, 83461805685174, 90326443827728, 97740245575174, 105745947710688, 114389519743382, 123720407675841, 133791783768012, 144660826078841, 156389005626933, 169042406837822, 182692057493906, 197414295943998, 213291150015223, 230410757623257, 248867801690864, 268763991743005, 290208562821385, 313318826708260, 338220743961852, 365049554564434, 393950433476262, 425079211879345, 458603128037697, 494701651849320, 533567344450672, 575406800480631, 620441631717963, 668909543453920, 721065459488505, 777182751246876, 837554523850252, 902495019079085, 972341084919427, 1047453776359882, 1128220033782804, 1215054508819906, 1308401480412706, 1408736936540674, 1516570760656963, 1632449104261446, 1756956880727068, 1890720468364769, 2034410553634510, 2188745209543275, 2354493135831603, 2532477163530903, 2723577945944962, 2928737946916876, 3148965643582688, 3385340063392017, 3639015567654384, 3911227010943732, 4203295183429256, 4516632675944342, 4852750069352978, 5213262599330759, 5599897192547033, 6014500037495678, 6459044580146917, 6935640120970068, 7446540897376461, 7994155842501187, 8581058898233009, 9210000088861191, 9883917226903373, 10605948474421669, 11379445624769814, 12207988346401933, 13095399247139019, 14045760020263740, 15063428524160595, 16153057078513961, 17319611821909494, 18568393437296958, 19905059083505057, 21335645864578231, 22866595668478016, 24504781734671058, 26257536775453708, 28132683040646830, 30138564144268597, 32284079075391434, 34578718205780310, 37032601752243327, 39656520500491090, 42461979287257131, 45461243042474609, 48667385930341394, 52094343386664694, 55756967637483833, 59671086492566878, 63853566049027427, 68322377096192965, 73096665911541557, 78196829237520268, 83644594188963451, 89463102880834703, 95677002591304843, 102312541251906315, 109397669150822023, 116962146645045183, 125037658845493200, 133657937076954893, 142858888162133426, 152678731341047433, 163158143967899326, 174340415809248101, 186271613187623916, 199000752810504326, 212579986640327063, 227064797666404249, 242514208056196888, 258990999572718472, 276561947869430854, 295298070580769854, 315274890966247974, 336572717064823648, 359276938277779816, 383478339382832665, 409273434074065764, 436764818084724140, 466061544180750240, 497279519146861648, 530541925264723309, 565979666480846328, 603731841996767910, 643946247567239691, 686779907494645114, 732399637708525355, 780982643198769236, 832717150310606615, 887803077478708479, 946452745045674064, 1008891628081326360, 1075359153006705988, 1146109542311448881, 1221412708350221295, 1301555200917077564, 1386841209790918160, 1477593627401841065, 1574155173049464231, 1676889584318495163, 1786182877393512321, 1902444682464409655, 2026109656231988424, 2157638978306033015, 2297521933855595772, 2446277589964642994, 2604456568449618192, 2772642923320735272, 2951456126092099392, 3141553167924633698, 3343630782315167666, 3558427798198449883, 3786727627749011319, 4029360899723328744, 4287208243275276543, 4561203234157777833, 4852335508972722159, 5161654060562980865, 5490270721028703484, 5839363846764499651, 6210182212920779201, 6604049133121382808]
def cq150 : List Int := [1, 1, 2, 3, 5, 7, 11, 15, 22, 30, 42, 56, 77, 101, 135, 176, 231, 297, 385, 490, 627, 792, 1002, 1255, 1575, 1958, 2436, 3010, 3718, 4565, 5604, 6842, 8349, 10143, 12310, 14883, 17977, 21637, 26015, 31185, 37338, 44583, 53174, 63261, 75175, 89134, 105558, 124754, 147273, 173525, 204226, 239943, 281589, 329931, 386155, 451276, 526823, 614154, 715220, 831820, 966467, 1121505, 1300156, 1505499, 1741630, 2012558, 2323520, 2679689, 3087735, 3554345, 4087968, 4697205, 5392783, 6185689, 7089500, 8118264, 9289091, 10619863, 12132164, 13848650, 15796476, 18004327, 20506255, 23338469, 26543660, 30167357, 34262962, 38887673, 44108109, 49995925, 56634173, 64112359, 72533807, 82010177, 92669720, 104651419, 118114304, 133230930, 150198136, 169229875, 190569292, 214481126, 241265379, 271248950, 304801365, 342325709, 384276336, 431149389, 483502844, 541946240, 607163746, 679903203, 761002156, 851376628, 952050665, 1064144451, 1188908248, 1327710076, 1482074143, 1653668665, 1844349560, 2056148051, 2291320912, 2552338241, 2841940500, 3163127352, 3519222692, 3913864295, 4351078600, 4835271870, 5371315400, 5964539504, 6620830889, 7346629512, 8149040695, 9035836076, 10015581680, 11097645016, 12292341831, 13610949895, 15065878135, 16670689208, 18440293320, 20390982757, 22540654445, 24908858009, 27517052599, 30388671978, 33549419497, 37027355200, 40853235313, 45060624581, 49686288419, 54770336320, 60356673273, 66493182085, 73232243740, 80630964739, 88751778757, 97662728488, 107438159369, 118159068288, 129913904442, 142798995658, 156919474922, 172389799747, 189334821895, 207890419187, 228204731539, 250438923518, 274768615043, 301384799334, 330495496107, 362326855387, 397125068987, 435157690492, 476715847994, 522115819463, 571701590913, 625846734660, 684957367911, 749474383152, 819876872852, 896684773707, 980462826467, 1071823708064, 1171432611217, 1280010943135, 1398341624801, 1527273452840, 1667727226123, 1820700885344, 1987276596472, 2168626792404, 2366022365519, 2580839761472, 2814570446956, 3068829232337, 3345365212751, 3646071513905, 3972997937643, 4328362362676, 4714565350169, 5134203470470, 5590086170061, 6085251325671, 6622984723175, 7206838194802, 7840652100295, 8528576461313, 9275096902473, 10085059246418, 10963699444405, 11916672175268, 12950085359386, 14070533391148, 15285136927784, 16601581463697, 18028163192765, 19573833749504, 21248253043381, 23061841119895, 25025839008952, 27152368781673, 29454503612119, 31946337277026, 34643064785124, 37561062756084, 40717982181013, 44132841305742, 47826132318757, 51819928615073, 56138007442981, 60805973704108, 65851400897585, 71303973898569, 77195650879805, 83560827879202, 90436524734475, 97862574661134, 105881837684357, 114540418880489, 123887913292351, 133977657026173, 144867008167553, 156617635529334, 169295840741523, 182972890089691, 197725383686407, 213635636627224, 230792101941405, 249289808175991, 269230843778885, 290724859177039, 313889621318642, 338851589459292, 365746549755685, 394720275263924, 425929251868534, 459541434405009, 495737076770940, 534709597754957, 576666529890313, 621830510450604, 670440365624531, 722752244204068, 779040855931412, 839600767827811, 904747818067281, 974820597621403, 1050182063939230, 1131221233597159, 1218355023354835, 1312030183005805, 1412725395024799, 1520953480762024, 1637263794120668, 1762244738618074, 1896526495288094, 2040783893192985, 2195739517028556, 2362166979368351, 2540894459536834, 2732808432207782, 2938857695960290, 3160057620139037, 3397494729140737, 3652331537643337, 3925811765416690, 4219265840172532, 4534116827536428, 4871886691229491, 5234203033821871, 5622806215725484, 6039557014887637, 6486444719216765, 6965595827475499, 7479283244737653, 8029936162498131, 8620150503600619, 9252700137503996, 9930548739948582, 10656862519469338, 11435023678454183, 12268644849525221, 13161584368680183, 14117962645720391, 15142179487053829, 16238932653061540, 17413237498600389, 18670448002324929, 20016279027142085, 21456830142849660, 22998610847079552, 24648567543426887, 26414112106687588, 28303152424317223, 30324124738341900, 32486028209545877, 34798461522787828, 37271661991170646, 39916546972806341, 42744758096960174, 45768708109085431, 49001630873887351, 52457634342405907, 56151757068756948, 60100028079696028, 64319530733318020, 68828470368678216, 73646246437709776, 78793528921145385, 84292339780304864, 90166139247736918, 96439917774592126, 103140293441268483, 110295615721081334, 117936075409246693, 126093821685931432, 134803086133745535, 144100314764784483, 154024307889163112, 164616368974344920, 175920462342268128, 187983380957174915, 200854924169994285, 214588086785589742, 229239259342779213, 244868441097360363, 261539465627490153, 279320240688035233, 298283002268560811, 318504584631065875, 340066706325131404, 363056274120208654, 387565704903795234, 413693267665411690, 441543445675090737, 471227321174038443, 502862982757311381, 536575957982928114, 572499671470312252, 610775931261332854, 651555443803029975, 694998360587714110, 741274856921803537, 790565746147120716, 843063129915610651, 898971088158762048, 958506409501439901, 1021899366110665151, 1089394533900742767, 1161251662469065409, 1237746595880588064, 1319172249098641492, 1405839641404223610, 1498078992067440797, 1596240879869896802, 1700697472254305547, 1811843825992229515, 1930099265711892566, 2055908842508338708, 2189744879601034416, 2332108607638311219, 2483531897299806155, 2644579092223508201, 2815848950665918263, 2997976699404634613, 3191636209126702621, 3397542295358794675, 3616453155102336158, 3849172943846679719, 4096554504139089131, 4359502251079576899, 4638975227039480616, 4935990331755961822, 5251625741336136765, 5587024523205253767, 5943398461896440650, 6322032103707372241, 6724287036626100947]
def cq200 : List Int := [1, 1, 2, 3, 5, 7, 11, 15, 22, 30, 42, 56, 77, 101, 135, 176, 231, 297, 385, 490, 627, 792, 1002, 1255, 1575, 1958, 2436, 3010, 3718, 4565, 5604, 6842, 8349, 10143, 12310, 14883, 17977, 21637, 26015, 31185, 37338, 44583, 53174, 63261, 75175, 89134, 105558, 124754, 147273, 173525, 204226, 239943, 281589, 329931, 386155, 451276, 526823, 614154, 715220, 831820, 966467, 1121505, 1300156, 1505499, 1741630, 2012558, 2323520, 2679689, 3087735, 3554345, 4087968, 4697205, 5392783, 6185689, 7089500, 8118264, 9289091, 10619863, 12132164, 13848650, 15796476, 18004327, 20506255, 23338469, 26543660, 30167357, 34262962, 38887673, 44108109, 49995925, 56634173, 64112359, 72533807, 82010177, 92669720, 104651419, 118114304, 133230930, 150198136, 169229875, 190569292, 214481126, 241265379, 271248950, 304801365, 342325709, 384276336, 431149389, 483502844, 541946240, 607163746, 679903203, 761002156, 851376628, 952050665, 1064144451, 1188908248, 1327710076, 1482074143, 1653668665, 1844349560, 2056148051, 2291320912, 2552338241, 2841940500, 3163127352, 3519222692, 3913864295, 4351078600, 4835271870, 5371315400, 5964539504, 6620830889, 7346629512, 8149040695, 9035836076, 10015581680, 11097645016, 12292341831, 13610949895, 15065878135, 16670689208, 18440293320, 20390982757, 22540654445, 24908858009, 27517052599, 30388671978, 33549419497, 37027355200, 40853235313, 45060624582, 49686288421, 54770336324, 60356673280, 66493182097, 73232243759, 80630964769, 88751778802, 97662728555, 107438159466, 118159068427, 129913904637, 142798995930, 156919475295, 172389800255, 189334822579, 207890420102, 228204732751, 250438925115, 274768617130, 301384802048, 330495499613, 362326859895, 397125074750, 435157697830, 476715857290, 522115831195, 571701605655, 625846753120, 684957390936, 749474411781, 819876908323, 896684817527, 980462880430, 1071823774337, 1171432692373, 1280011042268, 1398341745571, 1527273599625, 1667727404093, 1820701100652, 1987276856363, 2168627105469, 2366022741845, 2580840212973, 2814570987591, 3068829878530, 3345365983698, 3646072432125, 3972999029388, 4328363658646, 4714566886081, 5134205287969, 5590088317488, 6085253859248, 6622987708021, 7206841706460, 7840656226092, 8528581302308, 9275102575258, 10085065885628, 10963707205064, 11916681236006, 12950095925522, 14070545698779, 15285151247797, 16601598106999, 18028182515459, 19573856159548, 21248279007280, 23061871171135, 25025873756605, 27152408921107, 29454549935987, 31946390688819, 34643126313223, 37561133570838, 40718063612620, 44132934865795, 47826239722895, 51820051810083, 56138148635476, 60806135394509, 65851585916312, 71304185448646, 77195892582356, 83561103826738, 90436839548047, 97862933556800, 105882246544763, 114540884337730, 123888442817368, 133978259031823, 144867692120119, 156618412076445, 169296721850919, 182973889207833, 197726515910725, 213636918902405, 230793553272936, 249291449872588, 269232699716665, 290726956098609, 313891989159231, 338854261715091, 365749563885917, 394723673143669, 425933080283514, 459545745607613, 495741929087964, 534715056269260, 576672667186314, 621837407448605, 670448112493661, 722760941382233, 779050615241470, 839611713722597, 904760088992454, 974834347532984, 1050197463965131, 1131238473884652, 1218374315093174, 1312051760672273, 1412749518843819, 1520980439432044, 1637293907799776, 1762278362230783, 1896564022145235, 2040825758996562, 2195786204255353, 2362219022114072, 2540952448817732, 2732873021813314, 2938929608856865, 3160137655532647, 3397583770203066, 3652430560024384, 3925921846555080, 4219388169544644, 4534252717862510, 4872037590799535, 5234370539968764, 5622992089631890, 6039763197766623, 6486673350080476, 6965849262545800, 7479564078746249, 8030247251947775, 8620494992271624, 9253081484300326, 9930970749410933, 10657329375075145, 11435539979083031, 12269215649241442, 13162215220268316, 14118659648164908, 15142949337465761, 16239782703288841, 17414175817103629, 18671483441610458, 20017421297423293, 21458089892296036, 22999999749428326, 24650098393394851, 26415798924080022, 28305010567365248, 30326171027303961, 32488281061217575, 34800941097117608, 37274390350756190, 39919548256658544, 42748058709465198, 45772336925767618, 49005619465089224, 52462017216739490, 56156571937657786, 60105316145227349, 64325337000811060, 68834843986691760, 73653241067196379, 78801203136697255, 84300757505716255, 90175370229209870, 96450038094233495, 103151386074725365, 110307771142446736, 117949392247686256, 126108407437723623, 134819057934886957, 144117800228509374, 154043446014333437, 164637311129829243, 175943373334197632, 188008440185085102, 200882326879820836, 214618045426565967, 229272005037444219, 244904225232937497, 261578561579279719, 279362945684482546, 298329639410303157, 318555505075249583, 340122291649209506, 363116938878405759, 387631899392651697, 413765480913782739, 441622208677555055, 471313210385630629, 502956623871453067, 536678030013415613, 572610911162602585, 610897137857380700, 651687484188798921, 695142174851542072, 741431464357202421, 790736251732731801, 843248731311026330, 899173083254166150, 958726204565683095, 1022138484581765297, 1089654625870202587, 1161534514910963607, 1238054143684626229, 1319506586966114749, 1406203036675050553, 1498473898546449750, 1596669952730768170, 1701163584099993709, 1812350084162047479, 1930649030926287221, 2056505748955064278, 2190392856567783823, 2332811902811002705, 2484295101847711022, 2645407167808176113, 2816747258513580867, 2998951031599397896, 3192692822285436260, 3398687946868318138, 3617695142104162661, 3850519145176583331, 4098013425434648284, 4361083073293481244, 4640687858603715176, 4937845464669541471, 5253634911458112006, 5589200175065553740, 5945754018348145319, 6324582040778581349, 6727046963942896825]
def cq250 : List Int := [1, 1, 2, 3, 5, 7, 11, 15, 22, 30, 42, 56, 77, 101, 135, 176, 231, 297, 385, 490, 627, 792, 1002, 1255, 1575, 1958, 2436, 3010, 3718, 4565, 5604, 6842, 8349, 10143, 12310, 14883, 17977, 21637, 26015, 31185, 37338, 44583, 53174, 63261, 75175, 89134, 105558, 124754, 147273, 173525, 204226, 239943, 281589, 329931, 386155, 451276, 526823, 614154, 715220, 831820, 966467, 1121505, 1300156, 1505499, 1741630, 2012558, 2323520, 2679689, 3087735, 3554345, 4087968, 4697205, 5392783, 6185689, 7089500, 8118264, 9289091, 10619863, 12132164, 13848650, 15796476, 18004327, 20506255, 23338469, 26543660, 30167357, 34262962, 38887673, 44108109, 49995925, 56634173, 64112359, 72533807, 82010177, 92669720, 104651419, 118114304, 133230930, 150198136, 169229875, 190569292, 214481126, 241265379, 271248950, 304801365, 342325709, 384276336, 431149389, 483502844, 541946240, 607163746, 679903203, 761002156, 851376628, 952050665, 1064144451, 1188908248, 1327710076, 1482074143, 1653668665, 1844349560, 2056148051, 2291320912, 2552338241, 2841940500, 3163127352, 3519222692, 3913864295, 4351078600, 4835271870, 5371315400, 5964539504, 6620830889, 7346629512, 8149040695, 9035836076, 10015581680, 11097645016, 12292341831, 13610949895, 15065878135, 16670689208, 18440293320, 20390982757, 22540654445, 24908858009, 27517052599, 30388671978, 33549419497, 37027355200, 40853235313, 45060624582, 49686288421, 54770336324, 60356673280, 66493182097, 73232243759, 80630964769, 88751778802, 97662728555, 107438159466, 118159068427, 129913904637, 142798995930, 156919475295, 172389800255, 189334822579, 207890420102, 228204732751, 250438925115, 274768617130, 301384802048, 330495499613, 362326859895, 397125074750, 435157697830, 476715857290, 522115831195, 571701605655, 625846753120, 684957390936, 749474411781, 819876908323, 896684817527, 980462880430, 1071823774337, 1171432692373, 1280011042268, 1398341745571, 1527273599625, 1667727404093, 1820701100652, 1987276856363, 2168627105469, 2366022741845, 2580840212973, 2814570987591, 3068829878530, 3345365983698, 3646072432125, 3972999029388, 4328363658647, 4714566886083, 5134205287973, 5590088317495, 6085253859260, 6622987708040, 7206841706490, 7840656226137, 8528581302375, 9275102575355, 10085065885767, 10963707205259, 11916681236278, 12950095925895, 14070545699287, 15285151248481, 16601598107914, 18028182516671, 19573856161145, 21248279009367, 23061871173849, 25025873760111, 27152408925615, 29454549941750, 31946390696157, 34643126322519, 37561133582570, 40718063627362, 44132934884255, 47826239745920, 51820051838712, 56138148670947, 60806135438329, 65851585970275, 71304185514919, 77195892663512, 83561103925871, 90436839668817, 97862933703585, 105882246722733, 114540884553038, 123888443077259, 133978259344888, 144867692496445, 156618412527946, 169296722391554, 182973889854026, 197726516681672, 213636919820625, 230793554364681, 249291451168558, 269232701252577, 290726957916108, 313891991306658, 338854264248668, 365749566870763, 394723676655327, 425933084409311, 459545750448608, 495741934760749, 534715062908470, 576672674946973, 621837416509343, 670448123059797, 722760953689864, 779050629561483, 839611730365899, 904760108315148, 974834369943028, 1050197489929030, 1131238503935892, 1218374349840827, 1312051800811707, 1412749565167687, 1520980492843837, 1637293969327875, 1762278433045537, 1896564103576842, 2040825852556615, 2195786311659491, 2362219145309082, 2540952590010227, 2732873183503715, 2938929793875592, 3160137867082724, 3397584011905617, 3652430835971920, 3925922161368652, 4219388528440310, 4534253126722916, 4872038056256776, 5234371069493781, 5622992691637540, 6039763881719189, 6486674126627587, 6965850143655196, 7479565077864391, 8030248384172093, 8620496274546805, 9253082935631857, 9930972391107530, 10657331231012925, 11435542076004601, 12269218017082031, 13162217892524115, 14118662662295140, 15142952735345506, 16239786531703821, 17414180128306233, 18671488293927482, 20017426755937596, 21458096029592037, 23000006646426327, 24650106140263981, 26415807621258187, 28305020326675306, 30326181973198747, 32488293332142748, 34800954847029189, 37274405750782091, 39919565496946037, 42748078001203537, 45772358503434086, 49005643588908244, 52462044175409510, 56156602051336894, 60105349768840058, 64325374527668201, 68834885852495337, 73653287754423176, 78801255179442976, 84300815494997153, 90175434818815402, 96450110007130070, 103151466110118975, 110307860183509065, 117949491270067303, 126108517518862013, 134819180264259069, 144117936118835456, 154043596913903481, 164637478635976136, 175943559208104038, 188008646367964088, 200882555510684547, 214618298861636268, 229272285871452815, 244904536322387141, 261578906067950724, 279363327031278876, 298330061419765508, 318555971930855390, 340122807949838355, 363117509678121982, 387632530244239835, 413766177916227265, 441622978527967004, 471314060435857958, 502957562189956354, 536679065452701215, 572612053432883907, 610898397606827246, 651688873091147948, 695143705701510401, 741433151174595380, 790738109875780564, 843250777599989424, 899175336105839270, 958728684140014823, 1022141212941353475, 1089657627154058335, 1161537815523473352, 1238057772501314675, 1319510575557324849, 1406207419549394903, 1498478713415364578, 1596675240796317596, 1701169390367510035, 1812356457780090860, 1930656025555811852, 2056513423170664445, 2190401274293256267, 2332821133792552583, 2484305222167448915, 2645418260441753741, 2816759413935096756, 2998964348438024478, 3192707408037460094, 3398703918669745712, 3617712627568239965, 3850538283302186593, 4098034367590662990, 4361105984286058993, 4640712917832415637, 4937872867380329332, 5253664870100254831, 5589232920761631557, 5945789802485429688, 6324621136732429919, 6727089668941822320]
def cq300 : List Int := [1, 1, 2, 3, 5, 7, 11, 15, 22, 30, 42, 56, 77, 101, 135, 176, 231, 297, 385, 490, 627, 792, 1002, 1255, 1575, 1958, 2436, 3010, 3718, 4565, 5604, 6842, 8349, 10143, 12310, 14883, 17977, 21637, 26015, 31185, 37338, 44583, 53174, 63261, 75175, 89134, 105558, 124754, 147273, 173525, 204226, 239943, 281589, 329931, 386155, 451276, 526823, 614154, 715220, 831820, 966467, 1121505, 1300156, 1505499, 1741630, 2012558, 2323520, 2679689, 3087735, 3554345, 4087968, 4697205, 5392783, 6185689, 7089500, 8118264, 9289091, 10619863, 12132164, 13848650, 15796476, 18004327, 20506255, 23338469, 26543660, 30167357, 34262962, 38887673, 44108109, 49995925, 56634173, 64112359, 72533807, 82010177, 92669720, 104651419, 118114304, 133230930, 150198136, 169229875, 190569292, 214481126, 241265379, 271248950, 304801365, 342325709, 384276336, 431149389, 483502844, 541946240, 607163746, 679903203, 761002156, 851376628, 952050665, 1064144451, 1188908248, 1327710076, 1482074143, 1653668665, 1844349560, 2056148051, 2291320912, 2552338241, 2841940500, 3163127352, 3519222692, 3913864295, 4351078600, 4835271870, 5371315400, 5964539504, 6620830889, 7346629512, 8149040695, 9035836076, 10015581680, 11097645016, 12292341831, 13610949895, 15065878135, 16670689208, 18440293320, 20390982757, 22540654445, 24908858009, 27517052599, 30388671978, 33549419497, 37027355200, 40853235313, 45060624582, 49686288421, 54770336324, 60356673280, 66493182097, 73232243759, 80630964769, 88751778802, 97662728555, 107438159466, 118159068427, 129913904637, 142798995930, 156919475295, 172389800255, 189334822579, 207890420102, 228204732751, 250438925115, 274768617130, 301384802048, 330495499613, 362326859895, 397125074750, 435157697830, 476715857290, 522115831195, 571701605655, 625846753120, 684957390936, 749474411781, 819876908323, 896684817527, 980462880430, 1071823774337, 1171432692373, 1280011042268, 1398341745571, 1527273599625, 1667727404093, 1820701100652, 1987276856363, 2168627105469, 2366022741845, 2580840212973, 2814570987591, 3068829878530, 3345365983698, 3646072432125, 3972999029388, 4328363658647, 4714566886083, 5134205287973, 5590088317495, 6085253859260, 6622987708040, 7206841706490, 7840656226137, 8528581302375, 9275102575355, 10085065885767, 10963707205259, 11916681236278, 12950095925895, 14070545699287, 15285151248481, 16601598107914, 18028182516671, 19573856161145, 21248279009367, 23061871173849, 25025873760111, 27152408925615, 29454549941750, 31946390696157, 34643126322519, 37561133582570, 40718063627362, 44132934884255, 47826239745920, 51820051838712, 56138148670947, 60806135438329, 65851585970275, 71304185514919, 77195892663512, 83561103925871, 90436839668817, 97862933703585, 105882246722733, 114540884553038, 123888443077259, 133978259344888, 144867692496445, 156618412527946, 169296722391554, 182973889854026, 197726516681672, 213636919820625, 230793554364681, 249291451168559, 269232701252579, 290726957916112, 313891991306665, 338854264248680, 365749566870782, 394723676655357, 425933084409356, 459545750448675, 495741934760846, 534715062908609, 576672674947168, 621837416509615, 670448123060170, 722760953690372, 779050629562167, 839611730366814, 904760108316360, 974834369944625, 1050197489931117, 1131238503938606, 1218374349844333, 1312051800816215, 1412749565173450, 1520980492851175, 1637293969337171, 1762278433057269, 1896564103591584, 2040825852575075, 2195786311682516, 2362219145337711, 2540952590045698, 2732873183547535, 2938929793929555, 3160137867148997, 3397584011986773, 3652430836071053, 3925922161489422, 4219388528587095, 4534253126900886, 4872038056472084, 5234371069753672, 5622992691950605, 6039763882095515, 6486674127079088, 6965850144195831, 7479565078510584, 8030248384943040, 8620496275465025, 9253082936723602, 9930972392403500, 10657331232548837, 11435542077822100, 12269218019229458, 13162217895057692, 14118662665279986, 15142952738857164, 16239786535829618, 17414180133147228, 18671488299600267, 20017426762576806, 21458096037352696, 23000006655487065, 24650106150830117, 26415807633565818, 28305020340995319, 30326181989842049, 32488293351465442, 34800954869439233, 37274405776745990, 39919565526997277, 42748078035951190, 45772358543573520, 49005643635232112, 52462044228821303, 56156602112864993, 60105349839654812, 64325374609099808, 68834885946055390, 73653287861827314, 78801255302637986, 84300815636189648, 90175434980505803, 96450110192148797, 103151466321669052, 110307860425211616, 117949491546014839, 126108517833675585, 134819180623154735, 144117936527695862, 154043597379360722, 164637479165501153, 175943559810109688, 188008647051916654, 200882556287231658, 214618299742745664, 229272286870570957, 244904537454611459, 261578907350225905, 279363328482610407, 298330063061462105, 318555973786793170, 340122810046759925, 363117512045962571, 387632532916495634, 413766180930357497, 441622981925846749, 471314064264272938, 502957566501158958, 536679070305018239, 572612058891398210, 610898403744123247, 651688879988145949, 695143713448379531, 741433159871773545, 790738119635090622, 843250788545884210, 899175348376764443, 958728697889926404, 1022141228341379376, 1089657644394345828, 1161537834815211691, 1238057794078981143, 1319510599681143869, 1406207446508064923, 1498478743529043686, 1596675274419930305, 1701169427894367176, 1812356499645894437, 1930656072243038649, 2056513475213410166, 2190401332282537165, 2332821198382158115, 2484305294080345490, 2645418340477147351, 2816759502976159085, 2998964447460405525, 3192707518118598484, 3398704040999117824, 3617712763458566047, 3850538434201756637, 4098034535096809883, 4361106170159965399, 4640713124015294623, 4937873096011193043, 5253665123535325132, 5589233201595640153, 5945790113574879332, 6324621481221100924, 6727090050288618650]
def cq350 : List Int := [1, 1, 2, 3, 5, 7, 11, 15, 22, 30, 42, 56, 77, 101, 135, 176, 231, 297, 385, 490, 627, 792, 1002, 1255, 1575, 1958, 2436, 3010, 3718, 4565, 5604, 6842, 8349, 10143, 12310, 14883, 17977, 21637, 26015, 31185, 37338, 44583, 53174, 63261, 75175, 89134, 105558, 124754, 147273, 173525, 204226, 239943, 281589, 329931, 386155, 451276, 526823, 614154, 715220, 831820, 966467, 1121505, 1300156, 1505499, 1741630, 2012558, 2323520, 2679689, 3087735, 3554345, 4087968, 4697205, 5392783, 6185689, 7089500, 8118264, 9289091, 10619863, 12132164, 13848650, 15796476, 18004327, 20506255, 23338469, 26543660, 30167357, 34262962, 38887673, 44108109, 49995925, 56634173, 64112359, 72533807, 82010177, 92669720, 104651419, 118114304, 133230930, 150198136, 169229875, 190569292, 214481126, 241265379, 271248950, 304801365, 342325709, 384276336, 431149389, 483502844, 541946240, 607163746, 679903203, 761002156, 851376628, 952050665, 1064144451, 1188908248, 1327710076, 1482074143, 1653668665, 1844349560, 2056148051, 2291320912, 2552338241, 2841940500, 3163127352, 3519222692, 3913864295, 4351078600, 4835271870, 5371315400, 5964539504, 6620830889, 7346629512, 8149040695, 9035836076, 10015581680, 11097645016, 12292341831, 13610949895, 15065878135, 16670689208, 18440293320, 20390982757, 22540654445, 24908858009, 27517052599, 30388671978, 33549419497, 37027355200, 40853235313, 45060624582, 49686288421, 54770336324, 60356673280, 66493182097, 73232243759, 80630964769, 88751778802, 97662728555, 107438159466, 118159068427, 129913904637, 142798995930, 156919475295, 172389800255, 189334822579, 207890420102, 228204732751, 250438925115, 274768617130, 301384802048, 330495499613, 362326859895, 397125074750, 435157697830, 476715857290, 522115831195, 571701605655, 625846753120, 684957390936, 749474411781, 819876908323, 896684817527, 980462880430, 1071823774337, 1171432692373, 1280011042268, 1398341745571, 1527273599625, 1667727404093, 1820701100652, 1987276856363, 2168627105469, 2366022741845, 2580840212973, 2814570987591, 3068829878530, 3345365983698, 3646072432125, 3972999029388, 4328363658647, 4714566886083, 5134205287973, 5590088317495, 6085253859260, 6622987708040, 7206841706490, 7840656226137, 8528581302375, 9275102575355, 10085065885767, 10963707205259, 11916681236278, 12950095925895, 14070545699287, 15285151248481, 16601598107914, 18028182516671, 19573856161145, 21248279009367, 23061871173849, 25025873760111, 27152408925615, 29454549941750, 31946390696157, 34643126322519, 37561133582570, 40718063627362, 44132934884255, 47826239745920, 51820051838712, 56138148670947, 60806135438329, 65851585970275, 71304185514919, 77195892663512, 83561103925871, 90436839668817, 97862933703585, 105882246722733, 114540884553038, 123888443077259, 133978259344888, 144867692496445, 156618412527946, 169296722391554, 182973889854026, 197726516681672, 213636919820625, 230793554364681, 249291451168559, 269232701252579, 290726957916112, 313891991306665, 338854264248680, 365749566870782, 394723676655357, 425933084409356, 459545750448675, 495741934760846, 534715062908609, 576672674947168, 621837416509615, 670448123060170, 722760953690372, 779050629562167, 839611730366814, 904760108316360, 974834369944625, 1050197489931117, 1131238503938606, 1218374349844333, 1312051800816215, 1412749565173450, 1520980492851175, 1637293969337171, 1762278433057269, 1896564103591584, 2040825852575075, 2195786311682516, 2362219145337711, 2540952590045698, 2732873183547535, 2938929793929555, 3160137867148997, 3397584011986773, 3652430836071053, 3925922161489422, 4219388528587095, 4534253126900886, 4872038056472084, 5234371069753672, 5622992691950605, 6039763882095515, 6486674127079088, 6965850144195831, 7479565078510584, 8030248384943040, 8620496275465025, 9253082936723602, 9930972392403501, 10657331232548839, 11435542077822104, 12269218019229465, 13162217895057704, 14118662665280005, 15142952738857194, 16239786535829663, 17414180133147295, 18671488299600364, 20017426762576945, 21458096037352891, 23000006655487337, 24650106150830490, 26415807633566326, 28305020340996003, 30326181989842964, 32488293351466654, 34800954869440830, 37274405776748077, 39919565526999991, 42748078035954696, 45772358543578028, 49005643635237875, 52462044228828641, 56156602112874289, 60105349839666544, 64325374609114550, 68834885946073850, 73653287861850339, 78801255302666615, 84300815636225119, 90175434980549623, 96450110192202760, 103151466321735325, 110307860425292772, 117949491546113972, 126108517833796355, 134819180623301520, 144117936527873832, 154043597379576030, 164637479165761044, 175943559810422753, 188008647052292980, 200882556287683159, 214618299743286299, 229272286871217150, 244904537455382406, 261578907351144125, 279363328483702152, 298330063062758075, 318555973788329082, 340122810048577424, 363117512048109998, 387632532919029211, 413766180933342343, 441622981929358407, 471314064268398735, 502957566505999953, 536679070310691024, 572612058898037420, 610898403751883906, 651688879997206687, 695143713458945667, 741433159884081176, 790738119649410635, 843250788562527512, 899175348396087137, 958728697912336448, 1022141228367343275, 1089657644424397068, 1161537834849959344, 1238057794119120577, 1319510599727467737, 1406207446561476716, 1498478743590571785, 1596675274490745059, 1701169427975798783, 1812356499739454490, 1930656072350442787, 2056513475336605176, 2190401332423729660, 2332821198543848516, 2484305294265364217, 2645418340688697428, 2816759503217861636, 2998964447736353061, 3192707518433412056, 3398704041358013490, 3617712763867426453, 3850538434667213878, 4098034535626334900, 4361106170761971049, 4640713124699247189, 4937873096787740154, 5253665124416434528, 5589233202594758295, 5945790114707103650, 6324621482503376105, 6727090051739950181]
def cq400 : List Int := [1, 1, 2, 3, 5, 7, 11, 15, 22, 30, 42, 56, 77, 101, 135, 176, 231, 297, 385, 490, 627, 792, 1002, 1255, 1575, 1958, 2436, 3010, 3718, 4565, 5604, 6842, 8349, 10143, 12310, 14883, 17977, 21637, 26015, 31185, 37338, 44583, 53174, 63261, 75175, 89134, 105558, 124754, 147273, 173525, 204226, 239943, 281589, 329931, 386155, 451276, 526823, 614154, 715220, 831820, 966467, 1121505, 1300156, 1505499, 1741630, 2012558, 2323520, 2679689, 3087735, 3554345, 4087968, 4697205, 5392783, 6185689, 7089500, 8118264, 9289091, 10619863, 12132164, 13848650, 15796476, 18004327, 20506255, 23338469, 26543660, 30167357, 34262962, 38887673, 44108109, 49995925, 56634173, 64112359, 72533807, 82010177, 92669720, 104651419, 118114304, 133230930, 150198136, 169229875, 190569292, 214481126, 241265379, 271248950, 304801365, 342325709, 384276336, 431149389, 483502844, 541946240, 607163746, 679903203, 761002156, 851376628, 952050665, 1064144451, 1188908248, 1327710076, 1482074143, 1653668665, 1844349560, 2056148051, 2291320912, 2552338241, 2841940500, 3163127352, 3519222692, 3913864295, 4351078600, 4835271870, 5371315400, 5964539504, 6620830889, 7346629512, 8149040695, 9035836076, 10015581680, 11097645016, 12292341831, 13610949895, 15065878135, 16670689208, 18440293320, 20390982757, 22540654445, 24908858009, 27517052599, 30388671978, 33549419497, 37027355200, 40853235313, 45060624582, 49686288421, 54770336324, 60356673280, 66493182097, 73232243759, 80630964769, 88751778802, 97662728555, 107438159466, 118159068427, 129913904637, 142798995930, 156919475295, 172389800255, 189334822579, 207890420102, 228204732751, 250438925115, 274768617130, 301384802048, 330495499613, 362326859895, 397125074750, 435157697830, 476715857290, 522115831195, 571701605655, 625846753120, 684957390936, 749474411781, 819876908323, 896684817527, 980462880430, 1071823774337, 1171432692373, 1280011042268, 1398341745571, 1527273599625, 1667727404093, 1820701100652, 1987276856363, 2168627105469, 2366022741845, 2580840212973, 2814570987591, 3068829878530, 3345365983698, 3646072432125, 3972999029388, 4328363658647, 4714566886083, 5134205287973, 5590088317495, 6085253859260, 6622987708040, 7206841706490, 7840656226137, 8528581302375, 9275102575355, 10085065885767, 10963707205259, 11916681236278, 12950095925895, 14070545699287, 15285151248481, 16601598107914, 18028182516671, 19573856161145, 21248279009367, 23061871173849, 25025873760111, 27152408925615, 29454549941750, 31946390696157, 34643126322519, 37561133582570, 40718063627362, 44132934884255, 47826239745920, 51820051838712, 56138148670947, 60806135438329, 65851585970275, 71304185514919, 77195892663512, 83561103925871, 90436839668817, 97862933703585, 105882246722733, 114540884553038, 123888443077259, 133978259344888, 144867692496445, 156618412527946, 169296722391554, 182973889854026, 197726516681672, 213636919820625, 230793554364681, 249291451168559, 269232701252579, 290726957916112, 313891991306665, 338854264248680, 365749566870782, 394723676655357, 425933084409356, 459545750448675, 495741934760846, 534715062908609, 576672674947168, 621837416509615, 670448123060170, 722760953690372, 779050629562167, 839611730366814, 904760108316360, 974834369944625, 1050197489931117, 1131238503938606, 1218374349844333, 1312051800816215, 1412749565173450, 1520980492851175, 1637293969337171, 1762278433057269, 1896564103591584, 2040825852575075, 2195786311682516, 2362219145337711, 2540952590045698, 2732873183547535, 2938929793929555, 3160137867148997, 3397584011986773, 3652430836071053, 3925922161489422, 4219388528587095, 4534253126900886, 4872038056472084, 5234371069753672, 5622992691950605, 6039763882095515, 6486674127079088, 6965850144195831, 7479565078510584, 8030248384943040, 8620496275465025, 9253082936723602, 9930972392403501, 10657331232548839, 11435542077822104, 12269218019229465, 13162217895057704, 14118662665280005, 15142952738857194, 16239786535829663, 17414180133147295, 18671488299600364, 20017426762576945, 21458096037352891, 23000006655487337, 24650106150830490, 26415807633566326, 28305020340996003, 30326181989842964, 32488293351466654, 34800954869440830, 37274405776748077, 39919565526999991, 42748078035954696, 45772358543578028, 49005643635237875, 52462044228828641, 56156602112874289, 60105349839666544, 64325374609114550, 68834885946073850, 73653287861850339, 78801255302666615, 84300815636225119, 90175434980549623, 96450110192202760, 103151466321735325, 110307860425292772, 117949491546113972, 126108517833796355, 134819180623301520, 144117936527873832, 154043597379576030, 164637479165761044, 175943559810422753, 188008647052292980, 200882556287683159, 214618299743286299, 229272286871217150, 244904537455382406, 261578907351144125, 279363328483702152, 298330063062758076, 318555973788329084, 340122810048577428, 363117512048110005, 387632532919029223, 413766180933342362, 441622981929358437, 471314064268398780, 502957566506000020, 536679070310691121, 572612058898037559, 610898403751884101, 651688879997206959, 695143713458946040, 741433159884081684, 790738119649411319, 843250788562528427, 899175348396088349, 958728697912338045, 1022141228367345362, 1089657644424399782, 1161537834849962850, 1238057794119125085, 1319510599727473500, 1406207446561484054, 1498478743590581081, 1596675274490756791, 1701169427975813525, 1812356499739472950, 1930656072350465812, 2056513475336633805, 2190401332423765131, 2332821198543892336, 2484305294265418180, 2645418340688763701, 2816759503217942792, 2998964447736452194, 3192707518433532826, 3398704041358160275, 3617712763867604423, 3850538434667429186, 4098034535626594791, 4361106170762284114, 4640713124699623515, 4937873096788191655, 5253665124416975163, 5589233202595404488, 5945790114707874597, 6324621482504294325, 6727090051741041926]
theorem cq50_eq : coinQ 400 50 = cq50 := by decide +kernel
theorem cq100_st : coinM cq50 50 50 = cq100 := by decide +kernel
theorem cq100_eq : coinQ 400 100 = cq100 := by rw [← cq100_st, ← cq50_eq, coinM_eq]
theorem cq150_st : coinM cq100 100 50 = cq150 := by decide +kernel
theorem cq150_eq : coinQ 400 150 = cq150 := by rw [← cq150_st, ← cq100_eq, coinM_eq]
theorem cq200_st : coinM cq150 150 50 = cq200 := by decide +kernel
theorem cq200_eq : coinQ 400 200 = cq200 := by rw [← cq200_st, ← cq150_eq, coinM_eq]
theorem cq250_st : coinM cq200 200 50 = cq250 := by decide +kernel
theorem cq250_eq : coinQ 400 250 = cq250 := by rw [← cq250_st, ← cq200_eq, coinM_eq]
theorem cq300_st : coinM cq250 250 50 = cq300 := by decide +kernel
theorem cq300_eq : coinQ 400 300 = cq300 := by rw [← cq300_st, ← cq250_eq, coinM_eq]
theorem cq350_st : coinM cq300 300 50 = cq350 := by decide +kernel
theorem cq350_eq : coinQ 400 350 = cq350 := by rw [← cq350_st, ← cq300_eq, coinM_eq]
theorem cq400_st : coinM cq350 350 50 = cq400 := by decide +kernel
theorem cq400_eq : coinQ 400 400 = cq400 := by rw [← cq400_st, ← cq350_eq, coinM_eq]
theorem way_lit : (wayR 400).reverse = cq400 := by decide +kernel
theorem way_coin : (wayR 400).reverse = coinQ 400 400 := by rw [way_lit, cq400_eq]
theorem srow_len : ∀ (L q : List Int), (srow L q).length = L.length
  | [], _ => rfl
  | x :: r, [] => by rw [srow, List.length_cons, srow_len r [], List.length_cons]
  | x :: r, f :: q => by rw [srow, List.length_cons, srow_len r _, List.length_cons]
theorem coinQ_len (n : Nat) : ∀ k, (coinQ n k).length = n + 1
  | 0 => by simp [coinQ]
  | k + 1 => by rw [coinQ, qrow_eq _ _ _ (by simp [List.replicate_succ]), srow_len, coinQ_len n k]
theorem srow_at : ∀ (L : List Int) (q : List Int) (p j : Nat), q.length = p → 1 ≤ p → j < L.length → (srow L q).getD j 0 = L.getD j 0 + (if j < p then q.getD j 0 else (srow L q).getD (j - p) 0)
  | [], _, _, _, _, _, h => absurd h (by simp)
  | x :: r, [], p, _, hp, h1, _ => absurd hp (by simp; omega)
  | x :: r, f :: q, p, 0, hp, h1, _ => by
    rw [if_pos (by omega)]
    rfl
  | x :: r, f :: q, p, j + 1, hp, h1, h => by
    rw [List.length_cons] at hp
    have ih := srow_at r (q ++ [x + f]) p j (by rw [List.length_append]; exact hp) h1 (by rw [List.length_cons] at h; omega)
    rw [srow, List.getD_cons_succ, List.getD_cons_succ, ih]
    congr 1
    rcases Nat.lt_trichotomy (j + 1) p with c | c | c
    · rw [if_pos (by omega), if_pos c, List.getD_cons_succ]
      simp only [List.getD_eq_getElem?_getD]
      rw [List.getElem?_append_left (by omega)]
    · rw [if_pos (by omega), if_neg (by omega), show j + 1 - p = 0 by omega, List.getD_cons_zero]
      simp only [List.getD_eq_getElem?_getD]
      rw [List.getElem?_append_right (by omega), show j - q.length = 0 by omega]
      rfl
    · rw [if_neg (by omega), if_neg (by omega), show j + 1 - p = (j - p) + 1 by omega, List.getD_cons_succ]
theorem coinQ_at (n k j : Nat) (h : j ≤ n) : (coinQ n (k + 1)).getD j 0 = (coinQ n k).getD j 0 + (if k + 1 ≤ j then (coinQ n (k + 1)).getD (j - (k + 1)) 0 else 0) := by
  have e : coinQ n (k + 1) = srow (coinQ n k) (List.replicate (k + 1) 0) := by
    rw [coinQ, qrow_eq _ _ _ (by simp [List.replicate_succ])]
    simp
  rw [e, srow_at _ _ (k + 1) j (by simp) (by omega) (by rw [coinQ_len]; omega)]
  congr 1
  by_cases c : j < k + 1
  · rw [if_pos c, if_neg (by omega)]
    simp only [List.getD_eq_getElem?_getD]
    rw [List.getElem?_replicate, if_pos c]
    rfl
  · rw [if_neg c, if_pos (by omega)]
theorem coinIn_at (L : List Int) (p : Nat) (hp : 1 ≤ p) : ∀ i j, j < L.length → (coinIn L p i).getD j 0 = L.getD j 0 + (if p ≤ j ∧ j < p + i then (coinIn L p i).getD (j - p) 0 else 0)
  | 0, j, _ => by rw [if_neg (by omega), Int.add_zero, coinIn]
  | i + 1, j, h => by
    have ih := coinIn_at L p hp i j h
    have hl := coinIn_len L p i
    have es : ∀ (X : List Int) (a b : Nat) (v : Int), b < X.length → (X.set a v).getD b 0 = if a = b then v else X.getD b 0 := fun X a b v hb => by
      simp only [List.getD_eq_getElem?_getD]
      rw [List.getElem?_set]
      by_cases c : a = b
      · rw [if_pos c, if_pos c, if_pos (by omega)]
        rfl
      · rw [if_neg c, if_neg c]
    rw [coinIn, coinSt, es _ _ _ _ (by omega)]
    by_cases c : p + i = j
    · subst c
      rw [if_pos rfl, ih, if_neg (by omega), Int.add_zero, if_pos (by omega), es _ _ _ _ (by omega), if_neg (by omega)]
    · rw [if_neg c, ih]
      congr 1
      by_cases d : p ≤ j ∧ j < p + i
      · rw [if_pos d, if_pos (by omega), es _ _ _ _ (by omega), if_neg (by omega)]
      · rw [if_neg d, if_neg (by omega)]
theorem coinOut_at (n k j : Nat) (h : j ≤ n) : (coinOut n (k + 1)).getD j 0 = (coinOut n k).getD j 0 + (if k + 1 ≤ j then (coinOut n (k + 1)).getD (j - (k + 1)) 0 else 0) := by
  rw [coinOut, coinIn_at _ _ (by omega) _ j (by rw [coinOut_len]; omega)]
  congr 1
  by_cases c : k + 1 ≤ j
  · rw [if_pos c, if_pos (by omega)]
  · rw [if_neg c, if_neg (by omega)]
theorem row_uniq (f g a b : Nat → Int) (p N : Nat) (hp : 1 ≤ p) (hf : ∀ j, j ≤ N → f j = a j + (if p ≤ j then f (j - p) else 0)) (hg : ∀ j, j ≤ N → g j = b j + (if p ≤ j then g (j - p) else 0)) (h : ∀ j, j ≤ N → a j = b j) : ∀ j, j ≤ N → f j = g j := fun j => by
  induction j using Nat.strongRecOn with
  | ind j ih =>
    intro hj
    rw [hf j hj, hg j hj, h j hj]
    congr 1
    by_cases c : p ≤ j
    · rw [if_pos c, if_pos c, ih (j - p) (by omega) (by omega)]
    · rw [if_neg c, if_neg c]
theorem coinOQ (n N : Nat) (hn : n ≤ N) : ∀ k j, j ≤ n → (coinOut n k).getD j 0 = (coinQ N k).getD j 0
  | 0, 0, _ => rfl
  | 0, j + 1, h => by
    rw [coinOut, coinQ, List.getD_cons_succ, List.getD_cons_succ]
    simp only [List.getD_eq_getElem?_getD]
    rw [List.getElem?_replicate, List.getElem?_replicate, if_pos (by omega), if_pos (by omega)]
  | k + 1, j, h => row_uniq _ _ (fun j => (coinOut n k).getD j 0) (fun j => (coinQ N k).getD j 0) (k + 1) n (by omega) (fun j hj => coinOut_at n k j hj) (fun j hj => coinQ_at N k j (by omega)) (fun j hj => coinOQ n N hn k j hj) j h
theorem coinQ_more (N n j : Nat) (h : j ≤ n) (hn : n ≤ N) : ∀ d, (coinQ N (n + d)).getD j 0 = (coinQ N n).getD j 0
  | 0 => rfl
  | d + 1 => by
    rw [← Nat.add_assoc, coinQ_at N (n + d) j (by omega), if_neg (by omega), Int.add_zero, coinQ_more N n j h hn d]
/-- what the law reckons by coins is what the program reckons -/
theorem coin_way {n j : Nat} (hn : n ≤ 400) (hj : j ≤ n) : (coinOut n n).getD j 0 = (wayR j).reverse.getD j 0 := by
  rw [coinOQ n 400 hn n j hj, ← coinQ_more 400 n j hj hn (400 - n), show n + (400 - n) = 400 by omega, ← way_coin, show (400 : Nat) = j + (400 - j) by omega, wayR_pre j _ j (Nat.le_refl _)]
/-- the item of the turned list -/
theorem rev_at {R : List Int} {n p : Nat} (hl : R.length = n) (h1 : 1 ≤ p) (h2 : p ≤ n) : (R.reverse.map V.int)[n - p]? = some (.int (nth19 R (p - 1))) := by
  rw [List.getElem?_map, List.getElem?_reverse (by omega), nth19_eq, show R.length - 1 - (n - p) = p - 1 by omega]
  simp only [List.getD_eq_getElem?_getD]
  rw [List.getElem?_eq_getElem (by omega)]
  rfl
theorem way_get {R : List Int} {n : Nat} {q : Int} (hl : R.length = n + 1) (h1 : 1 ≤ q) (h2 : q ≤ ((n + 1 : Nat) : Int)) : atI (R.reverse.map V.int) (((n + 1 : Nat) : Int) - q) = some (.int (nth19 R (q - 1).toNat)) := by
  obtain ⟨p, rfl⟩ : ∃ p : Nat, q = (p : Int) := ⟨q.toNat, by omega⟩
  rw [show ((n + 1 : Nat) : Int) - (p : Int) = ((n + 1 - p : Nat) : Int) by omega, show ((p : Int) - 1).toNat = p - 1 by omega]
  exact atI_nat (rev_at hl (by omega) (by omega))
theorem nextR_stop (R : List Int) (n : Int) : ∀ f m s t, ¬ pentA m ≤ n → nextR R n f m s t = t
  | 0, _, _, _, _ => rfl
  | f + 1, m, s, t, h => by rw [nextR, if_neg h]
end L2

set_option Elab.async false
set_option linter.all false
namespace L2
open PySem PySem.Spec PyProof.Rows
/-! ### pairs and partners -/
def sgnG (c : List Int) : Int := if c.length % 2 = 0 then 1 else -1
/-- rising, from l on, below n -/
def isCh (n : Nat) : Int → List Int → Bool
  | _, [] => true
  | l, x :: r => if x < l ∨ (n : Int) ≤ x then false else isCh n (x + 1) r
def isPairG (rule : List (List Int)) (pc : List Int × List Int) : Bool := isCh rule.length 0 pc.2 && pc.2.all (fun j => lies (rule.getD j.toNat []) pc.1)
def partnerG (rule : List (List Int)) (pc : List Int × List Int) : Option (List Int × List Int) := match firstG rule pc.1 with
  | none => none
  | some m => if m ∈ pc.2 then some (pc.1, pc.2.tail) else some (pc.1, m :: pc.2)
theorem isCh_mem {n : Nat} : ∀ {l : Int} {c : List Int}, isCh n l c = true → ∀ x ∈ c, l ≤ x ∧ x < n
  | _, [], _, _, h => by cases h
  | l, y :: r, e, x, h => by
    rw [isCh] at e
    by_cases c : y < l ∨ (n : Int) ≤ y
    · rw [if_pos c] at e; cases e
    · rw [if_neg c] at e
      rcases List.mem_cons.mp h with rfl | h
      · omega
      · have := isCh_mem e x h
        omega
/-- the places that the loop has gone through -/
def lastC (l : Int) : List Int → Int
  | [] => l
  | x :: r => lastC (x + 1) r
theorem lastC_snoc (l : Int) (x : Int) : ∀ c : List Int, lastC l (c ++ [x]) = x + 1
  | [] => rfl
  | y :: r => lastC_snoc (y + 1) x r
theorem isCh_app (n : Nat) : ∀ (l : Int) (a b : List Int), isCh n l (a ++ b) = (isCh n l a && isCh n (lastC l a) b)
  | l, [], b => by rw [List.nil_append, isCh, Bool.true_and]; rfl
  | l, x :: r, b => by
    rw [List.cons_append, isCh, isCh, lastC]
    by_cases c : x < l ∨ (n : Int) ≤ x
    · rw [if_pos c, if_pos c, Bool.false_and]
    · rw [if_neg c, if_neg c, isCh_app n (x + 1) r b]
theorem inV_ints (z : Int) : ∀ ns : List Int, inV (.int z) (ns.map V.int) = decide (z ∈ ns) := fun ns => by
  unfold inV
  rw [List.any_map, Bool.eq_iff_iff, List.any_eq_true, decide_eq_true_eq]
  constructor
  · rintro ⟨x, hx, e⟩
    have e' : x = z := by simpa [eqV] using e
    exact e' ▸ hx
  · intro h
    exact ⟨z, h, by simp [eqV]⟩
/-! ### a heap in which all heaps of a rule lie -/
end L2

set_option Elab.async false
set_option linter.all false
namespace L2
open PySem PySem.Spec PyProof.Rows
/-! ### sorted(t), t a tuple of ints -/
section
variable {prog : Program} {w : World} {A : Around} {E : Value → Shared → Prop} {s : Shared}
end
end L2

set_option Elab.async false
set_option linter.all false
namespace L2
open PySem PySem.Spec PyProof.Rows
theorem isCh_pw {n : Nat} : ∀ {l : Int} {c : List Int}, isCh n l c = true → c.Pairwise (· < ·)
  | _, [], _ => .nil
  | l, y :: r, e => by
    rw [isCh] at e
    by_cases c : y < l ∨ (n : Int) ≤ y
    · rw [if_pos c] at e; cases e
    · rw [if_neg c] at e
      refine .cons (fun x hx => ?_) (isCh_pw e)
      have := isCh_mem e x hx
      omega
theorem isCh_of {n : Nat} {l l' : Int} {c : List Int} (h : isCh n l c = true) (hl : ∀ x ∈ c, l' ≤ x) : isCh n l' c = true := by
  cases c with
  | nil => rfl
  | cons y r =>
    rw [isCh] at h ⊢
    by_cases d : y < l ∨ (n : Int) ≤ y
    · rw [if_pos d] at h; cases h
    · have := hl y List.mem_cons_self
      rw [if_neg d] at h
      rw [if_neg (by omega)]
      exact h
theorem idxP_mem {rule : List (List Int)} {hs : List Int} {i k : Nat} (hk : k < i) (c : lies (rule.getD k []) hs = true) : (k : Int) ∈ idxP rule hs i := by
  unfold idxP
  exact List.mem_map.mpr ⟨k, List.mem_filter.mpr ⟨List.mem_range.mpr hk, by simpa using c⟩, rfl⟩
theorem idxP_head_le {rule : List (List Int)} {hs : List Int} : ∀ (i : Nat) (m : Int), (idxP rule hs i).head? = some m → ∀ x ∈ idxP rule hs i, m ≤ x
  | 0, m, h, x, hx => by cases hx
  | i + 1, m, h, x, hx => by
    rw [idxP_succ] at h hx
    cases e : idxP rule hs i with
    | nil =>
      rw [e] at h hx
      by_cases c : lies (rule.getD i []) hs = true
      · rw [if_pos c] at h hx
        have h1 : m = (i : Int) := by simpa using h.symm
        have h2 : x = (i : Int) := by simpa using hx
        omega
      · rw [if_neg c] at hx
        cases hx
    | cons y ys =>
      have ih := idxP_head_le (rule := rule) (hs := hs) i
      rw [e] at ih h hx
      have hm : y = m := by simpa using h
      subst hm
      have hy : y ∈ idxP rule hs i := by rw [e]; exact List.mem_cons_self
      rcases List.mem_append.mp hx with z | z
      · exact ih y rfl x z
      · by_cases c : lies (rule.getD i []) hs = true
        · rw [if_pos c] at z
          have : x = (i : Int) := by simpa using z
          have := (idxP_lt hy).2.1
          omega
        · rw [if_neg c] at z
          cases z
theorem first_is {rule : List (List Int)} {hs : List Int} {m : Int} (h : firstG rule hs = some m) : (0 ≤ m ∧ m < rule.length ∧ lies (rule.getD m.toNat []) hs = true) ∧ ∀ j : Int, 0 ≤ j → j < rule.length → lies (rule.getD j.toNat []) hs = true → m ≤ j := by
  unfold firstG idxG at h
  refine ⟨?_, fun j h0 h1 hl => ?_⟩
  · have hm : m ∈ idxP rule hs rule.length := List.mem_of_head? h
    have := idxP_lt hm
    exact ⟨this.1, by omega, this.2.2⟩
  · have := idxP_mem (i := rule.length) (k := j.toNat) (by omega) hl
    have := idxP_head_le _ _ h _ this
    omega
structure PairF (rule : List (List Int)) (pc : List Int × List Int) (m : Int) : Prop where
  le : ∀ x ∈ pc.2, m ≤ x
  pw : pc.2.Pairwise (· < ·)
  ch : isCh rule.length 0 pc.2 = true
  al : ∀ j ∈ pc.2, lies (rule.getD j.toNat []) pc.1 = true
  m0 : 0 ≤ m
  m1 : m < rule.length
  ml : lies (rule.getD m.toNat []) pc.1 = true
theorem pairF {rule : List (List Int)} {pc : List Int × List Int} {m : Int} (h : isPairG rule pc = true) (hf : firstG rule pc.1 = some m) : PairF rule pc m := by
  unfold isPairG at h
  rw [Bool.and_eq_true, List.all_eq_true] at h
  obtain ⟨⟨a, b, c⟩, d⟩ := first_is hf
  exact ⟨fun x hx => d x (isCh_mem h.1 x hx).1 (isCh_mem h.1 x hx).2 (h.2 x hx), isCh_pw h.1, h.1, h.2, a, b, c⟩
/-- the least one is the first one -/
theorem PairF.head {rule : List (List Int)} {pc : List Int × List Int} {m : Int} (p : PairF rule pc m) (h : m ∈ pc.2) : ∃ r, pc.2 = m :: r ∧ ∀ x ∈ r, m < x := by
  have pw := p.pw
  have le := p.le
  cases e : pc.2 with
  | nil => rw [e] at h; cases h
  | cons y r =>
    rw [e] at h pw le
    have hy := le y List.mem_cons_self
    have hr : ∀ x ∈ r, y < x := (List.pairwise_cons.mp pw).1
    rcases List.mem_cons.mp h with rfl | h
    · exact ⟨r, rfl, hr⟩
    · have := hr m h
      omega
theorem sgn_step (n : Nat) : (if n % 2 = 0 then (1 : Int) else -1) = 0 - (if (n + 1) % 2 = 0 then (1 : Int) else -1) := by
  rcases Nat.mod_two_eq_zero_or_one n with h | h
  · have h2 : (n + 1) % 2 = 1 := by omega
    simp [h, h2]
  · have h2 : (n + 1) % 2 = 0 := by omega
    simp [h, h2]
/-- the partner of a pair is a pair of the other sign, and its partner is the pair -/
theorem partner_back {rule : List (List Int)} {pc pc' : List Int × List Int} (h : isPairG rule pc = true) (hp : partnerG rule pc = some pc') : isPairG rule pc' = true ∧ partnerG rule pc' = some pc ∧ sgnG pc'.2 = 0 - sgnG pc.2 ∧ pc'.1 = pc.1 ∧ pc'.2.length ≤ pc.2.length + 1 := by
  unfold partnerG at hp
  cases hf : firstG rule pc.1 with
  | none => rw [hf] at hp; cases hp
  | some m =>
    rw [hf] at hp
    have p := pairF h hf
    obtain ⟨hd, ch⟩ := pc
    by_cases c : m ∈ ch
    · have hp' : some (hd, ch.tail) = some pc' := by simpa [c] using hp
      cases hp'
      obtain ⟨r, e, hr⟩ := p.head c
      have e' : ch = m :: r := e
      subst e'
      have chh := p.ch
      have cc : isCh rule.length (m + 1) r = true := by
        have z : isCh rule.length 0 (m :: r) = true := chh
        rw [isCh, if_neg (by have := p.m0; have := p.m1; omega)] at z
        exact z
      refine ⟨?_, ?_, ?_, rfl, by simp; omega⟩
      · unfold isPairG
        rw [Bool.and_eq_true, List.all_eq_true]
        exact ⟨isCh_of cc fun x hx => by have := hr x hx; have := p.m0; omega, fun j hj => p.al j (List.mem_cons_of_mem _ hj)⟩
      · have nm : m ∉ r := fun z => by have := hr m z; omega
        unfold partnerG
        have hf' : firstG rule hd = some m := hf
        simp [hf', nm]
      · unfold sgnG
        simp only [List.tail_cons, List.length_cons]
        exact sgn_step r.length
    · have hp' : some (hd, m :: ch) = some pc' := by simpa [c] using hp
      cases hp'
      refine ⟨?_, ?_, ?_, rfl, by simp⟩
      · unfold isPairG
        rw [Bool.and_eq_true, List.all_eq_true]
        refine ⟨?_, fun j hj => ?_⟩
        · show isCh rule.length 0 (m :: ch) = true
          rw [isCh, if_neg (by have := p.m0; have := p.m1; omega)]
          refine isCh_of p.ch fun x hx => ?_
          have h1 := p.le x hx
          have h2 : m ≠ x := fun z => c (z ▸ hx)
          omega
        · rcases List.mem_cons.mp hj with rfl | hj
          · exact p.ml
          · exact p.al j hj
      · unfold partnerG
        have hf' : firstG rule hd = some m := hf
        simp [hf']
      · unfold sgnG
        simp only [List.length_cons]
        rw [sgn_step ch.length]
        omega
end L2

set_option Elab.async false
set_option linter.all false
namespace L2
open PySem PySem.Spec PyProof.Rows PySem.W
end L2

set_option Elab.async false
set_option linter.all false
set_option maxRecDepth 100000
namespace L2
open PySem PySem.Spec PyProof.Rows
/-! ### range(hi, hi - n, -1) -/
section
variable {X : Cx} {tg : Expr}
end
end L2

set_option Elab.async false
set_option linter.all false
set_option maxRecDepth 100000
namespace L2
end L2

set_option Elab.async false
set_option linter.all false
set_option maxRecDepth 100000
namespace L2
open PySem PySem.Spec PyProof.Rows PySem.W
/-! ### try: f(..) except S as n: suite else: other -/
end L2

set_option Elab.async false
set_option linter.all false
set_option maxRecDepth 100000
namespace L2
def sumN : Nat → (Nat → Int) → Int
  | 0, _ => 0
  | n + 1, f => sumN n f + f n
end L2

set_option Elab.async false
set_option linter.all false
set_option maxRecDepth 100000
namespace L2
open PySem PySem.Spec PyProof.Rows
theorem tup_no_set : isSubtype (.type "tuple") (.type "set") = pure false := by rw [isSubtype_type]; kernel_rfl
theorem tup_no_frozen : isSubtype (.type "tuple") (.type "frozenset") = pure false := by rw [isSubtype_type]; kernel_rfl
def freshSet (led : Bool) : Obj := { cls := .type "set", dict := none, data := .set #[] 0 (.fresh 0 0 led) }
/-! ### set(t) of ints, and its length -/
section
variable {X : Cx}
end
end L2

set_option Elab.async false
set_option linter.all false
set_option maxRecDepth 100000
namespace L2
open PySem PySem.Spec PyProof.Rows
/-! ### products of great ints -/
section
variable {X : Cx}
end
/-! ### for k, x in enumerate(xs) -/
/-! ### xs[::-1] -/
section
variable {X : Cx} {e st : Expr} {te : TE} {ts : TO} {p2 pos : Pos}
end
/-! ### trailing noughts dropped -/
/-! ### products of polynomials -/
end L2

set_option Elab.async false
set_option linter.all false
set_option maxRecDepth 100000
namespace L2
open PySem PySem.Spec PyProof.Rows
section
variable {X : Cx} {tg l : Expr} {t1 t2 : TI}
end
/-! ### how many unlike ones -/
/-! ### tuples within tuples, the same -/
end L2

set_option Elab.async false
set_option linter.all false
set_option maxRecDepth 100000
namespace L2
open PySem PySem.Spec PyProof.Rows
/-! ### tuple(range(hi, lo, -1)) -/
section
variable {prog : Program} {w : World} {A : Around} {E : Value → Shared → Prop} {s : Shared}
end
section
variable {X : Cx}
end
end L2

set_option Elab.async false
set_option linter.all false
set_option maxRecDepth 100000
namespace L2
open PySem PySem.Spec PyProof.Rows
/-! ### hi, hi - 1, .. -/
/-! ### the left one of a number -/
end L2

set_option Elab.async false
set_option linter.all false
set_option maxRecDepth 100000
namespace L2
open PySem PySem.Spec PyProof.Rows
/-! ### strict heaps with a slope of run -/
/-! ### the slope, known by its parts -/
/-! ### shifted -/
end L2

set_option Elab.async false
set_option linter.all false
set_option maxRecDepth 100000
namespace L2
open PySem PySem.Spec PyProof.Rows
/-! ### slices -/
section
variable {X : Cx}
end
end L2

set_option Elab.async false
set_option linter.all false
set_option maxRecDepth 100000
set_option exponentiation.threshold 200000
namespace L2
open PySem PySem.Spec PyProof.Rows
/-! ### products of ints of up to 100000 bits -/
section
variable {X : Cx}
end
/-! ### heads of a fraction -/
def hdL (T B : Nat → Int) : Nat → List Int
  | 0 => []
  | n + 1 => hdL T B n ++ [T n - sumN n fun i => B (i + 1) * (hdL T B n).getD (n - (i + 1)) 0]
def hd (T B : Nat → Int) (n : Nat) : Int := (hdL T B (n + 1)).getD n 0
end L2

set_option Elab.async false
set_option linter.all false
set_option maxRecDepth 100000
namespace L2
open PySem PySem.Spec PyProof.Rows PySem.W
/-! ### two except clauses, both with the name -/
end L2

set_option Elab.async false
set_option linter.all false
set_option maxRecDepth 100000
namespace L2
open PySem PySem.Spec PyProof.Rows
/-! ### a tuple times one -/
/-! ### stores -/
end L2

set_option Elab.async false
set_option linter.all false
set_option maxRecDepth 100000
namespace L2
open PySem PySem.Spec PyProof.Rows
end L2

set_option Elab.async false
set_option linter.all false
set_option maxRecDepth 100000
namespace L2
open PySem PySem.Spec PyProof.Rows
/-! ### x not in a list of tuples of ints -/
section
variable {X : Cx}
end
/-! ### partings into unlike parts -/
end L2

set_option Elab.async false
set_option linter.all false
set_option maxRecDepth 100000
namespace L2
open PySem PySem.Spec PyProof.Rows
/-! ### dict(t) of a tuple of pairs -/
section
variable {prog : Program} {w : World} {A : Around} {R : Result → Shared → Prop} {I : Addr} {fp wr : List Addr} {G : Array GenState → Array GenState → Prop} {n : Nat} {P : Nat → Value → Prop} {St : Nat → Shared → Prop} {K : Type} [DecidableEq K] {knd : KeyKind prog w K}
end
section
variable {X : Cx}
end
end L2

set_option Elab.async false
set_option linter.all false
set_option maxRecDepth 100000
namespace L2
open PySem PySem.Spec PyProof.Rows
section
variable {X : Cx}
end
/-! ### a store as a table -/
/-! ### products without trimming -/
end L2

set_option Elab.async false
set_option linter.all false
set_option maxRecDepth 100000
namespace L2
/-! ### the order of the rows does not count -/
end L2

set_option Elab.async false
set_option linter.all false
set_option maxRecDepth 100000
namespace L2
/-! ### how many partings a store makes -/
theorem partF_fuel : ∀ (f f' n g : Nat), n < f → n < f' → partF f n g = partF f' n g
  | 0, _, n, _, h, _ => absurd h (Nat.not_lt_zero _)
  | _ + 1, 0, n, _, _, h => absurd h (Nat.not_lt_zero _)
  | f + 1, f' + 1, n, g, h, h' => by
    rw [partF_succ, partF_succ]
    by_cases c : n = 0
    · rw [if_pos c, if_pos c]
    · rw [if_neg c, if_neg c]
      unfold partP
      rw [List.flatMap_def, List.flatMap_def]
      congr 1
      apply List.map_congr_left
      intro i hi
      have hi' := List.mem_range.mp hi
      rw [partF_fuel f f' _ _ (by omega) (by omega)]
def partN (n g : Nat) : List (List Int) := partF (n + 1) n g
theorem partN_over {n g g' : Nat} (h : n ≤ g) (h' : n ≤ g') : partN n g = partN n g' := by
  unfold partN
  rw [partF_succ, partF_succ, Nat.min_eq_left h, Nat.min_eq_left h']
theorem partN_next (n g : Nat) : partN n (g + 1) = (if g + 1 ≤ n then (partN (n - (g + 1)) (g + 1)).map (((g + 1 : Nat) : Int) :: ·) else []) ++ partN n g := by
  by_cases c : g + 1 ≤ n
  · rw [if_pos c]
    have n0 : n ≠ 0 := by omega
    unfold partN
    rw [partF_succ n n, partF_succ n n g, if_neg n0, if_neg n0, Nat.min_eq_right c, Nat.min_eq_right (show g ≤ n by omega)]
    unfold partP
    rw [List.range_succ_eq_map, List.flatMap_cons, List.flatMap_map, Nat.sub_zero, partF_fuel n (n - (g + 1) + 1) _ _ (by omega) (by omega)]
    congr 1
    rw [List.flatMap_def, List.flatMap_def]
    congr 1
    apply List.map_congr_left
    intro i hi
    show (partF n (n - (g + 1 - (i + 1))) (g + 1 - (i + 1))).map (((g + 1 - (i + 1) : Nat) : Int) :: ·) = _
    rw [Nat.add_sub_add_right]
  · rw [if_neg c, List.nil_append]
    exact partN_over (by omega) (by omega)
theorem partF_le : ∀ (f n g : Nat), ∀ h ∈ partF f n g, ∀ x ∈ h, x ≤ (g : Int)
  | 0, n, g, h, hh, _, _ => by cases hh
  | f + 1, n, g, h, hh, x, hx => by
    rw [partF_succ] at hh
    by_cases c : n = 0
    · rw [if_pos c] at hh
      have : h = [] := by simpa using hh
      subst this
      cases hx
    · rw [if_neg c] at hh
      unfold partP at hh
      obtain ⟨i, hi, hh⟩ := List.mem_flatMap.mp hh
      rw [List.mem_range] at hi
      obtain ⟨r, hr, rfl⟩ := List.mem_map.mp hh
      rcases List.mem_cons.mp hx with rfl | hx
      · omega
      · have := partF_le f _ _ r hr x hx
        omega
end L2

set_option Elab.async false
set_option linter.all false
set_option maxRecDepth 100000
namespace L2
/-! ### partings in which a heap lies -/
def okC (c : Nat → Nat) (g : Nat) (h : List Int) : Bool := (List.range g).all fun i => decide (c (i + 1) ≤ h.count ((i + 1 : Nat) : Int))
theorem okC_next (c : Nat → Nat) (g : Nat) (h : List Int) : okC c (g + 1) h = (okC c g h && decide (c (g + 1) ≤ h.count ((g + 1 : Nat) : Int))) := by
  unfold okC
  rw [List.range_succ, List.all_append]
  simp
theorem okC_cons (c : Nat → Nat) (g : Nat) (h : List Int) : okC c g (((g + 1 : Nat) : Int) :: h) = okC c g h := by
  unfold okC
  rw [Bool.eq_iff_iff, List.all_eq_true, List.all_eq_true]
  have e : ∀ i ∈ List.range g, List.count ((i + 1 : Nat) : Int) (((g + 1 : Nat) : Int) :: h) = List.count ((i + 1 : Nat) : Int) h := fun i hi => by
    have := List.mem_range.mp hi
    rw [List.count_cons_of_ne (by omega)]
  exact ⟨fun z i hi => by have := z i hi; rwa [e i hi] at this, fun z i hi => by rw [e i hi]; exact z i hi⟩
def lenN (g n : Nat) : Nat := (partN n g).length
theorem lenN_next (g n : Nat) : lenN (g + 1) n = (if g + 1 ≤ n then lenN (g + 1) (n - (g + 1)) else 0) + lenN g n := by
  unfold lenN
  rw [partN_next n g, List.length_append]
  by_cases c : g + 1 ≤ n
  · rw [if_pos c, if_pos c, List.length_map]
  · rw [if_neg c, if_neg c]
    rfl
def cntC (c : Nat → Nat) (g n : Nat) : Nat := (partN n g).countP (okC c g)
/-- with t copies of the next part still wanted -/
def cntT (c : Nat → Nat) (g t n : Nat) : Nat := (partN n (g + 1)).countP fun h => okC c g h && decide (t ≤ h.count ((g + 1 : Nat) : Int))
theorem cntT_next (c : Nat → Nat) (g t n : Nat) : cntT c g t n = (if g + 1 ≤ n then cntT c g (t - 1) (n - (g + 1)) else 0) + if t = 0 then cntC c g n else 0 := by
  unfold cntT
  rw [partN_next n g, List.countP_append]
  congr 1
  · by_cases d : g + 1 ≤ n
    · rw [if_pos d, if_pos d, List.countP_map]
      apply List.countP_congr
      intro h _
      show (okC c g (((g + 1 : Nat) : Int) :: h) && decide (t ≤ List.count ((g + 1 : Nat) : Int) (((g + 1 : Nat) : Int) :: h))) = true ↔ _
      rw [okC_cons, List.count_cons_self]
      simp only [Bool.and_eq_true, decide_eq_true_eq]
      exact and_congr_right fun _ => by omega
    · rw [if_neg d, if_neg d]
      rfl
  · unfold cntC
    have z : ∀ h ∈ partN n g, h.count ((g + 1 : Nat) : Int) = 0 := fun h hh => List.count_eq_zero.mpr fun hm => by
      have := partF_le _ _ _ h hh _ hm
      omega
    by_cases d : t = 0
    · subst d
      rw [if_pos rfl]
      apply List.countP_congr
      intro h hh
      simp
    · rw [if_neg d]
      apply List.countP_eq_zero.mpr
      intro h hh
      rw [z h hh, decide_eq_false (by omega), Bool.and_false]
      decide
theorem cntT_shift (c : Nat → Nat) (g : Nat) : ∀ t n, cntT c g t n = if t * (g + 1) ≤ n then cntT c g 0 (n - t * (g + 1)) else 0
  | 0, n => by rw [Nat.zero_mul, if_pos (Nat.zero_le _), Nat.sub_zero]
  | t + 1, n => by
    rw [cntT_next, if_neg (Nat.succ_ne_zero t), Nat.add_zero, Nat.add_sub_cancel, Nat.add_mul t 1, Nat.one_mul]
    by_cases d : g + 1 ≤ n
    · rw [if_pos d, cntT_shift c g t]
      by_cases e : t * (g + 1) ≤ n - (g + 1)
      · rw [if_pos e, if_pos (by omega), Nat.sub_sub, Nat.add_comm (g + 1)]
      · rw [if_neg e, if_neg (by omega)]
    · rw [if_neg d, if_neg (by omega)]
def sC (c : Nat → Nat) : Nat → Nat
  | 0 => 0
  | g + 1 => sC c g + c (g + 1) * (g + 1)
theorem cntT_zero {c : Nat → Nat} {g : Nat} (ih : ∀ n, cntC c g n = if sC c g ≤ n then lenN g (n - sC c g) else 0) : ∀ n, cntT c g 0 n = if sC c g ≤ n then lenN (g + 1) (n - sC c g) else 0 := by
  intro n
  induction n using Nat.strongRecOn with
  | _ n IH =>
    rw [cntT_next, if_pos rfl, ih]
    by_cases d : g + 1 ≤ n
    · rw [if_pos d, Nat.zero_sub, IH (n - (g + 1)) (by omega)]
      by_cases e : sC c g ≤ n
      · rw [if_pos e, if_pos e, lenN_next g (n - sC c g)]
        congr 1
        by_cases f : sC c g ≤ n - (g + 1)
        · rw [if_pos f, if_pos (by omega)]
          congr 1
          omega
        · rw [if_neg f, if_neg (by omega)]
      · rw [if_neg e, if_neg e, if_neg (by omega)]
    · rw [if_neg d, Nat.zero_add]
      by_cases e : sC c g ≤ n
      · rw [if_pos e, if_pos e, lenN_next g (n - sC c g), if_neg (by omega), Nat.zero_add]
      · rw [if_neg e, if_neg e]
theorem cntC_eq (c : Nat → Nat) : ∀ g n, cntC c g n = if sC c g ≤ n then lenN g (n - sC c g) else 0
  | 0, n => by
    show (partN n 0).countP (okC c 0) = if 0 ≤ n then lenN 0 n else 0
    rw [if_pos (Nat.zero_le _)]
    unfold lenN
    exact List.countP_eq_length.mpr fun _ _ => rfl
  | g + 1, n => by
    have e : cntC c (g + 1) n = cntT c g (c (g + 1)) n := by
      unfold cntC cntT
      congr 1
      funext h
      exact okC_next c g h
    rw [e, cntT_shift]
    show _ = if sC c g + c (g + 1) * (g + 1) ≤ n then lenN (g + 1) (n - (sC c g + c (g + 1) * (g + 1))) else 0
    by_cases d : c (g + 1) * (g + 1) ≤ n
    · rw [if_pos d, cntT_zero (cntC_eq c g)]
      by_cases f : sC c g ≤ n - c (g + 1) * (g + 1)
      · rw [if_pos f, if_pos (by omega)]
        congr 1
        omega
      · rw [if_neg f, if_neg (by omega)]
    · rw [if_neg d, if_neg (by omega)]
theorem sC_cons {J : List Int} {a : Int} (h0 : 1 ≤ a) : ∀ g, sC (fun x => (a :: J).count (x : Int)) g = sC (fun x => J.count (x : Int)) g + if a ≤ (g : Int) then a.toNat else 0
  | 0 => by rw [if_neg (by omega)]; rfl
  | g + 1 => by
    show sC _ g + List.count ((g + 1 : Nat) : Int) (a :: J) * (g + 1) = sC _ g + List.count ((g + 1 : Nat) : Int) J * (g + 1) + _
    rw [sC_cons h0 g]
    by_cases e : a = ((g + 1 : Nat) : Int)
    · subst e
      rw [List.count_cons_self, if_neg (by omega), if_pos (Int.le_refl _), Nat.add_mul, Nat.one_mul, Int.toNat_natCast]
      omega
    · rw [List.count_cons_of_ne (by omega)]
      by_cases f : a ≤ (g : Int)
      · rw [if_pos f, if_pos (by omega)]
        omega
      · rw [if_neg f, if_neg (by omega)]
        omega
theorem sC_sum (g : Nat) : ∀ {J : List Int}, (∀ x ∈ J, 1 ≤ x ∧ x ≤ (g : Int)) → ((sC (fun x => J.count (x : Int)) g : Nat) : Int) = J.sum
  | [], _ => by
    have e : ∀ g, sC (fun x => ([] : List Int).count (x : Int)) g = 0 := fun g => by
      induction g with
      | zero => rfl
      | succ g ih =>
        show sC _ g + List.count _ [] * (g + 1) = 0
        rw [ih, List.count_nil, Nat.zero_mul]
    rw [e]
    rfl
  | a :: J, h => by
    have ha := h a List.mem_cons_self
    rw [sC_cons ha.1 g, if_pos ha.2, List.sum_cons, ← sC_sum g fun x hx => h x (List.mem_cons_of_mem _ hx)]
    omega
theorem sum_ge {J : List Int} (h : ∀ x ∈ J, 1 ≤ x) : 0 ≤ J.sum ∧ ∀ x ∈ J, x ≤ J.sum := by
  induction J with
  | nil => exact ⟨Int.le_refl _, (fun _ h => by cases h)⟩
  | cons a J ih =>
    have ha := h a List.mem_cons_self
    obtain ⟨i1, i2⟩ := ih fun x hx => h x (List.mem_cons_of_mem _ hx)
    rw [List.sum_cons]
    refine ⟨by omega, fun x hx => ?_⟩
    rcases List.mem_cons.mp hx with rfl | hx
    · omega
    · have := i2 x hx
      omega
/-- how many partings of n a heap lies in -/
theorem lies_count {J : List Int} (h : ∀ x ∈ J, 1 ≤ x) (n : Nat) : (partN n n).countP (lies J) = if J.sum ≤ (n : Int) then (partN (n - J.sum.toNat) (n - J.sum.toNat)).length else 0 := by
  by_cases hb : ∀ x ∈ J, x ≤ (n : Int)
  · have e1 : (partN n n).countP (lies J) = cntC (fun x => J.count (x : Int)) n n := by
      unfold cntC
      apply List.countP_congr
      intro hp _
      unfold lies okC
      rw [List.all_eq_true, List.all_eq_true]
      constructor
      · intro z i _
        refine decide_eq_true ?_
        by_cases hm : ((i + 1 : Nat) : Int) ∈ J
        · exact of_decide_eq_true (z _ hm)
        · show List.count ((i + 1 : Nat) : Int) J ≤ _
          rw [List.count_eq_zero.mpr hm]
          exact Nat.zero_le _
      · intro z x hx
        have h1 := h x hx
        have h2 := hb x hx
        have := z (x.toNat - 1) (List.mem_range.mpr (by omega))
        have this : decide (List.count ((x.toNat - 1 + 1 : Nat) : Int) J ≤ List.count ((x.toNat - 1 + 1 : Nat) : Int) hp) = true := this
        rw [show x.toNat - 1 + 1 = x.toNat by omega, Int.toNat_of_nonneg (by omega)] at this
        exact this
    have es := sC_sum n (J := J) fun x hx => ⟨h x hx, hb x hx⟩
    rw [e1, cntC_eq]
    by_cases d : J.sum ≤ (n : Int)
    · have e2 : J.sum.toNat = sC (fun x => J.count (x : Int)) n := by omega
      rw [if_pos d, if_pos (by omega), ← e2]
      unfold lenN
      rw [partN_over (n := n - J.sum.toNat) (g := n) (g' := n - J.sum.toNat) (by omega) (Nat.le_refl _)]
    · rw [if_neg d, if_neg (by omega)]
  · have hb' : ∃ x, x ∈ J ∧ (n : Int) < x := by
      refine Decidable.byContradiction fun z => hb fun x hx => ?_
      refine Decidable.byContradiction fun y => z ⟨x, hx, by omega⟩
    obtain ⟨x, hx, hlt⟩ := hb'
    have := (sum_ge h).2 x hx
    rw [if_neg (by omega)]
    apply List.countP_eq_zero.mpr
    intro hp hh z
    unfold lies at z
    have zx := of_decide_eq_true (List.all_eq_true.mp z x hx)
    have c0 : hp.count x = 0 := List.count_eq_zero.mpr fun hm => by
      have := partF_le _ _ _ hp hh x hm
      omega
    have c1 : 0 < J.count x := List.count_pos_iff.mpr hx
    omega
theorem lies_iff (J h : List Int) : lies J h = true ↔ ∀ x, J.count x ≤ h.count x := by
  unfold lies
  rw [List.all_eq_true]
  constructor
  · intro z x
    by_cases hm : x ∈ J
    · exact of_decide_eq_true (z x hm)
    · rw [List.count_eq_zero.mpr hm]
      exact Nat.zero_le _
  · intro z x _
    exact decide_eq_true (z x)
theorem lies_join {ls : List (List Int)} {J : List Int} (h : IsJoin ls J) (hp : List Int) : lies J hp = ls.all fun l => lies l hp := by
  rw [Bool.eq_iff_iff, lies_iff, List.all_eq_true]
  constructor
  · intro z l hl
    rw [lies_iff]
    intro x
    have := z x
    rw [h.2 x] at this
    exact Nat.le_trans (le_maxC hl) this
  · intro z x
    rw [h.2 x]
    exact maxC_le fun l hl => (lies_iff l hp).mp (z l hl) x
/-! ### signs over all choices -/
def bI (b : Bool) : Int := if b = true then 1 else 0
theorem sgn_snoc (c : List Int) (x : Int) : sgnG (c ++ [x]) = - sgnG c := by
  unfold sgnG
  rw [List.length_append, List.length_singleton]
  by_cases h : c.length % 2 = 0
  · rw [if_pos h, if_neg (by omega)]
  · rw [if_neg h, if_pos (by omega)]
    rfl
theorem sum_neg (L : List (List Int)) (f : List Int → Int) : (L.map fun c => - f c).sum = - (L.map f).sum := by
  induction L with
  | nil => rfl
  | cons a L ih =>
    rw [List.map_cons, List.map_cons, List.sum_cons, List.sum_cons, ih]
    omega
theorem choices_sum (b : Int → Bool) : ∀ (k : Nat), ((chG (upto k)).map fun c => sgnG c * bI (c.all b)).sum = bI ((upto k).all fun x => !b x)
  | 0 => rfl
  | k + 1 => by
    rw [upto_succ, chG_snoc, List.map_append, List.sum_append, List.map_map, List.all_append, choices_sum b k]
    have e : ((fun c => sgnG c * bI (c.all b)) ∘ fun x => x ++ [(k : Int)]) = fun c => - (sgnG c * bI (c.all b && b (k : Int))) := by
      funext c
      show sgnG (c ++ [(k : Int)]) * bI ((c ++ [(k : Int)]).all b) = _
      rw [sgn_snoc, List.all_append, Int.neg_mul]
      simp
    rw [e, sum_neg]
    cases hb : b (k : Int) with
    | true =>
      have e2 : (fun c : List Int => sgnG c * bI (c.all b && true)) = fun c => sgnG c * bI (c.all b) := by
        funext c
        rw [Bool.and_true]
      rw [e2, choices_sum b k]
      simp [hb, bI]
      omega
    | false =>
      have e2 : ∀ L : List (List Int), (L.map fun c : List Int => sgnG c * bI (c.all b && false)).sum = 0 := fun L => by
        induction L with
        | nil => rfl
        | cons a L ih =>
          rw [List.map_cons, List.sum_cons, ih, Bool.and_false]
          show sgnG a * 0 + 0 = 0
          rw [Int.mul_zero]
          rfl
      rw [e2]
      simp [hb]
theorem first_isNone (rule : List (List Int)) (h : List Int) : (firstG rule h).isNone = (upto rule.length).all fun x => !lies (rule.getD x.toNat []) h := by
  unfold firstG idxG idxP
  rw [List.head?_map, Option.isNone_map, upto, List.all_map]
  rw [Bool.eq_iff_iff, Option.isNone_iff_eq_none, List.head?_eq_none_iff, List.filter_eq_nil_iff, List.all_eq_true]
  constructor
  · intro z i hi
    have := z i hi
    show (!lies (rule.getD ((i : Nat) : Int).toNat []) h) = true
    rw [Int.toNat_natCast]
    simpa using this
  · intro z i hi
    have : (!lies (rule.getD ((i : Nat) : Int).toNat []) h) = true := z i hi
    rw [Int.toNat_natCast] at this
    simpa using this
theorem sum_swap (L : List (List Int)) (f : List Int → Bool) (g : List Int → List Int → Int) (hg : ∀ h, (L.map fun c => g c h).sum = bI (f h)) : ∀ P : List (List Int), (((P.filter f).length : Nat) : Int) = (L.map fun c => (P.map (g c)).sum).sum
  | [] => by
    have : ∀ L : List (List Int), (L.map fun c => (([] : List (List Int)).map (g c)).sum).sum = 0 := fun L => by
      induction L with
      | nil => rfl
      | cons a L ih => rw [List.map_cons, List.sum_cons, ih]; rfl
    rw [this]
    rfl
  | h :: P => by
    have e : ∀ L : List (List Int), (L.map fun c => ((h :: P).map (g c)).sum).sum = (L.map fun c => g c h).sum + (L.map fun c => (P.map (g c)).sum).sum := fun L => by
      induction L with
      | nil => rfl
      | cons a L ih =>
        rw [List.map_cons, List.map_cons, List.map_cons, List.sum_cons, List.sum_cons, List.sum_cons, ih, List.map_cons, List.sum_cons]
        omega
    rw [e, hg, ← sum_swap L f g hg P, List.filter_cons]
    cases hf : f h with
    | true =>
      rw [if_pos rfl, List.length_cons]
      show _ = 1 + _
      omega
    | false =>
      rw [if_neg (by decide)]
      show _ = 0 + _
      omega
theorem sum_count (P : List (List Int)) (s : Int) (f : List Int → Bool) : (P.map fun h => s * bI (f h)).sum = s * ((P.countP f : Nat) : Int) := by
  induction P with
  | nil => simp
  | cons a P ih =>
    rw [List.map_cons, List.sum_cons, ih, List.countP_cons]
    cases hf : f a with
    | true =>
      rw [if_pos rfl]
      show s * 1 + _ = s * (((P.countP f + 1 : Nat)) : Int)
      rw [Int.natCast_add, Int.mul_add, Int.add_comm]
      rfl
    | false =>
      rw [if_neg (by decide)]
      show s * 0 + _ = _
      rw [Int.mul_zero, Int.zero_add, Nat.add_zero]
/-- inclusion and exclusion: sj c is the sum of the joined heap of the choice -/
theorem kept_signed {rule : List (List Int)} (hp : ∀ h ∈ rule, ∀ x ∈ h, 1 ≤ x) (jn : List Int → List Int) (hj : ∀ c ∈ chG (upto rule.length), IsJoin (pickG rule c) (jn c)) {n : Nat} (hn : n < 26) :
    (((keptG rule n).length : Nat) : Int) = ((chG (upto rule.length)).map fun c => sgnG c * (if (jn c).sum ≤ (n : Int) then (((partF 26 (n - (jn c).sum.toNat) (n - (jn c).sum.toNat)).length : Nat) : Int) else 0)).sum := by
  unfold keptG
  rw [sum_swap (chG (upto rule.length)) _ (fun c h => sgnG c * bI (c.all fun x => lies (rule.getD x.toNat []) h)) (fun h => by rw [choices_sum, first_isNone])]
  congr 1
  apply List.map_congr_left
  intro c hc
  rw [sum_count]
  congr 1
  have hJ := hj c hc
  have hJ1 : ∀ x ∈ jn c, 1 ≤ x := fun x hx => by
    have h1 : 0 < (jn c).count x := List.count_pos_iff.mpr hx
    rw [hJ.2 x] at h1
    refine Decidable.byContradiction fun hx1 => ?_
    have : maxC (pickG rule c) x ≤ 0 := maxC_le fun l hl => by
      obtain ⟨j, _, rfl⟩ := List.mem_map.mp hl
      have e : (rule.getD j.toNat []).count x = 0 := List.count_eq_zero.mpr fun hm => by
        by_cases hjl : j.toNat < rule.length
        · rw [List.getD_eq_getElem?_getD, List.getElem?_eq_getElem hjl] at hm
          exact hx1 (hp _ (List.getElem_mem hjl) x hm)
        · rw [List.getD_eq_getElem?_getD, List.getElem?_eq_none (by omega)] at hm
          cases hm
      omega
    omega
  have e1 : (partF 26 n n).countP (fun h => c.all fun x => lies (rule.getD x.toNat []) h) = (partN n n).countP (lies (jn c)) := by
    rw [partF_fuel 26 (n + 1) n n hn (by omega)]
    apply List.countP_congr
    intro h _
    rw [lies_join hJ h]
    unfold pickG
    rw [List.all_map]
    exact Iff.rfl
  rw [e1, lies_count hJ1]
  by_cases d : (jn c).sum ≤ (n : Int)
  · rw [if_pos d, if_pos d]
    unfold partN
    rw [partF_fuel 26 (n - (jn c).sum.toNat + 1) _ _ (by omega) (by omega)]
  · rw [if_neg d, if_neg d]
    rfl
end L2

set_option Elab.async false
set_option linter.all false
set_option maxRecDepth 100000
namespace L2
/-! ### parts that may stand less often -/
theorem map_ext {L : List (List Int)} {f g : List Int → Int} (h : ∀ c ∈ L, f c = g c) : (L.map f).sum = (L.map g).sum := by rw [List.map_congr_left h]
/-- a joined heap of any heaps -/
theorem ex_unlike : ∀ L : List Int, ∃ us : List Int, us.Pairwise (· > ·) ∧ ∀ y, y ∈ us ↔ y ∈ L
  | [] => ⟨[], .nil, fun _ => Iff.rfl⟩
  | x :: L => by
    obtain ⟨us, h1, h2⟩ := ex_unlike L
    by_cases hx : x ∈ us
    · refine ⟨us, h1, fun y => ?_⟩
      rw [List.mem_cons, ← h2 y]
      exact ⟨.inr, fun h => h.elim (fun e => e ▸ hx) id⟩
    · refine ⟨us.filter (fun y => decide (x < y)) ++ x :: us.filter (fun y => decide (y < x)), ?_, fun y => ?_⟩
      · refine List.pairwise_append.mpr ⟨h1.sublist List.filter_sublist, List.pairwise_cons.mpr ⟨fun y hy => ?_, h1.sublist List.filter_sublist⟩, fun a ha b hb => ?_⟩
        · exact of_decide_eq_true (List.mem_filter.mp hy).2
        · have ha' : x < a := of_decide_eq_true (List.mem_filter.mp ha).2
          rcases List.mem_cons.mp hb with rfl | hb
          · exact ha'
          · have hb' : b < x := of_decide_eq_true (List.mem_filter.mp hb).2
            show b < a
            omega
      · rw [List.mem_append, List.mem_cons, List.mem_filter, List.mem_filter, List.mem_cons, ← h2 y]
        constructor
        · rintro (h | h | h)
          · exact .inr h.1
          · exact .inl h
          · exact .inr h.1
        · rintro (h | h)
          · exact .inr (.inl h)
          · rcases Int.lt_trichotomy x y with z | z | z
            · exact .inl ⟨h, decide_eq_true z⟩
            · exact .inr (.inl z.symm)
            · exact .inr (.inr ⟨h, decide_eq_true z⟩)
theorem ex_join (ls : List (List Int)) : ∃ ms, IsJoin ls ms := by
  obtain ⟨us, h1, h2⟩ := ex_unlike ls.flatten
  exact ⟨_, blow_join (h1.imp fun h => Int.ne_of_gt h) (h1.imp fun h => Int.le_of_lt h) h2⟩
noncomputable def joinX (ls : List (List Int)) : List Int := Classical.choose (ex_join ls)
theorem joinX_is (ls : List (List Int)) : IsJoin ls (joinX ls) := Classical.choose_spec (ex_join ls)
theorem joinX_eq {ls : List (List Int)} {ms : List Int} (h : IsJoin ls ms) : joinX ls = ms := (joinX_is ls).uniq h
/-- how many keep the rule, as the program reckons -/
noncomputable def signedX (rule : List (List Int)) (W : Nat → Int) (n : Nat) (cs : List (List Int)) : Int := (cs.map fun c => sgnG c * if (joinX (pickG rule c)).sum ≤ (n : Int) then W (n - (joinX (pickG rule c)).sum.toNat) else 0).sum
end L2

set_option Elab.async false
set_option linter.all false
set_option maxRecDepth 100000
namespace L2
open PySem PySem.Spec PyProof.Rows
/-! ### a dict of unlike parts -/
structure SeenU (H0 H : Hp) (d : Addr) (L : List Int) : Prop where
  ex : ∃ (kvs : List (Key × V)) (ns : List Int), H d = some (.dK kvs) ∧ kvs.map (·.1) = ns.map Sum.inl ∧ ns.Nodup ∧ ns.length ≤ L.length ∧ ∀ x, x ∈ ns ↔ x ∈ L
  sm : ∀ b o, H0 b = some o → H b = some o
  nw : H0 d = none
theorem SeenU.put {H0 H : Hp} {d : Addr} {L : List Int} {z : Int} (h : SeenU H0 H d L) (hl : L.length < 1000) : ∃ H', DPut H d (.int z) (.bl true) H' ∧ SeenU H0 H' d (L ++ [z]) := by
  obtain ⟨⟨kvs, ns, hd, hk, hnd, hn, hm⟩, sm, nw⟩ := h
  have hlen : kvs.length = ns.length := by
    have := congrArg List.length hk
    simpa using this
  refine ⟨upd H d (.dK (putK kvs (Sum.inl z) (.bl true))), DPut.k (k := Sum.inl z) hd (Nat.lt_of_lt_of_le (show kvs.length < 1000 by omega) (by decide)), ⟨?_, fun b o e => by rw [upd_ne (ne_of_none e nw)]; exact sm b o e, nw⟩⟩
  cases e : valV kvs (Sum.inl z) with
  | none =>
    have hz : z ∉ ns := fun hz => valV_not e (by rw [hk]; exact List.mem_map.mpr ⟨z, hz, rfl⟩)
    refine ⟨_, ns ++ [z], upd_same, by rw [putK_new _ e, List.map_append, hk, List.map_append]; rfl, ?_, by simp; omega, fun x => by simp [hm]⟩
    refine List.nodup_append.mpr ⟨hnd, by simp, fun a ha b hb e => ?_⟩
    have : b = z := by simpa using hb
    exact hz (by rw [← this, ← e]; exact ha)
  | some v =>
    have hin := valV_in e
    rw [hk] at hin
    have hz : z ∈ ns := by
      obtain ⟨y, hy, e2⟩ := List.mem_map.mp hin
      have : y = z := Sum.inl.inj e2
      rw [← this]; exact hy
    refine ⟨_, ns, upd_same, ?_, hnd, by simp; omega, fun x => ?_⟩
    · have : (putK kvs (Sum.inl z) (V.bl true)).map (·.1) = kvs.map (·.1) := putK_keys e
      rw [this, hk]
    · rw [List.mem_append, ← hm]
      exact ⟨Or.inl, fun h => h.elim id fun h => by have : x = z := by simpa using h
                                                    rw [this]; exact hz⟩
theorem nodup_len : ∀ {a b : List Int}, a.Nodup → (∀ x ∈ a, x ∈ b) → a.length ≤ b.length
  | [], _, _, _ => Nat.zero_le _
  | x :: a, b, hn, h => by
    obtain ⟨h1, h2⟩ := List.nodup_cons.mp hn
    have hx := h x List.mem_cons_self
    have := nodup_len (b := b.erase x) h2 fun y hy => by
      have hne : y ≠ x := fun e => h1 (by rw [← e]; exact hy)
      exact (List.mem_erase_of_ne hne).mpr (h y (List.mem_cons_of_mem _ hy))
    rw [List.length_erase_of_mem hx] at this
    have : 0 < b.length := List.length_pos_of_mem hx
    rw [List.length_cons]
    omega
section
variable {X : Cx}
end
/-! ### the limited coins, step by step -/
def RuleJ (rule : List (List Int)) : Prop := (∃ D : List Int, D.length < 64 ∧ ∀ h ∈ rule, ∀ x ∈ h, x ∈ D) ∧ (∀ h ∈ rule, h.length ≤ 100) ∧ ∀ h ∈ rule, ∀ x ∈ h, 1 ≤ x
theorem pick_mem {rule : List (List Int)} {ch : List Int} {l : List Int} (h : l ∈ pickG rule ch) : l ∈ rule ∨ l = [] := by
  obtain ⟨j, _, rfl⟩ := List.mem_map.mp h
  by_cases hj : j.toNat < rule.length
  · left
    rw [List.getD_eq_getElem?_getD, List.getElem?_eq_getElem hj]
    exact List.getElem_mem hj
  · right
    rw [List.getD_eq_getElem?_getD, List.getElem?_eq_none (by omega)]
    rfl
theorem RuleJ.pick {rule : List (List Int)} (h : RuleJ rule) {ch : List Int} (hc : ch.length ≤ 6) : (∃ D : List Int, D.length < 64 ∧ ∀ x ∈ (pickG rule ch).flatten, x ∈ D) ∧ (pickG rule ch).flatten.length < 1000 := by
  obtain ⟨⟨D, hD, hm⟩, hl, _⟩ := h
  refine ⟨⟨D, hD, fun x hx => ?_⟩, ?_⟩
  · obtain ⟨l, hl, hx⟩ := List.mem_flatten.mp hx
    rcases pick_mem hl with h | h
    · exact hm l h x hx
    · rw [h] at hx
      cases hx
  · have : (pickG rule ch).flatten.length ≤ 100 * (pickG rule ch).length := flat_le fun l hl' => by
      rcases pick_mem hl' with h | h
      · exact hl l h
      · rw [h]
        exact Nat.zero_le _
    have e : (pickG rule ch).length = ch.length := by unfold pickG; rw [List.length_map]
    omega
def wayF (m j : Nat) : Int := (wayR m).reverse.getD j 0
theorem signedX_snoc (rule : List (List Int)) (W : Nat → Int) (n : Nat) (cs : List (List Int)) (c : List Int) : signedX rule W n (cs ++ [c]) = signedX rule W n cs + sgnG c * if (joinX (pickG rule c)).sum ≤ (n : Int) then W (n - (joinX (pickG rule c)).sum.toNat) else 0 := by
  unfold signedX
  rw [List.map_append, List.sum_append]
  simp
theorem joinX_nonneg {rule : List (List Int)} (h : RuleJ rule) (ch : List Int) : 0 ≤ (joinX (pickG rule ch)).sum := by
  refine (sum_ge fun x hx => ?_).1
  have hj := joinX_is (pickG rule ch)
  have h1 : 0 < (joinX (pickG rule ch)).count x := List.count_pos_iff.mpr hx
  rw [hj.2 x] at h1
  refine Decidable.byContradiction fun hx1 => ?_
  have : maxC (pickG rule ch) x ≤ 0 := maxC_le fun l hl => by
    have e : l.count x = 0 := List.count_eq_zero.mpr fun hm => by
      rcases pick_mem hl with z | z
      · exact hx1 (h.2.2 l z x hm)
      · rw [z] at hm
        cases hm
    omega
  omega
/-- what the program reckons of a rule is how many partings keep it -/
theorem kept_way {rule : List (List Int)} (hp : ∀ h ∈ rule, ∀ x ∈ h, 1 ≤ x) {n : Nat} (hn : n ≤ 24) : (((keptG rule n).length : Nat) : Int) = signedX rule (wayF n) n (chG (upto rule.length)) := by
  rw [kept_signed hp (fun c => joinX (pickG rule c)) (fun c _ => joinX_is _) (show n < 26 by omega)]
  unfold signedX
  refine map_ext fun c _ => ?_
  congr 1
  by_cases d : (joinX (pickG rule c)).sum ≤ (n : Int)
  · rw [if_pos d, if_pos d]
    generalize (joinX (pickG rule c)).sum.toNat = a
    have h12 := part12_all (n - a) (by omega)
    unfold part12 at h12
    simp only [Bool.and_eq_true, beq_iff_eq] at h12
    rw [h12.1.1, coin_way (by omega) (Nat.le_refl _)]
    unfold wayF
    have := wayR_pre (n - a) (n - (n - a)) (n - a) (Nat.le_refl _)
    rw [show n - a + (n - (n - a)) = n by omega] at this
    exact this.symm
  · rw [if_neg d, if_neg d]
end L2

set_option Elab.async false
set_option linter.all false
set_option maxRecDepth 100000
namespace L2
open PySem PySem.Spec PyProof.Rows
open PySem.Builtin.Str (occurrences subAt)
/-! ### texts of one sign -/
section
variable {X : Cx}
end
/-! ### rows of dots -/
end L2

set_option Elab.async false
set_option linter.all false
set_option maxRecDepth 100000
namespace L2
open PySem PySem.Spec PyProof.Rows
/-! ### a comprehension that an exception may leave -/
section
variable {X : Cx}
end
section
variable {X : Cx} {scope : Scope} {ls : List Str} {fr : List (Str × Nat)}
end
/-! ### names within such a block -/
end L2

set_option Elab.async false
set_option linter.all false
set_option maxRecDepth 100000
namespace L2
open PySem PySem.Spec PyProof.Rows
/-! ### lanes and rows of levels -/
/-! ### a comprehension that makes one thing of each -/
theorem iteT' {b : Bool} {p q : Prop} (h : b = true) (hp : p) : if b = true then p else q := by rw [if_pos h]; exact hp
end L2

set_option Elab.async false
set_option linter.all false
set_option maxRecDepth 100000
namespace L2
open PySem PySem.Spec PyProof.Rows PySem.NumText
/-! ### a text read as a heap -/
/-! ### the ten figures -/
section
variable {X : Cx}
end
/-! ### words, weighed -/
/-! ### long displays: a wrapped PA, whose type is no arrow -/
section
variable {X : Cx} {e : Expr} {es : List Expr} {te : TE} {t : TA}
end
end L2

set_option Elab.async false
set_option linter.all false
set_option maxRecDepth 100000
namespace L2
open PySem PySem.Spec PyProof.Rows
open PySem.StrLaws (At ChainG partsFrom)
open PySem.Builtin.Str (occurrences subAt)
/-! ### a text of heaps, by strokes -/
/-! ### replace, of two written signs -/
section
variable {X : Cx} {e a b : Expr} {es : List Expr} {te ta tb : TE} {t : TA} {pos : Pos}
end
/-! ### a text read as a rule -/
/-! ### texts of which the length alone is asked -/
end L2

set_option Elab.async false
set_option linter.all false
set_option maxRecDepth 100000
namespace L2
open PySem PySem.Spec PyProof.Rows
/-! ### for k, v in d.items(): the dict stands still from then on -/
section
variable {X : Cx} {elts : List Expr} {x1 : Nat} {tpos : Pos}
end
end L2

set_option Elab.async false
set_option linter.all false
set_option maxRecDepth 100000
namespace L2
open PySem PySem.Spec PyProof.Rows
/-! ### rules that match -/
/-! ### the rules of lanes -/
end L2

set_option Elab.async false
set_option linter.all false
set_option maxRecDepth 100000
namespace L2
open PySem PySem.Spec PyProof.Rows
/-! ### a comprehension within a comprehension -/
section
variable {X : Cx} {scope1 scope : Scope} {N1 N : List Str} {C1 C : Addr} {s1 s : Shared} {H1 H : Hp} {ex1 ex : List Addr}
end
end L2

set_option Elab.async false
set_option linter.all false
set_option maxRecDepth 100000
namespace L2
open PySem PySem.Spec PyProof.Rows
/-! ### a dict that counts -/
/-! ### heaps that change by freezing alone -/
end L2

set_option Elab.async false
set_option linter.all false
set_option maxRecDepth 100000
namespace L2
open PySem PySem.Spec PyProof.Rows
/-! ### lanes of which all but the first two are of one number -/
end L2

set_option Elab.async false
set_option linter.all false
set_option maxRecDepth 100000
namespace L2
open PySem PySem.Spec PyProof.Rows

/-! ### sorting long lists: galloping -/
section
variable {prog : Program} {w : World} {A : Around} {E : Value → Shared → Prop} {s : Shared}

end
end L2

set_option Elab.async false
set_option linter.all false
set_option maxRecDepth 100000
namespace L2
open PySem PySem.Spec PyProof.Rows

/-! ### merging -/
section
variable {prog : Program} {w : World} {A : Around} {E : Value → Shared → Prop} {s : Shared}
end
end L2

set_option Elab.async false
set_option linter.all false
set_option maxRecDepth 100000
namespace L2
open PySem PySem.Spec PyProof.Rows

/-! ### merging from above -/
section
variable {prog : Program} {w : World} {A : Around} {E : Value → Shared → Prop} {s : Shared}
end
end L2

set_option Elab.async false
set_option linter.all false
set_option maxRecDepth 100000
namespace L2
open PySem PySem.Spec PyProof.Rows

/-! ### one merge of two runs -/
section
variable {prog : Program} {w : World} {A : Around} {E : Value → Shared → Prop} {s : Shared} {a₀ : Array Keyed}
end
end L2

set_option Elab.async false
set_option linter.all false
set_option maxRecDepth 100000
namespace L2
open PySem PySem.Spec PyProof.Rows

/-! ### runs counted and made -/
section
variable {prog : Program} {w : World} {A : Around} {E : Value → Shared → Prop} {s : Shared} {a₀ : Array Keyed}
end
end L2

set_option Elab.async false
set_option linter.all false
set_option maxRecDepth 100000
namespace L2
open PySem PySem.Spec PyProof.Rows

/-! ### all runs -/
section
variable {prog : Program} {w : World} {A : Around} {E : Value → Shared → Prop} {s : Shared} {a₀ : Array Keyed}
end
end L2

set_option Elab.async false
set_option linter.all false
set_option maxRecDepth 100000
namespace L2
open PySem PySem.Spec PyProof.Rows

/-! ### sorted(..) of ints, however many -/
section
variable {prog : Program} {w : World} {A : Around} {E : Value → Shared → Prop} {s : Shared}
end
section
variable {X : Cx}
end
end L2

set_option Elab.async false
set_option linter.all false
set_option maxRecDepth 100000
namespace L2
open PySem PySem.Spec PyProof.Rows
/-! ### `for`, comprehensions over a list or a tuple alike -/
/-! ### told and due, the same -/
/-! ### tuples: slices, sums -/
end L2

set_option Elab.async false
set_option linter.all false
set_option maxRecDepth 100000
namespace L2
open PySem PySem.Spec PyProof.Rows
/-! ### the least counts -/
/-! ### sorted(x), x a list of ints -/
section
variable {prog : Program} {w : World} {A : Around} {E : Value → Shared → Prop} {s : Shared}
end
end L2

set_option Elab.async false
set_option linter.all false
set_option maxRecDepth 100000
namespace L2
open PySem PySem.Spec PyProof.Rows
/-! ### rules made of columns -/
/-! ### a lane, with its second level in other parts or not -/
structure LD where
  L : Nat
  R : Nat
  m : Nat
  k : Nat
  sp : Bool
  lev : List Nat
structure LD.Ok (d : LD) : Prop where
  l1 : 1 ≤ d.L
  l8 : d.L ≤ 8
  r1 : 1 ≤ d.R
  r8 : d.R ≤ 8
  m8 : d.m ≤ 8
  k8 : d.k ≤ 8
  eq : d.L * d.m = d.R * d.k
  dv : d.sp = true → d.R * (d.L / d.R) = d.L ∧ d.R < d.L
  lv : ∀ v ∈ d.lev, v ≤ 2
  mR : d.m ≤ d.R
  kL : d.k ≤ d.L
def LD.at (d : LD) (j : Nat) : Nat := d.lev.getD j 0
/-! ### the first choice of which something is true -/
/-! ### lists of truths -/
end L2

set_option Elab.async false
set_option linter.all false
set_option maxRecDepth 100000
namespace L2
open PySem PySem.Spec PyProof.Rows
/-! ### list.remove, list.index of ints -/
/-! ### one heap taken out of another -/
end L2

set_option Elab.async false
set_option linter.all false
set_option maxRecDepth 100000
namespace L2
open PySem PySem.Spec PyProof.Rows
/-! ### places, two rules side by side -/
/-! ### the object that holds both -/
end L2

set_option Elab.async false
set_option linter.all false
set_option maxRecDepth 100000
namespace HT
open PySem PySem.Spec PyProof.Rows
section
variable {prog : Program} {w : World} {A : Around} {E : Value → Shared → Prop} {s : Shared}
end
end HT
namespace L2
open PySem PySem.Spec PyProof.Rows
section
variable {X : Cx} {e st : Expr} {te : TE} {ts : TO} {p2 pos : Pos}
end
end L2

set_option Elab.async false
set_option linter.all false
set_option maxRecDepth 100000
namespace L2
open PySem PySem.Spec PyProof.Rows
/-! ### list.index of a tuple of ints -/
/-! ### falling lists of heaps -/
/-- by the numbers of parts, all together -/
theorem parts_lt (l : List (List Int)) (k : Nat) : (l.countP fun h => decide (h.length < k + 1)) = (l.countP fun h => decide (h.length < k)) + (l.map fun h => (h.length : Int)).count (k : Int) := by
  induction l with
  | nil => rfl
  | cons x r ih =>
    rw [List.countP_cons, List.countP_cons, List.map_cons, List.count_cons, ih]
    by_cases e : x.length = k
    · rw [e]; simp; omega
    · by_cases e' : x.length < k
      · have h1 : x.length < k + 1 := by omega
        have h2 : ¬ ((x.length : Int) = (k : Int)) := by omega
        simp [e', h1, h2]; omega
      · have h1 : ¬ x.length < k + 1 := by omega
        have h2 : ¬ ((x.length : Int) = (k : Int)) := by omega
        simp [e', h1, h2]
theorem parts_sumK (l : List (List Int)) : ∀ k, (partsG l k).sum = ((l.countP fun h => decide (h.length < k) : Nat) : Int)
  | 0 => by simp [partsG]
  | k + 1 => by
    rw [partsG_succ, List.sum_append, parts_sumK l k, parts_lt]
    simp
theorem parts_sum (l : List (List Int)) (m : Nat) (h : ∀ x ∈ l, x.length ≤ m) : (partsG l (m + 1)).sum = (l.length : Int) := by
  rw [parts_sumK, List.countP_eq_length.mpr fun x hx => decide_eq_true (Nat.lt_succ_of_le (h x hx))]
/-! ### a comprehension that is true all along -/
/-! ### partings of any number that keep a rule -/
end L2

set_option Elab.async false
set_option linter.all false
set_option maxRecDepth 100000
namespace L2
open PySem
/-! ### the weights of a rule's dots -/
/-! ### `in` within a comprehension of a comprehension -/
end L2

set_option Elab.async false
set_option linter.all false
set_option maxRecDepth 100000
namespace L2
open PySem PySem.Spec PyProof.Rows PySem.W
/-! ### try: y = f(..) except S as n: suite -/
/-! ### lanes and levels as rows of ints; how many parts -/
end L2

set_option Elab.async false
set_option linter.all false
set_option maxRecDepth 100000
namespace L2
open PySem PySem.Spec PyProof.Rows PySem.W
/-! ### exceptions with attributes: read and set -/
section
variable {prog : Program} {w : World} {A : Around} {E : Value → Shared → Prop} {s : Shared} {K : Frag} {e dx C : Addr} {oe : Obj} {vs : Array Value} {mA : Str → Option Value} {name : Str} {v : Value}
end
/-! ### .. in the layer -/
section
variable {X : Cx} {pins : List (Addr × Obj)} {σ : St} {H : Hp} {s : Shared} {e C : Addr} {f : Str} {A : Around} {E : Value → Shared → Prop}
end
end L2

set_option Elab.async false
set_option linter.all false
set_option maxRecDepth 100000
namespace L2
open PySem PySem.Spec PyProof.Rows PySem.W
/-! ### C(..) of an own exception class that has an __init__ -/
section
variable {prog : Program} {w : World} {A : Around} {E : Value → Shared → Prop} {h : Heap} {g : Array GenState} {d : Drawn} {t : Nat} {os : OsState}
variable {nm q : Str} {C N : Addr} {bs bm bmB bmN : List Value} {hdct : Bool} {sn : List Str} {sub : List Value} {ab : Bool} {col : Option Bool} {dd : Option Addr} {k0 k1 k2 k3 k5 : Option Value} {B Bn newId nid initId inN : String}
end
/-! ### raise of an instance -/
section
variable {M : Model} {A : Around} {E : Value → Shared → Prop} {s : Shared} {env : Env} {nm q : Str} {C N : Addr} {bs bm : List Value} {hdct : Bool} {sn : List Str} {sub : List Value} {ab : Bool} {col : Option Bool} {dd : Option Addr} {k0 k1 k2 k3 k5 : Option Value} {newId : String}
end
end L2

set_option Elab.async false
set_option linter.all false
set_option maxRecDepth 100000
namespace L2
open PySem PySem.Spec PyProof.Rows PySem.W
/-! ### own exception classes with an __init__ of their own: raise, catch, read -/
/-! ### self.f = v in such an __init__, e.f of one that was caught -/
section
variable {X : Cx} {o e value : Expr} {f : Str} {pos pos' : Pos} {ta tv : TE}
end
/-! ### try: f(..) except S as n: suite, the exception with its dict -/
end L2

set_option Elab.async false
set_option linter.all false
set_option maxRecDepth 100000
namespace L2
open PySem PySem.Spec PyProof.Rows PySem.W
/-! ### two except clauses, the exception with its dict -/
end L2

set_option Elab.async false
set_option linter.all false
set_option maxRecDepth 100000
namespace L2
open PySem PySem.Spec PyProof.Rows PySem.W
/-! ### list(x) and sorted(x, reverse=b) within a comprehension -/
/-! ### lists within lists: == -/
end L2

set_option Elab.async false
set_option linter.all false
set_option maxRecDepth 100000
namespace L2
open PySem PySem.Spec PyProof.Rows PySem.W
/-! ### a further attribute of an exception that has its dict -/
section
variable {prog : Program} {w : World} {A : Around} {E : Value → Shared → Prop} {s : Shared} {K : Frag} {e dx C : Addr} {oe : Obj} {vs : Array Value} {mA : Str → Option Value} {name : Str} {v : Value}
end
section
variable {X : Cx} {pins : List (Addr × Obj)} {σ : St} {H : Hp} {s : Shared} {e dx C : Addr} {f : Str} {A : Around} {E : Value → Shared → Prop}
end
section
variable {X : Cx} {o e value : Expr} {f : Str} {pos pos' : Pos} {ta tv : TE}
end
end L2
namespace L2
open PySem PySem.Spec PyProof.Rows PySem.W
/-! ### C(..) in try, its __init__ may raise -/
section
variable {X : Cx} {k : Nat} {f C : Addr} {fd : FuncData} {ps : List Str} {sp : Sp} {dvs : List V} {ds : List Value} {x : Str} {p pos : Pos} {e : Expr} {es : List Expr} {t : TA} {cm : Bool}
end
end L2

set_option Elab.async false
set_option linter.all false
set_option maxRecDepth 100000
namespace L2
open PySem PySem.Spec PyProof.Rows PySem.W
/-! ### try: y = f(..); rest except S as n: suite, the exception with its dict -/
end L2

set_option Elab.async false
set_option linter.all false
set_option maxRecDepth 100000
namespace L2
open PySem PySem.Spec PyProof.Rows
/-! ### the walk -/
/-! ### the way back -/
end L2

set_option Elab.async false
set_option linter.all false
set_option maxRecDepth 100000
namespace L2
open PySem PySem.Spec PyProof.Rows
/-! ### the table of a set: its places rise -/
def Rise (xs : List Nat) : Prop := xs.Pairwise (· < ·)
theorem rise_at {xs : Array Nat} (h : Rise xs.toList) {i j : Nat} (hij : i < j) {a b : Nat} (ha : xs[i]? = some a) (hb : xs[j]? = some b) : a < b := by
  rw [← Array.getElem?_toList] at ha hb
  obtain ⟨h1, rfl⟩ := List.getElem?_eq_some_iff.mp ha
  obtain ⟨h2, rfl⟩ := List.getElem?_eq_some_iff.mp hb
  exact List.pairwise_iff_getElem.mp h i j h1 h2 hij
theorem below_go {xs : Array Nat} (h : Rise xs.toList) (j : Nat) : ∀ (f lo hi : Nat), hi - lo ≤ f → lo ≤ hi → hi ≤ xs.size → (∀ i a, i < lo → xs[i]? = some a → a < j) → (∀ i a, hi ≤ i → xs[i]? = some a → j ≤ a) →
    SetTable.below.go xs j f lo hi ≤ xs.size ∧ (∀ i a, i < SetTable.below.go xs j f lo hi → xs[i]? = some a → a < j) ∧ (∀ i a, SetTable.below.go xs j f lo hi ≤ i → xs[i]? = some a → j ≤ a)
  | 0, lo, hi, hf, hl, hs, h1, h2 => by
    unfold SetTable.below.go
    obtain rfl : lo = hi := by omega
    exact ⟨hs, h1, h2⟩
  | f + 1, lo, hi, hf, hl, hs, h1, h2 => by
    unfold SetTable.below.go
    by_cases hlt : lo < hi
    · rw [if_pos hlt]
      have hm : (lo + hi) / 2 < xs.size := by omega
      have hg : xs[(lo + hi) / 2]? = some xs[(lo + hi) / 2] := by simp [hm]
      have hgd : xs.getD ((lo + hi) / 2) j = xs[(lo + hi) / 2] := by simp [Array.getD, hm]
      dsimp only
      rw [hgd]
      by_cases hc : xs[(lo + hi) / 2] < j
      · rw [if_pos hc]
        refine below_go h j f _ _ (by omega) (by omega) hs (fun i a hi' ha => ?_) h2
        by_cases e : i = (lo + hi) / 2
        · subst e
          rw [hg] at ha
          cases ha
          exact hc
        · exact Nat.lt_trans (rise_at h (show i < (lo + hi) / 2 by omega) ha hg) hc
      · rw [if_neg hc]
        refine below_go h j f _ _ (by omega) (by omega) (by omega) h1 (fun i a hi' ha => ?_)
        by_cases e : i = (lo + hi) / 2
        · subst e
          rw [hg] at ha
          cases ha
          omega
        · have := rise_at h (show (lo + hi) / 2 < i by omega) hg ha
          omega
    · rw [if_neg hlt]
      obtain rfl : lo = hi := by omega
      exact ⟨hs, h1, h2⟩
theorem below_ok {xs : Array Nat} (h : Rise xs.toList) (j : Nat) : SetTable.below xs j ≤ xs.size ∧ (∀ i a, i < SetTable.below xs j → xs[i]? = some a → a < j) ∧ (∀ i a, SetTable.below xs j ≤ i → xs[i]? = some a → j ≤ a) := by
  unfold SetTable.below
  exact below_go h j _ _ _ (by omega) (Nat.zero_le _) (Nat.le_refl _) (fun i a hi => by omega) (fun i a hi ha => by
    have := (Array.getElem?_eq_some_iff.mp ha).1
    omega)
/-- the place of the i-th, and the next after it -/
theorem below_is {xs : Array Nat} (h : Rise xs.toList) {i j : Nat} (hl : ∀ k a, k < i → xs[k]? = some a → a < j) (hr : ∀ a, xs[i]? = some a → j ≤ a) (hi : i ≤ xs.size) : SetTable.below xs j = i := by
  obtain ⟨h1, h2, h3⟩ := below_ok h j
  rcases Nat.lt_trichotomy (SetTable.below xs j) i with hc | hc | hc
  · have hg : xs[SetTable.below xs j]? = some xs[SetTable.below xs j] := by simp [show SetTable.below xs j < xs.size by omega]
    have a := h3 _ _ (Nat.le_refl _) hg
    have b := hl _ _ hc hg
    omega
  · exact hc
  · have hg : xs[i]? = some xs[i] := by simp [show i < xs.size by omega]
    have a := h2 _ _ hc hg
    have b := hr _ hg
    omega
/-- what holds of each table -/
structure SI (b : Bool) (t : SetTable) : Prop where
  led : t.led = b
  dum : t.dummies = #[]
  rise : Rise t.place.toList
theorem si_standIn {b : Bool} {t : SetTable} (h : SI b t) (n : Nat) : SI b (t.standIn n) :=
  ⟨h.led, rfl, by
    show Rise (Array.range n).toList
    rw [Array.toList_range]
    exact List.pairwise_lt_range⟩
theorem si_orStandIn {b : Bool} {t : SetTable} (h : SI b t) (n : Nat) : SI b (t.orStandIn n) := by
  unfold SetTable.orStandIn
  split
  · exact h
  · exact si_standIn h n
theorem has_nil (j : Nat) : SetTable.has #[] j = false := by
  unfold SetTable.has
  simp
theorem slot_empty {b : Bool} {t : SetTable} (h : SI b t) (j : Nat) : t.slot j ≠ .dummy ∧ (t.slot j = .empty → t.place[SetTable.below t.place j]? ≠ some j) := by
  unfold SetTable.slot
  rw [h.dum, has_nil]
  dsimp only
  by_cases hc : (t.place[SetTable.below t.place j]? == some j) = true
  · rw [if_pos hc]
    exact ⟨fun z => (by cases z), fun z => (by cases z)⟩
  · rw [if_neg hc]
    simp only [Bool.false_eq_true, if_false]
    exact ⟨fun z => (by cases z), fun _ z => hc (by rw [z]; simp)⟩
theorem probe_go {b : Bool} {t : SetTable} (h : SI b t) (hashAt : Nat → Int) (hh : Int) : ∀ (f : Nat) (p : SetTable.Probe) (j : Nat) (d : Option Nat), p.dummy = none → SetTable.probe.go t hashAt hh f p = some (.empty j d) → d = none ∧ t.slot j = .empty
  | 0, p, j, d, hp, e => by
    unfold SetTable.probe.go at e
    cases e
  | f + 1, p, j, d, hp, e => by
    unfold SetTable.probe.go at e
    split at e
    · rename_i hs
      cases e
      exact ⟨hp, hs⟩
    · rename_i hs
      exact absurd hs (slot_empty h _).1
    · split at e
      · cases e
      · exact probe_go h hashAt hh f _ j d (by
          unfold SetTable.advance
          split <;> exact hp) e
theorem freeSlot_ok {b : Bool} {t : SetTable} (h : SI b t) {hh : Int} {j : Nat} {d : Bool} (e : t.freeSlot hh = some (j, d)) : t.slot j = .empty := by
  unfold SetTable.freeSlot at e
  split at e
  · rename_i jj dd hp
    obtain ⟨rfl, h2⟩ := probe_go h _ _ _ _ _ _ rfl (show SetTable.probe.go t _ hh _ _ = _ from hp)
    cases e
    exact h2
  · cases e
theorem si_put {b : Bool} {t : SetTable} (h : SI b t) {j : Nat} (hs : t.slot j = .empty) : SI b (t.put j).1 := by
  have hne := (slot_empty h j).2 hs
  obtain ⟨h1, h2, h3⟩ := below_ok h.rise j
  refine ⟨h.led, ?_, ?_⟩
  · show (if SetTable.has t.dummies j then _ else _) = _
    rw [h.dum, has_nil]
    rfl
  · show Rise (SetTable.insertAt t.place (SetTable.below t.place j) j).toList
    rw [SetTable.toList_insertAt]
    have hsp := h.rise
    rw [Rise, ← List.take_append_drop (SetTable.below t.place j) t.place.toList] at hsp
    obtain ⟨p1, p2, p3⟩ := List.pairwise_append.mp hsp
    have lo : ∀ a ∈ t.place.toList.take (SetTable.below t.place j), a < j := fun a ha => by
      obtain ⟨i, hi, rfl⟩ := List.mem_take_iff_getElem.mp ha
      exact h2 i _ (by omega) (by rw [← Array.getElem?_toList]; exact List.getElem?_eq_getElem _)
    have hi' : ∀ a ∈ t.place.toList.drop (SetTable.below t.place j), j < a := fun a ha => by
      obtain ⟨i, hi, rfl⟩ := List.mem_drop_iff_getElem.mp ha
      have hg : t.place[SetTable.below t.place j + i]? = some t.place.toList[SetTable.below t.place j + i] := by rw [← Array.getElem?_toList]; exact List.getElem?_eq_getElem _
      have a1 := h3 _ _ (Nat.le_add_right _ i) hg
      rcases Nat.lt_or_eq_of_le a1 with a2 | a2
      · exact a2
      · exfalso
        by_cases e0 : i = 0
        · subst e0
          apply hne
          exact hg.trans (by rw [← a2])
        · have hb : SetTable.below t.place j < t.place.size := by
            rw [Array.length_toList] at hi
            omega
          have hg0 : t.place[SetTable.below t.place j]? = some t.place[SetTable.below t.place j] := by simp [hb]
          have := rise_at h.rise (show SetTable.below t.place j < SetTable.below t.place j + i by omega) hg0 hg
          have := h3 _ _ (Nat.le_refl _) hg0
          omega
    exact List.pairwise_append.mpr ⟨p1, List.pairwise_cons.mpr ⟨hi', p2⟩, fun a ha c hc => by
      rcases List.mem_cons.mp hc with rfl | hc
      · exact lo a ha
      · exact p3 a ha c hc⟩
theorem si_layNew {b : Bool} {t : SetTable} (h : SI b t) (es : Array (Int × Value)) (hh : Int) (x : Value) : SI b (layNew t es hh x).2.1 := by
  unfold layNew
  split
  · rename_i j d hs
    exact si_orStandIn (si_put h (freeSlot_ok h hs)) _
  · exact si_standIn h _
theorem filterMap_rise {g : Nat → Option (Nat × Nat)} (hg : ∀ j p, g j = some p → p.1 = j) : ∀ (l : List Nat), l.Pairwise (· < ·) → ((l.filterMap g).map (·.1)).Pairwise (· < ·)
  | [], _ => by simp
  | x :: r, h => by
    have hx := List.pairwise_cons.mp h
    cases e : g x with
    | none => rw [List.filterMap_cons_none e]; exact filterMap_rise hg r hx.2
    | some p =>
      rw [List.filterMap_cons_some e, List.map_cons]
      refine List.pairwise_cons.mpr ⟨fun a ha => ?_, filterMap_rise hg r hx.2⟩
      obtain ⟨q, hq, rfl⟩ := List.mem_map.mp ha
      obtain ⟨y, hy, hgy⟩ := List.mem_filterMap.mp hq
      rw [hg _ _ e, hg _ _ hgy]
      exact hx.1 y hy
theorem si_relayAll {b : Bool} {t : SetTable} (h : SI b t) (es : Array (Int × Value)) (wanted : Nat) : SI b (relayAll t es wanted).2.1 := by
  unfold relayAll
  split
  · rename_i t' order e
    dsimp only
    split
    · unfold SetTable.relaid SetTable.laid at e
      cases ho : SetTable.layClean (SetTable.sizeAbove wanted - 1) (es.map (·.1)) with
      | none => rw [ho] at e; cases e
      | some owner =>
        rw [ho] at e
        cases e
        refine ⟨h.led, rfl, ?_⟩
        refine filterMap_rise (fun j p hp => ?_) _ List.pairwise_lt_range
        cases hq : owner.getD j none with
        | none => rw [hq] at hp; cases hp
        | some k => rw [hq] at hp; cases hp; rfl
    · exact si_standIn h _
  · exact si_standIn h _
/-! ### a set of ints with its table -/
section
variable {prog : Program} {w : World} {A : Around} {E : Value → Shared → Prop} {s : Shared}
/-- a set of ints whose members are the ns, its table led as b -/
def SetR (prog : Program) (w : World) (h : Heap) (a : Addr) (b : Bool) (S : Int → Bool) (n : Nat) : Prop :=
  ∃ o es ep t, h.get? a = some o ∧ o.ExactSet ∧ o.data = .set es ep t ∧ ElemsOf (intKind prog w) es.toList ∧ (∀ k, S k = true ↔ ∃ e ∈ es.toList, (intKind prog w).is k e.2 = true)
    ∧ es.size < scanBound ∧ t.fits es.size = true ∧ es.size = n ∧ SI b t
theorem SetR.at {h h' : Heap} {a : Addr} {b : Bool} {S : Int → Bool} {n : Nat} (r : SetR prog w h a b S n) (e : ∀ o, h.get? a = some o → h'.get? a = some o) : SetR prog w h' a b S n :=
  let ⟨o, es, ep, t, ho, rest⟩ := r; ⟨o, es, ep, t, e _ ho, rest⟩
theorem SetR.congr {h : Heap} {a : Addr} {b : Bool} {S S' : Int → Bool} {n n' : Nat} (r : SetR prog w h a b S n) (e : ∀ k, S k = S' k) (en : n = n') : SetR prog w h a b S' n' := by
  have : S = S' := funext e
  subst this; subst en; exact r
theorem setR_store {b : Bool} {h : Heap} {a : Addr} {o : Obj} {es : Array (Int × Value)} {ep : Nat} {t : SetTable} (ho : h.get? a = some o) (hex : o.ExactSet) (hd : o.data = .set es ep t)
    {es' : Array (Int × Value)} {t' : SetTable} {S' : Int → Bool} (hel : ElemsOf (intKind prog w) es'.toList) (hmem : ∀ k, S' k = true ↔ ∃ e ∈ es'.toList, (intKind prog w).is k e.2 = true) (hb : es'.size < scanBound) (hf : t'.fits es'.size = true) (hi : SI b t') :
    (h.update a (Obj.putSet es' t')).get? a = some { o with data := .set es' (ep + 1) t' } ∧ SetR prog w (h.update a (Obj.putSet es' t')) a b S' es'.size := by
  obtain ⟨hg, _⟩ := SetOf_store (knd := intKind prog w) ho hex hd hel hmem hb hf
  exact ⟨hg, _, es', ep + 1, t', hg, hex, rfl, hel, hmem, hb, hf, rfl, hi⟩
theorem addTailR {b : Bool} {g : Bool → Sem Unit} (hg : ∀ (b : Bool) (s₁ : Shared) (Q' : Unit → Shared → Prop), Q' () s₁ → wpAny (model prog w) A (g b) Q' E s₁)
    {a : Addr} {o : Obj} {es : Array (Int × Value)} {ep : Nat} {t : SetTable} (ho : s.heap.get? a = some o) (hex : o.ExactSet) (hd : o.data = .set es ep t)
    {es1 : Array (Int × Value)} {t2 : SetTable} {S' : Int → Bool} (hel1 : ElemsOf (intKind prog w) es1.toList) (hmem1 : ∀ k', S' k' = true ↔ ∃ e ∈ es1.toList, (intKind prog w).is k' e.2 = true)
    (hb1 : es1.size < scanBound) (hf2 : t2.fits es1.size = true) (hi2 : SI b t2) {wasDummy : Bool} {R : Option Bool → Shared → Prop}
    (h : ∀ h', Heap.SameBut a s.heap h' → SetR prog w h' a b S' es1.size → R (some true) { s with heap := h' }) :
    wpAny (model prog w) A (do
        storeSet a es1 t2
        if (!wasDummy && t2.tooFull) = true then do
            g (relayAll t2 es1 (SetTable.grown es1.size)).2.2
            storeSet a (relayAll t2 es1 (SetTable.grown es1.size)).1 (relayAll t2 es1 (SetTable.grown es1.size)).2.1
            pure (some true)
          else pure (some true)) R E s := by
  refine wpAny_bind (wpAny_storeSet_of ho hd ?_ (fits_of_scanBound hb1))
  obtain ⟨ho1, hS1⟩ := setR_store (prog := prog) (w := w) ho hex hd hel1 hmem1 hb1 hf2 hi2
  have hsb1 := Heap.SameBut.update s.heap a (Obj.putSet es1 t2)
  split
  · have hp := relayAll_perm t2 es1 (SetTable.grown es1.size)
    have hfr := relayAll_fits t2 es1 (SetTable.grown es1.size)
    have hir := si_relayAll hi2 es1 (SetTable.grown es1.size)
    generalize hRl : relayAll t2 es1 (SetTable.grown es1.size) = Rl at hp hfr hir ⊢
    obtain ⟨es2, t3, gave2⟩ := Rl
    dsimp only at hp hfr hir ⊢
    have hel2 := hel1.perm hp
    have hmem2 : ∀ k', S' k' = true ↔ ∃ e ∈ es2.toList, (intKind prog w).is k' e.2 = true := fun k' => (hmem1 k').trans ⟨fun ⟨e, he, q⟩ => ⟨e, hp.mem_iff.mpr he, q⟩, fun ⟨e, he, q⟩ => ⟨e, hp.mem_iff.mp he, q⟩⟩
    have hsz : es2.size = es1.size := by rw [← Array.length_toList, hp.length_eq, Array.length_toList]
    have hb2 : es2.size < scanBound := by rw [hsz]; exact hb1
    refine wpAny_bind (hg _ _ _ ?_)
    refine wpAny_bind (wpAny_storeSet_of ho1 rfl ?_ (fits_of_scanBound hb2))
    obtain ⟨_, hS2⟩ := setR_store (prog := prog) (w := w) ho1 hex rfl hel2 hmem2 hb2 hfr hir
    rw [hsz] at hS2
    exact wpAny_pure (h _ (hsb1.trans (Heap.SameBut.update _ a _)) hS2)
  · exact wpAny_pure (h _ hsb1 hS1)
theorem SI.off {b : Bool} {t : SetTable} (h : SI b t) : SI b { t with plain := false } := ⟨h.led, h.dum, h.rise⟩
theorem addR {b : Bool} {a : Addr} {S : Int → Bool} {n : Nat} {k : Int} {x : Value} {Q : Bool → Shared → Prop} (hkey : (intKind prog w).is k x = true) (hsc : x.scannable = true) (hS : SetR prog w s.heap a b S n)
    (hroom : n + 1 < scanBound)
    (h : ∀ h', Heap.SameBut a s.heap h' → SetR prog w h' a b (fun k' => S k' || decide (k' = k)) (if S k then n else n + 1) → Q (!S k) { s with heap := h' }) :
    wpAny (model prog w) A (setAddHashed a x ((intKind prog w).hash k)) Q E s := by
  obtain ⟨o, es, ep, t, ho, hex, hd, hel, hmem, hb, hf, hn, hi⟩ := hS
  have hb1 : es.size + 1 < scanBound := by rw [hn]; exact hroom
  unfold setAddHashed setAddHashedIn
  refine wpAny_holding (wpAny_bind (wpAny_setState_of ho hd hf ?_))
  dsimp only
  rw [byScan_of hsc hb hel]
  simp only [↓reduceIte]
  unfold setAddByScan
  refine wpAny_bind ?_
  refine wpAny_bind (wpAny_rule ?_)
  refine wpAny_bind (wpAny_setScan_of hkey ho hd hf hel ?_)
  cases hr : List.findIdx? (fun e => (intKind prog w).is k e.2) es.toList with
  | some j =>
    dsimp only
    obtain ⟨hj, hpj, _⟩ := List.findIdx?_eq_some_iff_getElem.mp hr
    have hSk : S k = true := (hmem k).mpr ⟨es.toList[j], List.getElem_mem hj, hpj⟩
    refine wpAny_pure (wpAny_pure ?_)
    have e : s = { s with heap := s.heap } := by cases s; rfl
    have := h s.heap (Heap.SameBut.refl a s.heap) ⟨o, es, ep, t, ho, hex, hd, hel, fun k' => by
      rw [Bool.or_eq_true, decide_eq_true_eq, ← hmem k']
      exact ⟨fun hk => hk.elim id (fun e => e ▸ hSk), .inl⟩, hb, hf, by rw [hSk]; exact hn, hi⟩
    rw [hSk] at this; rw [e]; exact this
  | none =>
    dsimp only
    have hSk : S k = false := by
      cases hk : S k with
      | false => rfl
      | true => obtain ⟨e, he, hp⟩ := (hmem k).mp hk; have := List.findIdx?_eq_none_iff.mp hr e he; rw [hp] at this; exact Bool.noConfusion this
    have hgw : ∀ (b : Bool) {s₁ : Shared} {Q' : Unit → Shared → Prop}, Q' () s₁ → wpAny (model prog w) A (match b with | true => rule "set.scan.the-table-gave-way" | false => pure ()) Q' E s₁ :=
      fun b s₁ Q' hq => by cases b <;> first | exact wpAny_pure hq | exact wpAny_rule hq
    have hperm := layNew_perm t es ((intKind prog w).hash k) x
    have hfits := layNew_fits t es ((intKind prog w).hash k) x
    have hsi := si_layNew hi es ((intKind prog w).hash k) x
    generalize hL : layNew t es ((intKind prog w).hash k) x = L at hperm hfits hsi ⊢
    obtain ⟨es1, t1, wasDummy, gave⟩ := L
    dsimp only at hperm hfits hsi ⊢
    rw [Array.toList_push] at hperm
    have hel1 := (hel.push hkey hsc).perm hperm
    have hmem1 : ∀ k', (S k' || decide (k' = k)) = true ↔ ∃ e ∈ es1.toList, (intKind prog w).is k' e.2 = true := mem_push_iff hkey hmem hperm
    have hb1' : es1.size < scanBound := by rw [← Array.length_toList, hperm.length_eq, List.length_append, Array.length_toList]; simpa using hb1
    refine wpAny_bind (hgw _ ?_)
    have hsz1 : es1.size = n + 1 := by rw [← Array.length_toList, hperm.length_eq, List.length_append, Array.length_toList, hn]; rfl
    have hend : ∀ h', Heap.SameBut a s.heap h' → SetR prog w h' a b (fun k' => S k' || decide (k' = k)) es1.size → Q true { s with heap := h' } := by
      intro h' hsb hS'; have := h h' hsb; rw [hSk] at this; rw [hsz1] at hS'; exact this hS'
    split
    · refine wpAny_bind ?_
      rw [hashByValue_scannable 8 hsc]
      refine wpAny_pure ?_
      refine addTailR (b := b) ?_ ho hex hd hel1 hmem1 hb1' ?_ ?_ ?_
      · intro b s₁ Q' hq; cases b <;> first | exact wpAny_pure hq | exact wpAny_rule hq
      · split
        · exact hfits
        · exact SetTable.fits_plain_off hfits
      · split
        · exact hsi
        · exact hsi.off
      · intro h' hsb hS'; dsimp only; exact wpAny_pure (hend h' hsb hS')
    · refine wpAny_bind (wpAny_pure ?_)
      simp only [↓reduceIte]
      refine addTailR (b := b) ?_ ho hex hd hel1 hmem1 hb1' hfits hsi ?_
      · intro b s₁ Q' hq; cases b <;> first | exact wpAny_pure hq | exact wpAny_rule hq
      · intro h' hsb hS'; dsimp only; exact wpAny_pure (hend h' hsb hS')
end
section
variable {prog : Program} {w : World} {A : Around} {R : Result → Shared → Prop} {I : Addr} {fp wr : List Addr} {G : Array GenState → Array GenState → Prop} {n : Nat} {P : Nat → Value → Prop} {St : Nat → Shared → Prop}
theorem updateR {b : Bool} (W : WalksS prog w A.in1 I fp wr G n P St) (S : Addr) (hSf : S ∉ fp)
    (val : Nat → Int) (hval : ∀ i v, P i v → ∃ t, v = .int (val i) t) (hb : n + 1 < scanBound) :
    ∀ (k i : Nat) (s : Shared), n - i = k → i ≤ n → St i s →
      SetR prog w s.heap S b (fun k' => (firstMet val i).any (· == k')) (firstMet val i).length →
      (∀ s', Moved (S :: wr) G s s' → SetR prog w s'.heap S b (fun k' => (firstMet val n).any (· == k')) (firstMet val n).length → R (.ok (.ret .none)) s') →
      codeAny (model prog w) A (.builtin "set.update.loop" ⟨[.ref S, .ref I], []⟩) R s := by
  have hSw : S ∉ wr := fun h => hSf (W.sub _ h)
  have hsub : ∀ b ∈ wr, b ∈ S :: wr := fun b hb => List.mem_cons_of_mem _ hb
  intro k
  induction k with
  | zero =>
    intro i s hk hi hst hS hR
    have hin : i = n := by omega
    subst hin
    refine codeAny_builtin F.entry_set_update_loop ?_
    rw [Around.under_plainId F.plain_set_update_loop _]
    show wpAny _ A.in1 (pyNext (.ref I) >>= _) _ _ s
    refine wpAny_bind (W.done s _ _ hst fun s' hm => ?_)
    show wpAny _ A.in1 (ret Value.none) _ _ s'
    exact wpAny_pure (hR s' (hm.mono hsub) (hS.at fun o e => hm.heap S _ hSw e))
  | succ k ih =>
    intro i s hk hi hst hS hR
    have hlt : i < n := by omega
    refine codeAny_builtin F.entry_set_update_loop ?_
    rw [Around.under_plainId F.plain_set_update_loop _]
    show wpAny _ A.in1 (pyNext (.ref I) >>= _) _ _ s
    refine wpAny_bind (W.item i s _ _ hlt hst fun v s' hP hst' hm => ?_)
    obtain ⟨t, rfl⟩ := hval i v hP
    have hS' : SetR prog w s'.heap S b (fun k' => (firstMet val i).any (· == k')) (firstMet val i).length := hS.at fun o e => hm.heap S _ hSw e
    show wpAny _ A.in1 (holding [Value.int (val i) t] (setAdd S (.int (val i) t)) >>= _) _ _ s'
    refine wpAny_bind (wpAny_holding ?_)
    unfold setAdd
    refine wpAny_holding ?_
    refine wpAny_bind ((intKind prog w).pyHash (k := val i) (intKind_is _ _ _ _) ?_)
    have hroom : (firstMet val i).length + 1 < scanBound := by have := firstMet_length_le val i; omega
    refine addR (s := { s' with toks := s'.toks + 1 }) (intKind_is _ _ _ _) rfl hS' hroom fun h' hsb hS2 => ?_
    have hSi : SetR prog w h' S b (fun k' => (firstMet val (i + 1)).any (· == k')) (firstMet val (i + 1)).length :=
      hS2.congr (fun k' => by rw [firstMet_succ, step_any]) (by rw [firstMet_succ, step_length])
    refine wpAny_pure ⟨plainId_quiet F.plain_set_update_loop _, ih (i + 1) _ (by omega) hlt (W.frame _ s' _ _ hst' (Nat.le_succ _) fun b hb o e => ?_) hSi fun s'' hm'' hS'' => ?_⟩
    · rw [hsb.2 b (fun h : b = S => hSf (by rw [← h]; exact hb))]; exact e
    · refine hR s'' (Moved.trans W.gtrans ((hm.mono hsub).then_heap (Nat.le_succ _) fun b o hb e => ?_) hm'') hS''
      rw [hsb.2 b (fun h : b = S => hb (by rw [h]; exact List.mem_cons_self))]; exact e
end
section
variable {prog : Program} {w : World} {A : Around} {E : Value → Shared → Prop} {s : Shared}
/-- do the sets of this world go by the text -/
def byT (w : World) : Bool := w.params.followText "set-order"
theorem set_newR (a : Value) {Q₁ : Value → Shared → Prop}
    (h : Q₁ (.ref s.heap.objs.size) { s with heap := s.heap.push (freshSet (!byT w)) }) :
    codeAny (model prog w) A (.call (.builtin "set.__new__") ⟨[.type "set", a], []⟩) (wants Q₁ E) s := by
  refine codeAny_of_tree ?_
  show wpAny _ A.in1 (do checkBuiltinCall "set.__new__" ⟨[.type "set", a], []⟩; again (.builtin "set.__new__" ⟨[.type "set", a], []⟩)) _ _ s
  refine wpAny_bind (wpAny_of_eq (F.newCall_set_1 a) (wpAny_pure ⟨plainId_quiet F.plain_set_new _, codeAny_builtin F.entry_set_new ?_⟩))
  rw [Around.under_plainId F.plain_set_new _]
  unfold Builtin.«set.__new__» Builtin.Frozenset.newClass
  have hsub := sub_set_self
  obtain ⟨hp, g, d, tk, os⟩ := s
  dsimp only
  wp_walk
  refine wpAny_askSetting (wpAny_pure ?_)
  dsimp only
  simp only [newObj]
  refine wpAny_bind (wpAny_alloc (wpAny_pure ?_))
  exact wpAny_pure h
end
set_option maxHeartbeats 3200000 in
theorem set_of_tupR {prog : Program} {w : World} {A : Around} {E : Value → Shared → Prop} {s : Shared} {a : Addr} {vs : Array Value} {zs : List Int} {R : Value → Shared → Prop} (calm : A.handled = none) (tup : s.heap.IsTuple a vs) (int : IntsAre vs.toList zs) (room : vs.size + 1 < scanBound)
    (fin : ∀ (h' : Heap) (tk : Nat), SetR prog w h' s.heap.objs.size (!byT w) (fun k => (firstMet (fun i => zs.getD i 0) vs.size).any (· == k)) (firstMet (fun i => zs.getD i 0) vs.size).length → (∀ b o, b < s.heap.objs.size → s.heap.get? b = some o → h'.get? b = some o) → R (.ref s.heap.objs.size) { s with heap := h', toks := tk }) :
    wpAny (model prog w) A (call (.type "set") [.ref a]) R E s := by
  obtain ⟨cc, ctl, cmro⟩ := PySem.F.called_set.mro
  have cmade := PySem.F.called_set.made
  have csub := PySem.F.called_set.sub
  refine wpAny_call (codeAny_of_tree ?_); show wpAny _ _ (callAny (.type "set") _) _ _ _
  refine wpAny_pure ⟨Code.quiet_builtin _ (by decide +kernel), codeAny_builtin PySem.F.entry_type_call ?_⟩; rw [Around.under_plain (weight_type_call_type "set" [.ref a] []) rfl]
  have n1 := PySem.F.called_set.notType
  have n2 := PySem.F.called_set.canCreate
  have n3 := PySem.F.typeCall_set_1 (.ref a)
  repeat (any_goals (first | assumption | wp_step))
  refine codeAny_mono (set_newR (w := w) (.ref a) (E := E) (Q₁ := fun ob s1 => ob = .ref s.heap.objs.size ∧ s1 = { s with heap := s.heap.push (freshSet (!byT w)) }) ⟨rfl, rfl⟩) fun r s1 hr => ?_
  cases r with
  | error e => exact hr
  | ok fl =>
    cases fl with
    | ret ob =>
      obtain ⟨rfl, rfl⟩ := hr
      have gS : (s.heap.push (freshSet (!byT w))).get? s.heap.objs.size = some (freshSet (!byT w)) := Heap.get?_push_size _ rfl
      have tS : Shared.TypeIs { s with heap := s.heap.push (freshSet (!byT w)) } (.ref s.heap.objs.size) "set" := ⟨_, gS, rfl⟩
      have i1 := PySem.F.called_set.init.lookup
      have i2 := PySem.F.called_set.init.bind (.ref s.heap.objs.size)
      repeat (any_goals (first | assumption | wp_step))
      refine codeAny_mono (codeAny_call_builtin (R := wants (fun r s2 => r = .none ∧ ∃ h' tk, s2 = { s with heap := h', toks := tk } ∧ SetR prog w h' s.heap.objs.size (!byT w) (fun k => (firstMet (fun i => zs.getD i 0) vs.size).any (· == k)) (firstMet (fun i => zs.getD i 0) vs.size).length ∧ (∀ b o, b < s.heap.objs.size → s.heap.get? b = some o → h'.get? b = some o)) E) PySem.F.called_set.init.plain PySem.F.entry_set_init (check_set_init_1 tS ?_)) fun r2 s2 hr2 => ?_
      · obtain ⟨ot, got, ct, nt, dt⟩ := tup
        obtain ⟨oc, od, oda, osl⟩ := ot
        simp only at ct dt
        subst ct; subst dt
        have got' : (s.heap.push (freshSet (!byT w))).get? a = some { cls := .type "tuple", dict := od, data := .seq vs nt, slots := osl } := Heap.get?_push_of_some _ got
        have t1 := tup_no_set
        have t2 := tup_no_frozen
        have t3 : (Value.type "tuple" == Value.type "dict") = false := by decide
        have tp1 : (s.heap.push (freshSet (!byT w))).IsTuple a vs := ⟨_, got', rfl, nt, rfl⟩
        unfold Builtin.«set.__init__» noKeywords Builtin.Frozenset.updateFrom
        generalize ePI : pyIter = PI
        wp_walk
        subst ePI
        refine wpAny_pyIter_tuple tp1 ?_
        refine wpAny_bind (wpAny_runValue ?_)
        have lt : a < s.heap.objs.size := Heap.lt_size got
        have calm3 : A.in1.in1.in1.handled = none := by simp [calm]
        have ne1 : a ≠ (s.heap.push (freshSet (!byT w))).objs.size := by rw [Heap.size_push]; exact Nat.ne_of_lt (Nat.lt_succ_of_lt lt)
        have out : s.heap.objs.size ∉ [(s.heap.push (freshSet (!byT w))).objs.size, a] := by
          rw [Heap.size_push]
          simp only [List.mem_cons, List.not_mem_nil, or_false, not_or]
          exact And.intro (Nat.ne_of_lt (Nat.lt_succ_self _)) (Nat.ne_of_gt lt)
        have vals : ∀ (i : Nat) (v : Value), vs[i]? = some v → ∃ t, v = .int ((fun i => zs.getD i 0) i) t := fun i v hv => IntsAre.int_at int i v (by rw [Array.getElem?_toList]; exact hv)
        refine updateR (b := !byT w) ((Walks.tuple calm3 _ a ne1 vs).toS) s.heap.objs.size out (fun i => zs.getD i 0) vals room (vs.size - 0) 0 _ (by omega) (Nat.zero_le _) ⟨⟨_, Heap.get?_push_size _ rfl, rfl, rfl⟩, (tp1.push _)⟩ ?S0 ?SR
        case S0 =>
          have g2 := Heap.get?_push_of_some { cls := .type "tuple_iterator", data := .fields #[.ref a, .int 0 0] } gS
          exact ⟨_, #[], 0, _, g2, ⟨rfl, rfl, rfl⟩, rfl, fun e he => (by simp at he), fun k => (by simp [firstMet]), (by unfold scanBound; simp), rfl, rfl, rfl, rfl, List.Pairwise.nil⟩
        case SR =>
          intro s' mv hS'
          obtain ⟨h', g', d', tk', os'⟩ := s'
          obtain rfl : g' = s.gens := mv.gens
          obtain rfl : d' = s.drawn := mv.drawn
          obtain rfl : os' = s.os := mv.os
          show wpAny _ _ _ _ _ _
          refine wpAny_pure ?_
          show wpAny _ _ (ret Value.none) _ _ _
          refine wpAny_pure ⟨rfl, h', tk', rfl, hS', fun b o hb e => ?_⟩
          refine mv.heap b o ?_ (Heap.get?_push_of_some _ (Heap.get?_push_of_some _ e))
          rw [Heap.size_push]
          simp only [List.mem_cons, List.not_mem_nil, or_false, not_or]
          exact And.intro (Nat.ne_of_lt hb) (Nat.ne_of_lt (Nat.lt_succ_of_lt hb))
      · cases r2 with
        | error e => exact hr2
        | ok f2 =>
          cases f2 with
          | ret r =>
            obtain ⟨rfl, h', tk, rfl, hS', hk'⟩ := hr2
            repeat (any_goals (first | assumption | wp_step))
            exact fin _ _ hS' hk'
          | _ => exact hr2
    | _ => exact hr
end L2

set_option Elab.async false
set_option linter.all false
set_option maxRecDepth 100000
namespace L2
open PySem PySem.Spec PyProof.Rows
theorem owner_si : Manifest.owners.lookup (String.ofList ['r', 'o', 't', 'a', 'r', 'e', 't', 'i', '_', 't', 'e', 's'].reverse) = some Manifest.sig_set_iterator := by kernel_rfl
theorem slot_si_next : Slot "set_iterator" "__next__" "set_iterator.__next__" :=
  .of (owner := "set_iterator") (n := "__next__") (by rw [typeLookup_type, builtinLookup_eq_fast]; kernel_rfl) (by decide +kernel) (by decide +kernel) (by decide +kernel)
    (by first | exact .inl (by decide +kernel) | exact .inr (by decide +kernel)) (by rw [isSubtype_type]; kernel_rfl)
theorem entry_si_next : entryFor table "set_iterator.__next__" = some Builtin.«set_iterator.__next__» := entryFor_of_tree (by kernel_rfl)
theorem args_si_next (a : Value) : argsOk "set_iterator.__next__" ⟨[a], []⟩ := by
  unfold argsOk; rw [signature?_of (id := "set_iterator.__next__") (n := ['_', '_', 't', 'x', 'e', 'n', '_', '_']) (o := ['r', 'o', 't', 'a', 'r', 'e', 't', 'i', '_', 't', 'e', 's']) (by kernel_rfl) owner_si]; kernel_rfl
theorem slot_si_iter : Slot "set_iterator" "__iter__" "set_iterator.__iter__" :=
  .of (owner := "set_iterator") (n := "__iter__") (by rw [typeLookup_type, builtinLookup_eq_fast]; kernel_rfl) (by decide +kernel) (by decide +kernel) (by decide +kernel)
    (by first | exact .inl (by decide +kernel) | exact .inr (by decide +kernel)) (by rw [isSubtype_type]; kernel_rfl)
theorem args_si_iter (a : Value) : argsOk "set_iterator.__iter__" ⟨[a], []⟩ := by
  unfold argsOk; rw [signature?_of (id := "set_iterator.__iter__") (n := ['_', '_', 'r', 'e', 't', 'i', '_', '_']) (o := ['r', 'o', 't', 'a', 'r', 'e', 't', 'i', '_', 't', 'e', 's']) (by kernel_rfl) owner_si]; kernel_rfl
theorem entry_si_iter : entryFor table "set_iterator.__iter__" = some Builtin.«dict_keyiterator.__iter__» :=
  entryFor_alias (id' := "dict_keyiterator.__iter__") (by kernel_rfl) (by first | rfl | decide +kernel | (unfold String.splitOn; simp +decide [String.splitOnAux])) (by decide +kernel) (by kernel_rfl)
theorem entry_set_iter : entryFor table "set.__iter__" = some Builtin.«frozenset.__iter__» :=
  entryFor_alias (id' := "frozenset.__iter__") (by kernel_rfl) (by first | rfl | decide +kernel | (unfold String.splitOn; simp +decide [String.splitOnAux])) (by decide +kernel) (by kernel_rfl)
/-! ### orders -/
theorem erase_perm {α : Type} : ∀ {l : List α} {i : Nat} (h : i < l.length), (l[i] :: l.eraseIdx i).Perm l
  | x :: r, 0, _ => .refl _
  | x :: r, i + 1, h => by
    simp only [List.getElem_cons_succ, List.eraseIdx_cons_succ]
    exact (List.Perm.swap _ _ _).trans ((erase_perm (l := r) (i := i) (by simpa using h)).cons x)
theorem pickOrder_go {α : Type} (next : Nat → Nat) : ∀ (f k : Nat) (left : List α) (out : Array α), left.length = f → (pickOrder.go next f k left out).toList.Perm (out.toList ++ left)
  | 0, k, left, out, h => by
    unfold pickOrder.go
    rw [List.eq_nil_of_length_eq_zero h, List.append_nil]
  | f + 1, k, left, out, h => by
    unfold pickOrder.go
    have hlt : next k % left.length < left.length := Nat.mod_lt _ (by omega)
    rw [List.getElem?_eq_getElem hlt]
    dsimp only
    refine (pickOrder_go next f (k + 1) _ _ (by rw [List.length_eraseIdx_of_lt hlt]; omega)).trans ?_
    rw [Array.toList_push, List.append_assoc]
    exact List.Perm.append_left _ (erase_perm hlt)
theorem pickOrder_perm {α : Type} (next : Nat → Nat) (xs : Array α) : (pickOrder next xs).toList.Perm xs.toList := by
  unfold pickOrder
  simpa using pickOrder_go next xs.size 0 xs.toList #[] (by simp)
section
variable {prog : Program} {w : World} {A : Around} {E : Value → Shared → Prop}
theorem drawOrder_ok {α : Type} : ∀ (n : Nat) (xs : List α) (s : Shared) (Q : List α → Shared → Prop), xs.length = n → (∀ ys d', ys.Perm xs → Q ys { s with drawn := d' }) → wpAny (model prog w) A (drawOrder n xs) Q E s
  | 0, xs, s, Q, hn, h => by
    unfold drawOrder
    refine wpAny_pure ?_
    rw [List.eq_nil_of_length_eq_zero hn] at h
    exact h [] s.drawn (.refl _)
  | n + 1, [], s, Q, hn, h => by simp at hn
  | n + 1, x :: r, s, Q, hn, h => by
    unfold drawOrder
    refine wpAny_bind ?_
    intro Γ p hΓ
    refine ⟨by simp, ?_⟩
    generalize hi : (model prog w).w.draws .order (s.drawn.get .order) % (x :: r).length = i
    have hlt : i < (x :: r).length := by rw [← hi]; exact Nat.mod_lt _ (by simp)
    show wpAny _ A _ _ _ _
    rw [List.getElem?_eq_getElem hlt]
    refine wpAny_bind (drawOrder_ok n _ _ _ (by rw [List.length_eraseIdx_of_lt hlt, hn]; rfl) fun ys d' hp => ?_)
    exact wpAny_pure (h _ _ ((hp.cons _).trans (erase_perm hlt)))
end
/-! ### the iterator of a set -/
def IsSI (h : Heap) (J S : Addr) (first : Value) (i n ep : Nat) : Prop := ∃ o, h.get? J = some o ∧ o.cls = .type "set_iterator" ∧ o.data = .fields #[first, .int i 0, .ref S, .int n 0, .int ep 0]
def SetAt (h : Heap) (S : Addr) (es : Array (Int × Value)) (ep : Nat) (t : SetTable) : Prop := ∃ o, h.get? S = some o ∧ o.cls = .type "set" ∧ o.data = .set es ep t
theorem IsSI.at {h h' : Heap} {J S : Addr} {first : Value} {i n ep : Nat} (x : IsSI h J S first i n ep) (e : ∀ o, h.get? J = some o → h'.get? J = some o) : IsSI h' J S first i n ep := let ⟨o, ho, r⟩ := x; ⟨o, e _ ho, r⟩
theorem SetAt.at {h h' : Heap} {S : Addr} {es : Array (Int × Value)} {ep : Nat} {t : SetTable} (x : SetAt h S es ep t) (e : ∀ o, h.get? S = some o → h'.get? S = some o) : SetAt h' S es ep t := let ⟨o, ho, r⟩ := x; ⟨o, e _ ho, r⟩
section
variable {prog : Program} {w : World} {A : Around} {E : Value → Shared → Prop} {s : Shared} {J S : Addr} {es : Array (Int × Value)} {ep : Nat} {t : SetTable}
theorem IsSI.type {first : Value} {i n : Nat} (x : IsSI s.heap J S first i n ep) : s.TypeIs (.ref J) "set_iterator" := let ⟨o, ho, hc, _⟩ := x; ⟨o, ho, hc⟩
theorem setNext_text (hS : SetAt s.heap S es ep t) (hf : t.fits es.size = true) (hb : byT w = true) (slot i : Nat) {Q : Option (Value × Nat) → Shared → Prop}
    (h : Q (((pickOrder (w.params.setOrder S ep) es)[i]?).map fun e => (e.2, slot)) s) : wpAny (model prog w) A (setNext S slot i ep) Q E s := by
  obtain ⟨o, ho, hc, hd⟩ := hS
  have hb' : (⟨prog, w.params⟩ : Setting).params.followText "set-order" = true := hb
  unfold setNext setsByText
  refine wpAny_bind (wpAny_setState_of ho hd hf ?_)
  refine wpAny_bind (wpAny_bind (wpAny_askSetting (wpAny_pure ?_)))
  show wpAny _ _ (if byT w = true then _ else _) _ _ _
  rw [if_pos hb]
  show wpAny _ _ (if (ep != ep) = true then _ else _) _ _ _
  rw [if_neg (by simp)]
  unfold setWalk setsByText
  refine wpAny_bind ?_
  refine wpAny_bind (wpAny_setState_of ho hd hf ?_)
  refine wpAny_bind (wpAny_bind (wpAny_askSetting (wpAny_pure ?_)))
  show wpAny _ _ (if byT w = true then _ else _) _ _ _
  rw [if_pos hb]
  refine wpAny_bind (wpAny_askSetting (wpAny_pure ?_))
  exact wpAny_pure h
theorem setNext_place (hS : SetAt s.heap S es ep t) (hf : t.fits es.size = true) (hb : byT w = false) (hl : t.led = true) (hd' : (!t.plain && decide (es.size > 1)) = false) (slot i : Nat) {Q : Option (Value × Nat) → Shared → Prop}
    (h : Q (match es[SetTable.below t.place slot]?, t.place[SetTable.below t.place slot]? with | some (_, x), some j => some (x, j + 1) | _, _ => none) s) : wpAny (model prog w) A (setNext S slot i ep) Q E s := by
  obtain ⟨o, ho, hc, hd⟩ := hS
  unfold setNext setsByText
  refine wpAny_bind (wpAny_setState_of ho hd hf ?_)
  refine wpAny_bind (wpAny_bind (wpAny_askSetting (wpAny_pure ?_)))
  show wpAny _ _ (if byT w = true then _ else _) _ _ _
  rw [if_neg (by rw [hb]; decide)]
  refine wpAny_ite_split (fun hab => absurd (show (!t.plain && decide (es.size > 1)) = true from hab) (by rw [hd']; decide)) (fun _ => ?_)
  refine wpAny_bind ?_
  show wpAny _ _ (if (!t.led && !es.isEmpty) = true then _ else _) _ _ _
  rw [if_neg (by rw [hl]; simp)]
  exact wpAny_pure (wpAny_pure h)
theorem si_next_int {slot nx i n : Nat} {x : Value} {Q : Option Value → Shared → Prop} (hit : IsSI s.heap J S (.int slot 0) i n ep) (hS : SetAt s.heap S es ep t) (hf : t.fits es.size = true) (hn : es.size = n)
    (hx : ∀ (A : Around) (E : Value → Shared → Prop) (Q' : Option (Value × Nat) → Shared → Prop), Q' (some (x, nx)) s → wpAny (model prog w) A (setNext S slot i ep) Q' E s)
    (hQ : ∀ h', IsSI h' J S (.int nx 0) (i + 1) n ep → Heap.SameBut J s.heap h' → Q (some x) { s with heap := h' }) : wpAny (model prog w) A (pyNext (.ref J)) Q E s := by
  have hty := hit.type
  obtain ⟨o, ho, hc, hd⟩ := hit
  obtain ⟨ol, hol, _, hdl⟩ := hS
  unfold pyNext
  refine wpAny_bind (wpAny_attempt (wpAny_callSpecial?_slot (name := Str.ofString "__next__") hty slot_si_next
    (wpAny_call_entry slot_si_next hty entry_si_next ?_ (args_si_next _))))
  show wpAny _ _ (fieldsOf (.ref J) >>= _) _ _ s
  refine wpAny_bind (wpAny_fieldsOf ho hd ?_)
  show wpAny _ _ (setEntries S >>= _) _ _ s
  refine wpAny_bind (wpAny_setEntries_of hol hdl hf ?_)
  show wpAny _ _ (if ((es.size : Int) != (n : Int)) = true then _ else _) _ _ _
  rw [if_neg (by rw [hn]; simp)]
  show wpAny _ _ (setNext S (Int.toNat (slot : Int)) (Int.toNat (i : Int)) (Int.toNat (ep : Int)) >>= _) _ _ _
  rw [Int.toNat_natCast, Int.toNat_natCast, Int.toNat_natCast]
  refine wpAny_bind (hx _ _ _ ?_)
  dsimp only
  refine wpAny_bind (wpAny_setField ho hd (by simp) ?_)
  have h1 := Heap.get?_update_self (Obj.mapFields (·.setIfInBounds 0 (rawInt nx))) ho (Obj.isFreed_of_fields (Obj.data_mapFields hd _))
  have hd1 := Obj.data_mapFields hd (·.setIfInBounds 0 (rawInt nx))
  refine wpAny_bind (wpAny_setField h1 hd1 (by simp) ?_)
  refine wpAny_pure ⟨x, rfl, wpAny_pure (hQ _ ?_ ((Heap.SameBut.update ..).trans (Heap.SameBut.update ..)))⟩
  refine ⟨_, Heap.get?_update_self _ h1 (Obj.isFreed_of_fields (Obj.data_mapFields hd1 _)), (Obj.cls_mapFields ..).trans ((Obj.cls_mapFields ..).trans hc), ?_⟩
  rw [Obj.data_mapFields hd1]
  simp [rawInt]
theorem si_end_int {slot i n : Nat} {Q : Option Value → Shared → Prop} (hh : A.handled = none) (hit : IsSI s.heap J S (.int slot 0) i n ep) (hS : SetAt s.heap S es ep t) (hf : t.fits es.size = true) (hn : es.size = n)
    (hx : ∀ (A : Around) (E : Value → Shared → Prop) (Q' : Option (Value × Nat) → Shared → Prop), Q' none s → wpAny (model prog w) A (setNext S slot i ep) Q' E s)
    (hQ : ∀ h', Heap.ExtBut J s.heap h' → Q none { s with heap := h' }) : wpAny (model prog w) A (pyNext (.ref J)) Q E s := by
  have hty := hit.type
  obtain ⟨o, ho, hc, hd⟩ := hit
  obtain ⟨ol, hol, _, hdl⟩ := hS
  unfold pyNext
  refine wpAny_bind (wpAny_attempt (wpAny_callSpecial?_slot (name := Str.ofString "__next__") hty slot_si_next
    (wpAny_call_entry slot_si_next hty entry_si_next ?_ (args_si_next _))))
  show wpAny _ _ (fieldsOf (.ref J) >>= _) _ _ s
  refine wpAny_bind (wpAny_fieldsOf ho hd ?_)
  show wpAny _ _ (setEntries S >>= _) _ _ s
  refine wpAny_bind (wpAny_setEntries_of hol hdl hf ?_)
  show wpAny _ _ (if ((es.size : Int) != (n : Int)) = true then _ else _) _ _ _
  rw [if_neg (by rw [hn]; simp)]
  show wpAny _ _ (setNext S (Int.toNat (slot : Int)) (Int.toNat (i : Int)) (Int.toNat (ep : Int)) >>= _) _ _ _
  rw [Int.toNat_natCast, Int.toNat_natCast, Int.toNat_natCast]
  refine wpAny_bind (hx _ _ _ ?_)
  dsimp only
  refine wpAny_bind (wpAny_setField ho hd (by simp) ?_)
  show wpAny _ _ (newExc (.type "StopIteration") [] >>= _) _ _ _
  refine wpAny_bind ?_
  simp only [newExc, newTuple]
  refine wpAny_bind (wpAny_newObj_type ?_ (by size_fits))
  refine wpAny_bind (m := firstArgMember _ _) (wpAny_of_eq (a := Value.none) (by first | rfl | (simp only [firstArgMember]; rfl)) ?_)
  refine wpAny_newObj_type ?_ (by size_fits)
  simp only [raiseNew]
  refine wpAny_bind (wpAny_handled ?_)
  first | rw [show A.in1.handled = none from hh] | rw [hh]
  refine wpAny_bind (wpAny_pure (wpAny_throw ?_))
  refine wpAny_bind (wpAny_isInstance (T := "StopIteration") (b := true) ⟨_, Heap.get?_push_size _ rfl, rfl⟩ isSubtype_stop ?_)
  exact wpAny_pure (hQ _ (((Heap.SameBut.update ..).extBut.push _).push _))
theorem si_next_drawn {T : Addr} {i n pl : Nat} {places : Array Value} {h0 : Int} {x : Value} {Q : Option Value → Shared → Prop} (hit : IsSI s.heap J S (.ref T) i n ep) (hT : s.heap.IsTuple T places) (hS : SetAt s.heap S es ep t) (hf : t.fits es.size = true) (hn : es.size = n)
    (hp : places[i]? = some (rawInt pl)) (hx : es[pl]? = some (h0, x))
    (hQ : ∀ h', IsSI h' J S (.ref T) (i + 1) n ep → Heap.SameBut J s.heap h' → Q (some x) { s with heap := h' }) : wpAny (model prog w) A (pyNext (.ref J)) Q E s := by
  have hty := hit.type
  obtain ⟨o, ho, hc, hd⟩ := hit
  obtain ⟨ol, hol, _, hdl⟩ := hS
  obtain ⟨oT, hoT, _, nT, hdT⟩ := hT
  unfold pyNext
  refine wpAny_bind (wpAny_attempt (wpAny_callSpecial?_slot (name := Str.ofString "__next__") hty slot_si_next
    (wpAny_call_entry slot_si_next hty entry_si_next ?_ (args_si_next _))))
  show wpAny _ _ (fieldsOf (.ref J) >>= _) _ _ s
  refine wpAny_bind (wpAny_fieldsOf ho hd ?_)
  show wpAny _ _ (setEntries S >>= _) _ _ s
  refine wpAny_bind (wpAny_setEntries_of hol hdl hf ?_)
  show wpAny _ _ (if ((es.size : Int) != (n : Int)) = true then _ else _) _ _ _
  rw [if_neg (by rw [hn]; simp)]
  show wpAny _ _ (seqItems? (.ref T) >>= _) _ _ _
  refine wpAny_bind (wpAny_seqItems hoT hdT ?_)
  simp only [Int.toNat_natCast, hp, rawInt]
  unfold setNextDrawn
  refine wpAny_bind ?_
  refine wpAny_bind (wpAny_setState_of hol hdl hf ?_)
  dsimp only
  rw [if_neg (by simp)]
  show wpAny _ _ (match es[pl]? with | some (_, x) => _ | _ => _) _ _ _
  rw [hx]
  refine wpAny_pure ?_
  refine wpAny_bind (wpAny_setField ho hd (by simp) ?_)
  refine wpAny_pure ⟨x, rfl, wpAny_pure (hQ _ ?_ (Heap.SameBut.update ..))⟩
  refine ⟨_, Heap.get?_update_self _ ho (Obj.isFreed_of_fields (Obj.data_mapFields hd _)), (Obj.cls_mapFields ..).trans hc, ?_⟩
  rw [Obj.data_mapFields hd]
  simp [rawInt]
theorem si_end_drawn {T : Addr} {i n : Nat} {places : Array Value} {Q : Option Value → Shared → Prop} (hh : A.handled = none) (hit : IsSI s.heap J S (.ref T) i n ep) (hT : s.heap.IsTuple T places) (hS : SetAt s.heap S es ep t) (hf : t.fits es.size = true) (hn : es.size = n)
    (hp : places[i]? = none)
    (hQ : ∀ h', Heap.ExtBut J s.heap h' → Q none { s with heap := h' }) : wpAny (model prog w) A (pyNext (.ref J)) Q E s := by
  have hty := hit.type
  obtain ⟨o, ho, hc, hd⟩ := hit
  obtain ⟨ol, hol, _, hdl⟩ := hS
  obtain ⟨oT, hoT, _, nT, hdT⟩ := hT
  unfold pyNext
  refine wpAny_bind (wpAny_attempt (wpAny_callSpecial?_slot (name := Str.ofString "__next__") hty slot_si_next
    (wpAny_call_entry slot_si_next hty entry_si_next ?_ (args_si_next _))))
  show wpAny _ _ (fieldsOf (.ref J) >>= _) _ _ s
  refine wpAny_bind (wpAny_fieldsOf ho hd ?_)
  show wpAny _ _ (setEntries S >>= _) _ _ s
  refine wpAny_bind (wpAny_setEntries_of hol hdl hf ?_)
  show wpAny _ _ (if ((es.size : Int) != (n : Int)) = true then _ else _) _ _ _
  rw [if_neg (by rw [hn]; simp)]
  show wpAny _ _ (seqItems? (.ref T) >>= _) _ _ _
  refine wpAny_bind (wpAny_seqItems hoT hdT ?_)
  simp only [Int.toNat_natCast, hp]
  refine wpAny_bind (wpAny_setField ho hd (by simp) ?_)
  have h1 := Heap.get?_update_self (Obj.mapFields (·.setIfInBounds 0 (rawInt 0))) ho (Obj.isFreed_of_fields (Obj.data_mapFields hd _))
  have hd1 := Obj.data_mapFields hd (·.setIfInBounds 0 (rawInt 0))
  refine wpAny_bind (wpAny_setField h1 hd1 (by simp) ?_)
  show wpAny _ _ (newExc (.type "StopIteration") [] >>= _) _ _ _
  refine wpAny_bind ?_
  simp only [newExc, newTuple]
  refine wpAny_bind (wpAny_newObj_type ?_ (by size_fits))
  refine wpAny_bind (m := firstArgMember _ _) (wpAny_of_eq (a := Value.none) (by first | rfl | (simp only [firstArgMember]; rfl)) ?_)
  refine wpAny_newObj_type ?_ (by size_fits)
  simp only [raiseNew]
  refine wpAny_bind (wpAny_handled ?_)
  first | rw [show A.in1.handled = none from hh] | rw [hh]
  refine wpAny_bind (wpAny_pure (wpAny_throw ?_))
  refine wpAny_bind (wpAny_isInstance (T := "StopIteration") (b := true) ⟨_, Heap.get?_push_size _ rfl, rfl⟩ isSubtype_stop ?_)
  exact wpAny_pure (hQ _ ((((Heap.SameBut.update ..).trans (Heap.SameBut.update ..)).extBut.push _).push _))
theorem si_self {first : Value} {i n : Nat} {Q : Value → Shared → Prop} (hit : IsSI s.heap J S first i n ep) (h : Q (.ref J) s) : wpAny (model prog w) A (pyIter (.ref J)) Q E s := by
  refine wpAny_pyIter_slot hit.type slot_si_iter (wpAny_call_entry slot_si_iter hit.type entry_si_iter ?_ (args_si_iter _))
  show wpAny _ _ (ret (.ref J)) _ _ s
  exact wpAny_pure ⟨_, rfl, "set_iterator", _, hit.type, slot_si_next.lookup, h⟩
theorem SetAt.extBut {h h' : Heap} (x : SetAt h S es ep t) (hs : Heap.ExtBut J h h') (hne : S ≠ J) : SetAt h' S es ep t := let ⟨o, ho, r⟩ := x; ⟨o, hs S o hne ho, r⟩
end
/-- by the text -/
theorem walks_text {prog : Program} {w : World} {A : Around} (hh : A.handled = none) (hb : byT w = true) (J S : Addr) (hne : S ≠ J) {es : Array (Int × Value)} {ep : Nat} {t : SetTable} (hf : t.fits es.size = true) :
    Walks prog w A J [J, S] [J] es.size (fun i v => ((pickOrder (w.params.setOrder S ep) es).map (·.2))[i]? = some v) (fun i h => IsSI h J S (.int (0 : Nat) 0) i es.size ep ∧ SetAt h S es ep t) where
  sub := fun b hb => by simp at hb; simp [hb]
  frame := fun _ _ _ st hk => ⟨st.1.at fun o e => hk J (by simp) o e, st.2.at fun o e => hk S (by simp) o e⟩
  item := fun i s Q E hi st hQ => by
    have hsz : (pickOrder (w.params.setOrder S ep) es).size = es.size := by
      have := (pickOrder_perm (w.params.setOrder S ep) es).length_eq
      simpa using this
    have hg : (pickOrder (w.params.setOrder S ep) es)[i]? = some ((pickOrder (w.params.setOrder S ep) es)[i]'(by omega)) := by simp [hsz, hi]
    refine si_next_int (x := ((pickOrder (w.params.setOrder S ep) es)[i]'(by omega)).2) (nx := 0) st.1 st.2 hf rfl (fun A E Q' q => setNext_text st.2 hf hb 0 i (by rw [hg]; exact q)) fun h' hit' hs' => ?_
    exact hQ _ h' s.toks (by rw [Array.getElem?_map, hg]; rfl) ⟨hit', st.2.extBut hs'.extBut hne⟩ fun b o hb e => hs'.extBut b o (fun h => hb (by simp [h])) e
  done := fun s Q E st hQ => by
    have hsz : (pickOrder (w.params.setOrder S ep) es).size = es.size := by
      have := (pickOrder_perm (w.params.setOrder S ep) es).length_eq
      simpa using this
    refine si_end_int hh st.1 st.2 hf rfl (fun A E Q' q => setNext_text st.2 hf hb 0 _ ?_) fun h' he' => hQ h' s.toks fun b o hb e => he' b o (fun h => hb (by simp [h])) e
    rw [Array.getElem?_eq_none (by omega)]
    exact q
  self := fun _ _ _ _ st hQ => si_self st.1 hQ
/-- where the i-th looks on -/
def slotAt (t : SetTable) : Nat → Nat
  | 0 => 0
  | i + 1 => (t.place.getD i 0) + 1
theorem fits_size {t : SetTable} {n : Nat} (h : t.fits n = true) : t.place.size = n := by
  simp only [SetTable.fits, Bool.and_eq_true, beq_iff_eq] at h
  exact h.1
theorem below_slot {b : Bool} {t : SetTable} (h : SI b t) {i : Nat} (hi : i ≤ t.place.size) : SetTable.below t.place (slotAt t i) = i := by
  refine below_is h.rise (fun k a hk ha => ?_) (fun a ha => ?_) hi
  · cases i with
    | zero => omega
    | succ i =>
      have hg : t.place[i]? = some (t.place.getD i 0) := by simp [Array.getD, show i < t.place.size by omega]
      show a < t.place.getD i 0 + 1
      by_cases e : k = i
      · subst e
        rw [hg] at ha
        cases ha
        omega
      · have := rise_at h.rise (show k < i by omega) ha hg
        omega
  · cases i with
    | zero => exact Nat.zero_le _
    | succ i =>
      have hg : t.place[i]? = some (t.place.getD i 0) := by simp [Array.getD, show i < t.place.size by omega]
      exact rise_at h.rise (Nat.lt_succ_self i) hg ha
/-- by the places -/
theorem walks_place {prog : Program} {w : World} {A : Around} (hh : A.handled = none) (hb : byT w = false) (J S : Addr) (hne : S ≠ J) {es : Array (Int × Value)} {ep : Nat} {t : SetTable} (hf : t.fits es.size = true) (hi : SI true t) (hd' : (!t.plain && decide (es.size > 1)) = false) :
    Walks prog w A J [J, S] [J] es.size (fun i v => (es.map (·.2))[i]? = some v) (fun i h => IsSI h J S (.int (slotAt t i : Nat) 0) i es.size ep ∧ SetAt h S es ep t) where
  sub := fun b hb => by simp at hb; simp [hb]
  frame := fun _ _ _ st hk => ⟨st.1.at fun o e => hk J (by simp) o e, st.2.at fun o e => hk S (by simp) o e⟩
  item := fun i s Q E hi' st hQ => by
    have hsz := fits_size hf
    have hg : es[i]? = some es[i] := by simp [hi']
    have hp : t.place[i]? = some (t.place.getD i 0) := by simp [Array.getD, show i < t.place.size by omega]
    refine si_next_int (x := es[i].2) (nx := slotAt t (i + 1)) st.1 st.2 hf rfl (fun A E Q' q => setNext_place st.2 hf hb hi.led hd' (slotAt t i) i ?_) fun h' hit' hs' => ?_
    · rw [below_slot hi (by omega), hg, hp]
      exact q
    · exact hQ _ h' s.toks (by rw [Array.getElem?_map, hg]; rfl) ⟨hit', st.2.extBut hs'.extBut hne⟩ fun b o hb e => hs'.extBut b o (fun h => hb (by simp [h])) e
  done := fun s Q E st hQ => by
    have hsz := fits_size hf
    refine si_end_int hh st.1 st.2 hf rfl (fun A E Q' q => setNext_place st.2 hf hb hi.led hd' _ _ ?_) fun h' he' => hQ h' s.toks fun b o hb e => he' b o (fun h => hb (by simp [h])) e
    rw [below_slot hi (by omega), Array.getElem?_eq_none (Nat.le_refl _)]
    exact q
  self := fun _ _ _ _ st hQ => si_self st.1 hQ
/-- as drawn -/
theorem walks_drawn {prog : Program} {w : World} {A : Around} (hh : A.handled = none) (J S T : Addr) (hne : S ≠ J) (hneT : T ≠ J) {es : Array (Int × Value)} {ep : Nat} {t : SetTable} (hf : t.fits es.size = true) {pl : List Nat} (hp : pl.Perm (List.range es.size)) :
    Walks prog w A J [J, S, T] [J] es.size (fun i v => (pl.map fun k => (es.getD k (0, .none)).2)[i]? = some v) (fun i h => IsSI h J S (.ref T) i es.size ep ∧ SetAt h S es ep t ∧ h.IsTuple T (pl.map fun (k : Nat) => rawInt k).toArray) where
  sub := fun b hb => by simp at hb; simp [hb]
  frame := fun _ _ _ st hk => ⟨st.1.at fun o e => hk J (by simp) o e, st.2.1.at fun o e => hk S (by simp) o e, st.2.2.at fun o e => hk T (by simp) o e⟩
  item := fun i s Q E hi' st hQ => by
    have hl : pl.length = es.size := by rw [hp.length_eq, List.length_range]
    have hg : pl[i]? = some (pl[i]'(by omega)) := List.getElem?_eq_getElem _
    have hlt : pl[i]'(by omega) < es.size := List.mem_range.mp (hp.mem_iff.mp (List.getElem_mem _))
    have he : es[pl[i]'(by omega)]? = some ((es.getD (pl[i]'(by omega)) (0, .none)).1, (es.getD (pl[i]'(by omega)) (0, .none)).2) := by simp [Array.getD, hlt]
    refine si_next_drawn (pl := pl[i]'(by omega)) st.1 st.2.2 st.2.1 hf rfl (by rw [List.getElem?_toArray, List.getElem?_map, hg]; rfl) he fun h' hit' hs' => ?_
    exact hQ _ h' s.toks (by rw [List.getElem?_map, hg]; rfl) ⟨hit', st.2.1.extBut hs'.extBut hne, st.2.2.extBut hs'.extBut hneT⟩ fun b o hb e => hs'.extBut b o (fun h => hb (by simp [h])) e
  done := fun s Q E st hQ => by
    have hl : pl.length = es.size := by rw [hp.length_eq, List.length_range]
    exact si_end_drawn hh st.1 st.2.2 st.2.1 hf rfl (by rw [List.getElem?_toArray, List.getElem?_map, List.getElem?_eq_none (by omega)]; rfl) fun h' he' => hQ h' s.toks fun b o hb e => he' b o (fun h => hb (by simp [h])) e
  self := fun _ _ _ _ st hQ => si_self st.1 hQ
section
variable {prog : Program} {w : World} {A : Around} {E : Value → Shared → Prop} {s : Shared} {S : Addr} {es : Array (Int × Value)} {ep : Nat} {t : SetTable}
theorem SetAt.type (x : SetAt s.heap S es ep t) : s.TypeIs (.ref S) "set" := let ⟨o, ho, hc, _⟩ := x; ⟨o, ho, hc⟩
/-- iter(set): an order of its members, and a walk through it -/
theorem set_iter (hh : A.handled = none) (hS : SetAt s.heap S es ep t) (hf : t.fits es.size = true) (hi : SI (!byT w) t) (hz : es.size ≤ sizeLine) {Q : Value → Shared → Prop}
    (hQ : ∀ (J : Addr) (fp : List Addr) (h' : Heap) d' (xs : List Value) (St : Nat → Heap → Prop), xs.Perm (es.toList.map (·.2)) → (∀ b o, s.heap.get? b = some o → h'.get? b = some o) → s.heap.objs.size ≤ J → (∀ b ∈ fp, b = S ∨ s.heap.objs.size ≤ b) →
      (∀ A : Around, A.handled = none → Walks prog w A J fp [J] es.size (fun i v => xs[i]? = some v) St) → St 0 h' → Q (.ref J) { s with heap := h', drawn := d' }) :
    wpAny (model prog w) A (pyIter (.ref S)) Q E s := by
  have hty := hS.type
  have hlt : S < s.heap.objs.size := by obtain ⟨o, ho, _⟩ := hS; exact Heap.lt_size ho
  refine wpAny_pyIter_slot hty F.slot_set_iter (wpAny_call_entry F.slot_set_iter hty entry_set_iter ?_ (F.args_set_iter_1 _))
  obtain ⟨o, ho, hc, hd⟩ := id hS
  show wpAny _ _ (Builtin.Frozenset.sizeOf S >>= _) _ _ _
  unfold Builtin.Frozenset.sizeOf
  refine wpAny_bind (wpAny_bind (wpAny_setEntries_of ho hd hf (wpAny_pure ?_)))
  unfold setDrawn setsByText
  refine wpAny_bind ?_
  refine wpAny_bind (wpAny_setState_of ho hd hf ?_)
  refine wpAny_bind (wpAny_bind (wpAny_askSetting (wpAny_pure ?_)))
  refine wpAny_pure ?_
  show wpAny _ _ (if (!byT w && (!t.plain && decide (es.size > 1))) = true then _ else _) _ _ _
  by_cases hc1 : (!byT w && (!t.plain && decide (es.size > 1))) = true
  · rw [if_pos hc1]
    refine wpAny_bind (drawOrder_ok _ _ _ _ List.length_range fun pl d' hp => ?_)
    have hl : pl.length = es.size := by rw [hp.length_eq, List.length_range]
    have hsz : sizeOk (.seq (pl.map fun (i : Nat) => rawInt i).toArray) := by
      show (pl.map fun (i : Nat) => rawInt i).toArray.size ≤ sizeLine
      rw [List.size_toArray, List.length_map, hl]
      exact hz
    refine wpAny_bind (wpAny_newObj_type ?_ hsz)
    refine wpAny_bind (wpAny_setEpoch_of (Heap.get?_push_of_some _ ho) hd hf ?_)
    refine wpAny_bind (wpAny_newObj_type ?_)
    refine wpAny_pure ⟨_, rfl, "set_iterator", _, ⟨_, Heap.get?_push_size _ rfl, rfl⟩, slot_si_next.lookup, ?_⟩
    refine hQ _ [_, S, s.heap.objs.size] _ _ (pl.map fun k => (es.getD k (0, .none)).2) _ ?_ (fun b o e => Heap.get?_push_of_some _ (Heap.get?_push_of_some _ e)) ?_ ?_ (fun A hh => walks_drawn (ep := ep) (t := t) hh _ S s.heap.objs.size ?_ ?_ hf hp) ⟨⟨_, Heap.get?_push_size _ rfl, rfl, rfl⟩, hS.at fun o e => Heap.get?_push_of_some _ (Heap.get?_push_of_some _ e), ⟨_, Heap.get?_push_of_some _ (Heap.get?_push_size _ rfl), rfl, _, rfl⟩⟩
    · have e1 := hp.map fun k => (es.getD k (0, Value.none)).2
      refine e1.trans (List.Perm.of_eq ?_)
      apply List.ext_getElem?
      intro i
      rw [List.getElem?_map, List.getElem?_map, Array.getElem?_toList]
      by_cases hi : i < es.size
      · simp [hi, Array.getD]
      · simp [hi]
    · show s.heap.objs.size ≤ (s.heap.push _).objs.size
      rw [Heap.size_push]
      omega
    · intro b hb
      simp only [List.mem_cons, List.not_mem_nil, or_false] at hb
      rcases hb with rfl | rfl | rfl
      · refine .inr ?_
        show s.heap.objs.size ≤ (s.heap.push _).objs.size
        rw [Heap.size_push]
        omega
      · exact .inl rfl
      · exact .inr (Nat.le_refl _)
    · show S ≠ (s.heap.push _).objs.size
      rw [Heap.size_push]
      exact Nat.ne_of_lt (Nat.lt_succ_of_lt hlt)
    · show s.heap.objs.size ≠ (s.heap.push _).objs.size
      rw [Heap.size_push]
      omega
  · rw [if_neg hc1]
    refine wpAny_bind (wpAny_pure ?_)
    refine wpAny_bind (wpAny_setEpoch_of ho hd hf ?_)
    refine wpAny_bind (wpAny_newObj_type ?_)
    refine wpAny_pure ⟨_, rfl, "set_iterator", _, ⟨_, Heap.get?_push_size _ rfl, rfl⟩, slot_si_next.lookup, ?_⟩
    have fpo : ∀ b ∈ [s.heap.objs.size, S], b = S ∨ s.heap.objs.size ≤ b := fun b hb => by
      simp only [List.mem_cons, List.not_mem_nil, or_false] at hb
      rcases hb with rfl | rfl
      · exact .inr (Nat.le_refl _)
      · exact .inl rfl
    cases hb : byT w with
    | true =>
      refine hQ _ [s.heap.objs.size, S] _ s.drawn ((pickOrder (w.params.setOrder S ep) es).map (·.2)).toList (fun i h => IsSI h s.heap.objs.size S (.int (0 : Nat) 0) i es.size ep ∧ SetAt h S es ep t) ?_ (fun b o e => Heap.get?_push_of_some _ e) (Nat.le_refl _) fpo (fun A hh => ?_) ⟨⟨_, Heap.get?_push_size _ rfl, rfl, rfl⟩, hS.at fun o e => Heap.get?_push_of_some _ e⟩
      · rw [Array.toList_map]
        exact (pickOrder_perm _ es).map _
      · simp only [Array.getElem?_toList]
        exact walks_text hh hb _ S (Nat.ne_of_lt hlt) hf
    | false =>
      rw [hb] at hi hc1
      have hd' : (!t.plain && decide (es.size > 1)) = false := by simpa using hc1
      refine hQ _ [s.heap.objs.size, S] _ s.drawn (es.map (·.2)).toList (fun i h => IsSI h s.heap.objs.size S (.int (slotAt t i : Nat) 0) i es.size ep ∧ SetAt h S es ep t) (by rw [Array.toList_map]) (fun b o e => Heap.get?_push_of_some _ e) (Nat.le_refl _) fpo (fun A hh => ?_) ⟨⟨_, Heap.get?_push_size _ rfl, rfl, rfl⟩, hS.at fun o e => Heap.get?_push_of_some _ e⟩
      simp only [Array.getElem?_toList]
      exact walks_place hh hb _ S (Nat.ne_of_lt hlt) hf hi hd'
theorem set_hint (hT : s.TypeIs (.ref S) "set") {Q : Bool → Shared → Prop} (h : Q false s) : wpAny (model prog w) A (Builtin.List.listLengthHint (.ref S)) Q E s := by
  unfold Builtin.List.listLengthHint
  refine wpAny_bind (wpAny_specialOf hT PySem.F.slot_set_len.lookup ?_)
  generalize hid : ("set.__len__" : String) = id0
  wp_delta
  rw [show splitId id0 = some ("set", "__len__") from by subst hid; decide +kernel]
  subst hid
  refine wpAny_bind (wpAny_isInstance (T := "set") (b := true) hT (by rw [isSubtype_type]; kernel_rfl) ?_)
  refine wpAny_ite_split (fun hab => absurd hab (by decide)) (fun _ => ?_)
  refine wpAny_ite_split (fun _ => ?_) (fun hab => absurd (by decide +kernel) hab)
  refine wpAny_bind (wpAny_typeOf hT ?_)
  exact wpAny_pure h
end
end L2

set_option Elab.async false
set_option linter.all false
set_option maxRecDepth 100000
namespace L2
open PySem PySem.Spec PyProof.Rows
section
variable {prog : Program} {w : World} {A : Around} {E : Value → Shared → Prop} {s : Shared} {S : Addr} {es : Array (Int × Value)} {ep : Nat} {t : SetTable}
theorem items_eq {xs : List Value} {acc : Array Value} {n : Nat} (h : ItemsOf (fun i v => xs[i]? = some v) acc n) (hl : xs.length = n) : acc.toList = xs := by
  apply List.ext_getElem?
  intro i
  by_cases hi : i < n
  · have hg : acc[i]? = some (acc[i]'(by rw [h.1]; exact hi)) := by simp [h.1, hi]
    rw [Array.getElem?_toList, hg, h.2 i _ hg]
  · rw [List.getElem?_eq_none (by rw [Array.length_toList, h.1]; omega), List.getElem?_eq_none (by omega)]
/-- the members of a set, collected -/
theorem set_collect (hh : A.handled = none) (hS : SetAt s.heap S es ep t) (hf : t.fits es.size = true) (hi : SI (!byT w) t) (hz : es.size ≤ sizeLine) {R : List Value → Shared → Prop}
    (h : ∀ (h' : Heap) (tk : Nat) d' (xs : List Value), (∀ b o, s.heap.get? b = some o → h'.get? b = some o) → xs.Perm (es.toList.map (·.2)) → R xs { s with heap := h', toks := tk, drawn := d' }) :
    wpAny (model prog w) A (collect (.ref S)) R E s := by
  have hlt : S < s.heap.objs.size := by obtain ⟨o, ho, _⟩ := hS; exact Heap.lt_size ho
  unfold collect
  refine wpAny_bind (wpAny_runValue (codeAny_builtin PySem.F.entry_proto_collect ?_))
  rw [Around.under_plainId PySem.F.plain_proto_collect _]
  show wpAny _ A.in1 (newList [] >>= fun l => again (.builtin "list.__iadd__" ⟨[l, .ref S], []⟩)) _ _ s
  refine wpAny_bind (wpAny_newObj_type ?_)
  refine wpAny_pure ⟨plainId_quiet PySem.F.plain_list_iadd _, codeAny_builtin PySem.F.entry_list_iadd ?_⟩
  rw [Around.under_plainId PySem.F.plain_list_iadd _]
  have hS1 : SetAt (s.heap.push { cls := .type "list", data := .seq ([] : List Value).toArray }) S es ep t := hS.at fun o e => Heap.get?_push_of_some _ e
  have hL : (s.heap.push { cls := .type "list", data := .seq ([] : List Value).toArray }).get? s.heap.objs.size = some { cls := .type "list", data := .seq ([] : List Value).toArray } := Heap.get?_push_size _ rfl
  have h1 : Builtin.List.listSameRef (.ref s.heap.objs.size) (.ref S) = false := by simp [Builtin.List.listSameRef, Nat.ne_of_gt hlt]
  show wpAny _ A.in1 (Builtin.List.listExtendWith (.ref s.heap.objs.size) (.ref S) (.ref s.heap.objs.size)) _ _ _
  unfold Builtin.List.listExtendWith
  refine wpAny_bind (wpAny_typeOf (T := "set") (SetAt.type hS1) ?_)
  have n1 : (Value.type "set" == Value.type "list") = false := by decide
  have n2 : (Value.type "set" == Value.type "tuple") = false := by decide
  simp only [h1, n1, n2, Bool.or_false, Bool.false_eq_true, if_false]
  refine wpAny_bind (set_iter (A := A.in1) (s := { s with heap := s.heap.push { cls := .type "list", data := .seq ([] : List Value).toArray } }) (show A.in1.handled = none from hh) hS1 hf hi hz fun J fp h' d' xs St hp hk hJ hfp W st => ?_)
  have hsz : (s.heap.push { cls := .type "list", data := .seq ([] : List Value).toArray }).objs.size = s.heap.objs.size + 1 := Heap.size_push _ _
  have hJ' : s.heap.objs.size + 1 ≤ J := by rw [← hsz]; exact hJ
  have hLf : s.heap.objs.size ∉ fp := fun hm => by
    rcases hfp _ hm with e | e
    · exact absurd e (Nat.ne_of_gt hlt)
    · have e' : s.heap.objs.size + 1 ≤ s.heap.objs.size := by rw [← hsz]; exact e
      omega
  refine wpAny_bind (wpAny_holding (set_hint (s := { s with heap := h', drawn := d' }) (SetAt.type (hS1.at fun o e => hk _ _ e)) ?_))
  refine wpAny_ite_split (fun _ => ?_) (fun hab => absurd (by decide +kernel) hab)
  refine wpAny_bind (wpAny_rule ?_)
  refine wpAny_bind ?_
  show wpAny _ _ (updateSeq s.heap.objs.size (·.push .none) >>= fun _ => updateSeq s.heap.objs.size (·.pop)) _ _ _
  have hL1 := hk _ _ hL
  refine wpAny_bind (wpAny_updateSeq hL1 rfl ?_)
  have hL2 := Heap.get?_update_self (Obj.mapSeq (·.push Value.none)) hL1 rfl
  refine wpAny_updateSeq (hz := by seq_fits) hL2 rfl ?_
  have hL3 := Heap.get?_update_self (Obj.mapSeq (·.pop)) hL2 rfl
  have st' : St 0 ((h'.update s.heap.objs.size (Obj.mapSeq fun x => x.push Value.none)).update s.heap.objs.size (Obj.mapSeq fun x => x.pop)) := (W A.in1 hh).frame 0 _ _ st fun b hb o e => by
    have hne : b ≠ s.heap.objs.size := fun z => hLf (z ▸ hb)
    exact (Heap.get?_update_other _ _ (Ne.symm hne)).trans ((Heap.get?_update_other _ _ (Ne.symm hne)).trans e)
  refine wpAny_pure ⟨plainId_quiet PySem.F.plain_extend_loop _, codeAny_extend_loopS (W A.in1 hh).toS hz s.heap.objs.size hLf _ es.size 0 _ #[] _ rfl (Nat.zero_le _) st' hL3 (ItemsOf.nil _) fun s' acc' c' hm hS' hacc => ?_⟩
  show wpAny _ A (load s.heap.objs.size >>= _) _ _ s'
  refine wpAny_bind (wpAny_load hS' ?_)
  obtain ⟨h2, g2, d2, tk2, os2⟩ := s'
  obtain rfl : g2 = s.gens := hm.gens
  obtain rfl : d2 = d' := hm.drawn
  obtain rfl : os2 = s.os := hm.os
  have hxl : xs.length = es.size := by rw [hp.length_eq]; simp
  refine wpAny_pure ?_
  have key : ∀ b o, s.heap.get? b = some o → h2.get? b = some o := fun b o e => by
    have hb := Heap.lt_size e
    have hne : b ≠ s.heap.objs.size := Nat.ne_of_lt hb
    refine hm.heap b o (fun z => ?_) ((Heap.get?_update_other _ _ (Ne.symm hne)).trans ((Heap.get?_update_other _ _ (Ne.symm hne)).trans (hk b o (Heap.get?_push_of_some _ e))))
    simp only [List.mem_cons, List.not_mem_nil, or_false] at z
    rcases z with z | z
    · exact hne z
    · exact absurd (z ▸ hb : J < s.heap.objs.size) (Nat.not_lt.mpr (Nat.le_of_succ_le hJ'))
  have := h h2 tk2 d2 xs key hp
  rw [← items_eq hacc hxl] at this
  exact this
/-! ### who is in the set -/
theorem perm_of_cover : ∀ (F ns : List Int), F.Nodup → (∀ k ∈ F, k ∈ ns) → ns.length = F.length → ns.Perm F
  | [], ns, _, _, hl => by rw [List.eq_nil_of_length_eq_zero hl]
  | x :: F, ns, hn, hs, hl => by
    have hx := hs x (by simp)
    have hp := List.perm_cons_erase hx
    obtain ⟨h1, h2⟩ := List.nodup_cons.mp hn
    refine hp.trans ((perm_of_cover F (ns.erase x) h2 (fun k hk => ?_) ?_).cons x)
    · have hne : k ≠ x := fun z => h1 (z ▸ hk)
      exact (List.mem_erase_of_ne hne).mpr (hs k (by simp [hk]))
    · rw [List.length_erase_of_mem hx, hl]
      rfl
theorem firstMet_nodup (val : Nat → Int) : ∀ i, (firstMet val i).Nodup
  | 0 => by rw [firstMet_zero]; exact List.nodup_nil
  | i + 1 => by
    rw [firstMet_succ]
    unfold step_dedup
    split
    · exact firstMet_nodup val i
    · rename_i hc
      refine List.nodup_append.mpr ⟨firstMet_nodup val i, by simp, fun a ha b hb => ?_⟩
      rintro rfl
      have : a = val i := by simpa using hb
      subst this
      exact hc (List.any_eq_true.mpr ⟨_, ha, by simp⟩)
theorem range_getD (zs : List Int) : (List.range zs.length).map (fun i => zs.getD i 0) = zs := by
  apply List.ext_getElem?
  intro i
  rw [List.getElem?_map]
  by_cases hi : i < zs.length
  · rw [List.getElem?_range hi]
    simp [List.getD, hi]
  · rw [List.getElem?_eq_none (by simpa using hi), List.getElem?_eq_none (by omega)]
    rfl
theorem firstMet_mem (zs : List Int) (k : Int) : k ∈ firstMet (fun i => zs.getD i 0) zs.length ↔ k ∈ zs := by
  have h := firstMet_any (fun i => zs.getD i 0) zs.length k
  rw [range_getD] at h
  have e : ∀ l : List Int, k ∈ l ↔ l.any (· == k) = true := fun l => by simp [List.any_eq_true]
  rw [e, e, h]
theorem intsM_of : ∀ (l : List Value), (∀ v ∈ l, ∃ k, Value.isInt k v = true) → ∃ ns : List Int, IntsAre l ns ∧ ∀ k, k ∈ ns ↔ ∃ v ∈ l, Value.isInt k v = true
  | [], _ => ⟨[], .nil, fun k => by simp⟩
  | v :: r, h => by
    obtain ⟨k, hk⟩ := h v (by simp)
    obtain ⟨t, rfl⟩ := Value.isInt_shape hk
    obtain ⟨ns, h1, h2⟩ := intsM_of r fun v hv => h v (by simp [hv])
    refine ⟨k :: ns, .cons k t h1, fun j => ?_⟩
    rw [List.mem_cons, h2 j]
    constructor
    · rintro (rfl | ⟨v, hv, e⟩)
      · exact ⟨_, by simp, hk⟩
      · exact ⟨v, by simp [hv], e⟩
    · rintro ⟨v, hv, e⟩
      rcases List.mem_cons.mp hv with rfl | hv
      · exact .inl (Value.isInt_inj _ _ _ e hk)
      · exact .inr ⟨v, hv, e⟩
/-- what a set of ints holds, in the order of its walk -/
theorem setR_ints {b : Bool} {zs : List Int} {h : Heap} (hS : SetR prog w h S b (fun k => (firstMet (fun i => zs.getD i 0) zs.length).any (· == k)) (firstMet (fun i => zs.getD i 0) zs.length).length) :
    ∃ es ep t, SetAt h S es ep t ∧ t.fits es.size = true ∧ SI b t ∧ es.size < scanBound ∧ ∀ xs : List Value, xs.Perm (es.toList.map (·.2)) → ∃ ns, IntsAre xs ns ∧ ns.Nodup ∧ (∀ k, k ∈ ns ↔ k ∈ zs) ∧ ns.length ≤ zs.length := by
  obtain ⟨o, es, ep, t, ho, hex, hd, hel, hm, hs, hf, hn, hi⟩ := hS
  refine ⟨es, ep, t, ⟨o, ho, hex.1, hd⟩, hf, hi, hs, fun xs hp => ?_⟩
  obtain ⟨ns, h1, h2⟩ := intsM_of xs fun v hv => by
    obtain ⟨e, he, rfl⟩ := List.mem_map.mp (hp.mem_iff.mp hv)
    obtain ⟨⟨k, hk, _⟩, _⟩ := hel e he
    exact ⟨k, hk⟩
  have hmem : ∀ k, k ∈ ns ↔ k ∈ zs := fun k => by
    rw [h2 k, ← firstMet_mem zs k]
    have := hm k
    constructor
    · rintro ⟨v, hv, e⟩
      obtain ⟨q, hq, rfl⟩ := List.mem_map.mp (hp.mem_iff.mp hv)
      obtain ⟨a, ha, e'⟩ := List.any_eq_true.mp (this.mpr ⟨q, hq, e⟩)
      have : a = k := by simpa using e'
      exact this ▸ ha
    · intro hk
      obtain ⟨q, hq, e⟩ := this.mp (List.any_eq_true.mpr ⟨k, hk, by simp⟩)
      exact ⟨q.2, hp.mem_iff.mpr (List.mem_map.mpr ⟨q, hq, rfl⟩), e⟩
  have hl : ns.length = (firstMet (fun i => zs.getD i 0) zs.length).length := by
    rw [← IntsAre.length h1, hp.length_eq, List.length_map, Array.length_toList, hn]
  have hpm := perm_of_cover _ ns (firstMet_nodup _ _) (fun k hk => (hmem k).mpr ((firstMet_mem zs k).mp hk)) hl
  exact ⟨ns, h1, hpm.nodup_iff.mpr (firstMet_nodup _ _), hmem, by rw [hl]; exact firstMet_length_le _ _⟩
/-- sorted(set) -/
theorem sorted_set {zs : List Int} {Q : Value → Shared → Prop} (hh : A.handled = none) (hS : SetR prog w s.heap S (!byT w) (fun k => (firstMet (fun i => zs.getD i 0) zs.length).any (· == k)) (firstMet (fun i => zs.getD i 0) zs.length).length) (h64 : zs.length < 64)
    (h : ∀ (out : List Value) (n : Nat) (h1 h' : Heap) (tk : Nat) d' (ns' : List Int), (∀ b o, s.heap.get? b = some o → h1.get? b = some o) → (∀ b o, h1.get? b = some o → h'.get? b = some o) → h'.get? h1.objs.size = some (seqObj "list" out.toArray n) → IntsAre out ns' → ns'.Nodup → (∀ k, k ∈ ns' ↔ k ∈ zs) → ns'.length ≤ zs.length → ns'.Pairwise (· ≤ ·) → Q (.ref h1.objs.size) { s with heap := h', toks := tk, drawn := d' }) :
    wpAny (model prog w) A (call (.builtin "sorted") [.ref S]) Q E s := by
  obtain ⟨es, ep, t, hA, hf, hi, hsb, hall⟩ := setR_ints hS
  refine Calls.call_function_entry kind_sorted plain_sorted entry_sorted (args_sorted1 _) ?_
  unfold Builtin.«sorted»
  refine wpAny_bind (m := checkCount "sorted" 1 1 _) (wpAny_pure ?_)
  refine wpAny_bind (set_collect (A := A.in1) (show A.in1.handled = none from hh) hA hf hi (fits_of_scanBound hsb) fun h1 tk d' xs hk1 hp => ?_)
  obtain ⟨ns, hI, hnd, hmem, hle⟩ := hall xs hp
  have hlv : xs.length < 64 := by rw [hI.length]; omega
  refine wpAny_bind (wpAny_newList ?_ (Nat.le_trans (Nat.le_of_lt hlv) (by decide)))
  have hoL : (h1.push (seqObj "list" xs.toArray 0)).get? h1.objs.size = some (seqObj "list" xs.toArray 0) := Heap.get?_push_size _ rfl
  refine wpAny_bind (wpAny_holding (wpAny_call_entry slot_list_sort ⟨_, hoL, rfl⟩ entry_list_sort (list_sort_tree hoL hI hlv fun out ns' a1 a2 a3 => ⟨_, rfl, ?_⟩) (args_list_sort _)))
  obtain ⟨e, he⟩ := sortedHeap_at (vs := xs) (out := out) hoL
  refine wpAny_pure ⟨_, rfl, h out.toList e h1 _ tk d' ns' hk1 (fun b o hb => ?_) he a1 (a2.nodup_iff.mpr hnd) (fun k => a2.mem_iff.trans (hmem k)) (by rw [a2.length_eq]; exact hle) a3⟩
  have hlt := Heap.lt_size hb
  rw [sortedHeap_old (Nat.ne_of_lt hlt) (by rw [Heap.size_push]; exact Nat.lt_succ_of_lt hlt)]
  exact Heap.get?_push_of_some _ hb
end
/-- the set of the zs -/
def IsSetM (prog : Program) (w : World) (l : Addr) (zs : List Int) (h : Heap) : Prop := SetR prog w h l (!byT w) (fun k => (firstMet (fun i => zs.getD i 0) zs.length).any (· == k)) (firstMet (fun i => zs.getD i 0) zs.length).length
section
variable {X : Cx}
theorem Inv.drw {pins : List (Addr × Obj)} {σ : L2.St} {H : Hp} {s : Shared} (I : Inv X pins σ H s) (d' : Drawn) : Inv X pins σ H { s with drawn := d' } := I.call (g' := s.gens) (t' := s.toks) (d' := d') (ch := []) (h' := s.heap) Un.refl I.hok I.bare (fun _ z => nomatch z)
theorem call_set_M (hc : X.calm = true) : CallR X (.type "set") (fun xs H Q => ∃ p zs, xs = [.ref p] ∧ SqT X.K H p (List.map V.int zs) ∧ zs.length ≤ 100 ∧ ∀ l, H l = none → Q (.ref l) (upd H l (.ext (IsSetM X.prog X.w l zs)))) := by
  intro pins s σ H xs us Q I r h
  obtain ⟨p, zs, rfl, hq, hz, q⟩ := h
  obtain ⟨u, rfl, rx⟩ := vals1 r
  cases rx
  have hb : zs.length + 1 < scanBound := by unfold scanBound; omega
  obtain ⟨its, r', pl, _⟩ := I.tuple hq
  have hl := r'.length
  rw [List.length_map] at hl
  refine set_of_tupR (I.ok.hd hc) pl (intsAre_of r') (by rw [List.size_toArray, ← hl]; exact hb) fun h' tk hS kp => ?_
  have hsz : its.toArray.size = zs.length := by rw [hl]; rfl
  rw [hsz] at hS
  exact ⟨.ref s.heap.objs.size, _, I.laid (t' := tk) (fun b o' e => kp b o' (Heap.lt_size e) e) (Nat.le_refl _) (show ObjOk X.prog X.w _ _ _ (.ext (IsSetM X.prog X.w s.heap.objs.size zs)) from ⟨hS, (let ⟨o, _, _, _, ho, _⟩ := hS; ⟨o, ho⟩), fun h1 h2 x k => SetR.at x k⟩), rfl, q _ (I.hok.fresh (Nat.le_refl _))⟩
theorem call_sort_M (hc : X.calm = true) : CallR X (.builtin "sorted") (fun xs H Q => ∃ (a : Addr) (zs : List Int), xs = [.ref a] ∧ H a = some (.ext (IsSetM X.prog X.w a zs)) ∧ zs.length < 64 ∧ ∀ (ns' : List Int) (p : Addr), ns'.Nodup → (∀ k, k ∈ ns' ↔ k ∈ zs) → ns'.Pairwise (· ≤ ·) → H p = none → Q (.ref p) (upd H p (.lst (ns'.map V.int)))) := by
  intro pins s σ H xs us Q I r h
  obtain ⟨a, zs, rfl, hq, hl, q⟩ := h
  obtain ⟨u, rfl, rx⟩ := vals1 r
  cases rx
  have hS : IsSetM X.prog X.w a zs s.heap := (show ObjOk X.prog X.w H s.heap a (.ext (IsSetM X.prog X.w a zs)) from I.hok a _ hq).1
  refine sorted_set (I.ok.hd hc) hS hl fun out n h1 h' tk d' ns' k1 k2 e a1 a2 a3 a4 a5 => ?_
  have hz' : (ns'.map V.int).length ≤ sizeLine := by rw [List.length_map]; exact Nat.le_trans a4 (small64 hl)
  have I2 : Inv X pins σ H { s with heap := h1, toks := tk, drawn := d' } := (I.kept (t' := tk) k1).drw d'
  exact ⟨.ref _, _, I2.laid (t' := tk) k2 (Nat.le_refl _) (show ObjOk X.prog X.w _ _ _ (.lst (ns'.map V.int)) from ⟨hz', out, n, vals_ints a1, by simpa [seqObj] using e⟩), rfl, q ns' _ a2 a3 a5 (I2.hok.fresh (Nat.le_refl _))⟩
theorem call_set_MK (hc : X.calm = true) (P0 : Program) (w0 : World) (hP : X.prog = P0) (hw : X.w = w0) : CallR X (.type "set") (fun xs H Q => ∃ p zs, xs = [.ref p] ∧ SqT X.K H p (List.map V.int zs) ∧ zs.length ≤ 100 ∧ ∀ l, H l = none → Q (.ref l) (upd H l (.ext (IsSetM P0 w0 l zs)))) := by
  subst hP; subst hw
  exact call_set_M hc
theorem call_sort_MK (hc : X.calm = true) (P0 : Program) (w0 : World) (hP : X.prog = P0) (hw : X.w = w0) : CallR X (.builtin "sorted") (fun xs H Q => ∃ (a : Addr) (zs : List Int), xs = [.ref a] ∧ H a = some (.ext (IsSetM P0 w0 a zs)) ∧ zs.length < 64 ∧ ∀ (ns' : List Int) (p : Addr), ns'.Nodup → (∀ k, k ∈ ns' ↔ k ∈ zs) → ns'.Pairwise (· ≤ ·) → H p = none → Q (.ref p) (upd H p (.lst (ns'.map V.int)))) := by
  subst hP; subst hw
  exact call_sort_M hc
end
end L2

set_option Elab.async false
set_option linter.all false
set_option maxRecDepth 100000
namespace L2
open PySem PySem.Spec PyProof.Rows
/-! ### pairs of tuples of ints as keys -/
abbrev Pr2 := List Int × List Int
section
variable {prog : Program} {w : World}
def IsPairKey (prog : Program) (w : World) (h : Heap) (k : Pr2) (a : Addr) : Prop := ∃ o n q1 q2, h.get? a = some o ∧ o.cls = .type "tuple" ∧ o.data = .seq #[.ref q1, .ref q2] n ∧ IsTupleKey (intKind prog w) h k.1 q1 ∧ IsTupleKey (intKind prog w) h k.2 q2
def pairHash (prog : Program) (w : World) (k : Pr2) : Int := reduceHash (Builtin.Tuple.tupleHashOf [tupleKeyHash (intKind prog w) k.1, tupleKeyHash (intKind prog w) k.2])
def pairDraws (k : Pr2) : Nat := (k.1.length + 1) + (k.2.length + 1) + 1
theorem IsPairKey.type {s : Shared} {k : Pr2} {a : Addr} (x : IsPairKey prog w s.heap k a) : s.TypeIs (.ref a) "tuple" := let ⟨o, _, _, _, ho, hc, _⟩ := x; ⟨o, ho, hc⟩
theorem IsPairKey.inj {h : Heap} {a : Addr} {x y : Pr2} (hx : IsPairKey prog w h x a) (hy : IsPairKey prog w h y a) : x = y := by
  obtain ⟨o, n, q1, q2, ho, _, hd, h1, h2⟩ := hx
  obtain ⟨o', n', p1, p2, ho', _, hd', h1', h2'⟩ := hy
  rw [ho] at ho'
  cases ho'
  rw [hd] at hd'
  injection hd' with e1 _
  have e2 : [Value.ref q1, Value.ref q2] = [Value.ref p1, Value.ref p2] := congrArg Array.toList e1
  simp only [List.cons.injEq, Value.ref.injEq, and_true] at e2
  obtain ⟨rfl, rfl⟩ := e2
  exact Prod.ext (h1.inj h1') (h2.inj h2')
theorem IsPairKey.keeps {h h' : Heap} {k : Pr2} {a d : Addr} {o : Obj} {es : Array DictEntry} {ep : Nat} (x : IsPairKey prog w h k a) (ho : h.get? d = some o) (hd : o.data = .dict es ep) (hs : Heap.SameBut d h h') : IsPairKey prog w h' k a := by
  obtain ⟨o', n, q1, q2, ho', hc, hd', h1, h2⟩ := x
  have hne : a ≠ d := fun e => by
    subst e
    rw [ho] at ho'
    cases ho'
    rw [hd] at hd'
    cases hd'
  exact ⟨o', n, q1, q2, (hs.2 a hne).trans ho', hc, hd', h1.keeps ho hd hs, h2.keeps ho hd hs⟩
variable {A : Around} {E : Value → Shared → Prop} {s : Shared}
theorem pyHash_pair {k : Pr2} {a : Addr} {Q : Int → Shared → Prop} (hu : A.units + 1 < cLine) (hk : IsPairKey prog w s.heap k a) (h : Q (pairHash prog w k) { s with toks := s.toks + pairDraws k }) :
    wpAny (model prog w) A (pyHash (.ref a)) Q E s := by
  have hT := hk.type
  obtain ⟨o, n, q1, q2, ho, _, hd, h1, h2⟩ := hk
  unfold pyHash
  first | unfold pyHashByItsType | skip
  first | refine wpAny_bind (wpAny_cRoomFor_or (.inr (Nat.lt_of_succ_lt hu)) ?_) | skip
  refine wpAny_bind (wpAny_specialOf hT F.slot_tuple_hash.lookup ?_)
  show wpAny _ _ (if (some (Value.builtin "tuple.__hash__") == some Value.none) = true then _ else _) Q E s
  rw [if_neg (by rw [beq_builtin_none]; exact Bool.false_ne_true)]
  refine wpAny_bind (wpAny_specialOf hT F.slot_tuple_hash.lookup ?_)
  show wpAny _ _ (callSpecialIfBoundUnlessNone? (.ref a) "__hash__" _ >>= _) Q E s
  refine wpAny_bind (wpAny_callSpecialIfBoundUnlessNone?_slot hT F.slot_tuple_hash (wpAny_call_entry F.slot_tuple_hash hT F.entry_tuple_hash ?_ (F.args_tuple_hash_1 _)))
  show wpAny _ _ (Builtin.Tuple.tupleItemsOf (.ref a) >>= _) _ _ s
  refine wpAny_bind (wpAny_tupleItemsOf ho hd ?_)
  refine wpAny_bind ?_
  rw [← Array.forIn_toList]
  refine wpAny_forIn_list _
    (fun rest (b : Array Int) s' => (rest = [.ref q1, .ref q2] ∧ b = #[] ∧ s' = s) ∨ (rest = [.ref q2] ∧ b = #[tupleKeyHash (intKind prog w) k.1] ∧ s' = { s with toks := s.toks + (k.1.length + 1) }) ∨
      (rest = [] ∧ b = #[tupleKeyHash (intKind prog w) k.1, tupleKeyHash (intKind prog w) k.2] ∧ s' = { s with toks := s.toks + (k.1.length + 1) + (k.2.length + 1) }))
    _ ?_ ?_ _ _ (.inl ⟨rfl, rfl, rfl⟩)
  · rintro x rest b s' (⟨e, rfl, rfl⟩ | ⟨e, rfl, rfl⟩ | ⟨e, _⟩)
    · cases e
      refine wpAny_bind (wpAny_pyHash_tuple (A := A.in1) hu h1 ?_)
      first
        | exact wpAny_pure (.inr (.inl ⟨rfl, rfl, rfl⟩))
        | exact wpAny_bind (wpAny_pure (wpAny_pure (.inr (.inl ⟨rfl, rfl, rfl⟩))))
    · cases e
      refine wpAny_bind (wpAny_pyHash_tuple (A := A.in1) (s := { s with toks := s.toks + (k.1.length + 1) }) hu h2 ?_)
      first
        | exact wpAny_pure (.inr (.inr ⟨rfl, rfl, rfl⟩))
        | exact wpAny_bind (wpAny_pure (wpAny_pure (.inr (.inr ⟨rfl, rfl, rfl⟩))))
    · cases e
  · rintro b s' (⟨e, _⟩ | ⟨e, _⟩ | ⟨_, rfl, rfl⟩)
    · cases e
    · cases e
    · show wpAny _ _ (retInt (Builtin.Tuple.tupleHashOf [tupleKeyHash (intKind prog w) k.1, tupleKeyHash (intKind prog w) k.2])) _ _ _
      unfold pairHash at h
      generalize Builtin.Tuple.tupleHashOf [tupleKeyHash (intKind prog w) k.1, tupleKeyHash (intKind prog w) k.2] = T at h ⊢
      have e : s.toks + pairDraws k = s.toks + (k.1.length + 1) + (k.2.length + 1) + 1 := by unfold pairDraws; omega
      rw [e] at h
      refine wpAny_ret_mkInt ?_
      show wpAny _ _ (if (decide (-(2 : Int) ^ 63 ≤ T) && decide (T < 2 ^ 63)) = true then _ else _) Q E _
      unfold reduceHash at h
      by_cases hr : (decide (-(2 : Int) ^ 63 ≤ T) && decide (T < 2 ^ 63)) = true
      · rw [if_pos hr]
        rw [if_pos hr] at h
        exact wpAny_pure h
      · rw [if_neg hr]
        rw [if_neg hr] at h
        exact wpAny_bind (wpAny_rule (wpAny_pure h))
theorem pair_eq_tree {x y : Pr2} {a b : Addr} {P : Fin → Shared → Prop} (hu : A.units < cLine) (hx : IsPairKey prog w s.heap x a) (hy : IsPairKey prog w s.heap y b) (h : P (.done (.ret (.bool (decide (x = y))))) s) :
    wpAny (model prog w) A (Builtin.«tuple.__eq__» ⟨[.ref a, .ref b], []⟩) P E s := by
  have hTb := hy.type
  obtain ⟨oa, na, q1, q2, hoa, _, hda, x1, x2⟩ := hx
  obtain ⟨ob, nb, p1, p2, hob, _, hdb, y1, y2⟩ := hy
  show wpAny _ _ (isInstance (.ref b) (.type "tuple") >>= _) _ _ s
  refine wpAny_bind (wpAny_isInstance hTb isSubtype_tuple_tuple ?_)
  simp only [Bool.not_true, Bool.false_eq_true, if_false]
  refine wpAny_bind (wpAny_tupleItemsOf hoa hda ?_)
  refine wpAny_bind (wpAny_tupleItemsOf hob hdb ?_)
  refine wpAny_bind ?_
  refine wpAny_forIn_list _
    (fun rest r s' => r.1 = none ∧ s' = s ∧ (rest = [(.ref q1, .ref p1), (.ref q2, .ref p2)] ∨ (rest = [(.ref q2, .ref p2)] ∧ x.1 = y.1) ∨ (rest = [] ∧ x = y)))
    _ ?_ ?_ _ _ ⟨rfl, rfl, .inl rfl⟩
  · rintro ⟨u, v⟩ rest r s' ⟨hr, rfl, e | ⟨e, e1⟩ | ⟨e, _⟩⟩
    · cases e
      refine wpAny_bind (wpAny_eqBool_tuple hu x1 y1 ?_)
      by_cases hk : x.1 = y.1
      · rw [decide_eq_true hk]
        simp only [Bool.not_true, Bool.false_eq_true, if_false]
        exact wpAny_pure ⟨rfl, rfl, .inr (.inl ⟨by trivial, hk⟩)⟩
      · rw [decide_eq_false hk]
        simp only [Bool.not_false, if_true]
        have hf : decide (x = y) = false := decide_eq_false fun z => hk (by rw [z])
        rw [hf] at h
        exact wpAny_bind (wpAny_pure (wpAny_pure (wpAny_pure h)))
    · cases e
      refine wpAny_bind (wpAny_eqBool_tuple hu x2 y2 ?_)
      by_cases hk : x.2 = y.2
      · rw [decide_eq_true hk]
        simp only [Bool.not_true, Bool.false_eq_true, if_false]
        exact wpAny_pure ⟨rfl, rfl, .inr (.inr ⟨by trivial, Prod.ext e1 hk⟩)⟩
      · rw [decide_eq_false hk]
        simp only [Bool.not_false, if_true]
        have hf : decide (x = y) = false := decide_eq_false fun z => hk (by rw [z])
        rw [hf] at h
        exact wpAny_bind (wpAny_pure (wpAny_pure (wpAny_pure h)))
    · cases e
  · rintro ⟨r1, r2⟩ s' ⟨hr, rfl, e | ⟨e, _⟩ | ⟨_, e⟩⟩
    · cases e
    · cases e
    · simp only at hr
      subst hr
      refine wpAny_pure ?_
      rw [decide_eq_true e] at h
      exact h
theorem eqBool_pair {x y : Pr2} {a b : Addr} {Q : Bool → Shared → Prop} (hu : A.units + 1 < cLine) (hx : IsPairKey prog w s.heap x a) (hy : IsPairKey prog w s.heap y b) (h : Q (decide (x = y)) s) :
    wpAny (model prog w) A (eqBool (.ref a) (.ref b)) Q E s := by
  unfold eqBool
  try with_reducible refine wpAny_holding ?_
  show wpAny _ _ (if (Value.ref a == Value.ref b) = true then _ else _) Q E s
  by_cases hab : (Value.ref a == Value.ref b) = true
  · rw [if_pos hab]
    have e : a = b := by have := eq_of_beq hab; injection this
    subst e
    obtain rfl := hx.inj hy
    exact wpAny_bind (wpAny_rule (wpAny_pure (by simpa using h)))
  · rw [if_neg hab]
    exact wpAny_bind (wpAny_richCompare_same_room (op := .Eq) hx.type hy.type F.slot_tuple_eq
      (wpAny_call_entry F.slot_tuple_eq hx.type F.entry_tuple_eq (pair_eq_tree (A := A.in1) hu hx hy ⟨_, rfl, (fun e => nomatch e), wpAny_truthy_bool h⟩) (F.args_tuple_eq_2 _ _)) (Nat.lt_of_succ_lt hu))
theorem quiet_ints {d : Nat} {ks : List Int} {a : Addr} {Q : Bool → Shared → Prop} (hk : IsTupleKey (intKind prog w) s.heap ks a) (h : Q true s) : wpAny (model prog w) A (eqIsQuiet (d + 1) (.ref a)) Q E s := by
  have hT := hk.typeIs
  obtain ⟨o, items, n, ho, _, hd, hi⟩ := hk
  unfold eqIsQuiet
  refine wpAny_bind (wpAny_specialOf hT F.slot_tuple_eq.lookup ?_)
  show wpAny _ _ (isInstance (.ref a) (.type "tuple") >>= _) _ _ s
  refine wpAny_bind (wpAny_isInstance hT isSubtype_tuple_tuple ?_)
  simp only [Bool.not_true, Bool.false_eq_true, if_false]
  refine wpAny_bind (wpAny_seqItems ho hd ?_)
  refine wpAny_bind ?_
  show wpAny _ _ (forIn items _ _) _ _ s
  rw [← Array.forIn_toList]
  refine wpAny_forIn_list _ (fun rest r s' => r.1 = none ∧ s' = s ∧ ∀ v ∈ rest, carriedByValue v = true) _ ?_ ?_ _ _ ⟨rfl, rfl, hi.byValue⟩
  · rintro v rest r s' ⟨hr, rfl, hall⟩
    rw [eqIsQuiet_byValue _ (hall v List.mem_cons_self)]
    refine wpAny_bind (wpAny_pure ?_)
    simp only [Bool.not_true, Bool.false_eq_true, if_false]
    exact wpAny_pure ⟨rfl, rfl, fun u hu' => hall u (List.mem_cons_of_mem _ hu')⟩
  · rintro ⟨r1, r2⟩ s' ⟨hr, rfl, _⟩
    simp only at hr
    subst hr
    exact wpAny_pure h
theorem quiet_pair {k : Pr2} {a : Addr} {Q : Bool → Shared → Prop} (hk : IsPairKey prog w s.heap k a) (h : Q true s) : wpAny (model prog w) A (eqIsQuiet 8 (.ref a)) Q E s := by
  have hT := hk.type
  obtain ⟨o, n, q1, q2, ho, _, hd, h1, h2⟩ := hk
  unfold eqIsQuiet
  refine wpAny_bind (wpAny_specialOf hT F.slot_tuple_eq.lookup ?_)
  show wpAny _ _ (isInstance (.ref a) (.type "tuple") >>= _) _ _ s
  refine wpAny_bind (wpAny_isInstance hT isSubtype_tuple_tuple ?_)
  simp only [Bool.not_true, Bool.false_eq_true, if_false]
  refine wpAny_bind (wpAny_seqItems ho hd ?_)
  refine wpAny_bind ?_
  show wpAny _ _ (forIn #[Value.ref q1, Value.ref q2] _ _) _ _ s
  rw [← Array.forIn_toList]
  refine wpAny_forIn_list _ (fun rest r s' => r.1 = none ∧ s' = s ∧ ∀ v ∈ rest, v = .ref q1 ∨ v = .ref q2) _ ?_ ?_ _ _ ⟨rfl, rfl, by simp⟩
  · rintro v rest r s' ⟨hr, rfl, hall⟩
    have key : ∀ {Q' : Bool → Shared → Prop}, Q' true s' → wpAny (model prog w) A (eqIsQuiet 7 v) Q' E s' := fun hq => by
      rcases hall v List.mem_cons_self with rfl | rfl
      · exact quiet_ints (d := 6) h1 hq
      · exact quiet_ints (d := 6) h2 hq
    refine wpAny_bind (key ?_)
    simp only [Bool.not_true, Bool.false_eq_true, if_false]
    exact wpAny_pure ⟨rfl, rfl, fun u hu' => hall u (List.mem_cons_of_mem _ hu')⟩
  · rintro ⟨r1, r2⟩ s' ⟨hr, rfl, _⟩
    simp only at hr
    subst hr
    exact wpAny_pure h
end
def pairKind (prog : Program) (w : World) : HeapKind prog w Pr2 where
  is := IsPairKey prog w
  hash := pairHash prog w
  draws := pairDraws
  room := fun A => A.units + 1 < cLine
  inj := fun hx hy => hx.inj hy
  keeps := fun x ho hd hs => x.keeps ho hd hs
  pyHash := fun hu hk h => pyHash_pair hu hk h
  eqBool := fun hu hx hy h => eqBool_pair hu hx hy h
  quiet := fun hk h => quiet_pair hk h
end L2

set_option Elab.async false
set_option linter.all false
set_option maxRecDepth 100000
namespace L2
open PySem PySem.Spec PyProof.Rows
/-! ### a dict whose keys are pairs of tuples of ints, each with True -/
def IsDP (P : Program) (w : World) (a : Addr) (ks : List (Pr2 × Addr)) (h : Heap) : Prop := (a == sysModules) = false ∧ ∃ o es ep, h.get? a = some o ∧ o.ExactDict ∧ o.data = .dict es ep ∧
  es.toList = (ks.map fun q => (q.1, q.2, Value.bool true)).map (entryOfKey (pairKind P w)) ∧ (ks.map (·.1)).Nodup
def KeysH (H : Hp) (ks : List (Pr2 × Addr)) : Prop := ∀ q ∈ ks, Pair1 q.1 (.ref q.2) H
theorem KeysH.mv {H H' : Hp} {ks : List (Pr2 × Addr)} (t : Tups H H') (h : KeysH H ks) : KeysH H' ks := fun q hq => (h q hq).mv t
theorem items_int {prog : Program} {w : World} : ∀ {ns : List Int} {its : List Value}, Vals (ns.map V.int) its → ItemsAre (intKind prog w) ns its
  | [], _, .nil => .nil
  | n :: ns, _, .cons r rs => by
    obtain ⟨t, rfl⟩ := r
    exact .cons (intKind_is _ _ _ _) (items_int rs)
section
variable {P : Program} {w : World} {H : Hp} {h : Heap}
theorem ints_key {ns : List Int} {a : Addr} (ok : HOk P w H h) (e : H a = some (.tup (ns.map V.int))) : IsTupleKey (intKind P w) h ns a := by
  obtain ⟨_, its, r, ⟨o, h1, h2, n, h3⟩, _⟩ := (show ObjOk P w H h a (.tup (ns.map V.int)) from ok a _ e)
  exact ⟨o, its.toArray, n, h1, h2, h3, by simpa using items_int r⟩
theorem pair_key {k : Pr2} {b : Addr} (ok : HOk P w H h) (e : Pair1 k (.ref b) H) : (pairKind P w).is h k b := by
  obtain ⟨q, a1, a2, eq, g1, g2, g3⟩ := e
  cases eq
  obtain ⟨_, its, r, ⟨o, h1, h2, n, h3⟩, _⟩ := (show ObjOk P w H h b (.tup [.ref a1, .ref a2]) from ok b _ g1)
  cases r with
  | cons r1 r =>
    cases r with
    | cons r2 r =>
      cases r
      cases r1
      cases r2
      exact ⟨o, n, a1, a2, h1, h2, h3, ints_key ok g2, ints_key ok g3⟩
theorem dp_of {a : Addr} {ks : List (Pr2 × Addr)} (ok : HOk P w H h) (e : H a = some (.ext (IsDP P w a ks))) (hk : KeysH H ks) : (a == sysModules) = false ∧ h.DictOfH (pairKind P w) a (ks.map fun q => (q.1, q.2, Value.bool true)) := by
  obtain ⟨hs, o, es, ep, h1, h2, h3, h4, h5⟩ := (show ObjOk P w H h a (.ext (IsDP P w a ks)) from ok a _ e).1
  refine ⟨hs, o, es, ep, h1, h2, h3, h4, fun x hx => ?_, ?_⟩
  · obtain ⟨q, hq, rfl⟩ := List.mem_map.mp hx
    exact pair_key ok (hk q hq)
  · rw [List.map_map]
    exact h5
theorem dp_ok {a : Addr} {ks : List (Pr2 × Addr)} {H' : Hp} (x : IsDP P w a ks h) : ObjOk P w H' h a (.ext (IsDP P w a ks)) :=
  ⟨x, (let ⟨_, o, _, _, ho, _⟩ := x; ⟨o, ho⟩), fun h1 h2 ⟨z, o, es, ep, e, r⟩ k => ⟨z, o, es, ep, k _ e, r⟩⟩
end
theorem atKey_any (ks : List (Pr2 × Addr)) (k : Pr2) : (atKey (ks.map fun q => (q.1, q.2, Value.bool true)) k).isSome = ks.any fun q => decide (q.1 = k) := by
  unfold atKey
  rw [Option.isSome_map, List.find?_map, Option.isSome_map, Bool.eq_iff_iff, List.find?_isSome, List.any_eq_true]
  rfl
section
variable {X : Cx} {P0 : Program} {w0 : World}
def tDNewP (P0 : Program) (w0 : World) : TE := fun _ H Q => ∀ p, H p = none → Q (.ref p) (upd H p (.ext (IsDP P0 w0 p [])))
theorem pe_dnewP {pos : Pos} (P0 : Program) (w0 : World) (hP : X.prog = P0) (hw : X.w = w0) : PE X (.Dict [] [] pos) (tDNewP P0 w0) := by
  subst hP; subst hw
  intro pins s σ H Q I h
  refine wpAny_Dict_empty ⟨.ref s.heap.objs.size, _, I.laid (a := s.heap.objs.size) (o := .ext (IsDP X.prog X.w s.heap.objs.size [])) (t' := s.toks) (fun _ _ q => Heap.get?_push_of_some _ q) (Nat.le_refl _) (dp_ok ⟨?_, _, #[], 0, Heap.get?_push_size _ rfl, ⟨rfl, rfl, rfl⟩, rfl, rfl, List.nodup_nil⟩), rfl, h _ (I.hok.fresh (Nat.le_refl _))⟩
  exact beq_eq_false_iff_ne.mpr (Ne.symm (Nat.ne_of_lt I.big))
/-- d[k] = True, k not there -/
def sDPutP (P0 : Program) (w0 : World) (td ty tv : TE) : TS := fun D σ H => tv σ H fun v H1 => td σ H1 fun x H2 => ty σ H2 fun y H3 => ∃ (a b : Addr) (ks : List (Pr2 × Addr)) (k : Pr2), v = .bl true ∧ x = .ref a ∧ y = .ref b ∧ H3 a = some (.ext (IsDP P0 w0 a ks)) ∧ KeysH H3 ks ∧ Pair1 k (.ref b) H3 ∧
  ks.length ≤ sizeLine ∧ k ∉ ks.map (·.1) ∧ D.nx σ (upd H3 a (.ext (IsDP P0 w0 a (ks ++ [(k, b)]))))
theorem ps_dputP {o i value : Expr} {td ty tv : TE} {pos pos' : Pos} (P0 : Program) (w0 : World) (hP : X.prog = P0) (hw : X.w = w0) (hu : X.A.units + 2 < cLine) (ho : PE X o td) (hi : PE X i ty) (hv : PE X value tv) (hs : swapsWith value (some (.Subscript o i pos')) pos.line X.env = pure false) :
    PS X (.Assign [.Subscript o i pos'] value pos) (sDPutP P0 w0 td ty tv) := by
  subst hP; subst hw
  intro pins s σ H D I h
  refine wpAny_Assign_Subscript (thn (hv pins s σ H _ I h) fun r s1 ⟨v, H1, I1, rv, q1⟩ => thn (ho pins s1 σ H1 _ I1 q1) fun u s2 ⟨x, H2, I2, rx, q2⟩ => thn (hi pins s2 σ H2 _ I2 q2) fun iv s3 ⟨y, H3, I3, ry, a, b, ks, k, ev, ex, ey, e, hk, hb, hl, hn, q3⟩ => ?_) hs
  subst ev; subst ex; subst ey
  obtain rfl : u = Value.ref a := rx
  obtain rfl : iv = Value.ref b := ry
  obtain rfl : r = Value.bool true := rv
  obtain ⟨hd, dd⟩ := dp_of I3.hok e hk
  have hnone : atKey (ks.map fun q => (q.1, q.2, Value.bool true)) k = none := by
    have h1 := atKey_any ks k
    have h2 : (ks.any fun q => decide (q.1 = k)) = false := by
      rw [List.any_eq_false]
      intro q hq hz
      exact hn (List.mem_map.mpr ⟨q, hq, of_decide_eq_true hz⟩)
    rw [h2] at h1
    exact Option.isSome_eq_false_iff.mp h1 |> Option.isNone_iff_eq_none.mp
  refine wpAny_setItem_heap (hsz := by rw [List.length_map]; exact hl) (knd := pairKind X.prog X.w) (show X.A.in1.units + 1 < cLine from hu) (pair_key I3.hok hb) dd fun h' dd' hsb => ?_
  rw [storedH_new hnone] at dd'
  obtain ⟨o', es, ep, h1, h2, h3, h4, _, h5⟩ := dd'
  refine ⟨σ, _, d_write I3 (by rw [e]; exact True.intro) hsb ⟨o', h1⟩ (dp_ok ⟨hd, o', es, ep, h1, h2, h3, ?_, ?_⟩), q3⟩
  · rw [h4]
    simp only [List.map_append]
    rfl
  · rw [List.map_append, List.map_map] at h5
    rw [List.map_append]
    exact h5
/-- k not in d -/
theorem op_notInP (P0 : Program) (w0 : World) (hP : X.prog = P0) (hw : X.w = w0) (hu : X.A.units + 2 < cLine) : OpR X (compareOp .NotIn) (fun x y H Q => ∃ (a b : Addr) (ks : List (Pr2 × Addr)) (k : Pr2), x = .ref b ∧ y = .ref a ∧ H a = some (.ext (IsDP P0 w0 a ks)) ∧ KeysH H ks ∧ Pair1 k (.ref b) H ∧ Q (.bl (!(ks.any fun q => decide (q.1 = k)))) H) := by
  subst hP; subst hw
  intro pins s σ H x y v u Q I rx ry h
  obtain ⟨a, b, ks, k, rfl, rfl, e, hk, hb, q⟩ := h
  cases rx
  cases ry
  obtain ⟨hd, dd⟩ := dp_of I.hok e hk
  refine wpAny_notIn_heap (knd := pairKind X.prog X.w) (show X.A.in1.units + 1 < cLine from hu) (pair_key I.hok hb) hd dd ?_
  rw [atKey_any]
  exact ⟨.bl _, H, I.tok _, rfl, q⟩
/-- len(d) -/
theorem call_len_P (P0 : Program) (w0 : World) (hP : X.prog = P0) (hw : X.w = w0) : CallR X (.builtin "len") (fun xs H Q => ∃ (a : Addr) (ks : List (Pr2 × Addr)), xs = [.ref a] ∧ H a = some (.ext (IsDP P0 w0 a ks)) ∧ ks.length ≤ sizeLine ∧ Q (.int ks.length) H) := by
  subst hP; subst hw
  intro pins s σ H xs us Q I r h
  obtain ⟨a, ks, rfl, e, hl, q⟩ := h
  obtain ⟨u, rfl, rx⟩ := vals1 r
  cases rx
  obtain ⟨hs, o, es, ep, h1, h2, h3, h4, h5⟩ := (show ObjOk X.prog X.w H s.heap a (.ext (IsDP X.prog X.w a ks)) from I.hok a _ e).1
  have hT : s.TypeIs (.ref a) "dict" := ⟨o, h1, h2.1⟩
  have hsz : es.size = ks.length := by rw [← Array.length_toList, h4, List.length_map, List.length_map]
  refine Calls.call_function_entry kind_len plain_len entry_len (args_len1 _) ?_
  unfold Builtin.«len»
  refine wpAny_bind (m := oneArg "len" _) (wpAny_pure ?_)
  refine wpAny_bind (m := callSpecial? (.ref a) (Str.ofString "__len__")) (wpAny_callSpecial?_slot (name := Str.ofString "__len__") hT PySem.F.slot_dict_len
    (wpAny_call_entry PySem.F.slot_dict_len hT PySem.F.entry_dict_len ?_ (PySem.F.args_dict_len_1 _)))
  show wpAny _ _ (dictSize a >>= _) _ _ s
  unfold dictSize
  refine wpAny_bind (wpAny_bind (wpAny_dictEntries h1 h3 (wpAny_pure ?_)))
  show wpAny _ _ (Builtin.Dict.pendingCount a >>= _) _ _ s
  refine wpAny_bind (wpAny_pendingCount_other hs ?_)
  refine wpAny_ret_mkInt ?_
  rw [hsz, show ((ks.length : Nat) : Int) + ((0 : Nat) : Int) = ((ks.length : Nat) : Int) by simp]
  show wpAny _ _ _ _ _ _
  refine wpAny_bind (wpAny_holding (wpAny_pure ?_))
  refine wpAny_bind (wpAny_letGo ?_)
  rw [sizeLine_eq] at hl
  show wpAny _ _ (if ((ks.length : Nat) : Int) < 0 then _ else _) _ _ _
  rw [if_neg (by omega)]
  show wpAny _ _ (if ((ks.length : Nat) : Int) ≥ 2 ^ 63 then _ else _) _ _ _
  rw [if_neg (by omega)]
  exact wpAny_bind (wpAny_mkInt (wpAny_pure ⟨_, rfl, .int ks.length, H, I.tok _, ⟨_, rfl⟩, q⟩))
end
theorem all2_int {H : Hp} : ∀ {ns : List Int} {xs : List V}, All2 RInt H ns xs → xs = ns.map V.int
  | [], _, .nil => rfl
  | n :: ns, _, .cons h t => by
    rw [List.map_cons, ← all2_int t]
    exact congrArg (· :: _) h
theorem det_tup {X : Cx} (pins : List (Addr × Obj)) (σ : St) (H : Hp) (s : Shared) (a b : List Int) (v : V) (I : Inv X pins σ H s) (h1 : RTup X.K RInt a v H) (h2 : RTup X.K RInt b v H) : a = b := by
  obtain ⟨p, xs, rfl, q1, a1⟩ := h1
  obtain ⟨p', ys, e, q2, a2⟩ := h2
  cases e
  obtain ⟨its, r1, ⟨o1, g1, _, n1, d1⟩, _⟩ := I.tuple q1
  obtain ⟨its', r2, ⟨o2, g2, _, n2, d2⟩, _⟩ := I.tuple q2
  rw [g1] at g2
  cases g2
  rw [d1] at d2
  injection d2 with e _
  have e' : its = its' := by simpa using congrArg Array.toList e
  subst e'
  rw [all2_int a1] at r1
  rw [all2_int a2] at r2
  exact ItemsAre.inj (items_int (prog := X.prog) (w := X.w) r1) (items_int r2)
/-! ### choices of rising numbers -/
theorem chG_sub : ∀ (k : Nat) (ns : List Int), ns.length = k → ∀ c ∈ chG ns, c.Sublist ns
  | 0, ns, h, c, hc => by
    have : ns = [] := List.eq_nil_of_length_eq_zero h
    subst this
    have : c = [] := by simpa [chG] using hc
    subst this
    exact .slnil
  | k + 1, ns, h, c, hc => by
    have hne : ns ≠ [] := fun e => by rw [e] at h; cases h
    rw [← List.dropLast_concat_getLast hne] at hc ⊢
    have hl : ns.dropLast.length = k := by rw [List.length_dropLast, h]; rfl
    rw [chG_snoc] at hc
    rcases List.mem_append.mp hc with hc | hc
    · exact (chG_sub k _ hl c hc).trans (List.sublist_append_left _ _)
    · obtain ⟨d, hd, rfl⟩ := List.mem_map.mp hc
      exact (chG_sub k _ hl d hd).append (List.Sublist.refl _)
theorem chG_all : ∀ {ns c : List Int}, c.Sublist ns → c ∈ chG ns := by
  intro ns
  generalize hk : ns.length = k
  induction k generalizing ns with
  | zero =>
    intro c h
    have : ns = [] := List.eq_nil_of_length_eq_zero hk
    subst this
    rw [List.sublist_nil.mp h]
    simp [chG]
  | succ k ih =>
    intro c h
    have hne : ns ≠ [] := fun e => by rw [e] at hk; cases hk
    rw [← List.dropLast_concat_getLast hne] at h ⊢
    have hl : ns.dropLast.length = k := by rw [List.length_dropLast, hk]; rfl
    rw [chG_snoc]
    obtain ⟨c1, c2, rfl, h1, h2⟩ := List.sublist_append_iff.mp h
    cases h2 with
    | cons _ h3 =>
      rw [List.sublist_nil.mp h3, List.append_nil]
      exact List.mem_append_left _ (ih hl h1)
    | cons_cons _ h3 =>
      rw [List.sublist_nil.mp h3]
      exact List.mem_append_right _ (List.mem_map.mpr ⟨c1, ih hl h1, rfl⟩)
theorem idxG_rise (rule : List (List Int)) (h : List Int) : (idxG rule h).Pairwise (· < ·) := by
  unfold idxG idxP
  rw [List.pairwise_map]
  exact (List.Pairwise.filter _ List.pairwise_lt_range).imp fun z => by omega
theorem idxG_mem {rule : List (List Int)} {h : List Int} {x : Int} : x ∈ idxG rule h ↔ (0 ≤ x ∧ x < rule.length) ∧ lies (rule.getD x.toNat []) h = true := by
  unfold idxG idxP
  rw [List.mem_map]
  constructor
  · rintro ⟨i, hi, rfl⟩
    obtain ⟨h1, h2⟩ := List.mem_filter.mp hi
    have := List.mem_range.mp h1
    exact ⟨⟨by omega, by omega⟩, by rw [Int.toNat_natCast]; exact h2⟩
  · rintro ⟨⟨h1, h2⟩, h3⟩
    exact ⟨x.toNat, List.mem_filter.mpr ⟨List.mem_range.mpr (by omega), h3⟩, by omega⟩
theorem asc_same : ∀ {a b : List Int}, a.Pairwise (· < ·) → b.Pairwise (· < ·) → (∀ x, x ∈ a ↔ x ∈ b) → a = b
  | [], [], _, _, _ => rfl
  | [], y :: b, _, _, h => by
    have := (h y).mpr (by simp)
    cases this
  | x :: a, [], _, _, h => by
    have := (h x).mp (by simp)
    cases this
  | x :: a, y :: b, ha, hb, h => by
    obtain ⟨a1, a2⟩ := List.pairwise_cons.mp ha
    obtain ⟨b1, b2⟩ := List.pairwise_cons.mp hb
    have e : x = y := by
      rcases List.mem_cons.mp ((h x).mp (by simp)) with e | e
      · exact e
      · rcases List.mem_cons.mp ((h y).mpr (by simp)) with e2 | e2
        · exact e2.symm
        · have := a1 y e2
          have := b1 x e
          omega
    subst e
    rw [asc_same a2 b2 fun z => ?_]
    constructor
    · intro hz
      rcases List.mem_cons.mp ((h z).mp (by simp [hz])) with e | e
      · have := a1 z hz
        omega
      · exact e
    · intro hz
      rcases List.mem_cons.mp ((h z).mpr (by simp [hz])) with e | e
      · have := b1 z hz
        omega
      · exact e
/-- what a choice among the numbers that lie is -/
theorem ch_is {rule : List (List Int)} {h c : List Int} : c ∈ chG (idxG rule h) ↔ c.Pairwise (· < ·) ∧ ∀ x ∈ c, (0 ≤ x ∧ x < rule.length) ∧ lies (rule.getD x.toNat []) h = true := by
  constructor
  · intro hc
    have hs := chG_sub _ _ rfl c hc
    exact ⟨List.Pairwise.sublist hs (idxG_rise rule h), fun x hx => idxG_mem.mp (hs.subset hx)⟩
  · rintro ⟨h1, h2⟩
    refine chG_all ?_
    have e : c = (idxG rule h).filter fun x => decide (x ∈ c) := by
      refine asc_same h1 ((idxG_rise rule h).filter _) fun x => ?_
      rw [List.mem_filter]
      exact ⟨fun hx => ⟨idxG_mem.mpr (h2 x hx), by simpa using hx⟩, fun hx => by simpa using hx.2⟩
    rw [e]
    exact List.filter_sublist
end L2

set_option Elab.async false
set_option linter.all false
set_option maxRecDepth 100000
namespace L2
open PySem PySem.Spec PyProof.Rows
/-! ### all pairs cancel but those that are alone -/
theorem chG_nodupN : ∀ (k : Nat) (ns : List Int), ns.length = k → ns.Nodup → (chG ns).Nodup
  | 0, ns, h, _ => by
    have : ns = [] := List.eq_nil_of_length_eq_zero h
    subst this
    simp [chG]
  | k + 1, ns, h, hn => by
    have hne : ns ≠ [] := fun e => by rw [e] at h; cases h
    rw [← List.dropLast_concat_getLast hne] at hn ⊢
    have hl : ns.dropLast.length = k := by rw [List.length_dropLast, h]; rfl
    obtain ⟨n1, _, n3⟩ := List.nodup_append.mp hn
    have ih := chG_nodupN k _ hl n1
    rw [chG_snoc]
    refine List.nodup_append.mpr ⟨ih, ?_, ?_⟩
    · rw [List.nodup_iff_pairwise_ne, List.pairwise_map]
      exact (List.nodup_iff_pairwise_ne.mp ih).imp fun h e => h (List.append_cancel_right e)
    · rintro a ha b hb rfl
      obtain ⟨d, hd, e⟩ := List.mem_map.mp hb
      have hs := chG_sub k _ hl a ha
      have : ns.getLast hne ∈ ns.dropLast := hs.subset (by rw [← e]; simp)
      exact n3 _ this _ (by simp) rfl
theorem pairs1_nodup (rule : List (List Int)) (h : List Int) : (pairs1 rule h).Nodup := by
  unfold pairs1
  rw [List.nodup_iff_pairwise_ne, List.pairwise_map]
  have := chG_nodupN _ _ rfl ((idxG_rise rule h).imp fun {a b} (z : a < b) => (Int.ne_of_lt z : a ≠ b))
  exact (List.nodup_iff_pairwise_ne.mp this).imp fun h e => h (Prod.mk.inj e).2
theorem pairsG_nodup (rule : List (List Int)) : ∀ ls : List (List Int), ls.Nodup → (pairsG rule ls).Nodup
  | [], _ => by simp [pairsG]
  | h :: ls, hn => by
    obtain ⟨h1, h2⟩ := List.nodup_cons.mp hn
    show (List.flatMap (pairs1 rule) (h :: ls)).Nodup
    rw [List.flatMap_cons]
    refine List.nodup_append.mpr ⟨pairs1_nodup rule h, pairsG_nodup rule ls h2, ?_⟩
    rintro a ha b hb rfl
    obtain ⟨c, _, rfl⟩ := List.mem_map.mp ha
    exact h1 (pairsG_mem hb).1
theorem isCh_up {n : Nat} : ∀ {l : Int} {c : List Int}, isCh n l c = true → c.Pairwise (· < ·)
  | _, [], _ => .nil
  | l, y :: r, e => by
    rw [isCh] at e
    by_cases c : y < l ∨ (n : Int) ≤ y
    · rw [if_pos c] at e; cases e
    · rw [if_neg c] at e
      exact List.pairwise_cons.mpr ⟨fun x hx => by have := isCh_mem e x hx; omega, isCh_up e⟩
theorem isCh_mk {n : Nat} : ∀ {l : Int} {c : List Int}, c.Pairwise (· < ·) → (∀ x ∈ c, l ≤ x ∧ x < n) → isCh n l c = true
  | _, [], _, _ => rfl
  | l, y :: r, h, hb => by
    obtain ⟨h1, h2⟩ := List.pairwise_cons.mp h
    have := hb y (by simp)
    rw [isCh, if_neg (by omega)]
    exact isCh_mk h2 fun x hx => ⟨by have := h1 x hx; omega, (hb x (by simp [hx])).2⟩
theorem pair_iff {rule : List (List Int)} {pc : List Int × List Int} : isPairG rule pc = true ↔ pc.2 ∈ chG (idxG rule pc.1) := by
  unfold isPairG
  rw [Bool.and_eq_true, List.all_eq_true, ch_is]
  constructor
  · rintro ⟨h1, h2⟩
    exact ⟨isCh_up h1, fun x hx => ⟨isCh_mem h1 x hx, h2 x hx⟩⟩
  · rintro ⟨h1, h2⟩
    exact ⟨isCh_mk h1 fun x hx => (h2 x hx).1, fun x hx => (h2 x hx).2⟩
theorem pairsG_iff {rule : List (List Int)} {ls : List (List Int)} {pc : List Int × List Int} : pc ∈ pairsG rule ls ↔ pc.1 ∈ ls ∧ isPairG rule pc = true := by
  rw [pair_iff]
  constructor
  · exact pairsG_mem
  · rintro ⟨h1, h2⟩
    exact List.mem_flatMap.mpr ⟨pc.1, h1, List.mem_map.mpr ⟨pc.2, h2, rfl⟩⟩
theorem sgn_all : ∀ (k : Nat) (ns : List Int), ns.length = k → ((chG ns).map sgnG).sum = if ns = [] then 1 else 0
  | 0, ns, h => by
    have : ns = [] := List.eq_nil_of_length_eq_zero h
    subst this
    rfl
  | k + 1, ns, h => by
    have hne : ns ≠ [] := fun e => by rw [e] at h; cases h
    rw [if_neg hne, ← List.dropLast_concat_getLast hne, chG_snoc, List.map_append, List.sum_append, List.map_map]
    have e : ∀ cs : List (List Int), (cs.map (sgnG ∘ fun x => x ++ [ns.getLast hne])).sum = - (cs.map sgnG).sum := fun cs => by
      induction cs with
      | nil => rfl
      | cons c r ih =>
        rw [List.map_cons, List.sum_cons, ih, List.map_cons, List.sum_cons]
        show sgnG (c ++ [_]) + _ = _
        rw [sgn_snoc]
        omega
    rw [e]
    omega
/-- the pairs that are alone, and the sum of the signs -/
theorem alone_kept (rule : List (List Int)) : ∀ ls : List (List Int), (pairsG rule ls).filter (fun pc => (partnerG rule pc).isNone) = (ls.filter fun h => (firstG rule h).isNone).map fun h => (h, [])
  | [] => rfl
  | h :: ls => by
    show (List.flatMap (pairs1 rule) (h :: ls)).filter _ = _
    rw [List.flatMap_cons, List.filter_append, show (List.flatMap (pairs1 rule) ls) = pairsG rule ls from rfl, alone_kept rule ls, List.filter_cons]
    have e : ∀ pc ∈ pairs1 rule h, (partnerG rule pc).isNone = (firstG rule h).isNone := fun pc hpc => by
      obtain ⟨c, _, rfl⟩ := List.mem_map.mp hpc
      unfold partnerG
      dsimp only
      cases firstG rule h with
      | none => rfl
      | some m =>
        dsimp only
        split <;> rfl
    by_cases hf : (firstG rule h).isNone = true
    · rw [if_pos hf, List.map_cons]
      have : idxG rule h = [] := by
        have := Option.isNone_iff_eq_none.mp hf
        unfold firstG at this
        exact List.head?_eq_none_iff.mp this
      have e2 : pairs1 rule h = [(h, [])] := by
        unfold pairs1
        rw [this]
        rfl
      rw [List.filter_eq_self.mpr fun pc hpc => by rw [e pc hpc]; exact hf, e2]
      rfl
    · rw [if_neg hf, List.filter_eq_nil_iff.mpr fun pc hpc => by rw [e pc hpc]; exact hf]
      rfl
theorem sgn_pairs (rule : List (List Int)) : ∀ ls : List (List Int), ((pairsG rule ls).map fun pc => sgnG pc.2).sum = (((ls.filter fun h => (firstG rule h).isNone).length : Nat) : Int)
  | [] => rfl
  | h :: ls => by
    show ((List.flatMap (pairs1 rule) (h :: ls)).map _).sum = _
    rw [List.flatMap_cons, List.map_append, List.sum_append, show (List.flatMap (pairs1 rule) ls) = pairsG rule ls from rfl, sgn_pairs rule ls, List.filter_cons]
    have e : ((pairs1 rule h).map fun pc => sgnG pc.2).sum = if idxG rule h = [] then 1 else 0 := by
      unfold pairs1
      rw [List.map_map]
      exact sgn_all _ _ rfl
    rw [e]
    by_cases hf : (firstG rule h).isNone = true
    · have : idxG rule h = [] := by
        have := Option.isNone_iff_eq_none.mp hf
        unfold firstG at this
        exact List.head?_eq_none_iff.mp this
      rw [if_pos hf, if_pos this, List.length_cons]
      omega
    · have : idxG rule h ≠ [] := fun z => hf (by unfold firstG; rw [z]; rfl)
      rw [if_neg hf, if_neg this]
      omega
theorem part8 : ((List.range 9).all fun m => decide (partF 26 m m).Nodup && (partF 26 m m).all fun h => decide (h.sum = (m : Int))) = true := by decide +kernel
theorem part8_of {m : Nat} (h : m ≤ 8) : (partF 26 m m).Nodup ∧ ∀ x ∈ partF 26 m m, x.sum = (m : Int) := by
  have := List.all_eq_true.mp part8 m (List.mem_range.mpr (by omega))
  rw [Bool.and_eq_true, decide_eq_true_eq, List.all_eq_true] at this
  exact ⟨this.1, fun x hx => of_decide_eq_true (this.2 x hx)⟩
end L2

set_option maxHeartbeats 4000000
namespace My
open PySem PySem.Spec PyProof.Rows L2
def top (i : Nat) : Stmt := PySem.Challenge.pw_shutpairs_k51_whole_pairs_cancel.main.body.getD i (.Pass ⟨0, 0, 0, 0⟩)
abbrev s_often : Stmt := top 8
abbrev s_lies_in : Stmt := top 9
abbrev s_all_in : Stmt := top 17
abbrev s_first_in : Stmt := top 18
abbrev s_keeps : Stmt := top 19
abbrev s_refuse_beyond : Stmt := top 5
abbrev s_partings_to : Stmt := top 22
abbrev s_partings_of : Stmt := top 23
abbrev s_kept_of : Stmt := top 24
abbrev s_by_parts : Stmt := top 25
abbrev s_sign_of : Stmt := top 28
abbrev s_is_choice : Stmt := top 29
abbrev s_is_pair : Stmt := top 30
abbrev s_partner_of : Stmt := top 31
abbrev s_choices_among : Stmt := top 13
abbrev s_pairs_of : Stmt := top 32
abbrev s_sum_of : Stmt := top 7
abbrev s_choices_of : Stmt := top 14
abbrev s_unlike_parts : Stmt := top 10
abbrev s_joined : Stmt := top 11
abbrev s_joined_of : Stmt := top 15
abbrev s_next_way : Stmt := top 35
abbrev s_ways_to : Stmt := top 36
abbrev s_count_of : Stmt := top 37
abbrev s__law_start : Stmt := top 39
abbrev s__law_mix : Stmt := top 41
abbrev s__law_draw : Stmt := top 40
abbrev s__law_heap : Stmt := top 42
abbrev s__law_some_rule : Stmt := top 45
abbrev s__law_lies : Stmt := top 43
abbrev s__law_whole : Stmt := top 46
abbrev s__law_row : Stmt := top 47
abbrev s__law_well : Stmt := top 48
abbrev s_law : Stmt := top 49
set_option genInjectivity false in
structure Adr where
  a_often : Addr
  fd_often : FuncData
  a_lies_in : Addr
  fd_lies_in : FuncData
  a_all_in : Addr
  fd_all_in : FuncData
  a_first_in : Addr
  fd_first_in : FuncData
  a_keeps : Addr
  fd_keeps : FuncData
  a_refuse_beyond : Addr
  fd_refuse_beyond : FuncData
  a_partings_to : Addr
  fd_partings_to : FuncData
  a_partings_of : Addr
  fd_partings_of : FuncData
  a_kept_of : Addr
  fd_kept_of : FuncData
  a_by_parts : Addr
  fd_by_parts : FuncData
  a_sign_of : Addr
  fd_sign_of : FuncData
  a_is_choice : Addr
  fd_is_choice : FuncData
  a_is_pair : Addr
  fd_is_pair : FuncData
  a_partner_of : Addr
  fd_partner_of : FuncData
  a_choices_among : Addr
  fd_choices_among : FuncData
  a_pairs_of : Addr
  fd_pairs_of : FuncData
  a_sum_of : Addr
  fd_sum_of : FuncData
  a_choices_of : Addr
  fd_choices_of : FuncData
  a_unlike_parts : Addr
  fd_unlike_parts : FuncData
  a_joined : Addr
  fd_joined : FuncData
  a_joined_of : Addr
  fd_joined_of : FuncData
  a_next_way : Addr
  fd_next_way : FuncData
  a_ways_to : Addr
  fd_ways_to : FuncData
  a_count_of : Addr
  fd_count_of : FuncData
  a__law_start : Addr
  fd__law_start : FuncData
  a__law_mix : Addr
  fd__law_mix : FuncData
  a__law_draw : Addr
  fd__law_draw : FuncData
  a__law_heap : Addr
  fd__law_heap : FuncData
  a__law_some_rule : Addr
  fd__law_some_rule : FuncData
  a__law_lies : Addr
  fd__law_lies : FuncData
  a__law_whole : Addr
  fd__law_whole : FuncData
  a__law_row : Addr
  fd__law_row : FuncData
  a__law_well : Addr
  fd__law_well : FuncData
  a_law : Addr
  fd_law : FuncData
  c_NoSum : Addr
  c_NoPair : Addr
set_option genInjectivity false in
structure Txt (K : PySem.W.Frag) (mg : Str → Option Value) (A : Adr) : Prop where
  F_often : Fun K "often" "often" s_often A.a_often A.fd_often
  b_often : Binds K A.fd_often ["heap", "part"] []
  g_often : mg "often" = some (.ref A.a_often)
  F_lies_in : Fun K "lies_in" "lies_in" s_lies_in A.a_lies_in A.fd_lies_in
  b_lies_in : Binds K A.fd_lies_in ["one", "other"] []
  g_lies_in : mg "lies_in" = some (.ref A.a_lies_in)
  F_all_in : Fun K "all_in" "all_in" s_all_in A.a_all_in A.fd_all_in
  b_all_in : Binds K A.fd_all_in ["rule", "heap"] []
  g_all_in : mg "all_in" = some (.ref A.a_all_in)
  F_first_in : Fun K "first_in" "first_in" s_first_in A.a_first_in A.fd_first_in
  b_first_in : Binds K A.fd_first_in ["rule", "heap"] []
  g_first_in : mg "first_in" = some (.ref A.a_first_in)
  F_keeps : Fun K "keeps" "keeps" s_keeps A.a_keeps A.fd_keeps
  b_keeps : Binds K A.fd_keeps ["rule", "heap"] []
  g_keeps : mg "keeps" = some (.ref A.a_keeps)
  F_refuse_beyond : Fun K "refuse_beyond" "refuse_beyond" s_refuse_beyond A.a_refuse_beyond A.fd_refuse_beyond
  b_refuse_beyond : Binds K A.fd_refuse_beyond ["n", "most"] []
  g_refuse_beyond : mg "refuse_beyond" = some (.ref A.a_refuse_beyond)
  F_partings_to : Fun K "partings_to" "partings_to" s_partings_to A.a_partings_to A.fd_partings_to
  b_partings_to : Binds K A.fd_partings_to ["n", "greatest"] []
  g_partings_to : mg "partings_to" = some (.ref A.a_partings_to)
  F_partings_of : Fun K "partings_of" "partings_of" s_partings_of A.a_partings_of A.fd_partings_of
  b_partings_of : Binds K A.fd_partings_of ["n"] []
  g_partings_of : mg "partings_of" = some (.ref A.a_partings_of)
  F_kept_of : Fun K "kept_of" "kept_of" s_kept_of A.a_kept_of A.fd_kept_of
  b_kept_of : Binds K A.fd_kept_of ["rule", "n"] []
  g_kept_of : mg "kept_of" = some (.ref A.a_kept_of)
  F_by_parts : Fun K "by_parts" "by_parts" s_by_parts A.a_by_parts A.fd_by_parts
  b_by_parts : Binds K A.fd_by_parts ["rule", "n"] []
  g_by_parts : mg "by_parts" = some (.ref A.a_by_parts)
  F_sign_of : Fun K "sign_of" "sign_of" s_sign_of A.a_sign_of A.fd_sign_of
  b_sign_of : Binds K A.fd_sign_of ["pair"] []
  g_sign_of : mg "sign_of" = some (.ref A.a_sign_of)
  F_is_choice : Fun K "is_choice" "is_choice" s_is_choice A.a_is_choice A.fd_is_choice
  b_is_choice : Binds K A.fd_is_choice ["rule", "choice"] []
  g_is_choice : mg "is_choice" = some (.ref A.a_is_choice)
  F_is_pair : Fun K "is_pair" "is_pair" s_is_pair A.a_is_pair A.fd_is_pair
  b_is_pair : Binds K A.fd_is_pair ["rule", "pair"] []
  g_is_pair : mg "is_pair" = some (.ref A.a_is_pair)
  F_partner_of : Fun K "partner_of" "partner_of" s_partner_of A.a_partner_of A.fd_partner_of
  b_partner_of : Binds K A.fd_partner_of ["rule", "pair"] []
  g_partner_of : mg "partner_of" = some (.ref A.a_partner_of)
  F_choices_among : Fun K "choices_among" "choices_among" s_choices_among A.a_choices_among A.fd_choices_among
  b_choices_among : Binds K A.fd_choices_among ["numbers"] []
  g_choices_among : mg "choices_among" = some (.ref A.a_choices_among)
  F_pairs_of : Fun K "pairs_of" "pairs_of" s_pairs_of A.a_pairs_of A.fd_pairs_of
  b_pairs_of : Binds K A.fd_pairs_of ["rule", "n"] []
  g_pairs_of : mg "pairs_of" = some (.ref A.a_pairs_of)
  F_sum_of : Fun K "sum_of" "sum_of" s_sum_of A.a_sum_of A.fd_sum_of
  b_sum_of : Binds K A.fd_sum_of ["heap"] []
  g_sum_of : mg "sum_of" = some (.ref A.a_sum_of)
  F_choices_of : Fun K "choices_of" "choices_of" s_choices_of A.a_choices_of A.fd_choices_of
  b_choices_of : Binds K A.fd_choices_of ["rule"] []
  g_choices_of : mg "choices_of" = some (.ref A.a_choices_of)
  F_unlike_parts : Fun K "unlike_parts" "unlike_parts" s_unlike_parts A.a_unlike_parts A.fd_unlike_parts
  b_unlike_parts : Binds K A.fd_unlike_parts ["heaps"] []
  g_unlike_parts : mg "unlike_parts" = some (.ref A.a_unlike_parts)
  F_joined : Fun K "joined" "joined" s_joined A.a_joined A.fd_joined
  b_joined : Binds K A.fd_joined ["heaps"] []
  g_joined : mg "joined" = some (.ref A.a_joined)
  F_joined_of : Fun K "joined_of" "joined_of" s_joined_of A.a_joined_of A.fd_joined_of
  b_joined_of : Binds K A.fd_joined_of ["rule", "choice"] []
  g_joined_of : mg "joined_of" = some (.ref A.a_joined_of)
  F_next_way : Fun K "next_way" "next_way" s_next_way A.a_next_way A.fd_next_way
  b_next_way : Binds K A.fd_next_way ["ways"] []
  g_next_way : mg "next_way" = some (.ref A.a_next_way)
  F_ways_to : Fun K "ways_to" "ways_to" s_ways_to A.a_ways_to A.fd_ways_to
  b_ways_to : Binds K A.fd_ways_to ["n"] []
  g_ways_to : mg "ways_to" = some (.ref A.a_ways_to)
  F_count_of : Fun K "count_of" "count_of" s_count_of A.a_count_of A.fd_count_of
  b_count_of : Binds K A.fd_count_of ["rule", "n"] []
  g_count_of : mg "count_of" = some (.ref A.a_count_of)
  F__law_start : Fun K "_law_start" "_law_start" s__law_start A.a__law_start A.fd__law_start
  b__law_start : Binds K A.fd__law_start ["_law_script"] []
  g__law_start : mg "_law_start" = some (.ref A.a__law_start)
  F__law_mix : Fun K "_law_mix" "_law_mix" s__law_mix A.a__law_mix A.fd__law_mix
  b__law_mix : Binds K A.fd__law_mix ["_law_state"] []
  g__law_mix : mg "_law_mix" = some (.ref A.a__law_mix)
  F__law_draw : Fun K "_law_draw" "_law_draw" s__law_draw A.a__law_draw A.fd__law_draw
  b__law_draw : Binds K A.fd__law_draw ["_law_state", "_law_many"] []
  g__law_draw : mg "_law_draw" = some (.ref A.a__law_draw)
  F__law_heap : Fun K "_law_heap" "_law_heap" s__law_heap A.a__law_heap A.fd__law_heap
  b__law_heap : Binds K A.fd__law_heap ["_law_state", "_law_size", "_law_top"] []
  g__law_heap : mg "_law_heap" = some (.ref A.a__law_heap)
  F__law_some_rule : Fun K "_law_some_rule" "_law_some_rule" s__law_some_rule A.a__law_some_rule A.fd__law_some_rule
  b__law_some_rule : Binds K A.fd__law_some_rule ["_law_state"] []
  g__law_some_rule : mg "_law_some_rule" = some (.ref A.a__law_some_rule)
  F__law_lies : Fun K "_law_lies" "_law_lies" s__law_lies A.a__law_lies A.fd__law_lies
  b__law_lies : Binds K A.fd__law_lies ["_law_one", "_law_other"] []
  g__law_lies : mg "_law_lies" = some (.ref A.a__law_lies)
  F__law_whole : Fun K "_law_whole" "_law_whole" s__law_whole A.a__law_whole A.fd__law_whole
  b__law_whole : Binds K A.fd__law_whole ["_law_found"] []
  g__law_whole : mg "_law_whole" = some (.ref A.a__law_whole)
  F__law_row : Fun K "_law_row" "_law_row" s__law_row A.a__law_row A.fd__law_row
  b__law_row : Binds K A.fd__law_row ["_law_found"] []
  g__law_row : mg "_law_row" = some (.ref A.a__law_row)
  F__law_well : Fun K "_law_well" "_law_well" s__law_well A.a__law_well A.fd__law_well
  b__law_well : Binds K A.fd__law_well ["_law_rule", "_law_n", "_law_pair"] []
  g__law_well : mg "_law_well" = some (.ref A.a__law_well)
  F_law : Fun K "law" "law" s_law A.a_law A.fd_law
  b_law : Binds K A.fd_law ["_law_script"] []
  g_law : mg "law" = some (.ref A.a_law)
  b_all : mg "all" = none
  b_bool : mg "bool" = none
  b_enumerate : mg "enumerate" = none
  b_int : mg "int" = none
  b_isinstance : mg "isinstance" = none
  b_len : mg "len" = none
  b_list : mg "list" = none
  b_max : mg "max" = none
  b_min : mg "min" = none
  b_range : mg "range" = none
  b_set : mg "set" = none
  b_sorted : mg "sorted" = none
  b_sum : mg "sum" = none
  b_tuple : mg "tuple" = none
  v_MOST_LISTED : ∃ t, mg "MOST_LISTED" = some (.int 24 t)
  v_MOST_PAIRED : ∃ t, mg "MOST_PAIRED" = some (.int 16 t)
  v_MOST_COUNTED : ∃ t, mg "MOST_COUNTED" = some (.int 400 t)
  kin : ∃ h, K.In h
  g_NoSum : mg "NoSum" = some (.ref A.c_NoSum)
  g_NoPair : mg "NoPair" = some (.ref A.c_NoPair)
  x_NoPair : ExcC K A.c_NoPair
  x_NoSum : ExcC K A.c_NoSum
  e_NoSum : ClsE K A.c_NoSum
  e_NoPair : ClsE K A.c_NoPair
section
variable {P : Program} {w : World} {K : PySem.W.Frag} {mg : Str → Option Value} {base : Heap} {A : Adr}
def n_often : List Str := ["heap", "part"]
theorem sc_often : FnScope n_often ["heap", "part"] (defScope s_often) := ⟨rfl, rfl, rfl, by decide +kernel, rfl, by decide +kernel, by decide +kernel⟩
def sp_often (K : PySem.W.Frag) : Sp := fun vs H Q _ => ∃ (a : Addr) (ns : List Int) (y : Int), vs = [.ref a, .int y] ∧ H a = some (.tup (ns.map V.int)) ∧ Q (.int (ns.count y : Nat)) H
theorem ok_often (T : Txt K mg A) : FnOk P w K mg base CX0 1 A.a_often A.fd_often ["heap", "part"] (sp_often K) := by
  refine T.F_often.ok sc_often (fun vs H Q E h => ?_) (fun cdv Ar outer s H vs Q E hr h => ?_)
  · obtain ⟨a, ns, y, rfl, hS, k⟩ := h
    rfl
  · obtain ⟨a, ns, y, rfl, hS, k⟩ := h
    refine ⟨_, (pss_one (ps_ret (pe_bm PySem.F.plainAttrs_tuple PySem.F.slot_tuple_count PySem.F.type_tuple_count mt_countT (pv 0) (pa_cons (pv 1) pa_nil)))), ?_⟩
    exact ⟨_, rfl, .inr (.inl ⟨rfl, .inr ⟨_, hS⟩⟩), _, rfl, a, _, _, rfl, rfl, SqT.of hS, rfl, flat_ints _, by rw [cntV_ints]; exact k⟩
def n_lies_in : List Str := ["one", "other", "part"]
theorem sc_lies_in : FnScope n_lies_in ["one", "other"] (defScope s_lies_in) := ⟨rfl, rfl, rfl, by decide +kernel, rfl, by decide +kernel, by decide +kernel⟩
def sp_lies_in : Sp := fun vs H Q _ => ∃ (a b : Addr) (ns ms : List Int), vs = [.ref a, .ref b] ∧ H a = some (.tup (ns.map V.int)) ∧ H b = some (.tup (ms.map V.int)) ∧ Q (.bl (lies ns ms)) H
theorem ok_lies_in (T : Txt K mg A) : FnOk P w K mg base CX0 2 A.a_lies_in A.fd_lies_in ["one", "other"] sp_lies_in := by
  refine T.F_lies_in.ok sc_lies_in (fun vs H Q E h => ?_) (fun cdv Ar outer s H vs Q E hr h => ?_)
  · obtain ⟨a, b, ns, ms, rfl, ha, hb, k⟩ := h
    rfl
  · obtain ⟨a, b, ns, ms, rfl, ha, hb, k⟩ := h
    refine ⟨_, (pss_cons (ps_for PassesOwn.never rfl (pi_tup (pv 0)) (pg_name (i := 2) sc_lies_in.nd rfl (by first | exact Or.inl rfl | exact Or.inr rfl))
          (pss_one (ps_if (pt_cmpR op_lt (pe_call (ok_often T) (hr.mono (by decide)) rfl T.g_often T.F_often.kp T.b_often .nil pass0 (pa_cons (pv 1) (pa_cons (pv 2) pa_nil))) (pe_call (ok_often T) (hr.mono (by decide)) rfl T.g_often T.F_often.kp T.b_often .nil pass0 (pa_cons (pv 0) (pa_cons (pv 2) pa_nil))) (nomark _))
          (pss_one (ps_ret pe_bl)) pss_nil)))
        (pss_one (ps_ret pe_bl))), ?_⟩
    refine ⟨_, rfl, a, rfl, ⟨_, SqT.of ha⟩, for_tup (xs := ns.map V.int) (fun i σ' H' => H' = H ∧ (∃ v, σ' = [some (.ref a), some (.ref b), v]) ∧ (ns.take i).all (fun x => decide (ns.count x ≤ ms.count x)) = true) ⟨rfl, ⟨_, rfl⟩, rfl⟩ ?_ ?_ ?_⟩
    · rintro i σ' H' _ ⟨rfl, _⟩
      exact SqT.of ha
    · rintro i x σ' H' hx ⟨rfl, ⟨v, rfl⟩, hall⟩
      obtain ⟨z, hz, rfl⟩ := map_at hx
      refine ⟨_, rfl, _, rfl, b, ms, z, rfl, hb, ?_⟩
      refine ⟨_, rfl, _, rfl, a, ns, z, rfl, ha, ?_⟩
      refine ⟨_, _, rfl, rfl, _, rfl, ?_⟩
      refine ite2 (fun hlt => ?_) (fun hlt => ⟨rfl, ⟨_, rfl⟩, ?_⟩)
      · have h1 : lies ns ms = false := all_false (List.mem_of_getElem? hz) (by
          have := of_decide_eq_true hlt
          exact decide_eq_false (by omega))
        rw [h1] at k
        exact k
      · rw [all_take hz, hall, Bool.true_and]
        refine decide_eq_true ?_
        have : ¬ ((ms.count z : Nat) : Int) < ((ns.count z : Nat) : Int) := fun q => hlt (decide_eq_true q)
        omega
    · rintro σ' H' ⟨rfl, _, hall⟩
      rw [List.length_map, List.take_length] at hall
      have h1 : lies ns ms = true := hall
      rw [h1] at k
      exact k
def n_all_in : List Str := ["rule", "heap"]
theorem sc_all_in : FnScope n_all_in ["rule", "heap"] (defScope s_all_in) := ⟨rfl, rfl, rfl, by decide +kernel, rfl, by decide +kernel, by decide +kernel⟩
def sp_all_in : Sp := fun vs H Q _ => ∃ (p q : Addr) (rs : List V) (rule : List (List Int)) (hs : List Int), vs = [.ref p, .ref q] ∧ H p = some (.tup rs) ∧ All2 Tup1 H rule rs ∧ H q = some (.tup (hs.map V.int)) ∧ rule.length ≤ 60 ∧
  ∀ (l : Addr) (H' : Hp), H' l = some (.lst ((idxG rule hs).map V.int)) → Same H H' → H l = none → Q (.ref l) H'
theorem ok_all_in (T : Txt K mg A) : FnOk P w K mg base CX0 3 A.a_all_in A.fd_all_in ["rule", "heap"] sp_all_in := by
  refine T.F_all_in.ok sc_all_in (fun vs H Q E h => ?_) (fun cdv Ar outer s H vs Q E hr h => ?_)
  · obtain ⟨p, q, rs, rule, hs, rfl, hp, h2, hq, hln, k⟩ := h
    rfl
  · obtain ⟨p, q, rs, rule, hs, rfl, hp, h2, hq, hln, k⟩ := h
    refine ⟨_, (pss_one (ps_ret (pe_comp (ls := ["number", "shut"]) (fr := [("heap", 1)]) (cs_of (defScope s_all_in) n_all_in rfl rfl (by decide +kernel)) rfl (pi_enum true rfl T.b_enumerate (pa_cons (pv 0) pa_nil)) (fun _ _ _ _ => pg_tupC 2 rfl (pgs_cons (pgc (ls := ["number", "shut"]) (fr := [("heap", 1)]) 0 (by decide +kernel) rfl rfl) (pgs_cons (pgc (ls := ["number", "shut"]) (fr := [("heap", 1)]) 1 (by decide +kernel) rfl rfl) pgs_nil)) rfl rfl) (fun _ _ _ _ => pf_one (pt_truthK K rfl (pe_call (ok_lies_in T) (hr.mono (by decide)) (glc (defScope s_all_in)) T.g_lies_in T.F_lies_in.kp T.b_lies_in .nil pass0 (pa_cons (pvc (defScope s_all_in) 1) (pa_cons (pvc (defScope s_all_in) 2) pa_nil))) (fun _ => rfl))) (fun _ _ _ _ => (pvc (defScope s_all_in) 0))))), ?_⟩
    refine ⟨_, rfl, p, rfl, ⟨_, SqT.of hp⟩, comp_enum (k := true) (xs := rs) (fun i zs σ' H' => Same H H' ∧ (∃ v w, σ' = [v, w, some (.ref q)]) ∧ zs = (idxP rule hs i).map V.int) ⟨fun _ _ h => h, ⟨_, _, rfl⟩, rfl⟩ ?_ ?_ ?_⟩
    · rintro i zs σ' H' hi ⟨s, _, rfl⟩
      refine ⟨SqT.of (s _ _ hp), ?_⟩
      rw [List.length_map]
      have h1 := idxP_len rule hs i
      have h2 := h2.length
      exact small64 (by omega)
    · rintro i x zs σ' H' T' hx ⟨s, ⟨v, w', rfl⟩, rfl⟩ hT
      obtain ⟨hs1, hh1, q1, rfl, hq1⟩ := h2.get hx
      have hi := (List.getElem?_eq_some_iff.mp hh1).1
      have e1 : rule.getD i [] = hs1 := by simp [hh1]
      refine ⟨T', _, rfl, SqT.of upd_same, rfl, _, _, rfl, _, _, rfl, rfl, ?_⟩
      have sn := s.trans (Same.new (o := .tup [.int i, .ref q1]) hT)
      refine ⟨_, rfl, _, rfl, q1, q, hs1, hs, rfl, sn _ _ hq1, sn _ _ hq, ?_⟩
      refine ⟨_, rfl, ?_⟩
      refine ite2 (fun hc => ⟨_, rfl, sn, ⟨_, _, rfl⟩, ?_⟩) (fun hc => ⟨sn, ⟨_, _, rfl⟩, ?_⟩)
      · rw [idxP_succ, e1, if_pos hc, List.map_append]
        rfl
      · rw [idxP_succ, e1, if_neg hc, List.append_nil]
    · rintro zs σ' H' ⟨s, _, rfl⟩ l hl
      rw [← h2.length]
      exact k l _ upd_same (s.trans (Same.new hl)) (s.free hl)
def n_first_in : List Str := ["rule", "heap"]
theorem sc_first_in : FnScope n_first_in ["rule", "heap"] (defScope s_first_in) := ⟨rfl, rfl, rfl, by decide +kernel, rfl, by decide +kernel, by decide +kernel⟩
def sp_first_in : Sp := fun vs H Q _ => ∃ (p q : Addr) (rs : List V) (rule : List (List Int)) (hs : List Int), vs = [.ref p, .ref q] ∧ H p = some (.tup rs) ∧ All2 Tup1 H rule rs ∧ H q = some (.tup (hs.map V.int)) ∧ rule.length ≤ 60 ∧
  ∀ (H' : Hp), Same H H' → Q (optV (firstG rule hs)) H'
theorem ok_first_in (T : Txt K mg A) : FnOk P w K mg base CX0 4 A.a_first_in A.fd_first_in ["rule", "heap"] sp_first_in := by
  refine T.F_first_in.ok sc_first_in (fun vs H Q E h => ?_) (fun cdv Ar outer s H vs Q E hr h => ?_)
  · obtain ⟨p, q, rs, rule, hs, rfl, hp, h2, hq, hln, k⟩ := h
    rfl
  · obtain ⟨p, q, rs, rule, hs, rfl, hp, h2, hq, hln, k⟩ := h
    refine ⟨_, (pss_one (ps_ret (pe_minD false rfl rfl T.b_min (pe_call (ok_all_in T) (hr.mono (by decide)) rfl T.g_all_in T.F_all_in.kp T.b_all_in .nil pass0 (pa_cons (pv 0) (pa_cons (pv 1) pa_nil))) pe_non))), ?_⟩
    refine ⟨_, rfl, _, rfl, p, q, rs, rule, hs, rfl, hp, h2, hq, hln, fun l H' hl s nl => ?_⟩
    refine ⟨l, idxG rule hs, rfl, SqL.of hl, fun v hv => ?_⟩
    rcases hv with ⟨e, rfl⟩ | ⟨m, rfl, hm⟩
    · have := k H' s
      rw [first_none e] at this
      exact this
    · have e : firstG rule hs = some m := idxP_head rule hs rule.length m hm
      have := k H' s
      rw [e] at this
      exact this
def n_keeps : List Str := ["rule", "heap"]
theorem sc_keeps : FnScope n_keeps ["rule", "heap"] (defScope s_keeps) := ⟨rfl, rfl, rfl, by decide +kernel, rfl, by decide +kernel, by decide +kernel⟩
def sp_keeps : Sp := fun vs H Q _ => ∃ (p q : Addr) (rs : List V) (rule : List (List Int)) (hs : List Int), vs = [.ref p, .ref q] ∧ H p = some (.tup rs) ∧ All2 Tup1 H rule rs ∧ H q = some (.tup (hs.map V.int)) ∧ rule.length ≤ 60 ∧
  ∀ (H' : Hp), Same H H' → Q (.bl (firstG rule hs).isNone) H'
theorem ok_keeps (T : Txt K mg A) : FnOk P w K mg base CX0 5 A.a_keeps A.fd_keeps ["rule", "heap"] sp_keeps := by
  refine T.F_keeps.ok sc_keeps (fun vs H Q E h => ?_) (fun cdv Ar outer s H vs Q E hr h => ?_)
  · obtain ⟨p, q, rs, rule, hs, rfl, hp, h2, hq, hln, k⟩ := h
    rfl
  · obtain ⟨p, q, rs, rule, hs, rfl, hp, h2, hq, hln, k⟩ := h
    refine ⟨_, (pss_one (ps_ret (pe_cmpR op_isN (pe_call (ok_first_in T) (hr.mono (by decide)) rfl T.g_first_in T.F_first_in.kp T.b_first_in .nil pass0 (pa_cons (pv 0) (pa_cons (pv 1) pa_nil))) pe_non (nomark _)))), ?_⟩
    refine ⟨_, rfl, _, rfl, p, q, rs, rule, hs, rfl, hp, h2, hq, hln, fun H' s => ⟨rfl, ?_⟩⟩
    rw [optV_none]
    exact k H' s
def n_refuse_beyond : List Str := ["n", "most"]
theorem sc_refuse_beyond : FnScope n_refuse_beyond ["n", "most"] (defScope s_refuse_beyond) := ⟨rfl, rfl, rfl, by decide +kernel, rfl, by decide +kernel, by decide +kernel⟩
def sp_refuse (A : Adr) : Sp := fun vs H Q E => ∃ (n m : Int), vs = [.int n, .int m] ∧ (0 ≤ m ∧ m ≤ 400) ∧ ((0 ≤ n ∧ n ≤ m ∧ Q .non H) ∨ ((n < 0 ∨ m < n) ∧ E (.ref A.c_NoSum) none H))
theorem num_len : ∀ k : Nat, k ≤ 400 → (PySem.Str.ofString "the number is not one from 0 to " ++ (toString ((k : Nat) : Int) : Str)).length ≤ 100 := by decide +kernel
theorem num_log : ∀ k : Nat, k ≤ 400 → k.log2 < 1920 := by decide +kernel
theorem ok_refuse_beyond (T : Txt K mg A) : FnOk P w K mg base (CX1 P w) 1 A.a_refuse_beyond A.fd_refuse_beyond ["n", "most"] (sp_refuse A) := by
  refine T.F_refuse_beyond.okE sc_refuse_beyond (fun vs H Q E h => ?_) (fun cdv Ar outer s H vs Q E hr h => ?_)
  · obtain ⟨n, m, rfl, hm, h⟩ := h
    rfl
  · obtain ⟨n, m, rfl, hm, h⟩ := h
    refine ⟨_, (pss_one (ps_if (PW.pt (pw_or (pt_cmpR op_lt (pv 0) pe_int (nomark _)) (pw_or1 (pt_cmpR op_gt (pv 0) (pv 1) (nomark _)))))
          (pss_one (ps_raise rfl T.x_NoSum rfl T.g_NoSum (pa_cons (pe_fstr (by decide +kernel) (pv 1)) pa_nil))) pss_nil)), ?_⟩
    have raise : (n < 0 ∨ m < n) → E (.ref A.c_NoSum) none H := fun hb => by
      rcases h with ⟨h1, h2, _⟩ | ⟨_, hE⟩
      · omega
      · exact hE
    obtain ⟨j, rfl⟩ : ∃ j : Nat, m = (j : Int) := ⟨m.toNat, by omega⟩
    have fin : (n < 0 ∨ (j : Int) < n) → ∃ i, V.int (j : Int) = V.int i ∧ i.natAbs.log2 < 1920 ∧ (PySem.Str.ofString "the number is not one from 0 to " ++ (toString i : Str)).length ≤ sizeLine ∧ [V.str (PySem.Str.ofString "the number is not one from 0 to " ++ (toString i : Str))].length ≤ sizeLine ∧ E (.ref A.c_NoSum) none H := fun hb =>
      ⟨(j : Int), rfl, by rw [Int.natAbs_natCast]; exact num_log j (by omega), Nat.le_trans (num_len j (by omega)) (by decide), by show 1 ≤ sizeLine; decide, raise hb⟩
    refine ⟨_, rfl, _, _, rfl, rfl, _, rfl, ?_⟩
    refine ite2 (fun hc => ?_) (fun hc => ?_)
    · exact iteT ⟨_, rfl, fin (.inl (of_decide_eq_true hc))⟩
    · refine ⟨_, rfl, _, rfl, _, _, rfl, rfl, _, rfl, ?_⟩
      refine ite2 (fun hc2 => ⟨_, rfl, fin (.inr (of_decide_eq_true hc2))⟩) (fun hc2 => ?_)
      rcases h with ⟨_, _, q⟩ | ⟨hb, _⟩
      · exact q
      · have c1 : ¬ n < 0 := fun z => hc (decide_eq_true z)
        have c2 : ¬ (j : Int) < n := fun z => hc2 (decide_eq_true z)
        omega
def n_partings_to : List Str := ["n", "greatest", "partings", "part"]
theorem sc_partings_to : FnScope n_partings_to ["n", "greatest"] (defScope s_partings_to) := ⟨rfl, rfl, rfl, by decide +kernel, rfl, by decide +kernel, by decide +kernel⟩
def sp_parts (n : Nat) : Sp := fun vs H Q _ => ∃ (m g : Nat), m < n ∧ vs = [.int m, .int g] ∧ m ≤ 24 ∧ g ≤ 1000 ∧
  ∀ (l : Addr) (xs : List V) (H' : Hp), H' l = some (.lst xs) → All2 Tup1 H' (partF n m g) xs → Same H H' → H l = none → Q (.ref l) H'
theorem okr_partings_to (T : Txt K mg A) : ∀ n : Nat, FnOk P w K mg base CX0 n A.a_partings_to A.fd_partings_to ["n", "greatest"] (sp_parts n)
  | 0 => FnOk.none (fun _ _ _ _ ⟨_, _, h, _⟩ => absurd h (Nat.not_lt_zero _))
  | n + 1 => by
    have ih := okr_partings_to T n
    refine T.F_partings_to.ok sc_partings_to (fun vs H Q E h => ?_) (fun cdv Ar outer s H vs Q E hr h => ?_)
    · obtain ⟨m, g, hm, rfl, hm24, hg, k⟩ := h
      rfl
    · obtain ⟨m, g, hm, rfl, hm24, hg, k⟩ := h
      refine ⟨_, (pss_cons (ps_if (pt_cmpR op_eq (pv 0) pe_int (nomark _))
            (pss_one (ps_ret (pe_lst (pa_cons (pe_tup pa_nil) pa_nil)))) pss_nil)
          (pss_cons (ps_set (i := 2) sc_partings_to.nd rfl (by first | exact Or.inl rfl | exact Or.inr rfl) (pe_lst pa_nil))
          (pss_cons (ps_for PassesOwn.never rfl (pi_down rfl T.b_range (pa_cons (pe_callB (call_min2 rfl) rfl T.b_min boot_min (pa_cons (pv 0) (pa_cons (pv 1) pa_nil))) (pa_cons pe_int (pa_cons (pe_un un_neg pe_int) pa_nil)))) (pg_name (i := 3) sc_partings_to.nd rfl (by first | exact Or.inl rfl | exact Or.inr rfl))
            (pss_one (ps_expr (pe_bm PySem.F.plainAttrs_list PySem.F.slot_list_extend PySem.F.type_list_extend mt_extend (pv 2) (pa_cons (pe_comp (ls := ["rest"]) (fr := [("part", 3)]) (cs_of (defScope s_partings_to) n_partings_to rfl rfl (by decide +kernel)) rfl (pi_list (pe_call ih hr rfl T.g_partings_to T.F_partings_to.kp T.b_partings_to .nil pass0 (pa_cons (pe_op op_sub (pv 0) (pv 3 (hv := Or.inr (Or.inl rfl)))) (pa_cons (pv 3 (hv := Or.inr (Or.inl rfl))) pa_nil)))) (fun _ _ _ _ => pgc 0 (by decide +kernel) rfl rfl) (fun _ _ _ _ => pf_nil) (fun _ _ _ _ => (pe_op (op_catAK K rfl) (pe_tup (pa_cons (pvc (defScope s_partings_to) 1) pa_nil)) (pvc (defScope s_partings_to) 0)))) pa_nil)))))
          (pss_one (ps_ret (pv 2)))))), ?_⟩
      dsimp only [tNext]
      refine seqJoin (fun σ' H' => m ≠ 0 ∧ H' = H ∧ σ' = [some (.int m), some (.int g), none, none]) (fun nx hnx => ?_) ?_
      · refine ⟨_, rfl, rfl, _, rfl, ?_⟩
        refine ite2 (fun h0 => ?_) (fun h0 => hnx _ _ ⟨fun z => h0 (by rw [z]; rfl), rfl, rfl⟩)
        have e0 : m = 0 := by
          have := of_decide_eq_true h0
          injection this with this
          omega
        refine ⟨by show 0 ≤ sizeLine; decide, fun e he => ⟨by show 1 ≤ sizeLine; decide, fun l hl => ?_⟩⟩
        refine k l [.ref e] _ upd_same ?_ ((Same.new he).trans (Same.new hl)) ((Same.new he).free hl)
        rw [partF_succ, if_pos e0]
        exact .cons ⟨e, rfl, Same.new hl _ _ upd_same⟩ .nil
      rintro σ1 H1 ⟨m0, rfl, rfl⟩
      refine ⟨by show 0 ≤ sizeLine; decide, fun l hl => ?_⟩
      have hmin : (if (g : Int) < (m : Int) then (g : Int) else (m : Int)) = ((min m g : Nat) : Int) := by split <;> omega
      refine ⟨_, rfl, _, rfl, _, _, rfl, _, rfl, min m g, ?_, by omega, for_down (n := min m g) (fun i σ' H' => Same H1 H' ∧ i ≤ min m g ∧ ∃ xs v, σ' = [some (.int m), some (.int g), some (.ref l), v] ∧ H' l = some (.lst xs) ∧ All2 Tup1 H' (partP n m (min m g) i) xs) ⟨Same.new hl, Nat.zero_le _, [], _, rfl, upd_same, .nil⟩ ?_ ?_⟩
      · show [V.int (if (g : Int) < (m : Int) then (g : Int) else (m : Int)), V.int 0, V.int (-1)] = _
        rw [hmin]
      · rintro i σ' H' hi ⟨s, _, xs, v, rfl, gl, h2⟩
        have ep : ((min m g : Nat) : Int) - (i : Int) = ((min m g - i : Nat) : Int) := by omega
        have em : (m : Int) - ((min m g - i : Nat) : Int) = ((m - (min m g - i) : Nat) : Int) := by omega
        have hlx : xs.length ≤ 2 ^ (m - min m g + i) := by
          rw [← h2.length]
          exact partP_len (partF_len n) (Nat.min_le_left _ _) i (by omega)
        rw [ep]
        refine ⟨_, rfl, .inl ⟨rfl, _, SqL.of gl⟩, _, rfl, _, rfl, _, _, rfl, rfl, _, rfl, m - (min m g - i), min m g - i, by omega, ?_, by omega, by omega, fun l2 xs2 H2 gl2 h3 s2 nl2 => ?_⟩
        · show [V.int ((m : Int) - ((min m g - i : Nat) : Int)), V.int ((min m g - i : Nat) : Int)] = _
          rw [em]
        have hlx2 : xs2.length ≤ 2 ^ (m - min m g + i) := by
          rw [← h3.length]
          have e1 : m - (min m g - i) = m - min m g + i := by omega
          exact Nat.le_trans (partF_len n (m - (min m g - i)) (min m g - i)) (by rw [e1]; exact Nat.le_refl _)
        have hpw : 2 ^ (m - min m g + i) + 2 ^ (m - min m g + i) ≤ sizeLine := by
          have : 2 ^ (m - min m g + i) + 2 ^ (m - min m g + i) = 2 ^ (m - min m g + i + 1) := by rw [Nat.pow_succ]; omega
          rw [this]
          exact pow24 (by omega)
        refine ⟨l2, rfl, ⟨_, SqL.of gl2⟩, comp_list (xs := xs2) (fun j ys σ' H3 => Same H2 H3 ∧ (∃ v, σ' = [v, some (.int ((min m g - i : Nat) : Int))]) ∧ All2 Tup1 H3 (((partF n (m - (min m g - i)) (min m g - i)).take j).map (((min m g - i : Nat) : Int) :: ·)) ys) ⟨fun _ _ h => h, ⟨_, rfl⟩, .nil⟩ ?_ ?_ ?_⟩
        · rintro j ys σ' H3 hj ⟨s3, _, h4⟩
          refine ⟨SqL.of (s3 _ _ gl2), ?_⟩
          rw [← h4.length, List.length_map, List.length_take]
          omega
        · rintro j x ys σ' H3 hx ⟨s3, ⟨v, rfl⟩, h4⟩
          obtain ⟨hs, hhs, q, rfl, hq⟩ := h3.get hx
          have hj := (List.getElem?_eq_some_iff.mp hhs).1
          have eh := (List.getElem?_eq_some_iff.mp hhs).2
          refine ⟨_, rfl, by show 1 ≤ sizeLine; decide, fun t ht => ⟨_, rfl, ?_⟩⟩
          have hl1 : hs.length ≤ 100 := by
            have := partF_mem _ _ _ hs (List.mem_of_getElem? hhs)
            omega
          refine cat_front (Same.new ht _ _ (s3 _ _ hq)) upd_same hl1 fun v H4 hv s4 => ?_
          have sn := (Same.new (o := .tup [V.int ((min m g - i : Nat) : Int)]) ht).trans s4
          refine ⟨s3.trans sn, ⟨_, rfl⟩, ?_⟩
          rw [List.take_succ_eq_append_getElem hj, List.map_append, eh]
          exact (h4.mv sn.tups).snoc hv
        · rintro ys σ' H3 ⟨s3, _, h4⟩ l3 hl3
          have et : (partF n (m - (min m g - i)) (min m g - i)).take xs2.length = partF n (m - (min m g - i)) (min m g - i) := by rw [← h3.length, List.take_length]
          rw [et] at h4
          have hly : ys.length = xs2.length := by rw [← h4.length, List.length_map, h3.length]
          have sn := s2.trans (s3.trans (Same.new (o := .lst ys) hl3))
          refine ⟨l, l3, xs, ys, rfl, rfl, sn _ _ gl, upd_same, by omega, ?_⟩
          have tn : Tups H' (upd (upd H3 l3 (.lst ys)) l (.lst (xs ++ ys))) := sn.tups.trans (Tups.set (sn _ _ gl))
          have tn3 : Tups H3 (upd (upd H3 l3 (.lst ys)) l (.lst (xs ++ ys))) := (Same.new hl3).tups.trans (Tups.set (sn _ _ gl))
          refine ⟨fun b o e => ?_, by omega, xs ++ ys, _, rfl, upd_same, ?_⟩
          · rw [upd_ne (ne_of_none e hl)]
            exact sn _ _ (s _ _ e)
          · rw [partP_succ]
            exact (h2.mv tn).append (h4.mv tn3)
      · rintro σ' H' ⟨s, _, xs, v, rfl, gl, h2⟩
        refine ⟨_, rfl, k l xs H' gl ?_ s hl⟩
        rw [partF_succ, if_neg m0]
        exact h2
theorem ok_partings_to (T : Txt K mg A) : FnOk P w K mg base CX0 26 A.a_partings_to A.fd_partings_to ["n", "greatest"] (sp_parts 26) := okr_partings_to T 26
def n_partings_of : List Str := ["n"]
theorem sc_partings_of : FnScope n_partings_of ["n"] (defScope s_partings_of) := ⟨rfl, rfl, rfl, by decide +kernel, rfl, by decide +kernel, by decide +kernel⟩
def sp_partings_of (A : Adr) : Sp := fun vs H Q E => ∃ (n : Int), vs = [.int n] ∧ ((∃ m : Nat, n = m ∧ m ≤ 24 ∧ ∀ (l : Addr) (xs : List V) (H' : Hp), H' l = some (.lst xs) → All2 Tup1 H' (partF 26 m m) xs → Same H H' → H l = none → Q (.ref l) H') ∨ ((n < 0 ∨ 24 < n) ∧ E (.ref A.c_NoSum) none H))
theorem ok_partings_of (T : Txt K mg A) : FnOk P w K mg base (CX1 P w) 27 A.a_partings_of A.fd_partings_of ["n"] (sp_partings_of A) := by
  refine T.F_partings_of.okE sc_partings_of (fun vs H Q E h => ?_) (fun cdv Ar outer s H vs Q E hr h => ?_)
  · obtain ⟨n, rfl, h⟩ := h
    rfl
  · obtain ⟨n, rfl, h⟩ := h
    refine ⟨_, (pss_cons (ps_expr (pe_call (ok_refuse_beyond T) (hr.mono (by decide)) rfl T.g_refuse_beyond T.F_refuse_beyond.kp T.b_refuse_beyond .nil passE (pa_cons (pv 0) (pa_cons (pe_glob (v := .int 24) rfl T.v_MOST_LISTED.choose_spec ⟨_, rfl⟩) pa_nil))))
        (pss_one (ps_ret (pe_call (ok_partings_to T) (hr.mono (by decide)) rfl T.g_partings_to T.F_partings_to.kp T.b_partings_to .nil pass0 (pa_cons (pv 0) (pa_cons (pv 0) pa_nil)))))), ?_⟩
    rcases h with ⟨m, rfl, hm, k⟩ | ⟨hb, hE⟩
    · refine ⟨_, rfl, (m : Int), 24, rfl, ⟨by decide, by decide⟩, .inl ⟨by omega, by omega, ?_⟩⟩
      exact ⟨_, rfl, _, rfl, m, m, by omega, rfl, hm, by omega, k⟩
    · exact ⟨_, rfl, n, 24, rfl, ⟨by decide, by decide⟩, .inr ⟨hb, hE⟩⟩
def n_kept_of : List Str := ["rule", "n"]
theorem sc_kept_of : FnScope n_kept_of ["rule", "n"] (defScope s_kept_of) := ⟨rfl, rfl, rfl, by decide +kernel, rfl, by decide +kernel, by decide +kernel⟩
def sp_kept_of (A : Adr) : Sp := fun vs H Q E => ∃ (p : Addr) (rs : List V) (rule : List (List Int)) (n : Int), vs = [.ref p, .int n] ∧ H p = some (.tup rs) ∧ All2 Tup1 H rule rs ∧ rule.length ≤ 60 ∧
  ((∃ m : Nat, n = m ∧ m ≤ 24 ∧ ∀ (l : Addr) (xs : List V) (H' : Hp), H' l = some (.lst xs) → All2 Tup1 H' (keptG rule m) xs → Same H H' → H l = none → Q (.ref l) H') ∨ ((n < 0 ∨ 24 < n) ∧ E (.ref A.c_NoSum) none H))
theorem ok_kept_of (T : Txt K mg A) : FnOk P w K mg base (CX1 P w) 28 A.a_kept_of A.fd_kept_of ["rule", "n"] (sp_kept_of A) := by
  refine T.F_kept_of.okE sc_kept_of (fun vs H Q E h => ?_) (fun cdv Ar outer s H vs Q E hr h => ?_)
  · obtain ⟨p, rs, rule, n, rfl, hp, h2, hln, h⟩ := h
    rfl
  · obtain ⟨p, rs, rule, n, rfl, hp, h2, hln, h⟩ := h
    refine ⟨_, (pss_one (ps_ret (pe_comp (ls := ["heap"]) (fr := [("rule", 0)]) (cs_of (defScope s_kept_of) n_kept_of rfl rfl (by decide +kernel)) rfl (pi_list (pe_call (ok_partings_of T) (hr.mono (by decide)) rfl T.g_partings_of T.F_partings_of.kp T.b_partings_of .nil passE (pa_cons (pv 1) pa_nil))) (fun _ _ _ _ => pgc 0 (by decide +kernel) rfl rfl) (fun _ _ _ _ => pf_one (pt_truthK K rfl (pe_call (ok_keeps T) (hr.mono (by decide)) (glc (defScope s_kept_of)) T.g_keeps T.F_keeps.kp T.b_keeps .nil pass0 (pa_cons (pvc (defScope s_kept_of) 1) (pa_cons (pvc (defScope s_kept_of) 0) pa_nil))) (fun _ => rfl))) (fun _ _ _ _ => (pvc (defScope s_kept_of) 0))))), ?_⟩
    rcases h with ⟨m, rfl, hm, k⟩ | ⟨hb, hE⟩
    · refine ⟨_, rfl, (m : Int), rfl, .inl ⟨m, rfl, hm, fun l xs H1 gl h1 s1 nl => ?_⟩⟩
      have hlx : xs.length ≤ sizeLine := by rw [← h1.length]; exact Nat.le_trans (partF_len _ _ _) (pow24 hm)
      refine ⟨l, rfl, ⟨_, SqL.of gl⟩, comp_list (xs := xs) (fun i ys σ' H' => Same H1 H' ∧ (∃ v, σ' = [v, some (.ref p)]) ∧ ys.length ≤ i ∧ All2 Tup1 H' (((partF 26 m m).take i).filter fun h => (firstG rule h).isNone) ys) ⟨fun _ _ h => h, ⟨_, rfl⟩, Nat.le_refl _, .nil⟩ ?_ ?_ ?_⟩
      · rintro i ys σ' H' hi ⟨s, _, hy, _⟩
        exact ⟨SqL.of (s _ _ gl), by omega⟩
      · rintro i x ys σ' H' hx ⟨s, ⟨v, rfl⟩, hy, h3⟩
        obtain ⟨hs, hhs, q, rfl, hq⟩ := h1.get hx
        have sn := s1.trans s
        refine ⟨_, rfl, _, rfl, p, q, rs, rule, hs, rfl, sn _ _ hp, h2.mv sn.tups, s _ _ hq, hln, fun H2 s2 => ⟨_, rfl, ?_⟩⟩
        refine ite2 (fun hc => ⟨_, rfl, s.trans s2, ⟨_, rfl⟩, by simp; omega, ?_⟩) (fun hc => ⟨s.trans s2, ⟨_, rfl⟩, by omega, ?_⟩)
        · rw [filter_take _ hhs, if_pos hc]
          exact (h3.mv s2.tups).snoc ⟨q, rfl, s2 _ _ (s _ _ hq)⟩
        · rw [filter_take _ hhs, if_neg hc, List.append_nil]
          exact h3.mv s2.tups
      · rintro ys σ' H' ⟨s, _, hy, h3⟩ l2 hl2
        rw [← h1.length, List.take_length] at h3
        have sn := s1.trans (s.trans (Same.new (o := .lst ys) hl2))
        exact k l2 ys _ upd_same (h3.mv (Same.new hl2).tups) sn ((s1.trans s).free hl2)
    · exact ⟨_, rfl, n, rfl, .inr ⟨hb, hE⟩⟩
def n_by_parts : List Str := ["rule", "n", "lengths"]
theorem sc_by_parts : FnScope n_by_parts ["rule", "n"] (defScope s_by_parts) := ⟨rfl, rfl, rfl, by decide +kernel, rfl, by decide +kernel, by decide +kernel⟩
def sp_by_parts (A : Adr) : Sp := fun vs H Q E => ∃ (p : Addr) (rs : List V) (rule : List (List Int)) (n : Int), vs = [.ref p, .int n] ∧ H p = some (.tup rs) ∧ All2 Tup1 H rule rs ∧ rule.length ≤ 60 ∧
  ((∃ m : Nat, n = m ∧ m ≤ 24 ∧ ∀ (l : Addr) (H' : Hp), H' l = some (.lst ((partsG (keptG rule m) (m + 1)).map V.int)) → Same H H' → H l = none → Q (.ref l) H') ∨ ((n < 0 ∨ 24 < n) ∧ E (.ref A.c_NoSum) none H))
theorem ok_by_parts (T : Txt K mg A) : FnOk P w K mg base (CX1 P w) 29 A.a_by_parts A.fd_by_parts ["rule", "n"] (sp_by_parts A) := by
  refine T.F_by_parts.okE sc_by_parts (fun vs H Q E h => ?_) (fun cdv Ar outer s H vs Q E hr h => ?_)
  · obtain ⟨p, rs, rule, n, rfl, hp, h2, hln, h⟩ := h
    rfl
  · obtain ⟨p, rs, rule, n, rfl, hp, h2, hln, h⟩ := h
    refine ⟨_, (pss_cons (ps_set (i := 2) sc_by_parts.nd rfl (by first | exact Or.inl rfl | exact Or.inr rfl) (pe_comp (ls := ["heap"]) (fr := []) (cs_of (defScope s_by_parts) n_by_parts rfl rfl (by decide +kernel)) rfl (pi_list (pe_call (ok_kept_of T) (hr.mono (by decide)) rfl T.g_kept_of T.F_kept_of.kp T.b_kept_of .nil passE (pa_cons (pv 0) (pa_cons (pv 1) pa_nil)))) (fun _ _ _ _ => pgc 0 (by decide +kernel) rfl rfl) (fun _ _ _ _ => pf_nil) (fun _ _ _ _ => (pe_callB (call_len_seqK K rfl) (glc (defScope s_by_parts)) T.b_len PySem.boot_len (pa_cons (pvc (defScope s_by_parts) 0) pa_nil)))))
        (pss_one (ps_ret (pe_comp (ls := ["k"]) (fr := [("lengths", 2)]) (cs_of (defScope s_by_parts) n_by_parts rfl rfl (by decide +kernel)) rfl (pi_range1 rfl T.b_range (pa_cons (pe_op op_add (pv 1) pe_int) pa_nil)) (fun _ _ _ _ => pgc 0 (by decide +kernel) rfl rfl) (fun _ _ _ _ => pf_nil) (fun _ _ _ _ => (pe_bmK K rfl PySem.F.plainAttrs_list PySem.F.slot_list_count PySem.F.type_list_count (mt_countLK K rfl) (pvc (defScope s_by_parts) 1) (pa_cons (pvc (defScope s_by_parts) 0) pa_nil))))))), ?_⟩
    rcases h with ⟨m, rfl, hm, k⟩ | ⟨hb, hE⟩
    · refine ⟨_, rfl, _, rfl, p, rs, rule, (m : Int), rfl, hp, h2, hln, .inl ⟨m, rfl, hm, fun l xs H1 gl h1 s1 nl => ?_⟩⟩
      have hlx : xs.length ≤ sizeLine := by rw [← h1.length]; exact Nat.le_trans (keptG_len _ _) (pow24 hm)
      refine ⟨l, rfl, ⟨_, SqL.of gl⟩, comp_list (xs := xs) (fun i ys σ' H' => H' = H1 ∧ (∃ v, σ' = [v]) ∧ ys = (((keptG rule m).take i).map fun h => (h.length : Int)).map V.int) ⟨rfl, ⟨_, rfl⟩, rfl⟩ ?_ ?_ ?_⟩
      · rintro i ys σ' H' hi ⟨rfl, _, rfl⟩
        refine ⟨SqL.of gl, ?_⟩
        rw [List.length_map, List.length_map, List.length_take]
        omega
      · rintro i x ys σ' H' hx ⟨rfl, ⟨v, rfl⟩, rfl⟩
        obtain ⟨hs, hhs, q, rfl, hq⟩ := h1.get hx
        obtain ⟨hi, eh⟩ := List.getElem?_eq_some_iff.mp hhs
        refine ⟨_, rfl, q, _, rfl, .inr (SqT.of hq), rfl, ⟨_, rfl⟩, ?_⟩
        rw [List.take_succ_eq_append_getElem hi, List.map_append, List.map_append, eh, List.length_map]
        rfl
      · rintro ys σ' H' ⟨rfl, _, rfl⟩ l2 hl2
        rw [← h1.length, List.take_length]
        generalize hL : ((keptG rule m).map fun h => (h.length : Int)) = L
        generalize hH2 : upd H' l2 (.lst (L.map V.int)) = H2
        have g2 : H2 l2 = some (.lst (L.map V.int)) := by rw [← hH2]; exact upd_same
        have s2 : Same H' H2 := by rw [← hH2]; rw [← hL]; exact Same.new hl2
        refine ⟨_, rfl, _, _, rfl, rfl, _, rfl, by omega, by omega, comp_range (fun i ys σ' H' => H' = H2 ∧ (∃ v, σ' = [v, some (.ref l2)]) ∧ i ≤ m + 1 ∧ ys = (partsG (keptG rule m) i).map V.int) ⟨rfl, ⟨_, rfl⟩, Nat.zero_le _, rfl⟩ ?_ ?_ ?_⟩
        · rintro i ys σ' H' hi ⟨rfl, _, hi2, rfl⟩
          rw [List.length_map, partsG_len]
          exact small64 (by omega)
        · rintro i ys σ' H' hi ⟨rfl, ⟨v, rfl⟩, hi2, rfl⟩
          refine ⟨_, rfl, .inl ⟨rfl, _, SqL.of g2⟩, _, rfl, l2, _, _, rfl, rfl, SqL.of g2, rfl, flat_ints _, rfl, ⟨_, rfl⟩, by omega, ?_⟩
          rw [cntV_ints, Int.zero_add, partsG_succ, List.map_append, hL]
          rfl
        · rintro ys σ' H' ⟨rfl, _, _, rfl⟩ l3 hl3
          have e : ((m : Int) + 1).toNat = m + 1 := by omega
          rw [e]
          exact k l3 _ upd_same (s1.trans (s2.trans (Same.new hl3))) ((s1.trans s2).free hl3)
    · exact ⟨_, rfl, _, rfl, p, rs, rule, n, rfl, hp, h2, hln, .inr ⟨hb, hE⟩⟩
def n_sign_of : List Str := ["pair"]
theorem sc_sign_of : FnScope n_sign_of ["pair"] (defScope s_sign_of) := ⟨rfl, rfl, rfl, by decide +kernel, rfl, by decide +kernel, by decide +kernel⟩
def sp_sign_of : Sp := fun vs H Q _ => ∃ (pc : List Int × List Int) (v : V), vs = [v] ∧ Pair1 pc v H ∧ Q (.int (sgnG pc.2)) H
theorem ok_sign_of (T : Txt K mg A) : FnOk P w K mg base CX0 1 A.a_sign_of A.fd_sign_of ["pair"] sp_sign_of := by
  refine T.F_sign_of.ok sc_sign_of (fun vs H Q E h => ?_) (fun cdv Ar outer s H vs Q E hr h => ?_)
  · obtain ⟨pc, v, rfl, hv, k⟩ := h
    rfl
  · obtain ⟨pc, v, rfl, hv, k⟩ := h
    refine ⟨_, (pss_one (ps_ret (pe_ifExp (pt_cmpR op_eq (pe_op op_mod (pe_callB call_len_seq rfl T.b_len PySem.boot_len (pa_cons (pe_ix ix_tup (pv 0) pe_int (fun _ _ => rfl)) pa_nil)) pe_int) pe_int (nomark _)) pe_int (pe_un un_neg pe_int)))), ?_⟩
    obtain ⟨q, a, b, rfl, g1, g2, g3⟩ := hv
    refine ⟨_, rfl, q, _, _, _, rfl, rfl, SqT.of g1, atI_nat (j := 1) rfl, b, _, rfl, .inr (SqT.of g3), _, _, rfl, rfl, (show (0 : Int) < 2 by decide), rfl, _, rfl, ?_⟩
    rw [List.length_map]
    unfold sgnG at k
    refine ite2 (fun hc => ?_) (fun hc => ?_)
    · have e : ((pc.2.length : Nat) : Int) % 2 = 0 := by simpa using hc
      rw [if_pos (by omega)] at k
      exact k
    · have e : ¬ ((pc.2.length : Nat) : Int) % 2 = 0 := fun z => hc (by simpa using z)
      rw [if_neg (by omega)] at k
      exact ⟨_, rfl, k⟩
def n_is_choice : List Str := ["rule", "choice", "least", "number"]
theorem sc_is_choice : FnScope n_is_choice ["rule", "choice"] (defScope s_is_choice) := ⟨rfl, rfl, rfl, by decide +kernel, rfl, by decide +kernel, by decide +kernel⟩
def sp_is_choice : Sp := fun vs H Q _ => ∃ (p b : Addr) (rs : List V) (ch : List Int), vs = [.ref p, .ref b] ∧ H p = some (.tup rs) ∧ H b = some (.tup (ch.map V.int)) ∧ Q (.bl (isCh rs.length 0 ch)) H
theorem ok_is_choice (T : Txt K mg A) : FnOk P w K mg base CX0 1 A.a_is_choice A.fd_is_choice ["rule", "choice"] sp_is_choice := by
  refine T.F_is_choice.ok sc_is_choice (fun vs H Q E h => ?_) (fun cdv Ar outer s H vs Q E hr h => ?_)
  · obtain ⟨p, b, rs, ch, rfl, hp, hb, k⟩ := h
    rfl
  · obtain ⟨p, b, rs, ch, rfl, hp, hb, k⟩ := h
    refine ⟨_, (pss_cons (ps_set (i := 2) sc_is_choice.nd rfl (by first | exact Or.inl rfl | exact Or.inr rfl) pe_int)
        (pss_cons (ps_for PassesOwn.never rfl (pi_tup (pv 1)) (pg_name (i := 3) sc_is_choice.nd rfl (by first | exact Or.inl rfl | exact Or.inr rfl))
          (pss_cons (ps_if (PW.pt (pw_or (pt_cmpR op_lt (pv 3) (pv 2) (nomark _)) (pw_or1 (pt_cmpR op_ge (pv 3) (pe_callB call_len_seq rfl T.b_len PySem.boot_len (pa_cons (pv 0) pa_nil)) (nomark _)))))
          (pss_one (ps_ret pe_bl)) pss_nil)
        (pss_one (ps_set (i := 2) sc_is_choice.nd rfl (by first | exact Or.inl rfl | exact Or.inr rfl) (pe_op op_add (pv 3) pe_int)))))
        (pss_one (ps_ret pe_bl)))), ?_⟩
    refine ⟨_, rfl, b, rfl, ⟨_, SqT.of hb⟩, for_tup (xs := ch.map V.int) (fun i σ' H' => H' = H ∧ (∃ v, σ' = [some (.ref p), some (.ref b), some (.int (lastC 0 (ch.take i))), v]) ∧ isCh rs.length 0 (ch.take i) = true) ⟨rfl, ⟨_, rfl⟩, rfl⟩ ?_ ?_ ?_⟩
    · rintro i σ' H' _ ⟨eH, _⟩
      subst eH
      exact SqT.of hb
    · rintro i x σ' H' hx ⟨eH, ⟨v, rfl⟩, hc⟩
      subst eH
      obtain ⟨z, hz, rfl⟩ := map_at hx
      obtain ⟨hi, ez⟩ := List.getElem?_eq_some_iff.mp hz
      have et : ch.take (i + 1) = ch.take i ++ [z] := by rw [List.take_succ_eq_append_getElem hi, ez]
      have stop : z < lastC 0 (ch.take i) ∨ ((rs.length : Nat) : Int) ≤ z → isCh rs.length 0 ch = false := fun c => by
        have : ch = ch.take i ++ (z :: ch.drop (i + 1)) := by rw [← ez, ← List.drop_eq_getElem_cons hi, List.take_append_drop]
        rw [this, isCh_app, isCh, if_pos c, Bool.and_false]
      refine ⟨_, rfl, _, rfl, _, _, rfl, rfl, _, rfl, ?_⟩
      refine ite2 (fun h1 => ?_) (fun h1 => ?_)
      · rw [stop (.inl (of_decide_eq_true h1))] at k
        exact iteT k
      · refine ⟨_, rfl, _, rfl, p, _, rfl, .inr (SqT.of hp), _, _, rfl, rfl, _, rfl, ?_⟩
        refine ite2 (fun h2 => ?_) (fun h2 => ?_)
        · rw [stop (.inr (of_decide_eq_true h2))] at k
          exact k
        · have c1 : ¬ z < lastC 0 (ch.take i) := fun e => h1 (decide_eq_true e)
          have c2 : ¬ ((rs.length : Nat) : Int) ≤ z := fun e => h2 (decide_eq_true e)
          refine ⟨_, rfl, _, _, rfl, rfl, rfl, ⟨some (.int z), ?_⟩, ?_⟩
          · rw [et, lastC_snoc]
            rfl
          · rw [et, isCh_app, hc, isCh, if_neg (by omega)]
            rfl
    · rintro σ' H' ⟨eH, _, hc⟩
      subst eH
      rw [List.length_map, List.take_length] at hc
      rw [hc] at k
      exact k
def n_is_pair : List Str := ["rule", "pair"]
theorem sc_is_pair : FnScope n_is_pair ["rule", "pair"] (defScope s_is_pair) := ⟨rfl, rfl, rfl, by decide +kernel, rfl, by decide +kernel, by decide +kernel⟩
def sp_prog_is_pair : Sp := fun vs H Q _ => ∃ (p : Addr) (v : V) (rs : List V) (rule : List (List Int)) (pc : List Int × List Int), vs = [.ref p, v] ∧ H p = some (.tup rs) ∧ All2 Tup1 H rule rs ∧ Pair1 pc v H ∧ pc.2.length ≤ 100 ∧ ∀ H', Same H H' → Q (.bl (isPairG rule pc)) H'
theorem ok_is_pair (T : Txt K mg A) : FnOk P w K mg base CX0 3 A.a_is_pair A.fd_is_pair ["rule", "pair"] sp_prog_is_pair := by
  refine T.F_is_pair.ok sc_is_pair (fun vs H Q E h => ?_) (fun cdv Ar outer s H vs Q E hr h => ?_)
  · obtain ⟨p, v, rs, rule, pc, rfl, hp, h2, hv, hln, k⟩ := h
    rfl
  · obtain ⟨p, v, rs, rule, pc, rfl, hp, h2, hv, hln, k⟩ := h
    refine ⟨_, (pss_cons (ps_if (pt_not (pt_truth (pe_call (ok_is_choice T) (hr.mono (by decide)) rfl T.g_is_choice T.F_is_choice.kp T.b_is_choice .nil pass0 (pa_cons (pv 0 (hv := Or.inr (Or.inl rfl))) (pa_cons (pe_ix ix_tup (pv 1 (hv := Or.inr (Or.inl rfl))) pe_int (fun _ _ => rfl)) pa_nil))) (fun _ => rfl)))
          (pss_one (ps_ret pe_bl)) pss_nil)
        (pss_one (ps_ret (pe_callB (call_all_bools rfl) rfl T.b_all boot_all (pa_cons (pe_comp (ls := ["number"]) (fr := [("rule", 0), ("pair", 1)]) (cs_of (defScope s_is_pair) n_is_pair rfl rfl (by decide +kernel)) rfl (pi_tup (pe_ix ix_tup (pv 1 (hv := Or.inr (Or.inl rfl))) pe_int (fun _ _ => rfl))) (fun _ _ _ _ => pgc 0 (by decide +kernel) rfl rfl) (fun _ _ _ _ => pf_nil) (fun _ _ _ _ => (pe_call (ok_lies_in T) (hr.mono (by decide)) (glc (defScope s_is_pair)) T.g_lies_in T.F_lies_in.kp T.b_lies_in .nil pass0 (pa_cons (pe_ix (ix_tupK K rfl) (pvc (defScope s_is_pair) 1) (pvc (defScope s_is_pair) 0) (fun _ _ => rfl)) (pa_cons (pe_ix (ix_tupK K rfl) (pvc (defScope s_is_pair) 2) pe_int (fun _ _ => rfl)) pa_nil))))) pa_nil))))), ?_⟩
    obtain ⟨q, a, b, rfl, g1, g2, g3⟩ := hv
    have hrl := h2.length
    refine ⟨_, rfl, _, rfl, q, _, _, _, rfl, rfl, SqT.of g1, atI_nat (j := 1) rfl, p, b, rs, pc.2, rfl, hp, g3, _, rfl, ?_⟩
    rw [← hrl]
    cases hc : isCh rule.length 0 pc.2 with
    | false =>
      refine iteT ?_
      have := k H fun _ _ z => z
      unfold isPairG at this
      rw [hc, Bool.false_and] at this
      exact this
    | true =>
      refine iteF ?_
      refine ⟨_, rfl, q, _, _, _, rfl, rfl, SqT.of g1, atI_nat (j := 1) rfl, b, rfl, ⟨_, SqT.of g3⟩, comp_tup (xs := pc.2.map V.int) (fun i ys σ' H' => Same H H' ∧ (∃ v, σ' = [v, some (.ref p), some (.ref q)]) ∧ ys = ((pc.2.take i).map fun j => lies (rule.getD j.toNat []) pc.1).map V.bl) ⟨fun _ _ z => z, ⟨_, rfl⟩, rfl⟩ ?_ ?_ ?_⟩
      · rintro i ys σ' H' hi ⟨s, _, rfl⟩
        refine ⟨SqT.of (s _ _ g3), ?_⟩
        rw [List.length_map, List.length_map, List.length_take]
        exact Nat.le_trans (m := 100) (by omega) (by decide)
      · rintro i x ys σ' H' hx ⟨s, ⟨v, rfl⟩, rfl⟩
        obtain ⟨z, hz, rfl⟩ := map_at hx
        obtain ⟨hi, ez⟩ := List.getElem?_eq_some_iff.mp hz
        have hb := isCh_mem hc z (List.mem_of_getElem? hz)
        obtain ⟨x, hx, c, rfl, gc⟩ := pick_at (h2.mv s.tups) hb.1 hb.2
        refine ⟨_, rfl, _, rfl, p, _, _, _, rfl, rfl, SqT.of (s _ _ hp), hx, ?_⟩
        refine ⟨_, rfl, q, _, _, _, rfl, rfl, SqT.of (s _ _ g1), atI_nat (j := 0) rfl, c, a, _, pc.1, rfl, gc, s _ _ g2, s, ⟨_, rfl⟩, ?_⟩
        rw [List.take_succ_eq_append_getElem hi, List.map_append, List.map_append, ez]
        rfl
      · rintro ys σ' H' ⟨s, _, rfl⟩ l hl
        rw [List.length_map, List.take_length]
        refine ⟨l, _, rfl, SqL.of upd_same, ?_⟩
        have := k _ (s.trans (Same.new (o := .lst ((pc.2.map fun j => lies (rule.getD j.toNat []) pc.1).map V.bl)) hl))
        unfold isPairG at this
        rw [hc, Bool.true_and] at this
        rw [List.all_map]
        exact this
def n_partner_of : List Str := ["rule", "pair", "heap", "choice", "number"]
theorem sc_partner_of : FnScope n_partner_of ["rule", "pair"] (defScope s_partner_of) := ⟨rfl, rfl, rfl, by decide +kernel, rfl, by decide +kernel, by decide +kernel⟩
def sp_partner_of (A : Adr) : Sp := fun vs H Q E => ∃ (p : Addr) (v : V) (rs : List V) (rule : List (List Int)) (pc : List Int × List Int), vs = [.ref p, v] ∧ H p = some (.tup rs) ∧ All2 Tup1 H rule rs ∧ Pair1 pc v H ∧ pc.2.length ≤ 100 ∧ rule.length ≤ 60 ∧
  ((isPairG rule pc = true ∧ (partnerG rule pc = none → ∀ H', Same H H' → Q .non H') ∧ ∀ pc', partnerG rule pc = some pc' → ∀ v' H', Pair1 pc' v' H' → Same H H' → Q v' H') ∨ (isPairG rule pc = false ∧ ∀ H', Same H H' → E (.ref A.c_NoPair) none H'))
theorem ok_partner_of (T : Txt K mg A) : FnOk P w K mg base (CX1 P w) 5 A.a_partner_of A.fd_partner_of ["rule", "pair"] (sp_partner_of A) := by
  refine T.F_partner_of.okE sc_partner_of (fun vs H Q E h => ?_) (fun cdv Ar outer s H vs Q E hr h => ?_)
  · obtain ⟨p, v, rs, rule, pc, rfl, hp, h2, hv, hln, hlr, h⟩ := h
    rfl
  · obtain ⟨p, v, rs, rule, pc, rfl, hp, h2, hv, hln, hlr, h⟩ := h
    refine ⟨_, (pss_cons (ps_if (pt_not (pt_truth (pe_call (ok_is_pair T) (hr.mono (by decide)) rfl T.g_is_pair T.F_is_pair.kp T.b_is_pair .nil pass0 (pa_cons (pv 0) (pa_cons (pv 1) pa_nil))) (fun _ => rfl)))
          (pss_one (ps_raise rfl T.x_NoPair rfl T.g_NoPair (pa_cons pe_str pa_nil))) pss_nil)
        (pss_cons (ps_set (i := 2) sc_partner_of.nd rfl (by first | exact Or.inl rfl | exact Or.inr rfl) (pe_ix ix_tup (pv 1) pe_int (fun _ _ => rfl)))
        (pss_cons (ps_set (i := 3) sc_partner_of.nd rfl (by first | exact Or.inl rfl | exact Or.inr rfl) (pe_ix ix_tup (pv 1) pe_int (fun _ _ => rfl)))
        (pss_cons (ps_set (i := 4) sc_partner_of.nd rfl (by first | exact Or.inl rfl | exact Or.inr rfl) (pe_call (ok_first_in T) (hr.mono (by decide)) rfl T.g_first_in T.F_first_in.kp T.b_first_in .nil pass0 (pa_cons (pv 0) (pa_cons (pv 2) pa_nil))))
        (pss_cons (ps_if (pt_cmpR op_isN (pv 4) pe_non (nomark _))
          (pss_one (ps_ret pe_non)) pss_nil)
        (pss_cons (ps_if (pt_cmpR op_in_seq (pv 4) (pv 3) rfl)
          (pss_one (ps_ret (pe_tup (pa_cons (pv 2) (pa_cons (pe_slice sl_tupA (pv 3) (po_some pe_int) po_none) pa_nil))))) pss_nil)
        (pss_one (ps_ret (pe_tup (pa_cons (pv 2) (pa_cons (pe_op op_catA (pe_tup (pa_cons (pv 4) pa_nil)) (pv 3)) pa_nil))))))))))), ?_⟩
    obtain ⟨q, a, b, rfl, g1, g2, g3⟩ := hv
    refine ⟨_, rfl, _, rfl, p, _, rs, rule, pc, rfl, hp, h2, ⟨q, a, b, rfl, g1, g2, g3⟩, hln, fun H1 s1 => ⟨_, rfl, ?_⟩⟩
    rcases h with ⟨hc, kN, kS⟩ | ⟨hc, kE⟩
    · rw [hc]
      refine iteF ?_
      refine ⟨_, rfl, q, _, _, _, rfl, rfl, SqT.of (s1 _ _ g1), atI_nat (j := 0) rfl, ?_⟩
      refine ⟨_, rfl, q, _, _, _, rfl, rfl, SqT.of (s1 _ _ g1), atI_nat (j := 1) rfl, ?_⟩
      refine ⟨_, rfl, _, rfl, p, a, rs, rule, pc.1, rfl, s1 _ _ hp, h2.mv s1.tups, s1 _ _ g2, hlr, fun H2 s2 => ?_⟩
      have sn := s1.trans s2
      unfold partnerG at kN kS
      cases hf : firstG rule pc.1 with
      | none =>
        rw [hf] at kN
        refine ⟨_, rfl, rfl, _, rfl, ite2 (fun _ => ?_) (fun z => absurd (decide_eq_true rfl) z)⟩
        exact kN rfl H2 sn
      | some m =>
        rw [hf] at kS
        refine ⟨_, rfl, rfl, _, rfl, ite2 (fun z => ?_) (fun _ => ?_)⟩
        · have := of_decide_eq_true z
          cases this
        refine ⟨_, rfl, _, rfl, b, _, rfl, .inr (SqT.of (sn _ _ g3)), rfl, flat_ints _, _, rfl, ?_⟩
        have ei : inV (optV (some m)) (pc.2.map V.int) = decide (m ∈ pc.2) := inV_ints m _
        rw [if_neg Bool.false_ne_true, ei]
        refine ite2 (fun z => ?_) (fun z => ?_)
        · have hm : m ∈ pc.2 := of_decide_eq_true z
          refine ⟨_, rfl, _, rfl, _, rfl, ?_⟩
          dsimp only [tNoPart, tNil]
          refine slice_tail (sn _ _ g3) fun t H3 ht s3 => ?_
          refine ⟨by show 2 ≤ sizeLine; decide, fun r hr => ?_⟩
          have s4 := Same.new (o := .tup [.ref a, .ref t]) hr
          exact kS _ (if_pos hm) _ _ ⟨r, a, t, rfl, upd_same, s4 _ _ (s3 _ _ (sn _ _ g2)), s4 _ _ ht⟩ (sn.trans (s3.trans s4))
        · have hm : ¬ m ∈ pc.2 := fun e => z (decide_eq_true e)
          refine ⟨_, rfl, _, rfl, by show 1 ≤ sizeLine; decide, fun t ht => ⟨_, rfl, ?_⟩⟩
          have s3 := Same.new (o := .tup [V.int m]) ht
          refine cat_front (z := m) (s3 _ _ (sn _ _ g3)) upd_same hln fun v H4 hv s4 => ?_
          obtain ⟨c, rfl, gc⟩ := hv
          refine ⟨by show 2 ≤ sizeLine; decide, fun r hr => ?_⟩
          have s5 := Same.new (o := .tup [.ref a, .ref c]) hr
          exact kS _ (if_neg hm) _ _ ⟨r, a, c, rfl, upd_same, s5 _ _ (s4 _ _ (s3 _ _ (sn _ _ g2))), s5 _ _ gc⟩ (sn.trans (s3.trans (s4.trans s5)))
    · rw [hc]
      exact iteT ⟨by show 1 ≤ sizeLine; decide, kE H1 s1⟩
def n_choices_among : List Str := ["numbers", "choices", "number"]
theorem sc_choices_among : FnScope n_choices_among ["numbers"] (defScope s_choices_among) := ⟨rfl, rfl, rfl, by decide +kernel, rfl, by decide +kernel, by decide +kernel⟩
def sp_choices : Sp := fun vs H Q _ => ∃ (a : Addr) (ns : List Int), vs = [.ref a] ∧ H a = some (.lst (ns.map V.int)) ∧ ns.length ≤ 6 ∧
  ∀ (l : Addr) (xs : List V) (H' : Hp), H' l = some (.lst xs) → All2 Tup1 H' (chG ns) xs → Same H H' → H l = none → Q (.ref l) H'
theorem ok_choices_among (T : Txt K mg A) : FnOk P w K mg base CX0 1 A.a_choices_among A.fd_choices_among ["numbers"] sp_choices := by
  refine T.F_choices_among.ok sc_choices_among (fun vs H Q E h => ?_) (fun cdv Ar outer s H vs Q E hr h => ?_)
  · obtain ⟨a, ns, rfl, ha, hln, k⟩ := h
    rfl
  · obtain ⟨a, ns, rfl, ha, hln, k⟩ := h
    refine ⟨_, (pss_cons (ps_set (i := 1) sc_choices_among.nd rfl (by first | exact Or.inl rfl | exact Or.inr rfl) (pe_lst (pa_cons (pe_tup pa_nil) pa_nil)))
        (pss_cons (ps_for PassesOwn.never rfl (pi_list (pv 0)) (pg_name (i := 2) sc_choices_among.nd rfl (by first | exact Or.inl rfl | exact Or.inr rfl))
          (pss_one (ps_set (i := 1) sc_choices_among.nd rfl (by first | exact Or.inl rfl | exact Or.inr rfl) (pe_op op_cat (pv 1) (pe_comp (ls := ["choice"]) (fr := [("number", 2)]) (cs_of (defScope s_choices_among) n_choices_among rfl rfl (by decide +kernel)) rfl (pi_list (pv 1)) (fun _ _ _ _ => pgc 0 (by decide +kernel) rfl rfl) (fun _ _ _ _ => pf_nil) (fun _ _ _ _ => (pe_op (op_catAK K rfl) (pvc (defScope s_choices_among) 0) (pe_tup (pa_cons (pvc (defScope s_choices_among) 1) pa_nil)))))))))
        (pss_one (ps_ret (pv 1))))), ?_⟩
    refine ⟨by show 0 ≤ sizeLine; decide, fun e he => ⟨by show 1 ≤ sizeLine; decide, fun l0 hl0 => ?_⟩⟩
    have ne0 : H l0 = none := (Same.new he).free hl0
    refine ⟨_, rfl, a, rfl, ⟨_, SqL.of ((Same.new he).trans (Same.new hl0) _ _ ha)⟩, for_list (xs := ns.map V.int) (fun i σ' H' => Same H H' ∧ i ≤ 6 ∧ ∃ l xs v, σ' = [some (.ref a), some (.ref l), v] ∧ H' l = some (.lst xs) ∧ H l = none ∧ All2 Tup1 H' (chG (ns.take i)) xs) ?_ ?_ ?_ ?_⟩
    · refine ⟨(Same.new he).trans (Same.new hl0), Nat.zero_le _, l0, [.ref e], _, rfl, upd_same, ne0, .cons ⟨e, rfl, ?_⟩ .nil⟩
      exact Same.new hl0 _ _ upd_same
    · rintro i σ' H' _ ⟨s, _⟩
      exact SqL.of (s _ _ ha)
    · rintro i x σ' H' hx ⟨s, hi6, l, xs, v, rfl, gl, nl, h2⟩
      obtain ⟨z, hz, rfl⟩ := map_at hx
      have hi := (List.getElem?_eq_some_iff.mp hz).1
      have ez := (List.getElem?_eq_some_iff.mp hz).2
      have hlen := chG_len i (ns.take i) (by rw [List.length_take]; omega)
      have hmem := chG_mem i (ns.take i) (by rw [List.length_take]; omega)
      have hlx : xs.length ≤ 64 := by
        rw [← h2.length, hlen]
        exact Nat.le_trans (Nat.pow_le_pow_right (by decide) hi6) (by decide)
      refine ⟨_, rfl, _, rfl, l, rfl, ⟨_, SqL.of gl⟩, comp_list (xs := xs) (fun j ys σ' H2 => Same H' H2 ∧ (∃ v, σ' = [v, some (.int z)]) ∧ All2 Tup1 H2 (((chG (ns.take i)).take j).map (· ++ [z])) ys) ⟨fun _ _ h => h, ⟨_, rfl⟩, .nil⟩ ?_ ?_ ?_⟩
      · rintro j ys σ' H2 hj ⟨s2, _, h3⟩
        refine ⟨SqL.of (s2 _ _ gl), ?_⟩
        rw [← h3.length, List.length_map, List.length_take]
        refine Nat.le_trans (m := 64) (by omega) (by decide)
      · rintro j x ys σ' H2 hx ⟨s2, ⟨v, rfl⟩, h3⟩
        obtain ⟨hs, hhs, q, rfl, hq⟩ := h2.get hx
        have hj := (List.getElem?_eq_some_iff.mp hhs).1
        have eh := (List.getElem?_eq_some_iff.mp hhs).2
        refine ⟨_, rfl, _, rfl, by show 1 ≤ sizeLine; decide, fun t ht => ?_⟩
        have hl1 : hs.length ≤ 60 := by
          have := (hmem hs (List.mem_of_getElem? hhs)).1
          omega
        refine cat_one (Same.new ht _ _ (s2 _ _ hq)) upd_same hl1 fun v H3 hv s3 => ?_
        have sn := (Same.new (o := .tup [V.int z]) ht).trans s3
        refine ⟨s2.trans sn, ⟨_, rfl⟩, ?_⟩
        rw [List.take_succ_eq_append_getElem hj, List.map_append, eh]
        exact (h3.mv sn.tups).snoc hv
      · rintro ys σ' H2 ⟨s2, ⟨v, rfl⟩, h3⟩ l2 hl2
        have et : (chG (ns.take i)).take xs.length = chG (ns.take i) := by rw [← h2.length, List.take_length]
        rw [et] at h3
        have hly : ys.length ≤ 64 := by
          rw [← h3.length, List.length_map, h2.length]
          exact hlx
        refine ⟨l, l2, xs, ys, rfl, rfl, Same.new hl2 _ _ (s2 _ _ gl), upd_same, Nat.le_trans (m := 128) (by omega) (by decide), fun l3 hl3 => ?_⟩
        have sn := s2.trans ((Same.new (o := .lst ys) hl2).trans (Same.new (o := .lst (xs ++ ys)) hl3))
        refine ⟨s.trans sn, by omega, l3, xs ++ ys, _, rfl, upd_same, (s.trans (s2.trans (Same.new hl2))).free hl3, ?_⟩
        rw [List.take_succ_eq_append_getElem hi, ez, chG_snoc]
        exact (h2.mv sn.tups).append (h3.mv ((Same.new hl2).trans (Same.new hl3)).tups)
    · rintro σ' H' ⟨s, _, l, xs, v, rfl, gl, nl, h2⟩
      rw [List.length_map, List.take_length] at h2
      exact ⟨_, rfl, k l xs H' gl h2 s nl⟩
def n_pairs_of : List Str := ["rule", "n", "pairs", "heap"]
theorem sc_pairs_of : FnScope n_pairs_of ["rule", "n"] (defScope s_pairs_of) := ⟨rfl, rfl, rfl, by decide +kernel, rfl, by decide +kernel, by decide +kernel⟩
def sp_pairs_of (A : Adr) : Sp := fun vs H Q E => ∃ (p : Addr) (rs : List V) (rule : List (List Int)) (n : Int), vs = [.ref p, .int n] ∧ H p = some (.tup rs) ∧ All2 Tup1 H rule rs ∧ rule.length ≤ 6 ∧
  ((∃ m : Nat, n = m ∧ m ≤ 16 ∧ ∀ (l : Addr) (xs : List V) (H' : Hp), H' l = some (.lst xs) → All2 Pair1 H' (pairsG rule (partF 26 m m)) xs → Same H H' → H l = none → Q (.ref l) H') ∨ ((n < 0 ∨ 16 < n) ∧ E (.ref A.c_NoSum) none H))
theorem ok_pairs_of (T : Txt K mg A) : FnOk P w K mg base (CX1 P w) 29 A.a_pairs_of A.fd_pairs_of ["rule", "n"] (sp_pairs_of A) := by
  refine T.F_pairs_of.okE sc_pairs_of (fun vs H Q E h => ?_) (fun cdv Ar outer s H vs Q E hr h => ?_)
  · obtain ⟨p, rs, rule, n, rfl, hp, h2, hln, h⟩ := h
    rfl
  · obtain ⟨p, rs, rule, n, rfl, hp, h2, hln, h⟩ := h
    refine ⟨_, (pss_cons (ps_expr (pe_call (ok_refuse_beyond T) (hr.mono (by decide)) rfl T.g_refuse_beyond T.F_refuse_beyond.kp T.b_refuse_beyond .nil passE (pa_cons (pv 1) (pa_cons (pe_glob (v := .int 16) rfl T.v_MOST_PAIRED.choose_spec ⟨_, rfl⟩) pa_nil))))
        (pss_cons (ps_set (i := 2) sc_pairs_of.nd rfl (by first | exact Or.inl rfl | exact Or.inr rfl) (pe_lst pa_nil))
        (pss_cons (ps_ok fun ok => ps_for (ownE ok) rfl (pi_list (pe_call (ok_partings_of T) (hr.mono (by decide)) rfl T.g_partings_of T.F_partings_of.kp T.b_partings_of .nil passE (pa_cons (pv 1) pa_nil))) (pg_name (i := 3) sc_pairs_of.nd rfl (by first | exact Or.inl rfl | exact Or.inr rfl))
          (pss_one (ps_expr (pe_bm PySem.F.plainAttrs_list PySem.F.slot_list_extend PySem.F.type_list_extend mt_extend (pv 2) (pa_cons (pe_comp (ls := ["choice"]) (fr := [("heap", 3)]) (cs_of (defScope s_pairs_of) n_pairs_of rfl rfl (by decide +kernel)) rfl (pi_list (pe_call (ok_choices_among T) (hr.mono (by decide)) rfl T.g_choices_among T.F_choices_among.kp T.b_choices_among .nil pass0 (pa_cons (pe_call (ok_all_in T) (hr.mono (by decide)) rfl T.g_all_in T.F_all_in.kp T.b_all_in .nil pass0 (pa_cons (pv 0) (pa_cons (pv 3 (hv := Or.inr (Or.inl rfl))) pa_nil))) pa_nil))) (fun _ _ _ _ => pgc 0 (by decide +kernel) rfl rfl) (fun _ _ _ _ => pf_nil) (fun _ _ _ _ => (pe_tup (pa_cons (pvc (defScope s_pairs_of) 1) (pa_cons (pvc (defScope s_pairs_of) 0) pa_nil))))) pa_nil)))))
        (pss_one (ps_ret (pv 2)))))), ?_⟩
    rcases h with ⟨m, rfl, hm, k⟩ | ⟨hb, hE⟩
    · refine ⟨_, rfl, (m : Int), 16, rfl, ⟨by decide, by decide⟩, .inl ⟨by omega, by omega, ?_⟩⟩
      refine ⟨by show 0 ≤ sizeLine; decide, fun l hl => ?_⟩
      refine ⟨_, rfl, (m : Int), rfl, .inl ⟨m, rfl, by omega, fun pl pxs H1 gpl h1 s1 npl => ?_⟩⟩
      have s01 : Same H H1 := (Same.new hl).trans s1
      have ll : l ≠ pl := ne_of_none (upd_same (H := H) (a := l) (o := .lst [])) npl
      have hlx : pxs.length ≤ 2 ^ m := by rw [← h1.length]; exact partF_len _ _ _
      have hpw := pow16 hm
      refine ⟨pl, rfl, ⟨_, SqL.of gpl⟩, for_list (xs := pxs) (fun i σ' H' => (∀ b o, H1 b = some o → b ≠ l → H' b = some o) ∧ ∃ xs v, σ' = [some (.ref p), some (.int m), some (.ref l), v] ∧ H' l = some (.lst xs) ∧ All2 Pair1 H' (pairsG rule ((partF 26 m m).take i)) xs) ⟨fun _ _ h _ => h, [], _, rfl, s1 _ _ upd_same, .nil⟩ ?_ ?_ ?_⟩
      · rintro i σ' H' _ ⟨kp, _⟩
        exact SqL.of (kp _ _ gpl ll.symm)
      · rintro i x σ' H' hx ⟨kp, xs, v, rfl, gl, h3⟩
        have tt : Tups H1 H' := fun b ys e => kp b _ e (ne_of e (s1 _ _ (upd_same (H := H) (a := l) (o := .lst []))) (by intro z; cases z))
        obtain ⟨hs, hhs, q, rfl, hq⟩ := (h1.mv tt).get hx
        obtain ⟨hi, eh⟩ := List.getElem?_eq_some_iff.mp hhs
        have t0 : Tups H H' := s01.tups.trans tt
        have hlxs : xs.length ≤ 64 * i := by
          rw [← h3.length]
          refine Nat.le_trans (pairsG_len hln _) ?_
          rw [List.length_take]
          omega
        have hi2 : i < 2 ^ m := by
          have := partF_len 26 m m
          omega
        refine ⟨_, rfl, .inl ⟨rfl, _, SqL.of gl⟩, _, rfl, _, rfl, p, q, rs, rule, hs, rfl, t0 _ _ hp, h2.mv t0, hq, by omega, fun il H2 gil s2 nil2 => ?_⟩
        refine ⟨il, idxG rule hs, rfl, gil, Nat.le_trans (idxG_len rule hs) hln, fun cl cxs H3 gcl h4 s3 ncl => ?_⟩
        have s23 := s2.trans s3
        have hcl : cxs.length ≤ 64 := by
          rw [← h4.length]
          have := pairs1_len (h := hs) hln
          unfold pairs1 at this
          rwa [List.length_map] at this
        refine ⟨cl, rfl, ⟨_, SqL.of gcl⟩, comp_list (xs := cxs) (fun j ys σ' H4 => Same H3 H4 ∧ (∃ v, σ' = [v, some (.ref q)]) ∧ All2 Pair1 H4 (((chG (idxG rule hs)).take j).map fun c => (hs, c)) ys) ⟨fun _ _ h => h, ⟨_, rfl⟩, .nil⟩ ?_ ?_ ?_⟩
        · rintro j ys σ' H4 hj ⟨s4, _, h5⟩
          refine ⟨SqL.of (s4 _ _ gcl), ?_⟩
          rw [← h5.length, List.length_map, List.length_take]
          exact Nat.le_trans (m := 64) (by omega) (by decide)
        · rintro j x ys σ' H4 hx ⟨s4, ⟨v, rfl⟩, h5⟩
          obtain ⟨ch, hch, c, rfl, hc⟩ := h4.get hx
          obtain ⟨hj, ec⟩ := List.getElem?_eq_some_iff.mp hch
          refine ⟨_, rfl, _, rfl, by show 2 ≤ sizeLine; decide, fun t ht => ⟨s4.trans (Same.new ht), ⟨_, rfl⟩, ?_⟩⟩
          rw [List.take_succ_eq_append_getElem hj, List.map_append, ec]
          exact (h5.mvP (Same.new ht).tups).snoc ⟨t, q, c, rfl, upd_same, Same.new ht _ _ (s4 _ _ (s23 _ _ hq)), Same.new ht _ _ (s4 _ _ hc)⟩
        · rintro ys σ' H4 ⟨s4, _, h5⟩ l2 hl2
          have et : (chG (idxG rule hs)).take cxs.length = chG (idxG rule hs) := by rw [← h4.length, List.take_length]
          rw [et] at h5
          have hly : ys.length ≤ 64 := by
            rw [← h5.length, List.length_map, h4.length]
            exact hcl
          have sn := s23.trans (s4.trans (Same.new (o := .lst ys) hl2))
          refine ⟨l, l2, xs, ys, rfl, rfl, sn _ _ gl, upd_same, Nat.le_trans (m := 64 * 2 ^ m) (by omega) (Nat.le_trans hpw (by decide)), ?_⟩
          have tn : Tups H' (upd (upd H4 l2 (.lst ys)) l (.lst (xs ++ ys))) := sn.tups.trans (Tups.set (sn _ _ gl))
          have tn4 : Tups H4 (upd (upd H4 l2 (.lst ys)) l (.lst (xs ++ ys))) := (Same.new hl2).tups.trans (Tups.set (sn _ _ gl))
          refine ⟨fun b o e ne => ?_, xs ++ ys, _, rfl, upd_same, ?_⟩
          · rw [upd_ne ne]
            exact sn _ _ (kp _ _ e ne)
          · rw [List.take_succ_eq_append_getElem hi, eh, pairsG_snoc]
            exact (h3.mvP tn).append (h5.mvP tn4)
      · rintro σ' H' ⟨kp, xs, v, rfl, gl, h3⟩
        rw [← h1.length, List.take_length] at h3
        exact ⟨_, rfl, k l xs H' gl h3 (fun b o e => kp _ _ (s01 _ _ e) (ne_of_none e hl)) hl⟩
    · exact ⟨_, rfl, n, 16, rfl, ⟨by decide, by decide⟩, .inr ⟨hb, hE⟩⟩
def n_sum_of : List Str := ["heap"]
theorem sc_sum_of : FnScope n_sum_of ["heap"] (defScope s_sum_of) := ⟨rfl, rfl, rfl, by decide +kernel, rfl, by decide +kernel, by decide +kernel⟩
def sp_sum_of (K : PySem.W.Frag) : Sp := fun vs H Q _ => ∃ (a : Addr) (ns : List Int), vs = [.ref a] ∧ SqT K H a (ns.map V.int) ∧ Q (.int ns.sum) H
theorem ok_sum_of (T : Txt K mg A) : FnOk P w K mg base CX0 1 A.a_sum_of A.fd_sum_of ["heap"] (sp_sum_of K) := by
  refine T.F_sum_of.ok sc_sum_of (fun vs H Q E h => ?_) (fun cdv Ar outer s H vs Q E hr h => ?_)
  · obtain ⟨a, ns, rfl, hS, k⟩ := h
    rfl
  · obtain ⟨a, ns, rfl, hS, k⟩ := h
    refine ⟨_, (pss_one (ps_ret (pe_callB (call_sum_ints rfl) rfl T.b_sum boot_sum (pa_cons (pv 0) pa_nil)))), ?_⟩
    exact ⟨_, rfl, a, ns, rfl, .inr hS, k⟩
def n_choices_of : List Str := ["rule"]
theorem sc_choices_of : FnScope n_choices_of ["rule"] (defScope s_choices_of) := ⟨rfl, rfl, rfl, by decide +kernel, rfl, by decide +kernel, by decide +kernel⟩
def sp_choices_of : Sp := fun vs H Q _ => ∃ (a : Addr) (rs : List V), vs = [.ref a] ∧ H a = some (.tup rs) ∧ rs.length ≤ 6 ∧
  ∀ (l : Addr) (xs : List V) (H' : Hp), H' l = some (.lst xs) → All2 Tup1 H' (chG (upto rs.length)) xs → Same H H' → H l = none → Q (.ref l) H'
theorem ok_choices_of (T : Txt K mg A) : FnOk P w K mg base CX0 2 A.a_choices_of A.fd_choices_of ["rule"] sp_choices_of := by
  refine T.F_choices_of.ok sc_choices_of (fun vs H Q E h => ?_) (fun cdv Ar outer s H vs Q E hr h => ?_)
  · obtain ⟨a, rs, rfl, ha, hln, k⟩ := h
    rfl
  · obtain ⟨a, rs, rfl, ha, hln, k⟩ := h
    refine ⟨_, (pss_one (ps_ret (pe_call (ok_choices_among T) (hr.mono (by decide)) rfl T.g_choices_among T.F_choices_among.kp T.b_choices_among .nil pass0 (pa_cons (pe_callTy (call_list_rng rfl) rfl T.b_list boot_list (pa_cons (pe_rng1 rfl T.b_range (pa_cons (pe_callB call_len_seq rfl T.b_len PySem.boot_len (pa_cons (pv 0) pa_nil)) pa_nil)) pa_nil)) pa_nil)))), ?_⟩
    refine ⟨_, rfl, a, _, rfl, .inr (SqT.of ha), _, rfl, fun r hr' => ⟨r, _, rfl, upd_same, by omega, by omega, fun l hl => ?_⟩⟩
    rw [Int.toNat_natCast]
    refine ⟨l, upto rs.length, rfl, upd_same, by rw [upto_len]; exact hln, fun l2 xs H' gl h2 s nl => ?_⟩
    exact k l2 xs H' gl h2 (((Same.new hr').trans (Same.new hl)).trans s) (((Same.new hr').trans (Same.new hl)).free nl)
def n_unlike_parts : List Str := ["heaps", "seen", "heap", "part"]
theorem sc_unlike_parts : FnScope n_unlike_parts ["heaps"] (defScope s_unlike_parts) := ⟨rfl, rfl, rfl, by decide +kernel, rfl, by decide +kernel, by decide +kernel⟩
def sp_unlike : Sp := fun vs H Q _ => ∃ (a : Addr) (xs : List V) (ls : List (List Int)), vs = [.ref a] ∧ H a = some (.lst xs) ∧ All2 Tup1 H ls xs ∧ ((∃ D : List Int, D.length < 64 ∧ ∀ x ∈ ls.flatten, x ∈ D) ∧ ls.flatten.length < 1000) ∧
  ∀ (l : Addr) (us : List Int) (H' : Hp), H' l = some (.lst (us.map V.int)) → us.Nodup → us.Pairwise (· ≥ ·) → (∀ x, x ∈ us ↔ x ∈ ls.flatten) → us.length < 64 → Same H H' → H l = none → Q (.ref l) H'
theorem ok_unlike_parts (T : Txt K mg A) : FnOk P w K mg base CX0 1 A.a_unlike_parts A.fd_unlike_parts ["heaps"] sp_unlike := by
  refine T.F_unlike_parts.ok sc_unlike_parts (fun vs H Q E h => ?_) (fun cdv Ar outer s H vs Q E hr h => ?_)
  · obtain ⟨a, xs, ls, rfl, ha, h2, ⟨⟨D, hD, hDm⟩, hln⟩, k⟩ := h
    rfl
  · obtain ⟨a, xs, ls, rfl, ha, h2, ⟨⟨D, hD, hDm⟩, hln⟩, k⟩ := h
    refine ⟨_, (pss_cons (ps_set (i := 1) sc_unlike_parts.nd rfl (by first | exact Or.inl rfl | exact Or.inr rfl) pe_dnewK)
        (pss_cons (ps_for PassesOwn.never rfl (pi_list (pv 0)) (pg_name (i := 2) sc_unlike_parts.nd rfl (by first | exact Or.inl rfl | exact Or.inr rfl))
          (pss_one (ps_for PassesOwn.never rfl (pi_tup (pv 2)) (pg_name (i := 3) sc_unlike_parts.nd rfl (by first | exact Or.inl rfl | exact Or.inr rfl))
          (pss_one (ps_dput (huR hr) (pv 1) (pv 3) pe_bl rfl)))))
        (pss_one (ps_ret (pe_sortD rfl rfl T.b_sorted (pv 1)))))), ?_⟩
    refine fun d hd => ?_
    have hlc : ∀ i j (x : List Int), ls[i]? = some x → ((ls.take i).flatten ++ x.take j).length < 1000 := fun i j x hx => by
      have hi := (List.getElem?_eq_some_iff.mp hx).1
      have ex := (List.getElem?_eq_some_iff.mp hx).2
      have e1 : ls.flatten = (ls.take i).flatten ++ (x ++ (ls.drop (i + 1)).flatten) := by
        conv => lhs; rw [← List.take_append_drop i ls]
        rw [List.flatten_append, List.drop_eq_getElem_cons hi, ex, List.flatten_cons]
      rw [e1] at hln
      simp only [List.length_append, List.length_take] at hln ⊢
      omega
    have hlen := h2.length
    refine ⟨_, rfl, a, rfl, ⟨_, SqL.of (Same.new hd _ _ ha)⟩, for_list (xs := xs) (fun i σ' H' => SeenU H H' d (ls.take i).flatten ∧ ∃ v w, σ' = [some (.ref a), some (.ref d), v, w]) ⟨⟨⟨[], [], upd_same, rfl, .nil, Nat.le_refl _, fun x => Iff.rfl⟩, Same.new hd, hd⟩, _, _, rfl⟩ ?_ ?_ ?_⟩
    · rintro i σ' H' _ ⟨S, _⟩
      exact SqL.of (S.sm _ _ ha)
    · rintro i x σ' H' hx ⟨S, v, w', rfl⟩
      obtain ⟨hs, hhs, q, rfl, hq⟩ := h2.get hx
      refine ⟨_, rfl, q, rfl, ⟨_, SqT.of (S.sm _ _ hq)⟩, for_tup (xs := hs.map V.int) (fun j σ' H' => SeenU H H' d ((ls.take i).flatten ++ hs.take j) ∧ ∃ w, σ' = [some (.ref a), some (.ref d), some (.ref q), w]) ⟨by rw [List.take_zero, List.append_nil]; exact S, _, rfl⟩ ?_ ?_ ?_⟩
      · rintro j σ' H2 _ ⟨S2, _⟩
        exact SqT.of (S2.sm _ _ hq)
      · rintro j x σ' H2 hx2 ⟨S2, w2, rfl⟩
        obtain ⟨z, hz, rfl⟩ := map_at hx2
        have hj := (List.getElem?_eq_some_iff.mp hz).1
        have ez := (List.getElem?_eq_some_iff.mp hz).2
        obtain ⟨H3, hp, S3⟩ := S2.put (z := z) (by have := hlc i j hs hhs; omega)
        refine ⟨_, rfl, _, rfl, d, H3, rfl, hp, ?_, _, rfl⟩
        rw [List.take_succ_eq_append_getElem hj, ez, ← List.append_assoc]
        exact S3
      · rintro σ' H2 ⟨S2, w2, rfl⟩
        rw [List.length_map, List.take_length] at S2
        have hi := (List.getElem?_eq_some_iff.mp hhs).1
        have ez := (List.getElem?_eq_some_iff.mp hhs).2
        refine ⟨?_, _, _, rfl⟩
        rw [List.take_succ_eq_append_getElem hi, List.flatten_append, ez]
        simpa using S2
    · rintro σ' H2 ⟨S2, v, w2, rfl⟩
      rw [← hlen, List.take_length] at S2
      obtain ⟨⟨kvs, ns, hd2, hk, hnd, hn, hm⟩, sm, nw⟩ := S2
      have hlD : ns.length ≤ D.length := nodup_len hnd fun x hx => hDm x ((hm x).mp hx)
      refine ⟨_, rfl, d, kvs, ns, rfl, hd2, hk, by omega, fun us l nd hperm hord hl => ?_⟩
      exact k l us _ upd_same (hperm.nodup_iff.mpr nd) hord (fun x => by rw [hperm.mem_iff, hm]) (by rw [hperm.length_eq]; omega) (Same.trans sm (Same.new hl)) (Same.free sm hl)
def n_joined : List Str := ["heaps", "parts", "part"]
theorem sc_joined : FnScope n_joined ["heaps"] (defScope s_joined) := ⟨rfl, rfl, rfl, by decide +kernel, rfl, by decide +kernel, by decide +kernel⟩
def sp_joined : Sp := fun vs H Q _ => ∃ (a : Addr) (xs : List V) (ls : List (List Int)), vs = [.ref a] ∧ H a = some (.lst xs) ∧ All2 Tup1 H ls xs ∧ ((∃ D : List Int, D.length < 64 ∧ ∀ x ∈ ls.flatten, x ∈ D) ∧ ls.flatten.length < 1000) ∧ ls.length ≤ 60 ∧
  ∀ (p : Addr) (ms : List Int) (H' : Hp), H' p = some (.tup (ms.map V.int)) → IsJoin ls ms → ms.length ≤ 100000 → Same H H' → H p = none → Q (.ref p) H'
theorem ok_joined (T : Txt K mg A) : FnOk P w K mg base CX0 2 A.a_joined A.fd_joined ["heaps"] sp_joined := by
  refine T.F_joined.ok sc_joined (fun vs H Q E h => ?_) (fun cdv Ar outer s H vs Q E hr h => ?_)
  · obtain ⟨a, xs, ls, rfl, ha, h2, hln, hls, k⟩ := h
    rfl
  · obtain ⟨a, xs, ls, rfl, ha, h2, hln, hls, k⟩ := h
    refine ⟨_, (pss_cons (ps_set (i := 1) sc_joined.nd rfl (by first | exact Or.inl rfl | exact Or.inr rfl) (pe_lst pa_nil))
        (pss_cons (ps_for PassesOwn.never rfl (pi_list (pe_call (ok_unlike_parts T) (hr.mono (by decide)) rfl T.g_unlike_parts T.F_unlike_parts.kp T.b_unlike_parts .nil pass0 (pa_cons (pv 0) pa_nil))) (pg_name (i := 2) sc_joined.nd rfl (by first | exact Or.inl rfl | exact Or.inr rfl))
          (pss_one (ps_expr (pe_bm PySem.F.plainAttrs_list PySem.F.slot_list_extend PySem.F.type_list_extend mt_extend (pv 1) (pa_cons (pe_op op_rep (pe_lst (pa_cons (pv 2 (hv := Or.inr (Or.inl rfl))) pa_nil)) (pe_callB (call_max_ints rfl) rfl T.b_max boot_max (pa_cons (pe_comp (ls := ["heap"]) (fr := [("part", 2)]) (cs_of (defScope s_joined) n_joined rfl rfl (by decide +kernel)) rfl (pi_list (pv 0)) (fun _ _ _ _ => pgc 0 (by decide +kernel) rfl rfl) (fun _ _ _ _ => pf_nil) (fun _ _ _ _ => (pe_call (ok_often T) (hr.mono (by decide)) (glc (defScope s_joined)) T.g_often T.F_often.kp T.b_often .nil pass0 (pa_cons (pvc (defScope s_joined) 0) (pa_cons (pvc (defScope s_joined) 1) pa_nil))))) pa_nil))) pa_nil)))))
        (pss_one (ps_ret (pe_callTy call_tuple_of rfl T.b_tuple boot_tuple (pa_cons (pv 1) pa_nil)))))), ?_⟩
    refine ⟨by show 0 ≤ sizeLine; decide, fun pa hpa => ?_⟩
    have h2a := h2.mv (Same.new (o := .lst []) hpa).tups
    refine ⟨_, rfl, a, xs, ls, rfl, Same.new hpa _ _ ha, h2a, hln, fun l us H1 hl nd pw hm hul s1 nl => ?_⟩
    have s01 : Same H H1 := (Same.new hpa).trans s1
    have npl : pa ≠ l := ne_of_none (upd_same (H := H) (a := pa) (o := .lst [])) nl
    refine ⟨l, rfl, ⟨_, SqL.of hl⟩, for_list (xs := us.map V.int) (fun i σ' H' => (∀ b o, H1 b = some o → b ≠ pa → H' b = some o) ∧ H' pa = some (.lst ((blow (maxC ls) (us.take i)).map V.int)) ∧ (blow (maxC ls) (us.take i)).length ≤ 1000 * i ∧ i ≤ 64 ∧ ∃ v, σ' = [some (.ref a), some (.ref pa), v]) ⟨fun _ _ h _ => h, s1 _ _ upd_same, Nat.le_refl _, Nat.zero_le _, _, rfl⟩ ?_ ?_ ?_⟩
    · rintro i σ' H' _ ⟨kp, _⟩
      exact SqL.of (kp _ _ hl npl.symm)
    · rintro i x σ' H' hx ⟨kp, gp, hle, hi64, v, rfl⟩
      obtain ⟨z, hz, rfl⟩ := map_at hx
      have hi := (List.getElem?_eq_some_iff.mp hz).1
      have ez := (List.getElem?_eq_some_iff.mp hz).2
      have ha' : H' a = some (.lst xs) := kp _ _ (s01 _ _ ha) (ne_of_none ha hpa)
      have t1 : Tups H H' := fun b ys e => kp _ _ (s01 _ _ e) (ne_of_none e hpa)
      have h2' := h2.mv t1
      have zm : z ∈ ls.flatten := (hm z).mp (List.mem_of_getElem? hz)
      refine ⟨_, rfl, .inl ⟨rfl, _, SqL.of gp⟩, _, rfl, by show 1 ≤ sizeLine; decide, fun l1 hl1 => ?_⟩
      have h2b := h2'.mv (Same.new (o := .lst [V.int z]) hl1).tups
      have hab := (Same.new (o := .lst [V.int z]) hl1) _ _ ha'
      have gpb := (Same.new (o := .lst [V.int z]) hl1) _ _ gp
      generalize hHb : upd H' l1 (.lst [V.int z]) = Hb at h2b hab gpb
      have gl1 : Hb l1 = some (.lst [V.int z]) := by rw [← hHb]; exact upd_same
      have sb : Same H' Hb := by rw [← hHb]; exact Same.new hl1
      refine ⟨_, rfl, a, rfl, ⟨_, SqL.of hab⟩, comp_list (xs := xs) (fun j ys σ' H' => H' = Hb ∧ (∃ v, σ' = [v, some (.int z)]) ∧ ys = ((ls.take j).map fun h => ((h.count z : Nat) : Int)).map V.int) ⟨rfl, ⟨_, rfl⟩, rfl⟩ ?_ ?_ ?_⟩
      · rintro j ys σ' H'' hj ⟨rfl, _, rfl⟩
        refine ⟨SqL.of hab, ?_⟩
        rw [List.length_map, List.length_map, List.length_take]
        exact small64 (by omega)
      · rintro j x ys σ' H'' hx ⟨rfl, ⟨v, rfl⟩, rfl⟩
        obtain ⟨hs, hhs, q, rfl, hq⟩ := h2b.get hx
        have hj := (List.getElem?_eq_some_iff.mp hhs).1
        have eh := (List.getElem?_eq_some_iff.mp hhs).2
        refine ⟨_, rfl, _, rfl, q, hs, z, rfl, hq, rfl, ⟨_, rfl⟩, ?_⟩
        rw [List.take_succ_eq_append_getElem hj, List.map_append, List.map_append, eh]
        rfl
      · rintro ys σ' Hb ⟨rfl, _, rfl⟩ l2 hl2
        have elen : ls.take xs.length = ls := by rw [← h2.length, List.take_length]
        rw [elen]
        have hne : (ls.map fun h => ((h.count z : Nat) : Int)) ≠ [] := fun e => by
          have : ls = [] := List.map_eq_nil_iff.mp e
          rw [this] at zm
          cases zm
        refine ⟨l2, _, rfl, SqL.of upd_same, hne, fun m hmx => ?_⟩
        have em := max_of_counts hmx
        have hM : maxC ls z ≤ 1000 := by
          have h1 := maxC_flat ls z
          have h2 := List.count_le_length (a := z) (l := ls.flatten)
          omega
        refine ⟨l1, m, [V.int z], rfl, rfl, Same.new hl2 _ _ gl1, by omega, by omega, ?_, fun l3 hl3 => ?_⟩
        · show 1 * m.toNat ≤ sizeLine
          refine Nat.le_trans (m := 1000) (by omega) (by decide)
        have er : (List.replicate m.toNat [V.int z]).flatten = (List.replicate (maxC ls z) z).map V.int := by
          have : m.toNat = maxC ls z := by omega
          rw [this]
          simp
        rw [er]
        have gp3 := (Same.new (o := .lst ((List.replicate (maxC ls z) z).map V.int)) hl3) _ _ ((Same.new (o := .lst ((ls.map fun h => ((h.count z : Nat) : Int)).map V.int)) hl2) _ _ gpb)
        have sn : Same H' (upd (upd Hb l2 (.lst ((ls.map fun h => ((h.count z : Nat) : Int)).map V.int))) l3 (.lst ((List.replicate (maxC ls z) z).map V.int))) := sb.trans ((Same.new hl2).trans (Same.new hl3))
        refine ⟨pa, l3, _, _, rfl, rfl, gp3, upd_same, ?_, ?_⟩
        · rw [List.length_map, List.length_map, List.length_replicate]
          refine Nat.le_trans (m := 1000 * 64 + 1000) ?_ (by decide)
          have : 1000 * i ≤ 1000 * 64 := Nat.mul_le_mul_left _ hi64
          omega
        · have eb : blow (maxC ls) (us.take (i + 1)) = blow (maxC ls) (us.take i) ++ List.replicate (maxC ls z) z := by
            rw [List.take_succ_eq_append_getElem hi, blow_append, ez]
            simp [blow]
          refine ⟨fun b o e ne => ?_, ?_, ?_, by omega, _, rfl⟩
          · rw [upd_ne ne]
            exact sn _ _ (kp _ _ e ne)
          · rw [upd_same, eb, List.map_append]
          · rw [eb, List.length_append, List.length_replicate]
            omega
    · rintro σ' H' ⟨kp, gp, hle, _, v, rfl⟩
      rw [List.length_map, List.take_length] at gp hle
      refine ⟨_, rfl, pa, _, rfl, .inl ⟨SqL.of gp, fun p hp => ?_⟩⟩
      have sH : Same H H' := fun b o e => kp _ _ (s01 _ _ e) (ne_of_none e hpa)
      refine k p _ _ upd_same (blow_join nd pw hm) (by omega) (sH.trans (Same.new hp)) (sH.free hp)
def n_joined_of : List Str := ["rule", "choice"]
theorem sc_joined_of : FnScope n_joined_of ["rule", "choice"] (defScope s_joined_of) := ⟨rfl, rfl, rfl, by decide +kernel, rfl, by decide +kernel, by decide +kernel⟩
def sp_joined_of : Sp := fun vs H Q _ => ∃ (p c : Addr) (rs : List V) (rule : List (List Int)) (ch : List Int), vs = [.ref p, .ref c] ∧ H p = some (.tup rs) ∧ All2 Tup1 H rule rs ∧ H c = some (.tup (ch.map V.int)) ∧
  (((∃ D : List Int, D.length < 64 ∧ ∀ x ∈ (pickG rule ch).flatten, x ∈ D) ∧ (pickG rule ch).flatten.length < 1000) ∧ ch.length ≤ 60) ∧ (∀ j ∈ ch, 0 ≤ j ∧ j < rule.length) ∧
  ∀ (q : Addr) (ms : List Int) (H' : Hp), H' q = some (.tup (ms.map V.int)) → IsJoin (pickG rule ch) ms → ms.length ≤ 100000 → Same H H' → H q = none → Q (.ref q) H'
theorem ok_joined_of (T : Txt K mg A) : FnOk P w K mg base CX0 3 A.a_joined_of A.fd_joined_of ["rule", "choice"] sp_joined_of := by
  refine T.F_joined_of.ok sc_joined_of (fun vs H Q E h => ?_) (fun cdv Ar outer s H vs Q E hr h => ?_)
  · obtain ⟨p, c, rs, rule, ch, rfl, hp, h2, hc, hln, hch, k⟩ := h
    rfl
  · obtain ⟨p, c, rs, rule, ch, rfl, hp, h2, hc, hln, hch, k⟩ := h
    refine ⟨_, (pss_one (ps_ret (pe_call (ok_joined T) (hr.mono (by decide)) rfl T.g_joined T.F_joined.kp T.b_joined .nil pass0 (pa_cons (pe_comp (ls := ["number"]) (fr := [("rule", 0)]) (cs_of (defScope s_joined_of) n_joined_of rfl rfl (by decide +kernel)) rfl (pi_tup (pv 1)) (fun _ _ _ _ => pgc 0 (by decide +kernel) rfl rfl) (fun _ _ _ _ => pf_nil) (fun _ _ _ _ => (pe_ix (ix_tupK K rfl) (pvc (defScope s_joined_of) 1) (pvc (defScope s_joined_of) 0) (fun _ _ => rfl)))) pa_nil)))), ?_⟩
    refine ⟨_, rfl, c, rfl, ⟨_, SqT.of hc⟩, comp_tup (xs := ch.map V.int) (fun i ys σ' H' => H' = H ∧ (∃ v, σ' = [v, some (.ref p)]) ∧ All2 Tup1 H (pickG rule (ch.take i)) ys) ⟨rfl, ⟨_, rfl⟩, .nil⟩ ?_ ?_ ?_⟩
    · rintro i ys σ' H' hi ⟨rfl, _, h3⟩
      refine ⟨SqT.of hc, ?_⟩
      rw [← h3.length]
      unfold pickG
      rw [List.length_map, List.length_take]
      exact small64 (by omega)
    · rintro i x ys σ' H' hx ⟨rfl, ⟨v, rfl⟩, h3⟩
      obtain ⟨z, hz, rfl⟩ := map_at hx
      have hi := (List.getElem?_eq_some_iff.mp hz).1
      have ez := (List.getElem?_eq_some_iff.mp hz).2
      have hb := hch z (List.mem_of_getElem? hz)
      obtain ⟨w', hw, r⟩ := pick_at h2 hb.1 hb.2
      refine ⟨_, rfl, _, rfl, p, _, z, _, rfl, rfl, SqT.of hp, hw, rfl, ⟨_, rfl⟩, ?_⟩
      rw [List.take_succ_eq_append_getElem hi, ez]
      unfold pickG
      rw [List.map_append]
      exact h3.snoc r
    · rintro ys σ' H' ⟨rfl, _, h3⟩ l hl
      rw [List.length_map, List.take_length] at h3
      have hll : (pickG rule ch).length ≤ 60 := by unfold pickG; rw [List.length_map]; exact hln.2
      exact ⟨l, ys, _, rfl, upd_same, h3.mv (Same.new hl).tups, hln.1, hll, fun q ms H2 gq hj hl4 s nq => k q ms H2 gq hj hl4 ((Same.new hl).trans s) ((Same.new hl).free nq)⟩
def n_next_way : List Str := ["ways", "n", "total", "sign", "m"]
theorem sc_next_way : FnScope n_next_way ["ways"] (defScope s_next_way) := ⟨rfl, rfl, rfl, by decide +kernel, rfl, by decide +kernel, by decide +kernel⟩
def sp_next_way : Sp := fun vs H Q _ => ∃ (l : Addr) (n : Nat), vs = [.ref l] ∧ H l = some (.lst ((wayR n).reverse.map V.int)) ∧ n ≤ 400 ∧ Q (.int (nextR (wayR n) (n + 1 : Nat) (n + 3) 1 1 0)) H
theorem ok_next_way (T : Txt K mg A) : FnOk P w K mg base CX0 1 A.a_next_way A.fd_next_way ["ways"] sp_next_way := by
  refine T.F_next_way.ok sc_next_way (fun vs H Q E h => ?_) (fun cdv Ar outer s H vs Q E hr h => ?_)
  · obtain ⟨l, n, rfl, hl, hn, k⟩ := h
    rfl
  · obtain ⟨l, n, rfl, hl, hn, k⟩ := h
    refine ⟨_, (pss_cons (ps_set (i := 1) sc_next_way.nd rfl (by first | exact Or.inl rfl | exact Or.inr rfl) (pe_callB call_len_seq rfl T.b_len PySem.boot_len (pa_cons (pv 0) pa_nil)))
        (pss_cons (ps_set (i := 2) sc_next_way.nd rfl (by first | exact Or.inl rfl | exact Or.inr rfl) pe_int)
        (pss_cons (ps_set (i := 3) sc_next_way.nd rfl (by first | exact Or.inl rfl | exact Or.inr rfl) pe_int)
        (pss_cons (ps_set (i := 4) sc_next_way.nd rfl (by first | exact Or.inl rfl | exact Or.inr rfl) pe_int)
        (pss_cons (ps_while PassesOwn.never (pt_cmpR op_le (pe_op op_fdivB (pe_op op_mul (pv 4) (pe_op op_sub (pe_op op_mul pe_int (pv 4)) pe_int)) pe_int) (pv 1) (nomark _))
          (pss_cons (ps_aug (i := 2) sc_next_way.nd rfl (by first | exact Or.inl rfl | exact Or.inr rfl) (pe_op op_mul (pv 3) (pe_ix ix_list (pv 0) (pe_op op_sub (pv 1) (pe_op op_fdivB (pe_op op_mul (pv 4) (pe_op op_sub (pe_op op_mul pe_int (pv 4)) pe_int)) pe_int)) (fun _ _ => rfl))) ip_add)
        (pss_cons (ps_if (pt_cmpR op_le (pe_op op_fdivB (pe_op op_mul (pv 4) (pe_op op_add (pe_op op_mul pe_int (pv 4)) pe_int)) pe_int) (pv 1) (nomark _))
          (pss_one (ps_aug (i := 2) sc_next_way.nd rfl (by first | exact Or.inl rfl | exact Or.inr rfl) (pe_op op_mul (pv 3) (pe_ix ix_list (pv 0) (pe_op op_sub (pv 1) (pe_op op_fdivB (pe_op op_mul (pv 4) (pe_op op_add (pe_op op_mul pe_int (pv 4)) pe_int)) pe_int)) (fun _ _ => rfl))) ip_add)) pss_nil)
        (pss_cons (ps_set (i := 3) sc_next_way.nd rfl (by first | exact Or.inl rfl | exact Or.inr rfl) (pe_un un_neg (pv 3)))
        (pss_one (ps_aug (i := 4) sc_next_way.nd rfl (by first | exact Or.inl rfl | exact Or.inr rfl) pe_int ip_add))))))
        (pss_one (ps_ret (pv 2)))))))), ?_⟩
    have hlen : ((wayR n).reverse.map V.int).length = n + 1 := by rw [List.length_map, List.length_reverse, wayR_len]
    refine ⟨_, rfl, l, _, rfl, .inl (SqL.of hl), ?_⟩
    rw [hlen]
    refine ⟨fun f σ' H' => H' = H ∧ ∃ (m s t : Int), σ' = [some (.ref l), some (.int ((n + 1 : Nat) : Int)), some (.int t), some (.int s), some (.int m)] ∧ 1 ≤ m ∧ m ≤ n + 2 ∧ (n : Int) + 3 ≤ m + f ∧ (s = 1 ∨ s = -1) ∧ nextR (wayR n) (n + 1 : Nat) f m s t = nextR (wayR n) (n + 1 : Nat) (n + 3) 1 1 0, ⟨n + 3, rfl, 1, 1, 0, rfl, by decide, by omega, by omega, .inl rfl, rfl⟩, ?_⟩
    rintro f σ' H' ⟨eH, m, s, t, rfl, m1, m2, hf, hs, ht⟩
    subst eH
    have hw := wayR_len n
    refine ⟨_, rfl, _, rfl, _, _, rfl, rfl, .inl (by decide), _, _, rfl, rfl, _, _, rfl, rfl, .inl ⟨by omega, by omega⟩, _, _, rfl, rfl, ⟨by decide, by decide⟩, _, rfl, _, _, rfl, rfl, _, rfl, ?_⟩
    refine ite2 (fun hA => ?_) (fun hA => ?_)
    · have hA' : pentA m ≤ ((n + 1 : Nat) : Int) := of_decide_eq_true hA
      have gA := pentA_ge m1
      have gB := pentB_ge m1
      have hsb : -(2 ^ 64) < s ∧ s < 2 ^ 64 := by rcases hs with rfl | rfl <;> exact ⟨by decide, by decide⟩
      obtain ⟨g, rfl⟩ : ∃ g, f = g + 1 := ⟨f - 1, by omega⟩
      rw [nextR, if_pos hA'] at ht
      refine ⟨fun σ3 H3 => H3 = H' ∧ σ3 = [some (.ref l), some (.int ((n + 1 : Nat) : Int)), some (.int (if pentB m ≤ ((n + 1 : Nat) : Int) then t + s * nth19 (wayR n) (pentA m - 1).toNat + s * nth19 (wayR n) (pentB m - 1).toNat else t + s * nth19 (wayR n) (pentA m - 1).toNat)), some (.int (-s)), some (.int (m + 1))], fun σ3 H3 ⟨e1, e3⟩ => ⟨g, by omega, e1, m + 1, -s, _, e3, by omega, by omega, by omega, (by rcases hs with rfl | rfl; exact .inr rfl; exact .inl rfl), ht⟩, ?_⟩
      refine ⟨_, rfl, _, rfl, _, rfl, _, rfl, _, rfl, _, rfl, _, _, rfl, rfl, .inl (by decide), _, _, rfl, rfl, _, _, rfl, rfl, .inl ⟨by omega, by omega⟩, _, _, rfl, rfl, ⟨by decide, by decide⟩, _, _, rfl, rfl, l, _, _, _, rfl, rfl, SqL.of hl, way_get (q := pentA m) hw (by omega) hA', _, _, rfl, rfl, .inl hsb, _, _, rfl, rfl, ?_⟩
      refine ⟨_, rfl, _, rfl, _, _, rfl, rfl, .inl (by decide), _, _, rfl, rfl, _, _, rfl, rfl, .inl ⟨by omega, by omega⟩, _, _, rfl, rfl, ⟨by decide, by decide⟩, _, rfl, _, _, rfl, rfl, _, rfl, ?_⟩
      refine ite2 (fun hB => ?_) (fun hB => ?_)
      · have hB' : pentB m ≤ ((n + 1 : Nat) : Int) := of_decide_eq_true hB
        refine ⟨_, rfl, _, rfl, _, rfl, _, rfl, _, rfl, _, rfl, _, _, rfl, rfl, .inl (by decide), _, _, rfl, rfl, _, _, rfl, rfl, .inl ⟨by omega, by omega⟩, _, _, rfl, rfl, ⟨by decide, by decide⟩, _, _, rfl, rfl, l, _, _, _, rfl, rfl, SqL.of hl, way_get (q := pentB m) hw (by omega) hB', _, _, rfl, rfl, .inl hsb, _, _, rfl, rfl, ?_⟩
        rw [if_pos hB']
        exact ⟨_, rfl, _, rfl, _, rfl, _, _, rfl, rfl, rfl, rfl⟩
      · have hB' : ¬ pentB m ≤ ((n + 1 : Nat) : Int) := fun z => hB (decide_eq_true z)
        rw [if_neg hB']
        exact ⟨_, rfl, _, rfl, _, rfl, _, _, rfl, rfl, rfl, rfl⟩
    · have hA' : ¬ pentA m ≤ ((n + 1 : Nat) : Int) := fun z => hA (decide_eq_true z)
      rw [nextR_stop _ _ _ _ _ _ hA'] at ht
      refine ⟨_, rfl, ?_⟩
      rw [ht]
      exact k
def n_ways_to : List Str := ["n", "ways"]
theorem sc_ways_to : FnScope n_ways_to ["n"] (defScope s_ways_to) := ⟨rfl, rfl, rfl, by decide +kernel, rfl, by decide +kernel, by decide +kernel⟩
def sp_ways_to : Sp := fun vs H Q _ => ∃ (n : Nat), vs = [.int n] ∧ n ≤ 400 ∧ ∀ (l : Addr) (H' : Hp), H' l = some (.lst ((wayR n).reverse.map V.int)) → Same H H' → H l = none → Q (.ref l) H'
theorem ok_ways_to (T : Txt K mg A) : FnOk P w K mg base CX0 2 A.a_ways_to A.fd_ways_to ["n"] sp_ways_to := by
  refine T.F_ways_to.ok sc_ways_to (fun vs H Q E h => ?_) (fun cdv Ar outer s H vs Q E hr h => ?_)
  · obtain ⟨n, rfl, hn, k⟩ := h
    rfl
  · obtain ⟨n, rfl, hn, k⟩ := h
    refine ⟨_, (pss_cons (ps_set (i := 1) sc_ways_to.nd rfl (by first | exact Or.inl rfl | exact Or.inr rfl) (pe_lst (pa_cons pe_int pa_nil)))
        (pss_cons (ps_while PassesOwn.never (pt_cmpR op_le (pe_callB call_len_seq rfl T.b_len PySem.boot_len (pa_cons (pv 1) pa_nil)) (pv 0) (nomark _))
          (pss_one (ps_expr (pe_bm PySem.F.plainAttrs_list PySem.F.slot_list_append PySem.F.type_list_append mt_append (pv 1) (pa_cons (pe_call (ok_next_way T) (hr.mono (by decide)) rfl T.g_next_way T.F_next_way.kp T.b_next_way .nil pass0 (pa_cons (pv 1) pa_nil)) pa_nil)))))
        (pss_one (ps_ret (pv 1))))), ?_⟩
    refine ⟨by show 1 ≤ sizeLine; decide, fun l hl => ?_⟩
    refine ⟨fun f σ' H' => ∃ i : Nat, i ≤ n ∧ f = n - i ∧ σ' = [some (.int n), some (.ref l)] ∧ H' l = some (.lst ((wayR i).reverse.map V.int)) ∧ Same H H', ⟨n, 0, Nat.zero_le _, rfl, rfl, upd_same, Same.new hl⟩, ?_⟩
    rintro f σ' H' ⟨i, hi, rfl, rfl, g, s⟩
    have hlen : ((wayR i).reverse.map V.int).length = i + 1 := by rw [List.length_map, List.length_reverse, wayR_len]
    refine ⟨_, rfl, l, _, rfl, .inl (SqL.of g), _, rfl, _, _, rfl, rfl, _, rfl, ?_⟩
    rw [hlen]
    refine ite2 (fun hc => ?_) (fun hc => ?_)
    · have hc' : ((i + 1 : Nat) : Int) ≤ (n : Int) := of_decide_eq_true hc
      refine ⟨fun σ3 H3 => σ3 = [some (.int n), some (.ref l)] ∧ H3 l = some (.lst ((wayR (i + 1)).reverse.map V.int)) ∧ Same H H3, fun σ3 H3 ⟨e1, e2, e3⟩ => ⟨n - (i + 1), by omega, i + 1, by omega, rfl, e1, e2, e3⟩, ?_⟩
      refine ⟨_, rfl, .inl ⟨rfl, _, SqL.of g⟩, _, rfl, l, i, rfl, g, by omega, ?_⟩
      refine ⟨l, _, _, rfl, rfl, g, ?_, rfl, ?_, fun b o e => ?_⟩
      · rw [hlen]
        exact Nat.lt_of_lt_of_le (m := 402) (by omega) (by decide)
      · rw [upd_same, wayR, List.reverse_cons, List.map_append]
        rfl
      · rw [upd_ne (ne_of_none e hl)]
        exact s _ _ e
    · have hc' : ¬ ((i + 1 : Nat) : Int) ≤ (n : Int) := fun z => hc (decide_eq_true z)
      have e : i = n := by omega
      subst e
      exact ⟨_, rfl, k l H' g s hl⟩
def n_count_of : List Str := ["rule", "n", "ways", "total", "choice", "heap"]
theorem sc_count_of : FnScope n_count_of ["rule", "n"] (defScope s_count_of) := ⟨rfl, rfl, rfl, by decide +kernel, rfl, by decide +kernel, by decide +kernel⟩
def sp_count_of (A : Adr) : Sp := fun vs H Q E => ∃ (p : Addr) (rs : List V) (rule : List (List Int)) (n : Int), vs = [.ref p, .int n] ∧ H p = some (.tup rs) ∧ All2 Tup1 H rule rs ∧ rule.length ≤ 6 ∧ RuleJ rule ∧
  ((∃ m : Nat, n = m ∧ m ≤ 400 ∧ ∀ H', Same H H' → Q (.int (signedX rule (wayF m) m (chG (upto rule.length)))) H') ∨ ((n < 0 ∨ 400 < n) ∧ E (.ref A.c_NoSum) none H))
theorem ok_count_of (T : Txt K mg A) : FnOk P w K mg base (CX1 P w) 4 A.a_count_of A.fd_count_of ["rule", "n"] (sp_count_of A) := by
  refine T.F_count_of.okE sc_count_of (fun vs H Q E h => ?_) (fun cdv Ar outer s H vs Q E hr h => ?_)
  · obtain ⟨p, rs, rule, n, rfl, hp, h2, hln, hJ, h⟩ := h
    rfl
  · obtain ⟨p, rs, rule, n, rfl, hp, h2, hln, hJ, h⟩ := h
    refine ⟨_, (pss_cons (ps_expr (pe_call (ok_refuse_beyond T) (hr.mono (by decide)) rfl T.g_refuse_beyond T.F_refuse_beyond.kp T.b_refuse_beyond .nil passE (pa_cons (pv 1) (pa_cons (pe_glob (v := .int 400) rfl T.v_MOST_COUNTED.choose_spec ⟨_, rfl⟩) pa_nil))))
        (pss_cons (ps_set (i := 2) sc_count_of.nd rfl (by first | exact Or.inl rfl | exact Or.inr rfl) (pe_call (ok_ways_to T) (hr.mono (by decide)) rfl T.g_ways_to T.F_ways_to.kp T.b_ways_to .nil pass0 (pa_cons (pv 1) pa_nil)))
        (pss_cons (ps_set (i := 3) sc_count_of.nd rfl (by first | exact Or.inl rfl | exact Or.inr rfl) pe_int)
        (pss_cons (ps_ok fun ok => ps_for (ownE ok) rfl (pi_list (pe_call (ok_choices_of T) (hr.mono (by decide)) rfl T.g_choices_of T.F_choices_of.kp T.b_choices_of .nil pass0 (pa_cons (pv 0) pa_nil))) (pg_name (i := 4) sc_count_of.nd rfl (by first | exact Or.inl rfl | exact Or.inr rfl))
          (pss_cons (ps_set (i := 5) sc_count_of.nd rfl (by first | exact Or.inl rfl | exact Or.inr rfl) (pe_call (ok_joined_of T) (hr.mono (by decide)) rfl T.g_joined_of T.F_joined_of.kp T.b_joined_of .nil pass0 (pa_cons (pv 0) (pa_cons (pv 4) pa_nil))))
        (pss_one (ps_if (pt_cmpR op_le (pe_call (ok_sum_of T) (hr.mono (by decide)) rfl T.g_sum_of T.F_sum_of.kp T.b_sum_of .nil pass0 (pa_cons (pv 5) pa_nil)) (pv 1) (nomark _))
          (pss_one (ps_aug (i := 3) sc_count_of.nd rfl (by first | exact Or.inl rfl | exact Or.inr rfl) (pe_op op_mul (pe_call (ok_sign_of T) (hr.mono (by decide)) rfl T.g_sign_of T.F_sign_of.kp T.b_sign_of .nil pass0 (pa_cons (pe_tup (pa_cons (pv 5) (pa_cons (pv 4) pa_nil))) pa_nil)) (pe_ix ix_list (pv 2) (pe_op op_sub (pv 1) (pe_call (ok_sum_of T) (hr.mono (by decide)) rfl T.g_sum_of T.F_sum_of.kp T.b_sum_of .nil pass0 (pa_cons (pv 5) pa_nil))) (fun _ _ => rfl))) ip_add)) pss_nil))))
        (pss_one (ps_ret (pv 3))))))), ?_⟩
    rcases h with ⟨m, rfl, hm, k⟩ | ⟨hb, hE⟩
    · refine ⟨_, rfl, (m : Int), 400, rfl, ⟨by decide, by decide⟩, .inl ⟨by omega, by omega, ?_⟩⟩
      refine ⟨_, rfl, m, rfl, hm, fun w H1 gw s1 nw => ?_⟩
      have hrl := h2.length
      refine ⟨_, rfl, p, rs, rfl, s1 _ _ hp, by omega, fun cl cs H2 gc h4 s2 ncl => ?_⟩
      rw [← hrl] at h4
      have hcl := h4.length
      have s12 := s1.trans s2
      refine ⟨cl, rfl, ⟨_, SqL.of gc⟩, for_list (xs := cs) (fun i σ' H' => Same H2 H' ∧ i ≤ cs.length ∧ ∃ v4 v5, σ' = [some (.ref p), some (.int m), some (.ref w), some (.int (signedX rule (wayF m) m ((chG (upto rule.length)).take i))), v4, v5]) ⟨fun _ _ z => z, Nat.zero_le _, _, _, rfl⟩ ?_ ?_ ?_⟩
      · rintro i σ' H' _ ⟨s', _⟩
        exact SqL.of (s' _ _ gc)
      · rintro i x σ' H' hx ⟨s', hi', v4, v5, rfl⟩
        obtain ⟨ch, hch, c, rfl, gcc⟩ := h4.get hx
        have hi := (List.getElem?_eq_some_iff.mp hx).1
        have s02 := s12.trans s'
        obtain ⟨cm1, cm2⟩ := chG_mem rule.length (upto rule.length) (upto_len _) ch (List.mem_of_getElem? hch)
        have chb : ∀ j ∈ ch, 0 ≤ j ∧ j < rule.length := fun j hj => by
          have := upto_mem (cm2 j hj)
          omega
        have etake : (chG (upto rule.length)).take (i + 1) = (chG (upto rule.length)).take i ++ [ch] := by rw [List.take_succ, hch]; rfl
        refine ⟨_, rfl, _, rfl, p, c, rs, rule, ch, rfl, s02 _ _ hp, h2.mv s02.tups, s' _ _ gcc, ⟨hJ.pick (by omega), by omega⟩, chb, fun q ms H4 gq hj hl4 s4 nq => ?_⟩
        have ej := joinX_eq hj
        have nn := joinX_nonneg hJ ch
        rw [ej] at nn
        refine ⟨_, rfl, q, ms, rfl, SqT.of gq, _, rfl, _, _, rfl, rfl, _, rfl, ite2 (fun hc => ?_) (fun hc => ?_)⟩
        · have hc' : ms.sum ≤ (m : Int) := of_decide_eq_true hc
          refine ⟨_, rfl, _, rfl, _, rfl, by show 2 ≤ sizeLine; decide, fun T1 hT1 => ?_⟩
          have s5 := Same.new (o := .tup [V.ref q, V.ref c]) hT1
          refine ⟨(ms, ch), _, rfl, ⟨T1, q, c, rfl, upd_same, s5 _ _ gq, s5 _ _ (s4 _ _ (s' _ _ gcc))⟩, ?_⟩
          have gw5 := s5 _ _ (s4 _ _ (s' _ _ (s2 _ _ gw)))
          have hw := wayR_len m
          have hsub : (m : Int) - ms.sum = ((m - ms.sum.toNat : Nat) : Int) := by omega
          have hlt : m - ms.sum.toNat < (wayR m).reverse.length := by rw [List.length_reverse]; omega
          have hsg : -(2 ^ 64) < sgnG ch ∧ sgnG ch < 2 ^ 64 := by unfold sgnG; split <;> exact ⟨by decide, by decide⟩
          refine ⟨_, rfl, _, rfl, _, rfl, q, ms, rfl, SqT.of (s5 _ _ gq), _, _, rfl, rfl, w, _, _, V.int (wayF m (m - ms.sum.toNat)), rfl, rfl, SqL.of gw5, ?_, _, _, rfl, rfl, .inl hsg, _, _, rfl, rfl, ?_⟩
          · rw [hsub]
            refine atI_nat ?_
            unfold wayF
            rw [List.getElem?_map, List.getD_eq_getElem?_getD, List.getElem?_eq_getElem hlt]
            rfl
          · refine ⟨s'.trans (s4.trans s5), by omega, some (.ref c), some (.ref q), ?_⟩
            rw [etake, signedX_snoc, ej, if_pos hc']
            rfl
        · have hc' : ¬ ms.sum ≤ (m : Int) := fun z => hc (decide_eq_true z)
          refine ⟨s'.trans s4, by omega, some (.ref c), some (.ref q), ?_⟩
          rw [etake, signedX_snoc, ej, if_neg hc', Int.mul_zero, Int.add_zero]
          rfl
      · rintro σ' H' ⟨s', _, v4, v5, rfl⟩
        rw [← hcl, List.take_length]
        exact ⟨_, rfl, k H' (s12.trans s')⟩
    · exact ⟨_, rfl, n, 400, rfl, ⟨by decide, by decide⟩, .inr ⟨hb, hE⟩⟩
def n__law_start : List Str := ["_law_script", "_law_great"]
theorem sc__law_start : FnScope n__law_start ["_law_script"] (defScope s__law_start) := ⟨rfl, rfl, rfl, by decide +kernel, rfl, by decide +kernel, by decide +kernel⟩
def sp_start (K : PySem.W.Frag) : Sp := fun vs H Q _ => ∃ (a : Addr) (ns : List Int), vs = [.ref a] ∧ SqL K H a (ns.map V.int) ∧ ns.length ≤ 63 ∧
  ∀ (st ga ca : Addr) (H' : Hp), StAt H' st ga ca 0 → H st = none → H ga = none → H ca = none → Same H H' → Q (.ref st) H'
theorem ok__law_start (T : Txt K mg A) : FnOk P w K mg base CX0 1 A.a__law_start A.fd__law_start ["_law_script"] (sp_start K) := by
  refine T.F__law_start.ok sc__law_start (fun vs H Q E h => ?_) (fun cdv Ar outer s H vs Q E hr h => ?_)
  · obtain ⟨a, ns, rfl, hS, hl, k⟩ := h
    rfl
  · obtain ⟨a, ns, rfl, hS, hl, k⟩ := h
    refine ⟨_, (pss_cons (ps_comp (i := 1) (ls := ["_law_cell"]) (fr := []) (cs_of (defScope s__law_start) n__law_start rfl rfl (by decide +kernel)) rfl (pi_list (pv 0)) (fun _ _ _ _ => pgc 0 (by decide +kernel) rfl rfl) (fun _ _ _ _ => pf_one (pt_cmpR op_ge (pvc (defScope s__law_start) 0) (pe_op op_pow pe_int pe_int) (nomark _))) (fun _ _ _ _ => (pvc (defScope s__law_start) 0)) sc__law_start.nd rfl rfl rfl)
        (pss_one (ps_ret (pe_lst (pa_cons (pv 1) (pa_cons pe_int (pa_cons (pe_comp (ls := ["_law_cell"]) (fr := []) (cs_of (defScope s__law_start) n__law_start rfl rfl (by decide +kernel)) rfl (pi_list (pv 0)) (fun _ _ _ _ => pgc 0 (by decide +kernel) rfl rfl) (fun _ _ _ _ => pf_nil) (fun _ _ _ _ => (pe_op op_mod (pvc (defScope s__law_start) 0) pe_int))) (pa_cons pe_int pa_nil)))))))), ?_⟩
    refine ⟨_, rfl, a, rfl, ⟨_, hS⟩, comp_list (xs := ns.map V.int) (fun i ys σ' H' => H' = H ∧ (∃ v, σ' = [v]) ∧ ∃ gs : List Int, ys = gs.map V.int ∧ gs.length ≤ i ∧ ∀ x ∈ gs, 0 < x) ⟨rfl, ⟨_, rfl⟩, [], rfl, Nat.zero_le _, fun _ hx => nomatch hx⟩ ?_ ?_ ?_⟩
    · rintro i ys σ' H' hi ⟨rfl, _, gs, rfl, hg, _⟩
      refine ⟨hS, ?_⟩
      rw [List.length_map] at hi ⊢
      exact Nat.le_trans (Nat.le_trans hg (Nat.le_trans hi hl)) (by decide)
    · rintro i x ys σ' H' hx ⟨rfl, ⟨v, rfl⟩, gs, rfl, hg, hp⟩
      rw [List.getElem?_map] at hx
      cases hn : ns[i]? with
      | none => rw [hn] at hx; cases hx
      | some z =>
        rw [hn] at hx
        cases hx
        refine ⟨_, rfl, _, _, rfl, rfl, ⟨by decide, by decide, by decide⟩, _, _, rfl, rfl, _, rfl, ?_⟩
        refine ite2 (fun hz => ⟨_, rfl, rfl, ⟨_, rfl⟩, gs ++ [z], by simp, by simp; exact hg, fun y hy => ?_⟩) (fun hz => ⟨rfl, ⟨_, rfl⟩, gs, rfl, Nat.le_succ_of_le hg, hp⟩)
        rcases List.mem_append.mp hy with hy | hy
        · exact hp y hy
        · have : y = z := by simpa using hy
          subst this
          exact Int.lt_of_lt_of_le (by decide) (of_decide_eq_true hz)
    · rintro ys σ' H' ⟨rfl, _, gs, rfl, hg, hp⟩ g0 hg0
      rw [List.length_map] at hg
      have s1 : Same H' (upd H' g0 (.lst (gs.map V.int))) := Same.new hg0
      refine ⟨_, rfl, _, rfl, a, rfl, ⟨_, s1.seq hS⟩, comp_list (xs := ns.map V.int) (fun i ys σ' H2 => H2 = upd H' g0 (.lst (gs.map V.int)) ∧ (∃ v, σ' = [v]) ∧ ∃ cs : List Int, ys = cs.map V.int ∧ cs.length = i) ⟨rfl, ⟨_, rfl⟩, [], rfl, rfl⟩ ?_ ?_ ?_⟩
      · rintro i ys σ' H2 hi ⟨rfl, _, cs, rfl, hc⟩
        refine ⟨s1.seq hS, ?_⟩
        rw [List.length_map] at hi ⊢
        exact Nat.le_trans (Nat.le_trans (Nat.le_of_eq hc) (Nat.le_trans hi hl)) (by decide)
      · rintro i x ys σ' H2 hx ⟨rfl, ⟨v, rfl⟩, cs, rfl, hc⟩
        rw [List.getElem?_map] at hx
        cases hn : ns[i]? with
        | none => rw [hn] at hx; cases hx
        | some z =>
          rw [hn] at hx
          cases hx
          refine ⟨_, rfl, _, _, rfl, rfl, (by show (0 : Int) < 2147483629; decide), rfl, ⟨_, rfl⟩, cs ++ [z % 2147483629], by simp, by simp [hc]⟩
      · rintro ys σ' H2 ⟨rfl, _, cs, rfl, hc⟩ c0 hc0
        refine ⟨by show 4 ≤ sizeLine; decide, fun st hst => ?_⟩
        have n1 : g0 ≠ c0 := fun z => by rw [← z, upd_same] at hc0; cases hc0
        have n2 : st ≠ c0 := fun z => by rw [z, upd_same] at hst; cases hst
        have hst1 : upd H' g0 (.lst (gs.map V.int)) st = none := by rw [upd_ne n2] at hst; exact hst
        have n3 : st ≠ g0 := fun z => by rw [z, upd_same] at hst1; cases hst1
        refine k st g0 c0 _ ⟨⟨gs, cs, 0, 0, upd_same, ?_, ?_, Nat.le_trans hg hl, hp, Int.le_refl _, Int.le_refl _, Int.le_refl _⟩, n1, n3, n2⟩ ?_ hg0 ?_ (s1.trans ((Same.new hc0).trans (Same.new hst)))
        · rw [upd_ne n3.symm, upd_ne n1, upd_same]
        · rw [upd_ne n2.symm, upd_same]
        · rw [upd_ne n3] at hst1; exact hst1
        · rw [upd_ne n1.symm] at hc0; exact hc0
def n__law_mix : List Str := ["_law_state", "_law_count", "_law_cell", "_law_stirred"]
theorem sc__law_mix : FnScope n__law_mix ["_law_state"] (defScope s__law_mix) := ⟨rfl, rfl, rfl, by decide +kernel, rfl, by decide +kernel, by decide +kernel⟩
def sp_mix : Sp := fun vs H Q _ => ∃ (st ga ca : Addr) (N : Nat), vs = [.ref st] ∧ StAt H st ga ca N ∧ N ≤ 10 ^ 9 ∧
  ∀ (r : Int) (H' : Hp), 0 ≤ r → StAt H' st ga ca (N + 1) → Keep [st, ga] H H' → Q (.int r) H'
theorem ok__law_mix (T : Txt K mg A) : FnOk P w K mg base CX0 1 A.a__law_mix A.fd__law_mix ["_law_state"] sp_mix := by
  refine T.F__law_mix.ok sc__law_mix (fun vs H Q E h => ?_) (fun cdv Ar outer s H vs Q E hr h => ?_)
  · obtain ⟨st, ga, ca, N, rfl, S, hN, k⟩ := h
    rfl
  · obtain ⟨st, ga, ca, N, rfl, S, hN, k⟩ := h
    refine ⟨_, (pss_cons (ps_augS (pv 0) pe_int get_list pe_int ip_add set_list)
        (pss_cons (ps_set (i := 1) sc__law_mix.nd rfl (by first | exact Or.inl rfl | exact Or.inr rfl) (pe_ix ix_list (pv 0) pe_int (fun _ _ => rfl)))
        (pss_cons (ps_set (i := 2) sc__law_mix.nd rfl (by first | exact Or.inl rfl | exact Or.inr rfl) pe_int)
        (pss_cons (ps_if (pt_truth (pe_ix ix_list (pv 0) pe_int (fun _ _ => rfl)) (fun _ => rfl))
          (pss_one (ps_set (i := 2) sc__law_mix.nd rfl (by first | exact Or.inl rfl | exact Or.inr rfl) (pe_ix ix_list (pe_ix ix_list (pv 0) pe_int (fun _ _ => rfl)) (pe_op op_mod (pv 1) (pe_callB call_len_seq rfl T.b_len PySem.boot_len (pa_cons (pe_ix ix_list (pv 0) pe_int (fun _ _ => rfl)) pa_nil))) (fun _ _ => rfl)))) pss_nil)
        (pss_cons (ps_set (i := 3) sc__law_mix.nd rfl (by first | exact Or.inl rfl | exact Or.inr rfl) (pe_op op_mod (pe_op op_mul (pe_op op_add (pe_op op_add (pe_op op_add (pv 2) (pe_op op_mul (pe_op op_mul pe_int (pv 1)) (pv 1))) (pe_op op_mul pe_int (pv 1))) pe_int) pe_int) pe_int))
        (pss_one (ps_ret (pe_op op_mod (pe_op op_mul (pe_op op_add (pe_op op_add (pv 3) (pe_op op_mul pe_int (pv 1))) pe_int) pe_int) pe_int)))))))), ?_⟩
    obtain ⟨⟨gs, cs, q, n, h1, h2, h3, h4, h5, h6, h7, h8⟩, gc, sg, sc⟩ := S
    have hn : -(2 ^ 64) < n + 1 ∧ n + 1 < 2 ^ 64 := by omega
    refine ⟨_, rfl, st, _, 3, _, rfl, rfl, SqL.of h1, by decide, rfl, _, _, rfl, rfl, st, _, 3, 3, rfl, rfl, h1, rfl, ?_⟩
    have e1 : upd H st (.lst ([V.ref ga, V.int q, V.ref ca, V.int n].set 3 (V.int (n + 1)))) st = some (.lst [.ref ga, .int q, .ref ca, .int (n + 1)]) := upd_same
    refine ⟨_, rfl, st, _, 3, _, rfl, rfl, SqL.of e1, rfl, ?_⟩
    refine ⟨_, rfl, st, _, 2, _, rfl, rfl, SqL.of e1, rfl, ?_⟩
    have e3 : upd H st (.lst ([V.ref ga, V.int q, V.ref ca, V.int n].set 3 (V.int (n + 1)))) ca = some (.lst (cs.map V.int)) := by rw [upd_ne sc.symm]; exact h3
    have e2 : upd H st (.lst ([V.ref ga, V.int q, V.ref ca, V.int n].set 3 (V.int (n + 1)))) ga = some (.lst (gs.map V.int)) := by rw [upd_ne sg.symm]; exact h2
    refine ⟨_, Or.inl ⟨_, SqL.of e3, rfl⟩, ?_⟩
    have fin : ∀ (c : Int), (tSeq (tAsg (tOp (rI (fun _ j => 0 < j) fun i j => V.int (i % j)) (tOp (rI CMul fun i j => V.int (i * j)) (tOp (rI0 fun i j => V.int (i + j)) (tOp (rI0 fun i j => V.int (i + j)) (tOp (rI0 fun i j => V.int (i + j)) (tVar 2) (tOp (rI CMul fun i j => V.int (i * j)) (tOp (rI CMul fun i j => V.int (i * j)) (tC (V.int 7)) (tVar 1)) (tVar 1))) (tOp (rI CMul fun i j => V.int (i * j)) (tC (V.int 13)) (tVar 1))) (tC (V.int 5))) (tC (V.int 1220703125))) (tC (V.int 2147483647))) (gName 3))
        (tRet (tOp (rI (fun _ j => 0 < j) fun i j => V.int (i % j)) (tOp (rI CMul fun i j => V.int (i * j)) (tOp (rI0 fun i j => V.int (i + j)) (tOp (rI0 fun i j => V.int (i + j)) (tVar 3) (tOp (rI CMul fun i j => V.int (i * j)) (tC (V.int 17)) (tVar 1))) (tC (V.int 3))) (tC (V.int 39373))) (tC (V.int 1000000007)))))
        { nx := fun _ H' => Q .non H', rt := Q } [some (.ref st), some (.int (n + 1)), some (.int c), none] (upd H st (.lst ([V.ref ga, V.int q, V.ref ca, V.int n].set 3 (V.int (n + 1))))) := fun c => by
      refine ⟨_, rfl, _, rfl, _, _, rfl, rfl, .inl (by decide), _, rfl, _, _, rfl, rfl, .inr hn, _, _, rfl, rfl, _, rfl, _, _, rfl, rfl, .inl (by decide), _, _, rfl, rfl, _, _, rfl, rfl, _, _, rfl, rfl, .inr (by decide), _, _, rfl, rfl, (by show (0 : Int) < 2147483647; decide), ?_⟩
      refine ⟨_, rfl, _, rfl, _, _, rfl, rfl, .inl (by decide), _, _, rfl, rfl, _, _, rfl, rfl, _, _, rfl, rfl, .inr (by decide), _, _, rfl, rfl, (by show (0 : Int) < 1000000007; decide), ?_⟩
      exact k _ _ (Int.emod_nonneg _ (by decide)) ⟨⟨gs, cs, q, n + 1, e1, e2, e3, h4, h5, h6, by omega, by omega⟩, gc, sg, sc⟩ (Keep.set (by simp))
    cases hc : cs with
    | nil =>
      refine iteF ?_
      exact fin 5
    | cons c0 cr =>
      refine iteT ?_
      rw [hc] at e3
      refine ⟨_, rfl, st, _, 2, _, rfl, rfl, SqL.of e1, rfl, _, rfl, _, rfl, st, _, 2, _, rfl, rfl, SqL.of e1, rfl, ca, _, rfl, .inl (SqL.of e3), _, _, rfl, rfl, ?_, ?_⟩
      · rw [List.length_map]; simp only [List.length_cons]; omega
      · have hpos : (0 : Int) < ((c0 :: cr).length : Int) := by simp only [List.length_cons]; omega
        rw [List.length_map]
        have hm0 := Int.emod_nonneg (n + 1) (Int.ne_of_gt hpos)
        have hm1 := Int.emod_lt_of_pos (n + 1) hpos
        obtain ⟨j, hj⟩ : ∃ j : Nat, (n + 1) % ((c0 :: cr).length : Int) = (j : Int) := ⟨((n + 1) % ((c0 :: cr).length : Int)).toNat, by omega⟩
        have hjl : j < (c0 :: cr).length := by omega
        refine ⟨ca, _, _, _, rfl, rfl, SqL.of e3, by rw [hj]; exact atI_nat (v := V.int ((c0 :: cr)[j])) (by rw [List.getElem?_map, List.getElem?_eq_getElem hjl]; rfl), ?_⟩
        exact fin _
def n__law_draw : List Str := ["_law_state", "_law_many", "_law_told", "_law_size"]
theorem sc__law_draw : FnScope n__law_draw ["_law_state", "_law_many"] (defScope s__law_draw) := ⟨rfl, rfl, rfl, by decide +kernel, rfl, by decide +kernel, by decide +kernel⟩
/-- a draw: any number from 0 on below many; what it may change is the state's own -/
def sp_draw : Sp := fun vs H Q _ => ∃ (st ga ca : Addr) (N : Nat) (m : Int), vs = [.ref st, .int m] ∧ StAt H st ga ca N ∧ N ≤ 10 ^ 8 ∧ 0 < m ∧ m ≤ 10 ^ 60 ∧
  ∀ (r : Int) (H' : Hp), 0 ≤ r → r < m → StAt H' st ga ca (N + 7) → Keep [st, ga] H H' → Q (.int r) H'
theorem ok__law_draw (T : Txt K mg A) : FnOk P w K mg base CX0 2 A.a__law_draw A.fd__law_draw ["_law_state", "_law_many"] sp_draw := by
  refine T.F__law_draw.ok sc__law_draw (fun vs H Q E h => ?_) (fun cdv Ar outer s H vs Q E hr h => ?_)
  · obtain ⟨st, ga, ca, N, m, rfl, S, hN, hm0, hm1, k⟩ := h
    rfl
  · obtain ⟨st, ga, ca, N, m, rfl, S, hN, hm0, hm1, k⟩ := h
    refine ⟨_, (pss_cons (ps_if (PW.pt (pw_and (pt_cmpR op_eq (pe_ix ix_list (pv 0) pe_int (fun _ _ => rfl)) pe_int (nomark _)) (pw_and1 (pt_truth (pe_ix ix_list (pv 0) pe_int (fun _ _ => rfl)) (fun _ => rfl)))))
          (pss_one (ps_asg (pe_bm PySem.F.plainAttrs_list PySem.F.slot_list_pop PySem.F.type_list_pop mt_popAt (pe_ix ix_list (pv 0) pe_int (fun _ _ => rfl)) (pa_cons pe_int pa_nil)) (pg_sub (pv 0) pe_int set_list))) pss_nil)
        (pss_cons (ps_if (pt_cmpR op_gt (pe_ix ix_list (pv 0) pe_int (fun _ _ => rfl)) pe_int (nomark _))
          (pss_cons (ps_set (i := 2) sc__law_draw.nd rfl (by first | exact Or.inl rfl | exact Or.inr rfl) (pe_op op_mod (pe_ix ix_list (pv 0) pe_int (fun _ _ => rfl)) (pv 1)))
        (pss_cons (ps_asg (pe_op op_fdivB (pe_ix ix_list (pv 0) pe_int (fun _ _ => rfl)) (pv 1)) (pg_sub (pv 0) pe_int set_list))
        (pss_one (ps_ret (pv 2))))) pss_nil)
        (pss_cons (ps_set (i := 2) sc__law_draw.nd rfl (by first | exact Or.inl rfl | exact Or.inr rfl) pe_int)
        (pss_cons (ps_set (i := 3) sc__law_draw.nd rfl (by first | exact Or.inl rfl | exact Or.inr rfl) pe_int)
        (pss_cons (ps_while PassesOwn.never (pt_cmpR op_lt (pv 3) (pv 1) (nomark _))
          (pss_cons (ps_set (i := 2) sc__law_draw.nd rfl (by first | exact Or.inl rfl | exact Or.inr rfl) (pe_op op_add (pe_op op_mul (pv 2) pe_int) (pe_call (ok__law_mix T) (hr.mono (by decide)) rfl T.g__law_mix T.F__law_mix.kp T.b__law_mix .nil pass0 (pa_cons (pv 0) pa_nil))))
        (pss_one (ps_set (i := 3) sc__law_draw.nd rfl (by first | exact Or.inl rfl | exact Or.inr rfl) (pe_op op_mul (pv 3) pe_int)))))
        (pss_one (ps_ret (pe_op op_mod (pv 2) (pv 1))))))))), ?_⟩
    obtain ⟨⟨gs, cs, q, n, h1, h2, h3, h4, h5, h6, h7, h8⟩, gc, sg, sc⟩ := S
    have hb : ∀ (g : List Int) (x : Int) (H' : Hp), H' = upd (upd H ga (.lst (g.map V.int))) st (.lst [.ref ga, .int x, .ref ca, .int n]) → H' st = some (.lst [.ref ga, .int x, .ref ca, .int n]) ∧ H' ga = some (.lst (g.map V.int)) ∧ H' ca = some (.lst (cs.map V.int)) ∧ Keep [st, ga] H H' := fun g x H' e => by
      subst e
      refine ⟨upd_same, by rw [upd_ne sg.symm, upd_same], by rw [upd_ne sc.symm, upd_ne gc.symm]; exact h3, fun b o e hn => ?_⟩
      have n1 : b ≠ st := fun z => hn (by simp [z])
      have n2 : b ≠ ga := fun z => hn (by simp [z])
      rw [upd_ne n1, upd_ne n2]
      exact e
    refine seqJoin (fun σ' H' => σ' = [some (.ref st), some (.int m), none, none] ∧ ∃ (g : List Int) (x : Int), H' st = some (.lst [.ref ga, .int x, .ref ca, .int n]) ∧ H' ga = some (.lst (g.map V.int)) ∧ H' ca = some (.lst (cs.map V.int)) ∧ Keep [st, ga] H H' ∧ g.length ≤ 63 ∧ (∀ x ∈ g, 0 < x) ∧ 0 ≤ x) (fun nx hnx => ?_) ?_
    · have skip : nx [some (.ref st), some (.int m), none, none] H := hnx _ _ ⟨rfl, gs, q, h1, h2, h3, Keep.refl _ _, h4, h5, h6⟩
      refine ⟨_, rfl, st, _, 1, _, rfl, rfl, SqL.of h1, rfl, rfl, _, rfl, ?_⟩
      refine ite2 (fun hq => ?_) (fun hq => iteF skip)
      have hq0 : q = 0 := by simpa using hq
      subst hq0
      refine ⟨_, rfl, st, _, 0, _, rfl, rfl, SqL.of h1, rfl, _, .inl ⟨_, SqL.of h2, rfl⟩, ?_⟩
      cases gs with
      | nil => exact iteF skip
      | cons g0 gr =>
        refine iteT ?_
        have eg : upd H ga (.lst ((V.int g0 :: gr.map V.int).eraseIdx 0)) st = some (.lst [.ref ga, .int 0, .ref ca, .int n]) := by rw [upd_ne sg]; exact h1
        refine ⟨_, rfl, st, _, 0, _, rfl, rfl, SqL.of h1, rfl, .inl ⟨rfl, _, SqL.of h2⟩, ga, _, 0, 0, V.int g0, rfl, rfl, h2, by decide, by decide, (by simp [seqIndex?]), rfl, ?_⟩
        refine ⟨_, rfl, st, _, 1, 1, rfl, rfl, eg, rfl, ?_⟩
        obtain ⟨b1, b2, b3, b4⟩ := hb gr g0 _ rfl
        exact hnx _ _ ⟨rfl, gr, g0, b1, b2, b3, b4, by simp only [List.length_cons] at h4; omega, fun y hy => h5 y (List.mem_cons_of_mem _ hy), Int.le_of_lt (h5 g0 List.mem_cons_self)⟩
    · rintro σ1 H1 ⟨rfl, g, x, c1, c2, c3, c4, c5, c6, c7⟩
      refine ⟨_, rfl, st, _, 1, _, rfl, rfl, SqL.of c1, rfl, _, _, rfl, rfl, _, rfl, ?_⟩
      refine ite2 (fun hx => ?_) (fun hx => ?_)
      · refine ⟨_, rfl, st, _, 1, _, rfl, rfl, SqL.of c1, rfl, _, rfl, _, _, rfl, rfl, hm0, ?_⟩
        refine ⟨_, rfl, st, _, 1, _, rfl, rfl, SqL.of c1, rfl, _, rfl, _, _, rfl, rfl, ⟨hm0, Int.le_trans hm1 (by decide)⟩, ?_⟩
        refine ⟨_, rfl, st, _, 1, 1, rfl, rfl, c1, rfl, ?_⟩
        refine ⟨_, rfl, k _ _ (Int.emod_nonneg _ (Int.ne_of_gt hm0)) (Int.emod_lt_of_pos _ hm0) ⟨⟨g, cs, x / m, n, upd_same, by rw [upd_ne sg.symm]; exact c2, by rw [upd_ne sc.symm]; exact c3, c5, c6, Int.ediv_nonneg c7 (Int.le_of_lt hm0), h7, by omega⟩, gc, sg, sc⟩ (c4.trans (Keep.set (by simp)))⟩
      · refine ⟨fun mm σ2 H2 => ∃ (j : Nat) (told : Int), j ≤ 7 ∧ mm = 7 - j ∧ σ2 = [some (.ref st), some (.int m), some (.int told), some (.int (1000000007 ^ j))] ∧ StAt H2 st ga ca (N + j) ∧ Keep [st, ga] H H2,
          ⟨7, 0, 0, by decide, rfl, rfl, ⟨⟨g, cs, x, n, c1, c2, c3, c5, c6, c7, h7, by omega⟩, gc, sg, sc⟩, c4⟩, ?_⟩
        rintro mm σ2 H2 ⟨j, told, hj, rfl, rfl, S2, k2⟩
        refine ⟨_, rfl, _, rfl, _, _, rfl, rfl, _, rfl, ?_⟩
        refine ite2 (fun hlt => ?_) (fun hlt => ?_)
        · have hlt' : (1000000007 : Int) ^ j < m := of_decide_eq_true hlt
          have hj6 : j < 7 := by
            rcases Nat.lt_or_ge j 7 with z | z
            · exact z
            · have e7 : j = 7 := by omega
              subst e7
              exact absurd (Int.lt_of_lt_of_le hlt' hm1) (by decide)
          refine ⟨fun σ3 H3 => ∃ (told : Int), σ3 = [some (.ref st), some (.int m), some (.int told), some (.int (1000000007 ^ (j + 1)))] ∧ StAt H3 st ga ca (N + (j + 1)) ∧ Keep [st, ga] H H3, fun σ3 H3 ⟨td, e3, S3, k3⟩ => ⟨7 - (j + 1), by omega, j + 1, td, hj6, rfl, e3, S3, k3⟩, ?_⟩
          refine ⟨_, rfl, _, _, rfl, rfl, .inr (by decide), _, rfl, st, ga, ca, N + j, rfl, S2, by omega, fun r H3 hr0 S3 k3 => ?_⟩
          refine ⟨_, _, rfl, rfl, ?_⟩
          refine ⟨_, rfl, _, _, rfl, rfl, .inr (by decide), ?_⟩
          refine ⟨told * 1000000007 + r, ?_, S3, k2.trans k3⟩
          show [some (V.ref st), some (V.int m), some (V.int _), some (V.int (1000000007 ^ j * 1000000007))] = _
          rw [← Int.pow_succ]
        · refine ⟨_, rfl, _, rfl, _, _, rfl, rfl, hm0, ?_⟩
          exact k _ _ (Int.emod_nonneg _ (Int.ne_of_gt hm0)) (Int.emod_lt_of_pos _ hm0) (S2.mono (by omega)) k2
def n__law_heap : List Str := ["_law_state", "_law_size", "_law_top", "_law_parts"]
theorem sc__law_heap : FnScope n__law_heap ["_law_state", "_law_size", "_law_top"] (defScope s__law_heap) := ⟨rfl, rfl, rfl, by decide +kernel, rfl, by decide +kernel, by decide +kernel⟩
def sp_heap : Sp := fun vs H Q _ => ∃ (st ga ca : Addr) (N : Nat) (size topp : Int), vs = [.ref st, .int size, .int topp] ∧ StAt H st ga ca N ∧ N ≤ 10 ^ 7 ∧ 0 ≤ size ∧ size ≤ 60 ∧ 0 < topp ∧ topp ≤ 10 ^ 60 ∧
  ∀ (p : Addr) (ns : List Int) (H' : Hp), (ns.length : Int) ≤ size → (∀ x ∈ ns, 1 ≤ x ∧ x ≤ topp) → ns.Pairwise (· ≥ ·) → H' p = some (.tup (ns.map V.int)) → H p = none → StAt H' st ga ca (N + 434) → Keep [st, ga] H H' → Q (.ref p) H'
theorem ok__law_heap (T : Txt K mg A) : FnOk P w K mg base CX0 3 A.a__law_heap A.fd__law_heap ["_law_state", "_law_size", "_law_top"] sp_heap := by
  refine T.F__law_heap.ok sc__law_heap (fun vs H Q E h => ?_) (fun cdv Ar outer s H vs Q E hr h => ?_)
  · obtain ⟨st, ga, ca, N, size, topp, rfl, S, hN, h0, h1, t0, t1, k⟩ := h
    rfl
  · obtain ⟨st, ga, ca, N, size, topp, rfl, S, hN, h0, h1, t0, t1, k⟩ := h
    refine ⟨_, (pss_cons (ps_comp (i := 3) (ls := ["_law_k"]) (fr := [("_law_state", 0), ("_law_top", 2)]) (cs_of (defScope s__law_heap) n__law_heap rfl rfl (by decide +kernel)) rfl (pi_range1 rfl T.b_range (pa_cons (pe_call (ok__law_draw T) (hr.mono (by decide)) rfl T.g__law_draw T.F__law_draw.kp T.b__law_draw .nil pass0 (pa_cons (pv 0 (hv := Or.inr (Or.inl rfl))) (pa_cons (pe_op op_add (pv 1) pe_int) pa_nil))) pa_nil)) (fun _ _ _ _ => pgc 0 (by decide +kernel) rfl rfl) (fun _ _ _ _ => pf_nil) (fun _ _ _ _ => (pe_op op_add pe_int (pe_call (ok__law_draw T) (hr.mono (by decide)) (glc (defScope s__law_heap)) T.g__law_draw T.F__law_draw.kp T.b__law_draw .nil pass0 (pa_cons (pvc (defScope s__law_heap) 1) (pa_cons (pvc (defScope s__law_heap) 2) pa_nil))))) sc__law_heap.nd rfl rfl rfl)
        (pss_one (ps_ret (pe_callTy call_tuple_of rfl T.b_tuple boot_tuple (pa_cons (pe_sortR rfl T.b_sorted (pv 3)) pa_nil))))), ?_⟩
    refine ⟨_, rfl, _, rfl, _, _, rfl, rfl, st, ga, ca, N, size + 1, rfl, S, by omega, by omega, Int.le_trans (show size + 1 ≤ 61 by omega) (by decide), fun many H2 m0 m1 S2 K2' => ?_⟩
    refine ⟨_, rfl, by omega, by omega, comp_range (fun i ys σ' H' => (∃ v, σ' = [v, some (.ref st), some (.int topp)]) ∧ ∃ ns : List Int, ys = ns.map V.int ∧ ns.length = i ∧ (∀ x ∈ ns, 1 ≤ x ∧ x ≤ topp) ∧ StAt H' st ga ca (N + 7 + 7 * i) ∧ Keep [st, ga] H H')
      ⟨⟨_, rfl⟩, [], rfl, rfl, (fun _ hx => nomatch hx), S2, K2'⟩ ?_ ?_ ?_⟩
    · rintro i ys σ' H' hi ⟨_, ns, rfl, hl, _⟩
      rw [List.length_map, hl]
      exact small64 (by omega)
    · rintro i ys σ' H' hi ⟨⟨v, rfl⟩, ns, rfl, hl, hb, S', K'⟩
      refine ⟨_, rfl, _, rfl, st, ga, ca, N + 7 + 7 * i, topp, rfl, S', by omega, t0, t1, fun r H3 h0 h1 S3 K3 => ?_⟩
      refine ⟨_, _, rfl, rfl, ⟨_, rfl⟩, ns ++ [1 + r], by simp, by simp [hl], fun x hx => ?_, S3.mono (by omega), K'.trans K3⟩
      rcases List.mem_append.mp hx with hx | hx
      · exact hb x hx
      · have : x = 1 + r := by simpa using hx
        omega
    · rintro ys σ' H' ⟨_, ns, rfl, hl, hb, S', K'⟩ p3 hp3
      refine ⟨_, rfl, p3, ns, rfl, .inl (SqL.of upd_same), by omega, fun ns' p4 hperm hord hp4 => ?_⟩
      refine ⟨p4, _, rfl, .inl ⟨SqL.of upd_same, fun p5 hp5 => ?_⟩⟩
      have s3 : Same H' (upd (upd (upd H' p3 (.lst (ns.map V.int))) p4 (.lst (ns'.map V.int))) p5 (.tup (ns'.map V.int))) := (Same.new hp3).trans ((Same.new hp4).trans (Same.new hp5))
      have S5 := S'.same s3
      have n5 : H' p5 = none := ((Same.new hp3).trans (Same.new hp4)).free hp5
      refine k p5 ns' _ (by rw [hperm.length_eq]; omega) (fun x hx => hb x (hperm.mem_iff.mp hx)) hord upd_same (K'.free n5 (S'.nin n5)) (S5.mono (by omega)) (K'.trans s3.keep)
def n__law_some_rule : List Str := ["_law_state", "_law_rule", "_law_k", "_law_heap_here"]
theorem sc__law_some_rule : FnScope n__law_some_rule ["_law_state"] (defScope s__law_some_rule) := ⟨rfl, rfl, rfl, by decide +kernel, rfl, by decide +kernel, by decide +kernel⟩
def sp_some_rule : Sp := fun vs H Q _ => ∃ (st ga ca : Addr) (N : Nat), vs = [.ref st] ∧ StAt H st ga ca N ∧ N ≤ 10 ^ 6 ∧
  ∀ (p : Addr) (rs : List V) (rule : List (List Int)) (H' : Hp), H' p = some (.tup rs) → All2 Tup1 H' rule rs → rule.length ≤ 6 → (∀ h ∈ rule, GoodH 10 h) → StAt H' st ga ca (N + 4000) → Keep [st, ga] H H' → H p = none → Q (.ref p) H'
theorem ok__law_some_rule (T : Txt K mg A) : FnOk P w K mg base CX0 4 A.a__law_some_rule A.fd__law_some_rule ["_law_state"] sp_some_rule := by
  refine T.F__law_some_rule.ok sc__law_some_rule (fun vs H Q E h => ?_) (fun cdv Ar outer s H vs Q E hr h => ?_)
  · obtain ⟨st, ga, ca, N, rfl, S, hN, k⟩ := h
    rfl
  · obtain ⟨st, ga, ca, N, rfl, S, hN, k⟩ := h
    refine ⟨_, (pss_cons (ps_set (i := 1) sc__law_some_rule.nd rfl (by first | exact Or.inl rfl | exact Or.inr rfl) (pe_lst pa_nil))
        (pss_cons (ps_for PassesOwn.never rfl (pi_range1 rfl T.b_range (pa_cons (pe_call (ok__law_draw T) (hr.mono (by decide)) rfl T.g__law_draw T.F__law_draw.kp T.b__law_draw .nil pass0 (pa_cons (pv 0) (pa_cons pe_int pa_nil))) pa_nil)) (pg_name (i := 2) sc__law_some_rule.nd rfl (by first | exact Or.inl rfl | exact Or.inr rfl))
          (pss_cons (ps_set (i := 3) sc__law_some_rule.nd rfl (by first | exact Or.inl rfl | exact Or.inr rfl) (pe_call (ok__law_heap T) (hr.mono (by decide)) rfl T.g__law_heap T.F__law_heap.kp T.b__law_heap .nil pass0 (pa_cons (pv 0) (pa_cons pe_int (pa_cons pe_int pa_nil)))))
        (pss_cons (ps_if (PW.pt (pw_and (pt_not (pt_truth (pv 3) (fun _ => rfl))) (pw_and1 (pt_cmpR op_gt (pe_call (ok__law_draw T) (hr.mono (by decide)) rfl T.g__law_draw T.F__law_draw.kp T.b__law_draw .nil pass0 (pa_cons (pv 0) (pa_cons pe_int pa_nil))) pe_int (nomark _)))))
          (pss_one (ps_set (i := 3) sc__law_some_rule.nd rfl (by first | exact Or.inl rfl | exact Or.inr rfl) (pe_tup (pa_cons (pe_op op_add pe_int (pe_call (ok__law_draw T) (hr.mono (by decide)) rfl T.g__law_draw T.F__law_draw.kp T.b__law_draw .nil pass0 (pa_cons (pv 0) (pa_cons pe_int pa_nil)))) pa_nil)))) pss_nil)
        (pss_cons (ps_if (PW.pt (pw_and (pt_truth (pv 1) (fun _ => rfl)) (pw_and1 (pt_cmpR op_eq (pe_call (ok__law_draw T) (hr.mono (by decide)) rfl T.g__law_draw T.F__law_draw.kp T.b__law_draw .nil pass0 (pa_cons (pv 0) (pa_cons pe_int pa_nil))) pe_int (nomark _)))))
          (pss_one (ps_set (i := 3) sc__law_some_rule.nd rfl (by first | exact Or.inl rfl | exact Or.inr rfl) (pe_ix ix_list (pv 1) (pe_call (ok__law_draw T) (hr.mono (by decide)) rfl T.g__law_draw T.F__law_draw.kp T.b__law_draw .nil pass0 (pa_cons (pv 0) (pa_cons (pe_callB call_len_seq rfl T.b_len PySem.boot_len (pa_cons (pv 1) pa_nil)) pa_nil))) (fun _ _ => rfl)))) pss_nil)
        (pss_cons (ps_if (pt_cmpR op_eq (pe_call (ok__law_draw T) (hr.mono (by decide)) rfl T.g__law_draw T.F__law_draw.kp T.b__law_draw .nil pass0 (pa_cons (pv 0) (pa_cons pe_int pa_nil))) pe_int (nomark _))
          (pss_one (ps_set (i := 3) sc__law_some_rule.nd rfl (by first | exact Or.inl rfl | exact Or.inr rfl) (pe_op op_catA (pe_tup (pa_cons (pe_op op_add (pe_op op_pow pe_int pe_int) (pe_call (ok__law_draw T) (hr.mono (by decide)) rfl T.g__law_draw T.F__law_draw.kp T.b__law_draw .nil pass0 (pa_cons (pv 0) (pa_cons (pe_op op_sub (pe_op op_pow pe_int pe_int) (pe_op op_pow pe_int pe_int)) pa_nil)))) pa_nil)) (pv 3)))) pss_nil)
        (pss_one (ps_expr (pe_bm PySem.F.plainAttrs_list PySem.F.slot_list_append PySem.F.type_list_append mt_append (pv 1) (pa_cons (pe_callTy call_tuple_of rfl T.b_tuple boot_tuple (pa_cons (pe_sortR rfl T.b_sorted (pv 3)) pa_nil)) pa_nil)))))))))
        (pss_one (ps_ret (pe_callTy call_tuple_of rfl T.b_tuple boot_tuple (pa_cons (pv 1) pa_nil)))))), ?_⟩
    refine ⟨by show 0 ≤ sizeLine; decide, fun l hl => ?_⟩
    have R0 : RB H (upd H l (.lst [])) st ga ca l N 0 [] [] := ⟨upd_same, .nil, hl, S.nin3 hl, rfl, (fun _ h => nomatch h), S.upd (S.nin3 hl), Keep.new hl⟩
    refine ⟨_, rfl, st, ga, ca, N, 7, rfl, R0.sa, by omega, by decide, by decide, fun m H1 m0 m1 S1 K1 => ?_⟩
    refine ⟨_, rfl, by omega, by omega, for_range (n := m.toNat) (fun i σ' H' => i ≤ 6 ∧ (∃ v w, σ' = [some (.ref st), some (.ref l), v, w]) ∧ ∃ rule xs, RB H H' st ga ca l (N + 7 + 600 * i) i rule xs) ⟨Nat.zero_le _, ⟨_, _, rfl⟩, [], [], R0.drawn S1 K1⟩ ?_ ?_⟩
    · rintro i σ' H' hi ⟨hi6, ⟨v, w', rfl⟩, rule, xs, R⟩
      refine ⟨_, rfl, st, ga, ca, N + 7 + 600 * i, 4, 6, rfl, R.sa, by omega, by decide, by decide, by decide, by decide, fun q hs H2 hl2 hb2 pw2 hq hqn S2 K2 => ?_⟩
      have R2 := R.drawn S2 K2
      dsimp only [tNext, gName]
      refine seqJoin (fun σ' H' => ∃ (q : Addr) (hs : List Int), σ' = [some (.ref st), some (.ref l), some (.int (0 + (i : Int))), some (.ref q)] ∧ H' q = some (.tup (hs.map V.int)) ∧ GoodH 4 hs ∧ RB H H' st ga ca l (N + 7 + 600 * i + 450) i rule xs) (fun nx hnx => ?_) ?_
      · have gh : GoodH 4 hs := ⟨by omega, fun x hx => ⟨(hb2 x hx).1, Int.le_trans (hb2 x hx).2 (by decide)⟩, pw2⟩
        refine ⟨_, rfl, _, .inr (.inl ⟨_, SqT.of hq, rfl⟩), ?_⟩
        refine ite2 (fun he => ?_) (fun he => iteF (hnx _ _ ⟨q, hs, rfl, hq, gh, R2.mono (by omega)⟩))
        refine ⟨_, rfl, st, ga, ca, _, 4, rfl, R2.sa, by omega, by decide, by decide, fun r H3 r0 r1 S3 K3 => ?_⟩
        have R3 := R2.drawn S3 K3
        have hq3 := K3.tups R2.sa _ _ hq
        refine ⟨_, _, rfl, rfl, _, rfl, ?_⟩
        refine ite2 (fun _ => ?_) (fun _ => hnx _ _ ⟨q, hs, rfl, hq3, gh, R3.mono (by omega)⟩)
        refine ⟨_, rfl, st, ga, ca, _, 6, rfl, R3.sa, by omega, by decide, by decide, fun r2 H4 r20 r21 S4 K4 => ?_⟩
        refine ⟨_, _, rfl, rfl, by show 1 ≤ sizeLine; decide, fun t ht => ?_⟩
        exact hnx _ _ ⟨t, [1 + r2], rfl, upd_same, ⟨by simp, fun x hx => by
          have : x = 1 + r2 := by simpa using hx
          exact ⟨by omega, Int.le_trans (show x ≤ 10 by omega) (by decide)⟩, List.pairwise_singleton _ _⟩, ((R3.drawn S4 K4).same (Same.new ht)).mono (by omega)⟩
      clear hq hqn R2 hl2 hb2 pw2
      rintro σ1 H3 ⟨q, hs, rfl, hq, gh, R3⟩
      refine seqJoin (fun σ' H' => ∃ (q : Addr) (hs : List Int), σ' = [some (.ref st), some (.ref l), some (.int (0 + (i : Int))), some (.ref q)] ∧ H' q = some (.tup (hs.map V.int)) ∧ GoodH (4 + i) hs ∧ RB H H' st ga ca l (N + 7 + 600 * i + 470) i rule xs) (fun nx hnx => ?_) ?_
      · refine ⟨_, rfl, _, .inl ⟨_, SqL.of R3.li, rfl⟩, ?_⟩
        refine ite2 (fun he => ?_) (fun he => iteF (hnx _ _ ⟨q, hs, rfl, hq, gh.mono (by omega), R3.mono (by omega)⟩))
        have hpos : 0 < i := by
          rw [← R3.ln, R3.h2.length]
          cases xs with
          | nil => cases he
          | cons y ys => simp
        refine ⟨_, rfl, st, ga, ca, _, 5, rfl, R3.sa, by omega, by decide, by decide, fun r H4 r0 r1 S4 K4 => ?_⟩
        have R4 := R3.drawn S4 K4
        have hq4 := K4.tups R3.sa _ _ hq
        refine ⟨rfl, _, rfl, ?_⟩
        refine ite2 (fun _ => ?_) (fun _ => hnx _ _ ⟨q, hs, rfl, hq4, gh.mono (by omega), R4.mono (by omega)⟩)
        have hlx : xs.length = i := by rw [← R3.h2.length]; exact R3.ln
        refine ⟨_, rfl, _, rfl, _, rfl, l, _, rfl, .inl (SqL.of R4.li), ?_⟩
        refine ⟨st, ga, ca, _, (xs.length : Int), rfl, R4.sa, by omega, by omega, Int.le_trans (show (xs.length : Int) ≤ 6 by omega) (by decide), fun j H5 j0 j1 S5 K5 => ?_⟩
        have R5 := R4.drawn S5 K5
        obtain ⟨n, rfl⟩ : ∃ n : Nat, j = (n : Int) := ⟨j.toNat, by omega⟩
        have hn : n < xs.length := by omega
        obtain ⟨hs5, hh5, q5, e5, g5⟩ := R5.h2.get (List.getElem?_eq_getElem hn)
        refine ⟨l, _, _, _, rfl, rfl, SqL.of R5.li, atI_nat (List.getElem?_eq_getElem hn), ?_⟩
        rw [e5]
        exact hnx _ _ ⟨q5, hs5, rfl, g5, R5.gd hs5 (List.mem_of_getElem? hh5), R5.mono (by omega)⟩
      clear hq gh R3
      rintro σ1 H4 ⟨q, hs, rfl, hq, gh, R4⟩
      refine seqJoin (fun σ' H' => ∃ (q : Addr) (hs : List Int), σ' = [some (.ref st), some (.ref l), some (.int (0 + (i : Int))), some (.ref q)] ∧ H' q = some (.tup (hs.map V.int)) ∧ hs.length ≤ 4 + (i + 1) ∧ (∀ x ∈ hs, 1 ≤ x ∧ x ≤ 10 ^ 60) ∧ RB H H' st ga ca l (N + 7 + 600 * i + 500) i rule xs) (fun nx hnx => ?_) ?_
      · refine ⟨_, rfl, st, ga, ca, _, 16, rfl, R4.sa, by omega, by decide, by decide, fun r H5 r0 r1 S5 K5 => ?_⟩
        have R5 := R4.drawn S5 K5
        have hq5 := K5.tups R4.sa _ _ hq
        have ghl := gh.ln
        refine ⟨rfl, _, rfl, ?_⟩
        refine ite2 (fun _ => ?_) (fun _ => hnx _ _ ⟨q, hs, rfl, hq5, by omega, gh.bd, R5.mono (by omega)⟩)
        refine ⟨_, _, rfl, rfl, ⟨by decide, by decide, by decide⟩, _, rfl, _, _, rfl, rfl, ⟨by decide, by decide, by decide⟩, _, _, rfl, rfl, ⟨by decide, by decide, by decide⟩, _, _, rfl, rfl, ?_⟩
        refine ⟨st, ga, ca, _, 10 ^ 60 - 10 ^ 41, rfl, R5.sa, by omega, by decide, by decide, fun r2 H6 r20 r21 S6 K6 => ?_⟩
        have R6 := R5.drawn S6 K6
        have hq6 := K6.tups R5.sa _ _ hq5
        refine ⟨_, _, rfl, rfl, by show 1 ≤ sizeLine; decide, fun t ht => ?_⟩
        refine ⟨_, rfl, t, q, _, _, rfl, rfl, SqT.of upd_same, SqT.of (Same.new ht _ _ hq6), ?_, (fun e => by cases e), fun _ e => ?_, fun _ _ t2 ht2 => ?_⟩
        · rw [List.length_map]
          exact Nat.le_trans (m := 20) (by simp; omega) (by decide)
        · have e0 : hs = [] := List.map_eq_nil_iff.mp e
          exact hnx _ _ ⟨t, [10 ^ (40 : Int).toNat + r2], rfl, upd_same, by simp; omega, fun x hx => by
            have : x = 10 ^ (40 : Int).toNat + r2 := by simpa using hx
            have e40 : (10 : Int) ^ (40 : Int).toNat = 10000000000000000000000000000000000000000 := by decide
            rw [e40] at this
            omega, (R6.same (Same.new ht)).mono (by omega)⟩
        · exact hnx _ _ ⟨t2, (10 ^ (40 : Int).toNat + r2) :: hs, rfl, by rw [upd_same]; rfl, by simp; omega, fun x hx => by
            rcases List.mem_cons.mp hx with hx | hx
            · have e40 : (10 : Int) ^ (40 : Int).toNat = 10000000000000000000000000000000000000000 := by decide
              rw [e40] at hx
              omega
            · exact gh.bd x hx, ((R6.same (Same.new ht)).same (Same.new ht2)).mono (by omega)⟩
      clear hq gh R4
      rintro σ1 H5 ⟨q, hs, rfl, hq, hl5, hb5, R5⟩
      refine ⟨_, rfl, .inl ⟨rfl, _, SqL.of R5.li⟩, _, rfl, q, hs, rfl, .inr (SqT.of hq), by omega, fun hs' l2 hperm hord hl2 => ?_⟩
      refine ⟨l2, _, rfl, .inl ⟨SqL.of upd_same, fun q2 hq2 => ?_⟩⟩
      have R7 := (R5.same (Same.new (o := .lst (hs'.map V.int)) hl2)).same (Same.new (o := .tup (hs'.map V.int)) hq2)
      refine ⟨l, _, _, rfl, rfl, R7.li, ?_, ?_⟩
      · have : xs.length = i := by rw [← R7.h2.length]; exact R7.ln
        exact Nat.lt_of_lt_of_le (show xs.length < 64 by omega) (by decide)
      · have R8 := R7.push upd_same (hs := hs') ⟨by rw [hperm.length_eq]; exact hl5, fun x hx => hb5 x (hperm.mem_iff.mp hx), hord⟩
        exact ⟨by omega, ⟨_, _, rfl⟩, _, _, R8.mono (by omega)⟩
    · rintro σ' H' ⟨hi6, ⟨v, w', rfl⟩, rule, xs, R⟩
      refine ⟨_, rfl, l, _, rfl, .inl ⟨SqL.of R.li, fun p hp => ?_⟩⟩
      have R2 := R.same (Same.new (o := .tup xs) hp)
      exact k p xs rule _ upd_same R2.h2 (by rw [R.ln]; exact hi6) (fun h hh => (R.gd h hh).mono (by omega)) (R2.sa.mono (by omega)) R2.kp (R.kp.free hp (R.sa.nin hp))
def n__law_lies : List Str := ["_law_one", "_law_other"]
theorem sc__law_lies : FnScope n__law_lies ["_law_one", "_law_other"] (defScope s__law_lies) := ⟨rfl, rfl, rfl, by decide +kernel, rfl, by decide +kernel, by decide +kernel⟩
def sp_llies : Sp := fun vs H Q _ => ∃ (a b : Addr) (ns ms : List Int), vs = [.ref a, .ref b] ∧ H a = some (.tup (ns.map V.int)) ∧ H b = some (.tup (ms.map V.int)) ∧ ns.length ≤ 10000 ∧ ∀ H', Same H H' → Q (.bl (lies ns ms)) H'
theorem ok__law_lies (T : Txt K mg A) : FnOk P w K mg base CX0 1 A.a__law_lies A.fd__law_lies ["_law_one", "_law_other"] sp_llies := by
  refine T.F__law_lies.ok sc__law_lies (fun vs H Q E h => ?_) (fun cdv Ar outer s H vs Q E hr h => ?_)
  · obtain ⟨a, b, ns, ms, rfl, ha, hb, hln, k⟩ := h
    rfl
  · obtain ⟨a, b, ns, ms, rfl, ha, hb, hln, k⟩ := h
    refine ⟨_, (pss_one (ps_ret (pe_callB (call_all_bools rfl) rfl T.b_all boot_all (pa_cons (pe_comp (ls := ["_law_part"]) (fr := [("_law_one", 0), ("_law_other", 1)]) (cs_of (defScope s__law_lies) n__law_lies rfl rfl (by decide +kernel)) rfl (pi_tup (pv 0 (hv := Or.inr (Or.inl rfl)))) (fun _ _ _ _ => pgc 0 (by decide +kernel) rfl rfl) (fun _ _ _ _ => pf_nil) (fun _ _ _ _ => (pe_cmpR op_le (pe_bmK K rfl PySem.F.plainAttrs_tuple PySem.F.slot_tuple_count PySem.F.type_tuple_count (mt_countTK K rfl) (pvc (defScope s__law_lies) 1) (pa_cons (pvc (defScope s__law_lies) 0) pa_nil)) (pe_bmK K rfl PySem.F.plainAttrs_tuple PySem.F.slot_tuple_count PySem.F.type_tuple_count (mt_countTK K rfl) (pvc (defScope s__law_lies) 2) (pa_cons (pvc (defScope s__law_lies) 0) pa_nil)) (nomark _)))) pa_nil)))), ?_⟩
    refine ⟨_, rfl, a, rfl, ⟨_, SqT.of ha⟩, comp_tup (xs := ns.map V.int) (fun i ys σ' H' => H' = H ∧ (∃ v, σ' = [v, some (.ref a), some (.ref b)]) ∧ ys = ((ns.take i).map fun x => decide (ns.count x ≤ ms.count x)).map V.bl) ⟨rfl, ⟨_, rfl⟩, rfl⟩ ?_ ?_ ?_⟩
    · rintro i ys σ' H' hi ⟨rfl, _, rfl⟩
      refine ⟨SqT.of ha, ?_⟩
      rw [List.length_map, List.length_map, List.length_take]
      exact Nat.le_trans (m := 10000) (by omega) (by decide)
    · rintro i x ys σ' H' hx ⟨rfl, ⟨v, rfl⟩, rfl⟩
      obtain ⟨z, hz, rfl⟩ := map_at hx
      have hi := (List.getElem?_eq_some_iff.mp hz).1
      have ez := (List.getElem?_eq_some_iff.mp hz).2
      refine ⟨_, rfl, .inr (.inl ⟨rfl, .inr ⟨_, ha⟩⟩), _, rfl, a, _, _, rfl, rfl, SqT.of ha, rfl, flat_ints _, ?_⟩
      refine ⟨_, rfl, .inr (.inl ⟨rfl, .inr ⟨_, hb⟩⟩), _, rfl, b, _, _, rfl, rfl, SqT.of hb, rfl, flat_ints _, ?_⟩
      refine ⟨_, _, rfl, rfl, rfl, ⟨_, rfl⟩, ?_⟩
      rw [List.take_succ_eq_append_getElem hi, List.map_append, List.map_append, ez]
      show _ ++ [V.bl (decide (((cntV (V.int z) (ns.map V.int) : Nat) : Int) ≤ ((cntV (V.int z) (ms.map V.int) : Nat) : Int)))] = _
      rw [cntV_ints, cntV_ints]
      have e : decide (((ns.count z : Nat) : Int) ≤ ((ms.count z : Nat) : Int)) = decide (ns.count z ≤ ms.count z) := by
        rw [decide_eq_decide]; omega
      rw [e]
      rfl
    · rintro ys σ' H' ⟨rfl, _, rfl⟩ l hl
      rw [List.length_map, List.take_length]
      refine ⟨l, _, rfl, SqL.of upd_same, ?_⟩
      have e : (ns.map fun x => decide (ns.count x ≤ ms.count x)).all id = lies ns ms := by
        unfold lies
        rw [List.all_map]
        rfl
      rw [e]
      exact k _ (Same.new hl)
def n__law_whole : List Str := ["_law_found"]
theorem sc__law_whole : FnScope n__law_whole ["_law_found"] (defScope s__law_whole) := ⟨rfl, rfl, rfl, by decide +kernel, rfl, by decide +kernel, by decide +kernel⟩
def sp_whole : Sp := fun vs H Q _ => ∃ (i : Int), vs = [.int i] ∧ Q (.bl true) H
theorem ok__law_whole (T : Txt K mg A) : FnOk P w K mg base CX0 1 A.a__law_whole A.fd__law_whole ["_law_found"] sp_whole := by
  refine T.F__law_whole.ok sc__law_whole (fun vs H Q E h => ?_) (fun cdv Ar outer s H vs Q E hr h => ?_)
  · obtain ⟨i, rfl, k⟩ := h
    rfl
  · obtain ⟨i, rfl, k⟩ := h
    refine ⟨_, (pss_one (ps_ret (pe_and (pe_callB call_isi rfl T.b_isinstance boot_isinstance (pa_cons (pv 0) (pa_cons (pe_bltn (v := .ty "int") rfl T.b_int boot_int rfl) pa_nil))) (pe_one (pe_not (pe_callB call_isi rfl T.b_isinstance boot_isinstance (pa_cons (pv 0) (pa_cons (pe_bltn (v := .ty "bool") rfl T.b_bool boot_bool rfl) pa_nil)))))))), ?_⟩
    exact ⟨_, rfl, _, _, _, true, rfl, TyOf.int _, kit_int_int, true, rfl, _, rfl, _, _, _, false, rfl, TyOf.int _, kit_int_bool, false, rfl, k⟩
def n__law_row : List Str := ["_law_found"]
theorem sc__law_row : FnScope n__law_row ["_law_found"] (defScope s__law_row) := ⟨rfl, rfl, rfl, by decide +kernel, rfl, by decide +kernel, by decide +kernel⟩
def sp_row : Sp := fun vs H Q _ => ∃ (a : Addr) (ns : List Int), vs = [.ref a] ∧ H a = some (.tup (ns.map V.int)) ∧ ns.length ≤ 100000 ∧ ∀ (H' : Hp), Same H H' → Q (.bl true) H'
theorem ok__law_row (T : Txt K mg A) : FnOk P w K mg base CX0 2 A.a__law_row A.fd__law_row ["_law_found"] sp_row := by
  refine T.F__law_row.ok sc__law_row (fun vs H Q E h => ?_) (fun cdv Ar outer s H vs Q E hr h => ?_)
  · obtain ⟨a, ns, rfl, ha, hln, k⟩ := h
    rfl
  · obtain ⟨a, ns, rfl, ha, hln, k⟩ := h
    refine ⟨_, (pss_one (ps_ret (pe_and (pe_callB call_isi rfl T.b_isinstance boot_isinstance (pa_cons (pv 0) (pa_cons (pe_bltn (v := .ty "tuple") rfl T.b_tuple boot_tuple rfl) pa_nil))) (pe_one (pe_callB (call_all_bools rfl) rfl T.b_all boot_all (pa_cons (pe_comp (ls := ["_law_part"]) (fr := []) (cs_of (defScope s__law_row) n__law_row rfl rfl (by decide +kernel)) rfl (pi_tup (pv 0)) (fun _ _ _ _ => pgc 0 (by decide +kernel) rfl rfl) (fun _ _ _ _ => pf_nil) (fun _ _ _ _ => (pe_call (ok__law_whole T) (hr.mono (by decide)) (glc (defScope s__law_row)) T.g__law_whole T.F__law_whole.kp T.b__law_whole .nil pass0 (pa_cons (pvc (defScope s__law_row) 0) pa_nil)))) pa_nil)))))), ?_⟩
    refine ⟨_, rfl, _, _, _, true, rfl, TyOf.tup ha, kit_tup_tup, true, rfl, _, rfl, a, rfl, ⟨_, SqT.of ha⟩, comp_tup (xs := ns.map V.int) (fun i ys σ' H' => H' = H ∧ (∃ v, σ' = [v]) ∧ ys = (List.replicate i true).map V.bl ∧ i ≤ ns.length) ⟨rfl, ⟨_, rfl⟩, rfl, Nat.zero_le _⟩ ?_ ?_ ?_⟩
    · rintro i ys σ' H' hi ⟨rfl, _, rfl, hi'⟩
      refine ⟨SqT.of ha, ?_⟩
      rw [List.length_map, List.length_replicate]
      exact Nat.le_trans (Nat.le_trans hi' hln) (by decide)
    · rintro i x ys σ' H' hx ⟨rfl, ⟨v, rfl⟩, rfl, hi'⟩
      obtain ⟨z, hz, rfl⟩ := map_at hx
      have hi := (List.getElem?_eq_some_iff.mp hz).1
      refine ⟨_, rfl, z, rfl, rfl, ⟨_, rfl⟩, ?_, hi⟩
      rw [List.replicate_succ', List.map_append]
      rfl
    · rintro ys σ' H' ⟨rfl, _, rfl, hi'⟩ l hl0
      refine ⟨l, _, rfl, SqL.of upd_same, ?_⟩
      have e : (List.replicate (ns.map V.int).length true).all id = true := by simp
      rw [e]
      exact k _ (Same.new hl0)
def n__law_well : List Str := ["_law_rule", "_law_n", "_law_pair", "_law_heap_here", "_law_choice"]
theorem sc__law_well : FnScope n__law_well ["_law_rule", "_law_n", "_law_pair"] (defScope s__law_well) := ⟨rfl, rfl, rfl, by decide +kernel, rfl, by decide +kernel, by decide +kernel⟩
def sp_lwell : Sp := fun vs H Q _ => ∃ (p : Addr) (rs : List V) (rule : List (List Int)) (n : Int) (v : V) (pc : List Int × List Int), vs = [.ref p, .int n, v] ∧ H p = some (.tup rs) ∧ All2 Tup1 H rule rs ∧ rule.length ≤ 6 ∧ (∀ h ∈ rule, h.length ≤ 10000) ∧ Pair1 pc v H ∧ pc.1.length ≤ 100 ∧ pc.1.sum = n ∧ pc.2 ∈ chG (idxG rule pc.1) ∧ ∀ H', Same H H' → Q (.bl true) H'
theorem ok__law_well (T : Txt K mg A) : FnOk P w K mg base CX0 5 A.a__law_well A.fd__law_well ["_law_rule", "_law_n", "_law_pair"] sp_lwell := by
  refine T.F__law_well.ok sc__law_well (fun vs H Q E h => ?_) (fun cdv Ar outer s H vs Q E hr h => ?_)
  · obtain ⟨p, rs, rule, n, v, pc, rfl, hp, h2, h6, h1k, hv, hl1, hsum, hch, k⟩ := h
    rfl
  · obtain ⟨p, rs, rule, n, v, pc, rfl, hp, h2, h6, h1k, hv, hl1, hsum, hch, k⟩ := h
    refine ⟨_, (pss_cons (ps_if (PW.pt (pw_or (pt_not (pt_truth (pe_callB call_isi rfl T.b_isinstance boot_isinstance (pa_cons (pv 2) (pa_cons (pe_bltn (v := .ty "tuple") rfl T.b_tuple boot_tuple rfl) pa_nil))) (fun _ => rfl))) (pw_or (pt_cmpR op_ne (pe_callB call_len_seq rfl T.b_len PySem.boot_len (pa_cons (pv 2) pa_nil)) pe_int (nomark _)) (pw_or (pt_not (pt_truth (pe_call (ok__law_row T) (hr.mono (by decide)) rfl T.g__law_row T.F__law_row.kp T.b__law_row .nil pass0 (pa_cons (pe_ix ix_tup (pv 2) pe_int (fun _ _ => rfl)) pa_nil)) (fun _ => rfl))) (pw_or1 (pt_not (pt_truth (pe_call (ok__law_row T) (hr.mono (by decide)) rfl T.g__law_row T.F__law_row.kp T.b__law_row .nil pass0 (pa_cons (pe_ix ix_tup (pv 2) pe_int (fun _ _ => rfl)) pa_nil)) (fun _ => rfl))))))))
          (pss_one (ps_ret pe_bl)) pss_nil)
        (pss_cons (ps_asg (pv 2) (pg_tup rfl (pgs_cons (pg_name (i := 3) sc__law_well.nd rfl (by first | exact Or.inl rfl | exact Or.inr rfl)) (pgs_cons (pg_name (i := 4) sc__law_well.nd rfl (by first | exact Or.inl rfl | exact Or.inr rfl)) pgs_nil))))
        (pss_cons (ps_if (PW.pt (pw_or (pt_cmpR op_ne (pe_callB (call_sum_ints rfl) rfl T.b_sum boot_sum (pa_cons (pv 3 (hv := Or.inr (Or.inl rfl))) pa_nil)) (pv 1) (nomark _)) (pw_or1 (pt_cmpR (op_neL' eqk_int (huR hr)) (pe_callTy call_list_of rfl T.b_list boot_list (pa_cons (pv 4) pa_nil)) (pe_callB (call_sort_MK rfl P w rfl rfl) rfl T.b_sorted boot_sorted (pa_cons (pe_callTy (call_set_MK rfl P w rfl rfl) rfl T.b_set boot_set (pa_cons (pv 4) pa_nil)) pa_nil)) (nomark _)))))
          (pss_one (ps_ret pe_bl)) pss_nil)
        (pss_one (ps_ret (pe_callB (call_all_bools rfl) rfl T.b_all boot_all (pa_cons (pe_comp (ls := ["_law_at"]) (fr := [("_law_heap_here", 3), ("_law_rule", 0)]) (cs_of (defScope s__law_well) n__law_well rfl rfl (by decide +kernel)) rfl (pi_tup (pv 4)) (fun _ _ _ _ => pgc 0 (by decide +kernel) rfl rfl) (fun _ _ _ _ => pf_nil) (fun _ _ _ _ => (pe_and (pe_chain op_le op_lt pe_int (pvc (defScope s__law_well) 0) (pe_callB (call_len_seqK K rfl) (glc (defScope s__law_well)) T.b_len PySem.boot_len (pa_cons (pvc (defScope s__law_well) 2) pa_nil))) (pe_one (pe_call (ok__law_lies T) (hr.mono (by decide)) (glc (defScope s__law_well)) T.g__law_lies T.F__law_lies.kp T.b__law_lies .nil pass0 (pa_cons (pe_ix (ix_tupK K rfl) (pvc (defScope s__law_well) 2) (pvc (defScope s__law_well) 0) (fun _ _ => rfl)) (pa_cons (pvc (defScope s__law_well) 1) pa_nil))))))) pa_nil))))))), ?_⟩
    obtain ⟨q, a, b, rfl, g1, g2, g3⟩ := hv
    obtain ⟨cr, cm⟩ := ch_is.mp hch
    have hrl := h2.length
    have c6 : pc.2.length ≤ 6 := by
      have := (chG_mem _ _ rfl pc.2 hch).1
      have := idxG_len rule pc.1
      omega
    refine ⟨_, rfl, _, _, _, true, rfl, TyOf.tup g1, kit_tup_tup, true, rfl, iteF ?_⟩
    refine ⟨_, rfl, q, _, rfl, .inr (SqT.of g1), rfl, _, rfl, iteF ?_⟩
    refine ⟨_, rfl, q, _, _, _, rfl, rfl, SqT.of g1, atI_nat (j := 0) rfl, a, pc.1, rfl, g2, by omega, fun H1 s1 => ⟨true, rfl, iteF ?_⟩⟩
    refine ⟨_, rfl, q, _, _, _, rfl, rfl, SqT.of (s1 _ _ g1), atI_nat (j := 1) rfl, b, pc.2, rfl, s1 _ _ g3, by omega, fun H2 s2 => ⟨true, rfl, iteF ?_⟩⟩
    have sn := s1.trans s2
    refine ⟨_, rfl, q, _, rfl, SqT.of (sn _ _ g1), rfl, _, _, rfl, _, _, rfl, rfl, ?_⟩
    refine ⟨_, rfl, a, _, rfl, .inr (SqT.of (sn _ _ g2)), _, rfl, rfl, _, rfl, iteNS (by rw [hsum]) ?_⟩
    refine ⟨_, rfl, b, _, rfl, .inr (SqT.of (sn _ _ g3)), fun l hl => ?_⟩
    have s3 := sn.trans (Same.new (o := .lst (pc.2.map V.int)) hl)
    have gl := upd_same (H := H2) (a := l) (o := .lst (pc.2.map V.int))
    generalize upd H2 l (.lst (pc.2.map V.int)) = H3 at s3 gl ⊢
    refine ⟨_, rfl, b, _, rfl, SqT.of (s3 _ _ g3), by omega, fun sa hsa => ?_⟩
    refine ⟨sa, _, rfl, upd_same, by omega, fun vs l2 hvn hvm hvs hl2 => ?_⟩
    have s4 := (Same.new (o := .ext (IsSetM P w sa pc.2)) hsa).trans (Same.new (o := .lst (vs.map V.int)) hl2)
    have gl2 := upd_same (H := upd H3 sa (.ext (IsSetM P w sa pc.2))) (a := l2) (o := .lst (vs.map V.int))
    generalize upd (upd H3 sa (.ext (IsSetM P w sa pc.2))) l2 (.lst (vs.map V.int)) = H4 at s4 gl2 ⊢
    have ev : vs = pc.2 := by
      refine asc_same ?_ cr hvm
      refine List.Pairwise.imp₂ (fun x y h1 h2 => ?_) hvs hvn
      omega
    subst ev
    refine ⟨pc.2, pc.2, ⟨l, _, rfl, SqL.of (s4 _ _ gl), all2_ints _⟩, ⟨l2, _, rfl, SqL.of gl2, all2_ints _⟩, _, rfl, iteNS rfl ?_⟩
    have s5 := s3.trans s4
    refine ⟨_, rfl, b, rfl, ⟨_, SqT.of (s5 _ _ g3)⟩, comp_tup (xs := pc.2.map V.int) (fun i ys σ' H' => Same H4 H' ∧ (∃ v, σ' = [v, some (.ref a), some (.ref p)]) ∧ ys = (List.replicate i true).map V.bl ∧ i ≤ pc.2.length) ⟨fun _ _ h => h, ⟨_, rfl⟩, rfl, Nat.zero_le _⟩ ?_ ?_ ?_⟩
    · rintro i ys σ' H' hi ⟨s', _, rfl, hi'⟩
      refine ⟨SqT.of (s' _ _ (s5 _ _ g3)), ?_⟩
      rw [List.length_map, List.length_replicate]
      exact Nat.le_trans (m := 6) (by omega) (by decide)
    · rintro i x ys σ' H' hx ⟨s', ⟨v, rfl⟩, rfl, hi'⟩
      obtain ⟨j, hj, rfl⟩ := map_at hx
      obtain ⟨⟨j0, j1⟩, jl⟩ := cm j (List.mem_of_getElem? hj)
      have s6 := s5.trans s'
      obtain ⟨u, hu, qq, rfl, hqq⟩ := pick_at (h2.mv s6.tups) j0 j1
      have hjl : (rule.getD j.toNat []).length ≤ 10000 := by
        have hlt : j.toNat < rule.length := by omega
        refine h1k _ ?_
        rw [List.getD_eq_getElem?_getD, List.getElem?_eq_getElem hlt]
        exact List.getElem_mem hlt
      refine ⟨_, rfl, _, _, rfl, rfl, _, rfl, ?_⟩
      rw [decide_eq_true j0]
      refine iteT ⟨_, rfl, p, _, rfl, .inr (SqT.of (s6 _ _ hp)), _, _, rfl, rfl, _, rfl, ?_⟩
      rw [decide_eq_true (show j < (rs.length : Int) by omega)]
      refine iteT ⟨_, rfl, _, rfl, p, _, _, _, rfl, rfl, SqT.of (s6 _ _ hp), hu, _, rfl, qq, a, _, _, rfl, hqq, s6 _ _ g2, hjl, fun H7 s7 => ⟨s'.trans s7, ⟨_, rfl⟩, ?_, ?_⟩⟩
      · rw [jl, List.replicate_succ', List.map_append]
        rfl
      · have := (List.getElem?_eq_some_iff.mp hj).1
        omega
    · rintro ys σ' H' ⟨s', _, rfl, _⟩ l3 hl3
      rw [List.length_map]
      refine ⟨l3, List.replicate pc.2.length true, rfl, SqL.of upd_same, ?_⟩
      rw [show (List.replicate pc.2.length true).all id = true by simp]
      exact k _ (s5.trans (s'.trans (Same.new hl3)))
def n_law : List Str := ["_law_script", "_law_state", "_law_rule", "_law_n", "_law_pairs", "_law_pair", "_law_known", "_law_alone", "_law_total", "_law_partner", "_law_kept"]
theorem sc_law : FnScope n_law ["_law_script"] (defScope s_law) := ⟨rfl, rfl, rfl, by decide +kernel, rfl, by decide +kernel, by decide +kernel⟩
theorem all2_pairs {K : PySem.W.Frag} {H : Hp} : ∀ {A : List (List Int × List Int)} {xs : List V}, All2 Pair1 H A xs → All2 (RTup K (RTup K RInt)) H (A.map fun pc => [pc.1, pc.2]) xs
  | [], _, .nil => .nil
  | pc :: A, _, .cons hh t => by
    obtain ⟨q, a, b, rfl, g1, g2, g3⟩ := hh
    exact .cons (Pair1.rtup g1 g2 g3) (all2_pairs t)
theorem Tups.setE {H : Hp} {l : Addr} {φ : Heap → Prop} {o : HO} (h : H l = some (.ext φ)) : Tups H (upd H l o) := fun b ys e => by
  rw [upd_ne (ne_of e h (by intro z; cases z))]; exact e
theorem not_taken {A : List (List Int × List Int)} (hn : A.Nodup) {i : Nat} {pc : List Int × List Int} (h : A[i]? = some pc) : pc ∉ A.take i := fun hm => by
  rw [← List.take_append_drop i A] at hn
  refine (List.nodup_append.mp hn).2.2 _ hm _ (List.mem_of_getElem? (i := 0) ?_) rfl
  rw [List.getElem?_drop]
  exact h
def sp_law (K : PySem.W.Frag) : Sp := fun vs H Q _ => ∃ (a : Addr) (ns : List Int), vs = [.ref a] ∧ SqL K H a (ns.map V.int) ∧ ns.length ≤ 63 ∧ ∀ H', Q (.bl true) H'
theorem ok_law (T : Txt K mg A) : FnOk P w K mg base CX0 31 A.a_law A.fd_law ["_law_script"] (sp_law K) := by
  refine T.F_law.ok sc_law (fun vs H Q E h => ?_) (fun cdv Ar outer s H vs Q E hr h => ?_)
  · obtain ⟨a, ns, rfl, hS, hl, k⟩ := h
    rfl
  · obtain ⟨a, ns, rfl, hS, hl, k⟩ := h
    refine ⟨_, (pss_cons (ps_set (i := 1) sc_law.nd rfl (by first | exact Or.inl rfl | exact Or.inr rfl) (pe_call (ok__law_start T) (hr.mono (by decide)) rfl T.g__law_start T.F__law_start.kp T.b__law_start .nil pass0 (pa_cons (pv 0) pa_nil)))
        (pss_cons (ps_set (i := 2) sc_law.nd rfl (by first | exact Or.inl rfl | exact Or.inr rfl) (pe_call (ok__law_some_rule T) (hr.mono (by decide)) rfl T.g__law_some_rule T.F__law_some_rule.kp T.b__law_some_rule .nil pass0 (pa_cons (pv 1) pa_nil)))
        (pss_cons (ps_set (i := 3) sc_law.nd rfl (by first | exact Or.inl rfl | exact Or.inr rfl) (pe_call (ok__law_draw T) (hr.mono (by decide)) rfl T.g__law_draw T.F__law_draw.kp T.b__law_draw .nil pass0 (pa_cons (pv 1) (pa_cons pe_int pa_nil))))
        (pss_cons (ps_set (i := 4) sc_law.nd rfl (by first | exact Or.inl rfl | exact Or.inr rfl) (pe_call (ok_pairs_of T) (hr.mono (by decide)) rfl T.g_pairs_of T.F_pairs_of.kp T.b_pairs_of .nil pass01 (pa_cons (pv 2 (hv := Or.inr (Or.inl rfl))) (pa_cons (pv 3 (hv := Or.inr (Or.inl rfl))) pa_nil))))
        (pss_cons (ps_if (PW.pt (pw_or (pt_not (pt_truth (pe_callB call_isi rfl T.b_isinstance boot_isinstance (pa_cons (pv 4) (pa_cons (pe_bltn (v := .ty "list") rfl T.b_list boot_list rfl) pa_nil))) (fun _ => rfl))) (pw_or1 (pt_not (pt_truth (pe_callB (call_all_bools rfl) rfl T.b_all boot_all (pa_cons (pe_comp (ls := ["_law_pair"]) (fr := [("_law_rule", 2), ("_law_n", 3)]) (cs_of (defScope s_law) n_law rfl rfl (by decide +kernel)) rfl (pi_list (pv 4)) (fun _ _ _ _ => pgc 0 (by decide +kernel) rfl rfl) (fun _ _ _ _ => pf_nil) (fun _ _ _ _ => (pe_call (ok__law_well T) (hr.mono (by decide)) (glc (defScope s_law)) T.g__law_well T.F__law_well.kp T.b__law_well .nil pass0 (pa_cons (pvc (defScope s_law) 1) (pa_cons (pvc (defScope s_law) 2) (pa_cons (pvc (defScope s_law) 0) pa_nil)))))) pa_nil)) (fun _ => rfl))))))
          (pss_one (ps_ret pe_bl)) pss_nil)
        (pss_cons (ps_set (i := 6) sc_law.nd rfl (by first | exact Or.inl rfl | exact Or.inr rfl) (pe_dnewP P w rfl rfl))
        (pss_cons (ps_for PassesOwn.never rfl (pi_list (pv 4)) (pg_name (i := 5) sc_law.nd rfl (by first | exact Or.inl rfl | exact Or.inr rfl))
          (pss_one (ps_dputP P w rfl rfl (huR hr) (pv 6) (pv 5) pe_bl rfl)))
        (pss_cons (ps_set (i := 7) sc_law.nd rfl (by first | exact Or.inl rfl | exact Or.inr rfl) (pe_lst pa_nil))
        (pss_cons (ps_set (i := 8) sc_law.nd rfl (by first | exact Or.inl rfl | exact Or.inr rfl) pe_int)
        (pss_cons (ps_for PassesOwn.never rfl (pi_list (pv 4)) (pg_name (i := 5) sc_law.nd rfl (by first | exact Or.inl rfl | exact Or.inr rfl))
          (pss_cons (ps_set (i := 9) sc_law.nd rfl (by first | exact Or.inl rfl | exact Or.inr rfl) (pe_call (ok_partner_of T) (hr.mono (by decide)) rfl T.g_partner_of T.F_partner_of.kp T.b_partner_of .nil pass01 (pa_cons (pv 2 (hv := Or.inr (Or.inl rfl))) (pa_cons (pv 5) pa_nil))))
        (pss_cons (ps_aug (i := 8) sc_law.nd rfl (by first | exact Or.inl rfl | exact Or.inr rfl) (pe_call (ok_sign_of T) (hr.mono (by decide)) rfl T.g_sign_of T.F_sign_of.kp T.b_sign_of .nil pass0 (pa_cons (pv 5) pa_nil)) ip_add)
        (pss_one (ps_if (pt_cmpR op_isN (pv 9) pe_non (nomark _))
          (pss_one (ps_expr (pe_bm PySem.F.plainAttrs_list PySem.F.slot_list_append PySem.F.type_list_append mt_append (pv 7) (pa_cons (pv 5) pa_nil)))) (pss_one (ps_if (PW.pt (pw_or (pt_cmpR (op_notInP P w rfl rfl (huR hr)) (pv 9) (pv 6) rfl) (pw_or (pt_cmpR op_ne (pe_call (ok_sign_of T) (hr.mono (by decide)) rfl T.g_sign_of T.F_sign_of.kp T.b_sign_of .nil pass0 (pa_cons (pv 9) pa_nil)) (pe_op op_sub pe_int (pe_call (ok_sign_of T) (hr.mono (by decide)) rfl T.g_sign_of T.F_sign_of.kp T.b_sign_of .nil pass0 (pa_cons (pv 5) pa_nil))) (nomark _)) (pw_or1 (pt_cmpR (op_neT' (eqk_tup eqk_int det_int) (huR hr)) (pe_call (ok_partner_of T) (hr.mono (by decide)) rfl T.g_partner_of T.F_partner_of.kp T.b_partner_of .nil pass01 (pa_cons (pv 2 (hv := Or.inr (Or.inl rfl))) (pa_cons (pv 9) pa_nil))) (pv 5) (nomark _))))))
          (pss_one (ps_ret pe_bl)) pss_nil)))))))
        (pss_cons (ps_set (i := 10) sc_law.nd rfl (by first | exact Or.inl rfl | exact Or.inr rfl) (pe_call (ok_kept_of T) (hr.mono (by decide)) rfl T.g_kept_of T.F_kept_of.kp T.b_kept_of .nil pass01 (pa_cons (pv 2 (hv := Or.inr (Or.inl rfl))) (pa_cons (pv 3 (hv := Or.inr (Or.inl rfl))) pa_nil))))
        (pss_cons (ps_if (PW.pt (pw_or (pt_cmpR op_ne (pe_callB (call_len_P P w rfl rfl) rfl T.b_len PySem.boot_len (pa_cons (pv 6) pa_nil)) (pe_callB call_len_seq rfl T.b_len PySem.boot_len (pa_cons (pv 4) pa_nil)) (nomark _)) (pw_or1 (pt_cmpR (op_neL' (eqk_tup (eqk_tup eqk_int det_int) det_tup) (huR hr)) (pv 7) (pe_comp (ls := ["_law_heap_here"]) (fr := []) (cs_of (defScope s_law) n_law rfl rfl (by decide +kernel)) rfl (pi_list (pv 10)) (fun _ _ _ _ => pgc 0 (by decide +kernel) rfl rfl) (fun _ _ _ _ => pf_nil) (fun _ _ _ _ => (pe_tup (pa_cons (pvc (defScope s_law) 0) (pa_cons (pe_tup pa_nil) pa_nil))))) (nomark _)))))
          (pss_one (ps_ret pe_bl)) pss_nil)
        (pss_one (ps_ret (pe_and (pe_cmpR op_eq (pv 8) (pe_callB call_len_seq rfl T.b_len PySem.boot_len (pa_cons (pv 10) pa_nil)) (nomark _)) (pe_and (pe_cmpR op_eq (pe_call (ok_count_of T) (hr.mono (by decide)) rfl T.g_count_of T.F_count_of.kp T.b_count_of .nil pass01 (pa_cons (pv 2 (hv := Or.inr (Or.inl rfl))) (pa_cons (pv 3 (hv := Or.inr (Or.inl rfl))) pa_nil))) (pv 8) (nomark _)) (pe_one (pe_cmpR op_eq (pe_callB (call_sum_ints rfl) rfl T.b_sum boot_sum (pa_cons (pe_call (ok_by_parts T) (hr.mono (by decide)) rfl T.g_by_parts T.F_by_parts.kp T.b_by_parts .nil pass01 (pa_cons (pv 2 (hv := Or.inr (Or.inl rfl))) (pa_cons (pv 3 (hv := Or.inr (Or.inl rfl))) pa_nil))) pa_nil)) (pv 8) (nomark _))))))))))))))))))), ?_⟩
    refine ⟨_, rfl, a, ns, rfl, hS, hl, fun st ga ca H1 S1 n1 n2 n3 s1 => ?_⟩
    refine ⟨_, rfl, st, ga, ca, 0, rfl, S1, by decide, fun p rs rule H3 hp3 h23 hln hgd S3 K3 np => ?_⟩
    refine ⟨_, rfl, st, ga, ca, _, 9, rfl, S3, by decide, by decide, by decide, fun n0 H4 n00 n01 S4 K4 => ?_⟩
    obtain ⟨m, rfl⟩ : ∃ m : Nat, n0 = (m : Int) := ⟨n0.toNat, by omega⟩
    have hm8 : m ≤ 8 := by omega
    have hp4 := (K4.tups S3) _ _ hp3
    have h24 := h23.mv (K4.tups S3)
    have hJ : RuleJ rule := by
      refine ⟨⟨rule.flatten, ?_, fun h hh x hx => List.mem_flatten.mpr ⟨h, hh, hx⟩⟩, fun h hh => Nat.le_trans (hgd h hh).ln (by decide), fun h hh x hx => ((hgd h hh).bd x hx).1⟩
      have := flat_le (ls := rule) (B := 10) fun h hh => (hgd h hh).ln
      omega
    have h10k : ∀ h ∈ rule, h.length ≤ 10000 := fun h hh => Nat.le_trans (hgd h hh).ln (by decide)
    clear S1 s1 S3 K3 hp3 h23 K4
    refine ⟨_, rfl, _, rfl, p, rs, rule, (m : Int), rfl, hp4, h24, hln, .inl ⟨m, rfl, by omega, fun l xs H5 gl h5 s5 nl => ?_⟩⟩
    have hPn := pairsG_nodup rule _ (part8_of hm8).1
    have hPm : ∀ pc ∈ pairsG rule (partF 26 m m), pc.1 ∈ partF 26 m m ∧ isPairG rule pc = true := fun pc h => pairsG_iff.mp h
    have hPa := alone_kept rule (partF 26 m m)
    have hPs := sgn_pairs rule (partF 26 m m)
    have hPb : ∀ pc ∈ pairsG rule (partF 26 m m), ∀ pc', partnerG rule pc = some pc' → pc' ∈ pairsG rule (partF 26 m m) := fun pc h pc' e => by
      obtain ⟨e1, e2⟩ := hPm pc h
      obtain ⟨b1, b2, b3, b4, b5⟩ := partner_back e2 e
      exact pairsG_iff.mpr ⟨by rw [b4]; exact e1, b1⟩
    have hPl : (pairsG rule (partF 26 m m)).length ≤ 16384 := by
      refine Nat.le_trans (pairsG_len hln _) ?_
      have h1 := partF_len 26 m m
      have h2 : 2 ^ m ≤ 256 := Nat.le_trans (Nat.pow_le_pow_right (by decide) hm8) (by decide)
      omega
    have hPc : ∀ pc ∈ pairsG rule (partF 26 m m), pc.1.length ≤ 8 ∧ pc.1.sum = (m : Int) ∧ pc.2 ∈ chG (idxG rule pc.1) ∧ pc.2.length ≤ 6 := fun pc h => by
      obtain ⟨e1, e2⟩ := pairsG_mem h
      refine ⟨Nat.le_trans (partF_mem _ _ _ _ e1) hm8, (part8_of hm8).2 _ e1, e2, ?_⟩
      have := (chG_mem _ _ rfl pc.2 e2).1
      have := idxG_len rule pc.1
      omega
    generalize pairsG rule (partF 26 m m) = PG at *
    have hxl := h5.length
    have hp5 := s5 _ _ hp4
    have h25 := h24.mv s5.tups
    refine ⟨_, rfl, _, _, _, true, rfl, TyOf.lst gl, kit_list_list, true, rfl, iteF ?_⟩
    refine ⟨_, rfl, l, rfl, ⟨_, SqL.of gl⟩, comp_list (xs := xs) (fun j ys σ' H' => Same H5 H' ∧ (∃ v, σ' = [v, some (.ref p), some (.int m)]) ∧ ys = (List.replicate j true).map V.bl ∧ j ≤ xs.length) ⟨fun _ _ h => h, ⟨_, rfl⟩, rfl, Nat.zero_le _⟩ ?_ ?_ ?_⟩
    · rintro j ys σ' H' hj ⟨s', _, rfl, hj'⟩
      refine ⟨SqL.of (s' _ _ gl), ?_⟩
      rw [List.length_map, List.length_replicate]
      exact Nat.le_trans (m := 16384) (by omega) (by decide)
    · rintro j x ys σ' H' hx ⟨s', ⟨v, rfl⟩, rfl, hj'⟩
      obtain ⟨pc, hpc, hv⟩ := h5.get hx
      obtain ⟨c1, c2, c3, c4⟩ := hPc pc (List.mem_of_getElem? hpc)
      refine ⟨_, rfl, _, rfl, _, rfl, p, rs, rule, (m : Int), _, pc, rfl, s' _ _ hp5, h25.mv s'.tups, hln, h10k, hv.mv s'.tups, by omega, c2, c3, fun H6 s6 => ⟨s'.trans s6, ⟨_, rfl⟩, ?_, ?_⟩⟩
      · rw [List.replicate_succ', List.map_append]
        rfl
      · have := (List.getElem?_eq_some_iff.mp hx).1
        omega
    rintro ys σ' H6 ⟨s6, _, rfl, _⟩ wl hwl
    refine ⟨wl, List.replicate xs.length true, rfl, SqL.of upd_same, true, ?_, iteF ?_⟩
    · show true = (List.replicate xs.length true).all id
      simp
    have s7 := s6.trans (Same.new (o := .lst ((List.replicate xs.length true).map V.bl)) hwl)
    generalize upd H6 wl (.lst ((List.replicate xs.length true).map V.bl)) = H7 at s7 ⊢
    have gl7 := s7 _ _ gl
    have h57 := h5.mvP s7.tups
    have hp7 := s7 _ _ hp5
    have h27 := h25.mv s7.tups
    clear s6 hwl
    intro d hd
    have s8 := Same.new (o := .ext (IsDP P w d [])) hd
    have gd0 := upd_same (H := H7) (a := d) (o := .ext (IsDP P w d []))
    generalize upd H7 d (.ext (IsDP P w d [])) = H8 at s8 gd0 ⊢
    have gl8 := s8 _ _ gl7
    have h58 := h57.mvP s8.tups
    have hp8 := s8 _ _ hp7
    have h28 := h27.mv s8.tups
    have nld : l ≠ d := fun e => by rw [e] at gl7; rw [gl7] at hd; cases hd
    have tK : ∀ {H'}, Keep [d] H8 H' → Tups H8 H' := fun K b ys e => K _ _ e (fun z => by
      have : b = d := by simpa using z
      subst this
      rw [gd0] at e
      cases e)
    refine ⟨_, rfl, l, rfl, ⟨_, SqL.of gl8⟩, for_list (xs := xs) (fun i σ' H' => (∃ v5, σ' = [some (.ref a), some (.ref st), some (.ref p), some (.int m), some (.ref l), v5, some (.ref d), none, none, none, none]) ∧ Keep [d] H8 H' ∧ ∃ ks : List (Pr2 × Addr), H' d = some (.ext (IsDP P w d ks)) ∧ KeysH H' ks ∧ ks.map (·.1) = PG.take i) ⟨⟨_, rfl⟩, Keep.refl _ _, [], gd0, (fun q hq => by cases hq), rfl⟩ ?_ ?_ ?_⟩
    · rintro i σ' H' _ ⟨_, K, _⟩
      exact SqL.of (K.at gl8 (by simp [nld]))
    · rintro i x σ' H' hx ⟨⟨v5, rfl⟩, K, ks, gd, hk, hks⟩
      obtain ⟨pc, hpc, hv⟩ := h58.get hx
      have hv' := hv.mv (tK K)
      obtain ⟨q, a1, b1, rfl, g1, g2, g3⟩ := id hv'
      have hkl : ks.length ≤ 16384 := by
        have := congrArg List.length hks
        rw [List.length_map, List.length_take] at this
        omega
      refine ⟨_, rfl, _, rfl, d, q, ks, pc, rfl, rfl, rfl, gd, hk, hv', Nat.le_trans hkl (by decide), by rw [hks]; exact not_taken hPn hpc, ?_⟩
      have tS : Tups H' (upd H' d (.ext (IsDP P w d (ks ++ [(pc, q)])))) := Tups.setE gd
      refine ⟨⟨_, rfl⟩, K.trans (Keep.set (by simp)), ks ++ [(pc, q)], upd_same, fun z hz => ?_, ?_⟩
      · rcases List.mem_append.mp hz with hz | hz
        · exact (hk z hz).mv tS
        · have : z = (pc, q) := by simpa using hz
          subst this
          exact hv'.mv tS
      · rw [List.map_append, hks, List.take_succ, hpc]
        rfl
    rintro σ' H9 ⟨⟨v5, rfl⟩, K9, ks, gd9, hk9, hks⟩
    rw [← hxl, List.take_length] at hks
    have hkl : ks.length = PG.length := by rw [← hks, List.length_map]
    have t9 := tK K9
    have gl9 := K9.at gl8 (by simp [nld])
    have h59 := h58.mvP t9
    have hp9 := t9 _ _ hp8
    have h29 := h28.mv t9
    clear tK K9 gd0
    refine ⟨by show 0 ≤ sizeLine; decide, fun al hal => ?_⟩
    have sA := Same.new (o := .lst []) hal
    have ga0 := upd_same (H := H9) (a := al) (o := .lst [])
    generalize upd H9 al (.lst []) = HA at sA ga0 ⊢
    have glA := sA _ _ gl9
    have gdA := sA _ _ gd9
    have hkA := hk9.mv sA.tups
    have h5A := h59.mvP sA.tups
    have hpA := sA _ _ hp9
    have h2A := h29.mv sA.tups
    have nla : l ≠ al := fun e => by rw [e, hal] at gl9; cases gl9
    have nda : d ≠ al := fun e => by rw [e, hal] at gd9; cases gd9
    have tK : ∀ {H'}, Keep [al] HA H' → Tups HA H' := fun K b ys e => K _ _ e (fun z => by
      have : b = al := by simpa using z
      subst this
      rw [ga0] at e
      cases e)
    refine ⟨_, rfl, l, rfl, ⟨_, SqL.of glA⟩, for_list (xs := xs) (fun i σ' H' => (∃ v5 v9, σ' = [some (.ref a), some (.ref st), some (.ref p), some (.int m), some (.ref l), v5, some (.ref d), some (.ref al), some (.int (((PG.take i).map fun pc => sgnG pc.2).sum)), v9, none]) ∧ Keep [al] HA H' ∧ ∃ as : List V, H' al = some (.lst as) ∧ All2 Pair1 H' ((PG.take i).filter fun pc => (partnerG rule pc).isNone) as) ⟨⟨_, _, rfl⟩, Keep.refl _ _, [], ga0, .nil⟩ ?_ ?_ ?_⟩
    · rintro i σ' H' _ ⟨_, K, _⟩
      exact SqL.of (K.at glA (by simp [nla]))
    · rintro i x σ' H' hx ⟨⟨v5, v9, rfl⟩, K, as, gas, aas⟩
      obtain ⟨pc, hpc, hv⟩ := h5A.get hx
      have hmem := List.mem_of_getElem? hpc
      obtain ⟨c1, c2, c3, c4⟩ := hPc pc hmem
      have hPr := (hPm pc hmem).2
      have t' := tK K
      have hv' := hv.mv t'
      have hp' := t' _ _ hpA
      have h2' := h2A.mv t'
      have hasl : as.length ≤ 16384 := by
        rw [← aas.length]
        refine Nat.le_trans (List.length_filter_le ..) ?_
        rw [List.length_take]
        omega
      have esum : ((PG.take (i + 1)).map fun pc => sgnG pc.2).sum = ((PG.take i).map fun pc => sgnG pc.2).sum + sgnG pc.2 := by
        rw [List.take_succ, hpc, List.map_append, List.sum_append]
        simp
      refine ⟨_, rfl, _, rfl, p, _, rs, rule, pc, rfl, hp', h2', hv', by omega, by omega, .inl ⟨hPr, fun hno HB sB => ?_, fun pc' e v' HB hvB sB => ?_⟩⟩
      · have gaB := sB _ _ gas
        refine ⟨_, rfl, _, rfl, pc, _, rfl, hv'.mv sB.tups, _, _, rfl, rfl, ?_⟩
        refine ⟨_, rfl, rfl, _, rfl, iteT' (by simp) ?_⟩
        refine ⟨_, rfl, .inl ⟨rfl, _, SqL.of gaB⟩, _, rfl, al, _, _, rfl, rfl, gaB, Nat.lt_of_le_of_lt hasl (by decide), ?_⟩
        have tS : Tups HB (upd HB al (.lst (as ++ [x]))) := Tups.set gaB
        refine ⟨?_, K.trans (sB.keep.trans (Keep.set (by simp))), _, upd_same, ?_⟩
        · rw [esum]
          exact ⟨_, _, rfl⟩
        · rw [filter_take _ hpc, if_pos (by rw [hno]; rfl)]
          exact (aas.imp fun _ _ z => (z.mv sB.tups).mv tS).snoc ((hv'.mv sB.tups).mv tS)
      · obtain ⟨b1, b2, b3, b4, b5⟩ := partner_back hPr e
        have hin := hPb pc hmem pc' e
        obtain ⟨q', a1', b1', rfl, g1', g2', g3'⟩ := id hvB
        have tB := t'.trans sB.tups
        refine ⟨_, rfl, _, rfl, pc, _, rfl, hv'.mv sB.tups, _, _, rfl, rfl, ?_⟩
        refine ⟨_, rfl, rfl, _, rfl, ite2 (fun hc => absurd (of_decide_eq_true hc) (by intro z; cases z)) (fun _ => ?_)⟩
        have gdB := sB _ _ (K.at gdA (by simp [nda]))
        refine ⟨_, rfl, _, rfl, d, q', ks, pc', rfl, rfl, gdB, hkA.mv tB, hvB, ?_⟩
        have hany : (ks.any fun z => decide (z.1 = pc')) = true := by
          rw [← hks] at hin
          obtain ⟨z, hz, ez⟩ := List.mem_map.mp hin
          exact List.any_eq_true.mpr ⟨z, hz, decide_eq_true ez⟩
        rw [hany]
        refine ⟨false, rfl, iteF ?_⟩
        refine ⟨_, rfl, pc', _, rfl, hvB, _, rfl, pc, _, rfl, hv'.mv sB.tups, _, _, rfl, rfl, rfl, _, rfl, iteNS (by rw [b3]) ?_⟩
        refine ⟨_, rfl, _, rfl, p, _, rs, rule, pc', rfl, sB _ _ hp', h2'.mv sB.tups, hvB, by omega, by omega, .inl ⟨b1, fun hn => absurd (hn.symm.trans b2) (by intro z; cases z), fun pc2 e2 v2 HC hvC sC => ?_⟩⟩
        have ep : pc2 = pc := Option.some.inj (e2.symm.trans b2)
        subst ep
        obtain ⟨q2, a2, b2', rfl, g1, g2, g3⟩ := id hvC
        obtain ⟨q0, a0, b0, ex, f1, f2, f3⟩ := id ((hv'.mv sB.tups).mv sC.tups)
        subst ex
        refine ⟨_, rfl, [pc2.1, pc2.2], [pc2.1, pc2.2], Pair1.rtup g1 g2 g3, Pair1.rtup f1 f2 f3, _, rfl, iteNS rfl ?_⟩
        have sBC := sB.trans sC
        refine ⟨?_, K.trans sBC.keep, as, sBC _ _ gas, ?_⟩
        · rw [esum]
          exact ⟨_, _, rfl⟩
        · rw [filter_take _ hpc, if_neg (by rw [e]; exact Bool.false_ne_true), List.append_nil]
          exact aas.imp fun _ _ z => z.mv sBC.tups
    rintro σ' HB ⟨⟨v5, v9, rfl⟩, KB, as, gaB, aaB⟩
    rw [← hxl, List.take_length] at aaB
    rw [← hxl, List.take_length, hPs]
    rw [hPa] at aaB
    have tB := tK KB
    have glB := KB.at glA (by simp [nla])
    have gdB := KB.at gdA (by simp [nda])
    have hpB := tB _ _ hpA
    have h2B := h2A.mv tB
    refine ⟨_, rfl, _, rfl, p, rs, rule, (m : Int), rfl, hpB, h2B, by omega, .inl ⟨m, rfl, by omega, fun kl kxs HC gk ak sC nk => ?_⟩⟩
    refine ⟨_, rfl, d, ks, rfl, sC _ _ gdB, Nat.le_trans (m := 16384) (by omega) (by decide), _, rfl, l, _, rfl, .inl (SqL.of (sC _ _ glB)), rfl, _, rfl, iteNS (by rw [hkl, hxl]) ?_⟩
    have hkx := ak.length
    have hk8 : kxs.length ≤ 256 := by
      rw [← hkx]
      exact Nat.le_trans (keptG_len _ _) (Nat.le_trans (Nat.pow_le_pow_right (by decide) hm8) (by decide))
    refine ⟨_, rfl, _, rfl, kl, rfl, ⟨_, SqL.of gk⟩, comp_list (xs := kxs) (fun j ys σ' H' => Same HC H' ∧ (∃ v, σ' = [v]) ∧ All2 Pair1 H' (((keptG rule m).take j).map fun h => (h, ([] : List Int))) ys) ⟨fun _ _ h => h, ⟨_, rfl⟩, .nil⟩ ?_ ?_ ?_⟩
    · rintro j ys σ' H' hj ⟨s', _, hy⟩
      refine ⟨SqL.of (s' _ _ gk), ?_⟩
      rw [← hy.length, List.length_map, List.length_take]
      exact Nat.le_trans (m := 256) (by omega) (by decide)
    · rintro j x ys σ' H' hx ⟨s', ⟨v, rfl⟩, hy⟩
      obtain ⟨h, hh, q, rfl, hq⟩ := ak.get hx
      refine ⟨_, rfl, by show 0 ≤ sizeLine; decide, fun e he => ⟨by show 2 ≤ sizeLine; decide, fun t ht => ?_⟩⟩
      have se := (Same.new (o := .tup []) he).trans (Same.new (o := .tup [V.ref q, V.ref e]) ht)
      refine ⟨s'.trans se, ⟨_, rfl⟩, ?_⟩
      rw [List.take_succ, hh, List.map_append]
      exact (hy.imp fun _ _ z => z.mv se.tups).snoc ⟨t, q, e, rfl, upd_same, se _ _ (s' _ _ hq), Same.new ht _ _ upd_same⟩
    rintro ys σ' HD ⟨sD, _, hy⟩ yl hyl
    rw [← hkx, List.take_length] at hy
    have sE := sD.trans (Same.new (o := .lst ys) hyl)
    have gy := upd_same (H := HD) (a := yl) (o := .lst ys)
    have hyE := hy.mvP (Same.new (o := .lst ys) hyl).tups
    generalize upd HD yl (.lst ys) = HE at sE gy hyE ⊢
    have sCE := sC.trans sE
    refine ⟨_, _, ⟨al, _, rfl, SqL.of (sCE _ _ gaB), all2_pairs (aaB.mvP sCE.tups)⟩, ⟨yl, _, rfl, SqL.of gy, all2_pairs hyE⟩, _, rfl, iteNS rfl ?_⟩
    have gkE := sE _ _ gk
    refine ⟨_, rfl, _, rfl, kl, _, rfl, .inl (SqL.of gkE), rfl, _, rfl, iteT' (decide_eq_true (by rw [← hkx]; rfl)) ?_⟩
    refine ⟨_, rfl, _, rfl, p, rs, rule, (m : Int), rfl, sCE _ _ hpB, h2B.mv sCE.tups, hln, hJ, .inl ⟨m, rfl, by omega, fun HF sF => ?_⟩⟩
    have kw := kept_way (rule := rule) hJ.2.2 (show m ≤ 24 by omega)
    refine ⟨_, rfl, rfl, _, rfl, iteT' (decide_eq_true (by rw [← kw]; rfl)) ?_⟩
    have sF' := sCE.trans sF
    refine ⟨_, rfl, _, rfl, p, rs, rule, (m : Int), rfl, sF' _ _ hpB, h2B.mv sF'.tups, by omega, .inl ⟨m, rfl, by omega, fun bl HG gb sG nb => ?_⟩⟩
    refine ⟨bl, _, rfl, .inl (SqL.of gb), _, rfl, rfl, ?_⟩
    rw [parts_sum _ _ fun x hx => keptG_mem hx, decide_eq_true (by rfl)]
    exact k _
end
theorem all_mk {l : PySem.W.OpenLaw} {w : World} {K : PySem.W.Frag} {h : Heap} {mg : Str → Option Value} {fa : Addr} (X : K.In h) (G : h.Ns mainGlobals mg) (hfa : mg "law" = some (.ref fa))
    {f0 : Addr} {od0 an0 : Option Addr} {sl0 : Array (Option Value)} {oc0 kV0 dc0 pm0 cd0 ct0 : Value}
    {f1 : Addr} {od1 an1 : Option Addr} {sl1 : Array (Option Value)} {oc1 kV1 dc1 pm1 cd1 ct1 : Value}
    {f2 : Addr} {od2 an2 : Option Addr} {sl2 : Array (Option Value)} {oc2 kV2 dc2 pm2 cd2 ct2 : Value}
    {f3 : Addr} {od3 an3 : Option Addr} {sl3 : Array (Option Value)} {oc3 kV3 dc3 pm3 cd3 ct3 : Value}
    {f4 : Addr} {od4 an4 : Option Addr} {sl4 : Array (Option Value)} {oc4 kV4 dc4 pm4 cd4 ct4 : Value}
    {f5 : Addr} {od5 an5 : Option Addr} {sl5 : Array (Option Value)} {oc5 kV5 dc5 pm5 cd5 ct5 : Value}
    {f6 : Addr} {od6 an6 : Option Addr} {sl6 : Array (Option Value)} {oc6 kV6 dc6 pm6 cd6 ct6 : Value}
    {f7 : Addr} {od7 an7 : Option Addr} {sl7 : Array (Option Value)} {oc7 kV7 dc7 pm7 cd7 ct7 : Value}
    {f8 : Addr} {od8 an8 : Option Addr} {sl8 : Array (Option Value)} {oc8 kV8 dc8 pm8 cd8 ct8 : Value}
    {f9 : Addr} {od9 an9 : Option Addr} {sl9 : Array (Option Value)} {oc9 kV9 dc9 pm9 cd9 ct9 : Value}
    {f10 : Addr} {od10 an10 : Option Addr} {sl10 : Array (Option Value)} {oc10 kV10 dc10 pm10 cd10 ct10 : Value}
    {f11 : Addr} {od11 an11 : Option Addr} {sl11 : Array (Option Value)} {oc11 kV11 dc11 pm11 cd11 ct11 : Value}
    {f12 : Addr} {od12 an12 : Option Addr} {sl12 : Array (Option Value)} {oc12 kV12 dc12 pm12 cd12 ct12 : Value}
    {f13 : Addr} {od13 an13 : Option Addr} {sl13 : Array (Option Value)} {oc13 kV13 dc13 pm13 cd13 ct13 : Value}
    {f14 : Addr} {od14 an14 : Option Addr} {sl14 : Array (Option Value)} {oc14 kV14 dc14 pm14 cd14 ct14 : Value}
    {f15 : Addr} {od15 an15 : Option Addr} {sl15 : Array (Option Value)} {oc15 kV15 dc15 pm15 cd15 ct15 : Value}
    {f16 : Addr} {od16 an16 : Option Addr} {sl16 : Array (Option Value)} {oc16 kV16 dc16 pm16 cd16 ct16 : Value}
    {f17 : Addr} {od17 an17 : Option Addr} {sl17 : Array (Option Value)} {oc17 kV17 dc17 pm17 cd17 ct17 : Value}
    {f18 : Addr} {od18 an18 : Option Addr} {sl18 : Array (Option Value)} {oc18 kV18 dc18 pm18 cd18 ct18 : Value}
    {f19 : Addr} {od19 an19 : Option Addr} {sl19 : Array (Option Value)} {oc19 kV19 dc19 pm19 cd19 ct19 : Value}
    {f20 : Addr} {od20 an20 : Option Addr} {sl20 : Array (Option Value)} {oc20 kV20 dc20 pm20 cd20 ct20 : Value}
    {f21 : Addr} {od21 an21 : Option Addr} {sl21 : Array (Option Value)} {oc21 kV21 dc21 pm21 cd21 ct21 : Value}
    {f22 : Addr} {od22 an22 : Option Addr} {sl22 : Array (Option Value)} {oc22 kV22 dc22 pm22 cd22 ct22 : Value}
    {f23 : Addr} {od23 an23 : Option Addr} {sl23 : Array (Option Value)} {oc23 kV23 dc23 pm23 cd23 ct23 : Value}
    {f24 : Addr} {od24 an24 : Option Addr} {sl24 : Array (Option Value)} {oc24 kV24 dc24 pm24 cd24 ct24 : Value}
    {f25 : Addr} {od25 an25 : Option Addr} {sl25 : Array (Option Value)} {oc25 kV25 dc25 pm25 cd25 ct25 : Value}
    {f26 : Addr} {od26 an26 : Option Addr} {sl26 : Array (Option Value)} {oc26 kV26 dc26 pm26 cd26 ct26 : Value}
    {f27 : Addr} {od27 an27 : Option Addr} {sl27 : Array (Option Value)} {oc27 kV27 dc27 pm27 cd27 ct27 : Value}
    {f28 : Addr} {od28 an28 : Option Addr} {sl28 : Array (Option Value)} {oc28 kV28 dc28 pm28 cd28 ct28 : Value}
    {f29 : Addr} {od29 an29 : Option Addr} {sl29 : Array (Option Value)} {oc29 kV29 dc29 pm29 cd29 ct29 : Value}
    {f30 : Addr} {od30 an30 : Option Addr} {sl30 : Array (Option Value)} {oc30 kV30 dc30 pm30 cd30 ct30 : Value}
    {f31 : Addr} {od31 an31 : Option Addr} {sl31 : Array (Option Value)} {oc31 kV31 dc31 pm31 cd31 ct31 : Value}
    {f32 : Addr} {od32 an32 : Option Addr} {sl32 : Array (Option Value)} {oc32 kV32 dc32 pm32 cd32 ct32 : Value}
    {f33 : Addr} {od33 an33 : Option Addr} {sl33 : Array (Option Value)} {oc33 kV33 dc33 pm33 cd33 ct33 : Value}
    {q_NoSum : Addr}
    {q_NoPair : Addr}
    (a0 : PySem.W.nsIn K mainGlobals "often" = some (some (.ref f0))) (l0 : K.lookup f0 = some ⟨oc0, od0, .func (PySem.W.fnOf "often" "often" (defArgs s_often) (defBody s_often) (defScope s_often) .none kV0 dc0 pm0 an0 cd0 ct0), sl0⟩) (c0 : PySem.W.codeIn K cd0 "often" = true) (k0 : PySem.W.keepIn K (.ref f0) = true)
    (a1 : PySem.W.nsIn K mainGlobals "lies_in" = some (some (.ref f1))) (l1 : K.lookup f1 = some ⟨oc1, od1, .func (PySem.W.fnOf "lies_in" "lies_in" (defArgs s_lies_in) (defBody s_lies_in) (defScope s_lies_in) .none kV1 dc1 pm1 an1 cd1 ct1), sl1⟩) (c1 : PySem.W.codeIn K cd1 "lies_in" = true) (k1 : PySem.W.keepIn K (.ref f1) = true)
    (a2 : PySem.W.nsIn K mainGlobals "all_in" = some (some (.ref f2))) (l2 : K.lookup f2 = some ⟨oc2, od2, .func (PySem.W.fnOf "all_in" "all_in" (defArgs s_all_in) (defBody s_all_in) (defScope s_all_in) .none kV2 dc2 pm2 an2 cd2 ct2), sl2⟩) (c2 : PySem.W.codeIn K cd2 "all_in" = true) (k2 : PySem.W.keepIn K (.ref f2) = true)
    (a3 : PySem.W.nsIn K mainGlobals "first_in" = some (some (.ref f3))) (l3 : K.lookup f3 = some ⟨oc3, od3, .func (PySem.W.fnOf "first_in" "first_in" (defArgs s_first_in) (defBody s_first_in) (defScope s_first_in) .none kV3 dc3 pm3 an3 cd3 ct3), sl3⟩) (c3 : PySem.W.codeIn K cd3 "first_in" = true) (k3 : PySem.W.keepIn K (.ref f3) = true)
    (a4 : PySem.W.nsIn K mainGlobals "keeps" = some (some (.ref f4))) (l4 : K.lookup f4 = some ⟨oc4, od4, .func (PySem.W.fnOf "keeps" "keeps" (defArgs s_keeps) (defBody s_keeps) (defScope s_keeps) .none kV4 dc4 pm4 an4 cd4 ct4), sl4⟩) (c4 : PySem.W.codeIn K cd4 "keeps" = true) (k4 : PySem.W.keepIn K (.ref f4) = true)
    (a5 : PySem.W.nsIn K mainGlobals "refuse_beyond" = some (some (.ref f5))) (l5 : K.lookup f5 = some ⟨oc5, od5, .func (PySem.W.fnOf "refuse_beyond" "refuse_beyond" (defArgs s_refuse_beyond) (defBody s_refuse_beyond) (defScope s_refuse_beyond) .none kV5 dc5 pm5 an5 cd5 ct5), sl5⟩) (c5 : PySem.W.codeIn K cd5 "refuse_beyond" = true) (k5 : PySem.W.keepIn K (.ref f5) = true)
    (a6 : PySem.W.nsIn K mainGlobals "partings_to" = some (some (.ref f6))) (l6 : K.lookup f6 = some ⟨oc6, od6, .func (PySem.W.fnOf "partings_to" "partings_to" (defArgs s_partings_to) (defBody s_partings_to) (defScope s_partings_to) .none kV6 dc6 pm6 an6 cd6 ct6), sl6⟩) (c6 : PySem.W.codeIn K cd6 "partings_to" = true) (k6 : PySem.W.keepIn K (.ref f6) = true)
    (a7 : PySem.W.nsIn K mainGlobals "partings_of" = some (some (.ref f7))) (l7 : K.lookup f7 = some ⟨oc7, od7, .func (PySem.W.fnOf "partings_of" "partings_of" (defArgs s_partings_of) (defBody s_partings_of) (defScope s_partings_of) .none kV7 dc7 pm7 an7 cd7 ct7), sl7⟩) (c7 : PySem.W.codeIn K cd7 "partings_of" = true) (k7 : PySem.W.keepIn K (.ref f7) = true)
    (a8 : PySem.W.nsIn K mainGlobals "kept_of" = some (some (.ref f8))) (l8 : K.lookup f8 = some ⟨oc8, od8, .func (PySem.W.fnOf "kept_of" "kept_of" (defArgs s_kept_of) (defBody s_kept_of) (defScope s_kept_of) .none kV8 dc8 pm8 an8 cd8 ct8), sl8⟩) (c8 : PySem.W.codeIn K cd8 "kept_of" = true) (k8 : PySem.W.keepIn K (.ref f8) = true)
    (a9 : PySem.W.nsIn K mainGlobals "by_parts" = some (some (.ref f9))) (l9 : K.lookup f9 = some ⟨oc9, od9, .func (PySem.W.fnOf "by_parts" "by_parts" (defArgs s_by_parts) (defBody s_by_parts) (defScope s_by_parts) .none kV9 dc9 pm9 an9 cd9 ct9), sl9⟩) (c9 : PySem.W.codeIn K cd9 "by_parts" = true) (k9 : PySem.W.keepIn K (.ref f9) = true)
    (a10 : PySem.W.nsIn K mainGlobals "sign_of" = some (some (.ref f10))) (l10 : K.lookup f10 = some ⟨oc10, od10, .func (PySem.W.fnOf "sign_of" "sign_of" (defArgs s_sign_of) (defBody s_sign_of) (defScope s_sign_of) .none kV10 dc10 pm10 an10 cd10 ct10), sl10⟩) (c10 : PySem.W.codeIn K cd10 "sign_of" = true) (k10 : PySem.W.keepIn K (.ref f10) = true)
    (a11 : PySem.W.nsIn K mainGlobals "is_choice" = some (some (.ref f11))) (l11 : K.lookup f11 = some ⟨oc11, od11, .func (PySem.W.fnOf "is_choice" "is_choice" (defArgs s_is_choice) (defBody s_is_choice) (defScope s_is_choice) .none kV11 dc11 pm11 an11 cd11 ct11), sl11⟩) (c11 : PySem.W.codeIn K cd11 "is_choice" = true) (k11 : PySem.W.keepIn K (.ref f11) = true)
    (a12 : PySem.W.nsIn K mainGlobals "is_pair" = some (some (.ref f12))) (l12 : K.lookup f12 = some ⟨oc12, od12, .func (PySem.W.fnOf "is_pair" "is_pair" (defArgs s_is_pair) (defBody s_is_pair) (defScope s_is_pair) .none kV12 dc12 pm12 an12 cd12 ct12), sl12⟩) (c12 : PySem.W.codeIn K cd12 "is_pair" = true) (k12 : PySem.W.keepIn K (.ref f12) = true)
    (a13 : PySem.W.nsIn K mainGlobals "partner_of" = some (some (.ref f13))) (l13 : K.lookup f13 = some ⟨oc13, od13, .func (PySem.W.fnOf "partner_of" "partner_of" (defArgs s_partner_of) (defBody s_partner_of) (defScope s_partner_of) .none kV13 dc13 pm13 an13 cd13 ct13), sl13⟩) (c13 : PySem.W.codeIn K cd13 "partner_of" = true) (k13 : PySem.W.keepIn K (.ref f13) = true)
    (a14 : PySem.W.nsIn K mainGlobals "choices_among" = some (some (.ref f14))) (l14 : K.lookup f14 = some ⟨oc14, od14, .func (PySem.W.fnOf "choices_among" "choices_among" (defArgs s_choices_among) (defBody s_choices_among) (defScope s_choices_among) .none kV14 dc14 pm14 an14 cd14 ct14), sl14⟩) (c14 : PySem.W.codeIn K cd14 "choices_among" = true) (k14 : PySem.W.keepIn K (.ref f14) = true)
    (a15 : PySem.W.nsIn K mainGlobals "pairs_of" = some (some (.ref f15))) (l15 : K.lookup f15 = some ⟨oc15, od15, .func (PySem.W.fnOf "pairs_of" "pairs_of" (defArgs s_pairs_of) (defBody s_pairs_of) (defScope s_pairs_of) .none kV15 dc15 pm15 an15 cd15 ct15), sl15⟩) (c15 : PySem.W.codeIn K cd15 "pairs_of" = true) (k15 : PySem.W.keepIn K (.ref f15) = true)
    (a16 : PySem.W.nsIn K mainGlobals "sum_of" = some (some (.ref f16))) (l16 : K.lookup f16 = some ⟨oc16, od16, .func (PySem.W.fnOf "sum_of" "sum_of" (defArgs s_sum_of) (defBody s_sum_of) (defScope s_sum_of) .none kV16 dc16 pm16 an16 cd16 ct16), sl16⟩) (c16 : PySem.W.codeIn K cd16 "sum_of" = true) (k16 : PySem.W.keepIn K (.ref f16) = true)
    (a17 : PySem.W.nsIn K mainGlobals "choices_of" = some (some (.ref f17))) (l17 : K.lookup f17 = some ⟨oc17, od17, .func (PySem.W.fnOf "choices_of" "choices_of" (defArgs s_choices_of) (defBody s_choices_of) (defScope s_choices_of) .none kV17 dc17 pm17 an17 cd17 ct17), sl17⟩) (c17 : PySem.W.codeIn K cd17 "choices_of" = true) (k17 : PySem.W.keepIn K (.ref f17) = true)
    (a18 : PySem.W.nsIn K mainGlobals "unlike_parts" = some (some (.ref f18))) (l18 : K.lookup f18 = some ⟨oc18, od18, .func (PySem.W.fnOf "unlike_parts" "unlike_parts" (defArgs s_unlike_parts) (defBody s_unlike_parts) (defScope s_unlike_parts) .none kV18 dc18 pm18 an18 cd18 ct18), sl18⟩) (c18 : PySem.W.codeIn K cd18 "unlike_parts" = true) (k18 : PySem.W.keepIn K (.ref f18) = true)
    (a19 : PySem.W.nsIn K mainGlobals "joined" = some (some (.ref f19))) (l19 : K.lookup f19 = some ⟨oc19, od19, .func (PySem.W.fnOf "joined" "joined" (defArgs s_joined) (defBody s_joined) (defScope s_joined) .none kV19 dc19 pm19 an19 cd19 ct19), sl19⟩) (c19 : PySem.W.codeIn K cd19 "joined" = true) (k19 : PySem.W.keepIn K (.ref f19) = true)
    (a20 : PySem.W.nsIn K mainGlobals "joined_of" = some (some (.ref f20))) (l20 : K.lookup f20 = some ⟨oc20, od20, .func (PySem.W.fnOf "joined_of" "joined_of" (defArgs s_joined_of) (defBody s_joined_of) (defScope s_joined_of) .none kV20 dc20 pm20 an20 cd20 ct20), sl20⟩) (c20 : PySem.W.codeIn K cd20 "joined_of" = true) (k20 : PySem.W.keepIn K (.ref f20) = true)
    (a21 : PySem.W.nsIn K mainGlobals "next_way" = some (some (.ref f21))) (l21 : K.lookup f21 = some ⟨oc21, od21, .func (PySem.W.fnOf "next_way" "next_way" (defArgs s_next_way) (defBody s_next_way) (defScope s_next_way) .none kV21 dc21 pm21 an21 cd21 ct21), sl21⟩) (c21 : PySem.W.codeIn K cd21 "next_way" = true) (k21 : PySem.W.keepIn K (.ref f21) = true)
    (a22 : PySem.W.nsIn K mainGlobals "ways_to" = some (some (.ref f22))) (l22 : K.lookup f22 = some ⟨oc22, od22, .func (PySem.W.fnOf "ways_to" "ways_to" (defArgs s_ways_to) (defBody s_ways_to) (defScope s_ways_to) .none kV22 dc22 pm22 an22 cd22 ct22), sl22⟩) (c22 : PySem.W.codeIn K cd22 "ways_to" = true) (k22 : PySem.W.keepIn K (.ref f22) = true)
    (a23 : PySem.W.nsIn K mainGlobals "count_of" = some (some (.ref f23))) (l23 : K.lookup f23 = some ⟨oc23, od23, .func (PySem.W.fnOf "count_of" "count_of" (defArgs s_count_of) (defBody s_count_of) (defScope s_count_of) .none kV23 dc23 pm23 an23 cd23 ct23), sl23⟩) (c23 : PySem.W.codeIn K cd23 "count_of" = true) (k23 : PySem.W.keepIn K (.ref f23) = true)
    (a24 : PySem.W.nsIn K mainGlobals "_law_start" = some (some (.ref f24))) (l24 : K.lookup f24 = some ⟨oc24, od24, .func (PySem.W.fnOf "_law_start" "_law_start" (defArgs s__law_start) (defBody s__law_start) (defScope s__law_start) .none kV24 dc24 pm24 an24 cd24 ct24), sl24⟩) (c24 : PySem.W.codeIn K cd24 "_law_start" = true) (k24 : PySem.W.keepIn K (.ref f24) = true)
    (a25 : PySem.W.nsIn K mainGlobals "_law_mix" = some (some (.ref f25))) (l25 : K.lookup f25 = some ⟨oc25, od25, .func (PySem.W.fnOf "_law_mix" "_law_mix" (defArgs s__law_mix) (defBody s__law_mix) (defScope s__law_mix) .none kV25 dc25 pm25 an25 cd25 ct25), sl25⟩) (c25 : PySem.W.codeIn K cd25 "_law_mix" = true) (k25 : PySem.W.keepIn K (.ref f25) = true)
    (a26 : PySem.W.nsIn K mainGlobals "_law_draw" = some (some (.ref f26))) (l26 : K.lookup f26 = some ⟨oc26, od26, .func (PySem.W.fnOf "_law_draw" "_law_draw" (defArgs s__law_draw) (defBody s__law_draw) (defScope s__law_draw) .none kV26 dc26 pm26 an26 cd26 ct26), sl26⟩) (c26 : PySem.W.codeIn K cd26 "_law_draw" = true) (k26 : PySem.W.keepIn K (.ref f26) = true)
    (a27 : PySem.W.nsIn K mainGlobals "_law_heap" = some (some (.ref f27))) (l27 : K.lookup f27 = some ⟨oc27, od27, .func (PySem.W.fnOf "_law_heap" "_law_heap" (defArgs s__law_heap) (defBody s__law_heap) (defScope s__law_heap) .none kV27 dc27 pm27 an27 cd27 ct27), sl27⟩) (c27 : PySem.W.codeIn K cd27 "_law_heap" = true) (k27 : PySem.W.keepIn K (.ref f27) = true)
    (a28 : PySem.W.nsIn K mainGlobals "_law_some_rule" = some (some (.ref f28))) (l28 : K.lookup f28 = some ⟨oc28, od28, .func (PySem.W.fnOf "_law_some_rule" "_law_some_rule" (defArgs s__law_some_rule) (defBody s__law_some_rule) (defScope s__law_some_rule) .none kV28 dc28 pm28 an28 cd28 ct28), sl28⟩) (c28 : PySem.W.codeIn K cd28 "_law_some_rule" = true) (k28 : PySem.W.keepIn K (.ref f28) = true)
    (a29 : PySem.W.nsIn K mainGlobals "_law_lies" = some (some (.ref f29))) (l29 : K.lookup f29 = some ⟨oc29, od29, .func (PySem.W.fnOf "_law_lies" "_law_lies" (defArgs s__law_lies) (defBody s__law_lies) (defScope s__law_lies) .none kV29 dc29 pm29 an29 cd29 ct29), sl29⟩) (c29 : PySem.W.codeIn K cd29 "_law_lies" = true) (k29 : PySem.W.keepIn K (.ref f29) = true)
    (a30 : PySem.W.nsIn K mainGlobals "_law_whole" = some (some (.ref f30))) (l30 : K.lookup f30 = some ⟨oc30, od30, .func (PySem.W.fnOf "_law_whole" "_law_whole" (defArgs s__law_whole) (defBody s__law_whole) (defScope s__law_whole) .none kV30 dc30 pm30 an30 cd30 ct30), sl30⟩) (c30 : PySem.W.codeIn K cd30 "_law_whole" = true) (k30 : PySem.W.keepIn K (.ref f30) = true)
    (a31 : PySem.W.nsIn K mainGlobals "_law_row" = some (some (.ref f31))) (l31 : K.lookup f31 = some ⟨oc31, od31, .func (PySem.W.fnOf "_law_row" "_law_row" (defArgs s__law_row) (defBody s__law_row) (defScope s__law_row) .none kV31 dc31 pm31 an31 cd31 ct31), sl31⟩) (c31 : PySem.W.codeIn K cd31 "_law_row" = true) (k31 : PySem.W.keepIn K (.ref f31) = true)
    (a32 : PySem.W.nsIn K mainGlobals "_law_well" = some (some (.ref f32))) (l32 : K.lookup f32 = some ⟨oc32, od32, .func (PySem.W.fnOf "_law_well" "_law_well" (defArgs s__law_well) (defBody s__law_well) (defScope s__law_well) .none kV32 dc32 pm32 an32 cd32 ct32), sl32⟩) (c32 : PySem.W.codeIn K cd32 "_law_well" = true) (k32 : PySem.W.keepIn K (.ref f32) = true)
    (a33 : PySem.W.nsIn K mainGlobals "law" = some (some (.ref f33))) (l33 : K.lookup f33 = some ⟨oc33, od33, .func (PySem.W.fnOf "law" "law" (defArgs s_law) (defBody s_law) (defScope s_law) .none kV33 dc33 pm33 an33 cd33 ct33), sl33⟩) (c33 : PySem.W.codeIn K cd33 "law" = true) (k33 : PySem.W.keepIn K (.ref f33) = true)
    (z_all : PySem.W.nsIn K mainGlobals "all" = some none)
    (z_bool : PySem.W.nsIn K mainGlobals "bool" = some none)
    (z_enumerate : PySem.W.nsIn K mainGlobals "enumerate" = some none)
    (z_int : PySem.W.nsIn K mainGlobals "int" = some none)
    (z_isinstance : PySem.W.nsIn K mainGlobals "isinstance" = some none)
    (z_len : PySem.W.nsIn K mainGlobals "len" = some none)
    (z_list : PySem.W.nsIn K mainGlobals "list" = some none)
    (z_max : PySem.W.nsIn K mainGlobals "max" = some none)
    (z_min : PySem.W.nsIn K mainGlobals "min" = some none)
    (z_range : PySem.W.nsIn K mainGlobals "range" = some none)
    (z_set : PySem.W.nsIn K mainGlobals "set" = some none)
    (z_sorted : PySem.W.nsIn K mainGlobals "sorted" = some none)
    (z_sum : PySem.W.nsIn K mainGlobals "sum" = some none)
    (z_tuple : PySem.W.nsIn K mainGlobals "tuple" = some none)
    {tk_MOST_LISTED : Tok} (w_MOST_LISTED : PySem.W.nsIn K mainGlobals "MOST_LISTED" = some (some (.int 24 tk_MOST_LISTED)))
    {tk_MOST_PAIRED : Tok} (w_MOST_PAIRED : PySem.W.nsIn K mainGlobals "MOST_PAIRED" = some (some (.int 16 tk_MOST_PAIRED)))
    {tk_MOST_COUNTED : Tok} (w_MOST_COUNTED : PySem.W.nsIn K mainGlobals "MOST_COUNTED" = some (some (.int 400 tk_MOST_COUNTED)))
    (m_NoSum : PySem.W.nsIn K mainGlobals "NoSum" = some (some (.ref q_NoSum)))
    (m_NoPair : PySem.W.nsIn K mainGlobals "NoPair" = some (some (.ref q_NoPair)))
    (x_NoPair : PySem.W.excIn K q_NoPair bmV "ValueError.__new__" = true) (y_NoPair : PySem.W.keepIn K (.ref q_NoPair) = true)
    (x_NoSum : PySem.W.excIn K q_NoSum bmV "ValueError.__new__" = true) (y_NoSum : PySem.W.keepIn K (.ref q_NoSum) = true)
    (e1_NoSum : PySem.W.findIn K (.ref q_NoSum) "__getattribute__" = some (some (.builtin "BaseException.__getattribute__"))) (e2_NoSum : PySem.W.findIn K (.ref q_NoSum) "__getattr__" = some none) (e3_NoSum : PySem.W.findIn K (.ref q_NoSum) "__class__" = some (some (.builtin "object.__class__"))) (e4_NoSum : PySem.W.specialIn K (.builtin "object.__class__") "__get__" = some (some (.builtin "getset_descriptor.__get__"))) (e5_NoSum : PySem.W.takesIn K (.builtin "object.__class__") = some true) (e6_NoSum : PySem.W.mroIn K q_NoSum (.type "object") = some true) (e7_NoSum : PySem.W.mroIn K q_NoSum (.type "BaseException") = some true)
    (e1_NoPair : PySem.W.findIn K (.ref q_NoPair) "__getattribute__" = some (some (.builtin "BaseException.__getattribute__"))) (e2_NoPair : PySem.W.findIn K (.ref q_NoPair) "__getattr__" = some none) (e3_NoPair : PySem.W.findIn K (.ref q_NoPair) "__class__" = some (some (.builtin "object.__class__"))) (e4_NoPair : PySem.W.specialIn K (.builtin "object.__class__") "__get__" = some (some (.builtin "getset_descriptor.__get__"))) (e5_NoPair : PySem.W.takesIn K (.builtin "object.__class__") = some true) (e6_NoPair : PySem.W.mroIn K q_NoPair (.type "object") = some true) (e7_NoPair : PySem.W.mroIn K q_NoPair (.type "BaseException") = some true) :
    ∃ fd : FuncData, (∀ (s : Shared) (v : Value), BindsTo s fd ⟨[v], []⟩ [("_law_script", v)]) ∧ ∀ base : Heap, K.In base → base.Ns mainGlobals mg → FnOk l.prog w K mg base CX0 31 fa fd ["_law_script"] (sp_law K) := by
  have e := hfa.symm.trans (PySem.W.mg_of X G a33)
  cases e
  have T : Txt K mg ⟨f0, PySem.W.fnOf "often" "often" (defArgs s_often) (defBody s_often) (defScope s_often) .none kV0 dc0 pm0 an0 cd0 ct0, f1, PySem.W.fnOf "lies_in" "lies_in" (defArgs s_lies_in) (defBody s_lies_in) (defScope s_lies_in) .none kV1 dc1 pm1 an1 cd1 ct1, f2, PySem.W.fnOf "all_in" "all_in" (defArgs s_all_in) (defBody s_all_in) (defScope s_all_in) .none kV2 dc2 pm2 an2 cd2 ct2, f3, PySem.W.fnOf "first_in" "first_in" (defArgs s_first_in) (defBody s_first_in) (defScope s_first_in) .none kV3 dc3 pm3 an3 cd3 ct3, f4, PySem.W.fnOf "keeps" "keeps" (defArgs s_keeps) (defBody s_keeps) (defScope s_keeps) .none kV4 dc4 pm4 an4 cd4 ct4, f5, PySem.W.fnOf "refuse_beyond" "refuse_beyond" (defArgs s_refuse_beyond) (defBody s_refuse_beyond) (defScope s_refuse_beyond) .none kV5 dc5 pm5 an5 cd5 ct5, f6, PySem.W.fnOf "partings_to" "partings_to" (defArgs s_partings_to) (defBody s_partings_to) (defScope s_partings_to) .none kV6 dc6 pm6 an6 cd6 ct6, f7, PySem.W.fnOf "partings_of" "partings_of" (defArgs s_partings_of) (defBody s_partings_of) (defScope s_partings_of) .none kV7 dc7 pm7 an7 cd7 ct7, f8, PySem.W.fnOf "kept_of" "kept_of" (defArgs s_kept_of) (defBody s_kept_of) (defScope s_kept_of) .none kV8 dc8 pm8 an8 cd8 ct8, f9, PySem.W.fnOf "by_parts" "by_parts" (defArgs s_by_parts) (defBody s_by_parts) (defScope s_by_parts) .none kV9 dc9 pm9 an9 cd9 ct9, f10, PySem.W.fnOf "sign_of" "sign_of" (defArgs s_sign_of) (defBody s_sign_of) (defScope s_sign_of) .none kV10 dc10 pm10 an10 cd10 ct10, f11, PySem.W.fnOf "is_choice" "is_choice" (defArgs s_is_choice) (defBody s_is_choice) (defScope s_is_choice) .none kV11 dc11 pm11 an11 cd11 ct11, f12, PySem.W.fnOf "is_pair" "is_pair" (defArgs s_is_pair) (defBody s_is_pair) (defScope s_is_pair) .none kV12 dc12 pm12 an12 cd12 ct12, f13, PySem.W.fnOf "partner_of" "partner_of" (defArgs s_partner_of) (defBody s_partner_of) (defScope s_partner_of) .none kV13 dc13 pm13 an13 cd13 ct13, f14, PySem.W.fnOf "choices_among" "choices_among" (defArgs s_choices_among) (defBody s_choices_among) (defScope s_choices_among) .none kV14 dc14 pm14 an14 cd14 ct14, f15, PySem.W.fnOf "pairs_of" "pairs_of" (defArgs s_pairs_of) (defBody s_pairs_of) (defScope s_pairs_of) .none kV15 dc15 pm15 an15 cd15 ct15, f16, PySem.W.fnOf "sum_of" "sum_of" (defArgs s_sum_of) (defBody s_sum_of) (defScope s_sum_of) .none kV16 dc16 pm16 an16 cd16 ct16, f17, PySem.W.fnOf "choices_of" "choices_of" (defArgs s_choices_of) (defBody s_choices_of) (defScope s_choices_of) .none kV17 dc17 pm17 an17 cd17 ct17, f18, PySem.W.fnOf "unlike_parts" "unlike_parts" (defArgs s_unlike_parts) (defBody s_unlike_parts) (defScope s_unlike_parts) .none kV18 dc18 pm18 an18 cd18 ct18, f19, PySem.W.fnOf "joined" "joined" (defArgs s_joined) (defBody s_joined) (defScope s_joined) .none kV19 dc19 pm19 an19 cd19 ct19, f20, PySem.W.fnOf "joined_of" "joined_of" (defArgs s_joined_of) (defBody s_joined_of) (defScope s_joined_of) .none kV20 dc20 pm20 an20 cd20 ct20, f21, PySem.W.fnOf "next_way" "next_way" (defArgs s_next_way) (defBody s_next_way) (defScope s_next_way) .none kV21 dc21 pm21 an21 cd21 ct21, f22, PySem.W.fnOf "ways_to" "ways_to" (defArgs s_ways_to) (defBody s_ways_to) (defScope s_ways_to) .none kV22 dc22 pm22 an22 cd22 ct22, f23, PySem.W.fnOf "count_of" "count_of" (defArgs s_count_of) (defBody s_count_of) (defScope s_count_of) .none kV23 dc23 pm23 an23 cd23 ct23, f24, PySem.W.fnOf "_law_start" "_law_start" (defArgs s__law_start) (defBody s__law_start) (defScope s__law_start) .none kV24 dc24 pm24 an24 cd24 ct24, f25, PySem.W.fnOf "_law_mix" "_law_mix" (defArgs s__law_mix) (defBody s__law_mix) (defScope s__law_mix) .none kV25 dc25 pm25 an25 cd25 ct25, f26, PySem.W.fnOf "_law_draw" "_law_draw" (defArgs s__law_draw) (defBody s__law_draw) (defScope s__law_draw) .none kV26 dc26 pm26 an26 cd26 ct26, f27, PySem.W.fnOf "_law_heap" "_law_heap" (defArgs s__law_heap) (defBody s__law_heap) (defScope s__law_heap) .none kV27 dc27 pm27 an27 cd27 ct27, f28, PySem.W.fnOf "_law_some_rule" "_law_some_rule" (defArgs s__law_some_rule) (defBody s__law_some_rule) (defScope s__law_some_rule) .none kV28 dc28 pm28 an28 cd28 ct28, f29, PySem.W.fnOf "_law_lies" "_law_lies" (defArgs s__law_lies) (defBody s__law_lies) (defScope s__law_lies) .none kV29 dc29 pm29 an29 cd29 ct29, f30, PySem.W.fnOf "_law_whole" "_law_whole" (defArgs s__law_whole) (defBody s__law_whole) (defScope s__law_whole) .none kV30 dc30 pm30 an30 cd30 ct30, f31, PySem.W.fnOf "_law_row" "_law_row" (defArgs s__law_row) (defBody s__law_row) (defScope s__law_row) .none kV31 dc31 pm31 an31 cd31 ct31, f32, PySem.W.fnOf "_law_well" "_law_well" (defArgs s__law_well) (defBody s__law_well) (defScope s__law_well) .none kV32 dc32 pm32 an32 cd32 ct32, fa, PySem.W.fnOf "law" "law" (defArgs s_law) (defBody s_law) (defScope s_law) .none kV33 dc33 pm33 an33 cd33 ct33, q_NoSum, q_NoPair⟩ := ⟨fun_mk (st := s_often) l0 c0 k0,
    (fun_mk (st := s_often) l0 c0 k0).binds (fun _ _ _ _ _ _ us hl => match us, hl with | [_, _], _ => rfl),
    PySem.W.mg_of X G a0,
    fun_mk (st := s_lies_in) l1 c1 k1,
    (fun_mk (st := s_lies_in) l1 c1 k1).binds (fun _ _ _ _ _ _ us hl => match us, hl with | [_, _], _ => rfl),
    PySem.W.mg_of X G a1,
    fun_mk (st := s_all_in) l2 c2 k2,
    (fun_mk (st := s_all_in) l2 c2 k2).binds (fun _ _ _ _ _ _ us hl => match us, hl with | [_, _], _ => rfl),
    PySem.W.mg_of X G a2,
    fun_mk (st := s_first_in) l3 c3 k3,
    (fun_mk (st := s_first_in) l3 c3 k3).binds (fun _ _ _ _ _ _ us hl => match us, hl with | [_, _], _ => rfl),
    PySem.W.mg_of X G a3,
    fun_mk (st := s_keeps) l4 c4 k4,
    (fun_mk (st := s_keeps) l4 c4 k4).binds (fun _ _ _ _ _ _ us hl => match us, hl with | [_, _], _ => rfl),
    PySem.W.mg_of X G a4,
    fun_mk (st := s_refuse_beyond) l5 c5 k5,
    (fun_mk (st := s_refuse_beyond) l5 c5 k5).binds (fun _ _ _ _ _ _ us hl => match us, hl with | [_, _], _ => rfl),
    PySem.W.mg_of X G a5,
    fun_mk (st := s_partings_to) l6 c6 k6,
    (fun_mk (st := s_partings_to) l6 c6 k6).binds (fun _ _ _ _ _ _ us hl => match us, hl with | [_, _], _ => rfl),
    PySem.W.mg_of X G a6,
    fun_mk (st := s_partings_of) l7 c7 k7,
    (fun_mk (st := s_partings_of) l7 c7 k7).binds (fun _ _ _ _ _ _ us hl => match us, hl with | [_], _ => rfl),
    PySem.W.mg_of X G a7,
    fun_mk (st := s_kept_of) l8 c8 k8,
    (fun_mk (st := s_kept_of) l8 c8 k8).binds (fun _ _ _ _ _ _ us hl => match us, hl with | [_, _], _ => rfl),
    PySem.W.mg_of X G a8,
    fun_mk (st := s_by_parts) l9 c9 k9,
    (fun_mk (st := s_by_parts) l9 c9 k9).binds (fun _ _ _ _ _ _ us hl => match us, hl with | [_, _], _ => rfl),
    PySem.W.mg_of X G a9,
    fun_mk (st := s_sign_of) l10 c10 k10,
    (fun_mk (st := s_sign_of) l10 c10 k10).binds (fun _ _ _ _ _ _ us hl => match us, hl with | [_], _ => rfl),
    PySem.W.mg_of X G a10,
    fun_mk (st := s_is_choice) l11 c11 k11,
    (fun_mk (st := s_is_choice) l11 c11 k11).binds (fun _ _ _ _ _ _ us hl => match us, hl with | [_, _], _ => rfl),
    PySem.W.mg_of X G a11,
    fun_mk (st := s_is_pair) l12 c12 k12,
    (fun_mk (st := s_is_pair) l12 c12 k12).binds (fun _ _ _ _ _ _ us hl => match us, hl with | [_, _], _ => rfl),
    PySem.W.mg_of X G a12,
    fun_mk (st := s_partner_of) l13 c13 k13,
    (fun_mk (st := s_partner_of) l13 c13 k13).binds (fun _ _ _ _ _ _ us hl => match us, hl with | [_, _], _ => rfl),
    PySem.W.mg_of X G a13,
    fun_mk (st := s_choices_among) l14 c14 k14,
    (fun_mk (st := s_choices_among) l14 c14 k14).binds (fun _ _ _ _ _ _ us hl => match us, hl with | [_], _ => rfl),
    PySem.W.mg_of X G a14,
    fun_mk (st := s_pairs_of) l15 c15 k15,
    (fun_mk (st := s_pairs_of) l15 c15 k15).binds (fun _ _ _ _ _ _ us hl => match us, hl with | [_, _], _ => rfl),
    PySem.W.mg_of X G a15,
    fun_mk (st := s_sum_of) l16 c16 k16,
    (fun_mk (st := s_sum_of) l16 c16 k16).binds (fun _ _ _ _ _ _ us hl => match us, hl with | [_], _ => rfl),
    PySem.W.mg_of X G a16,
    fun_mk (st := s_choices_of) l17 c17 k17,
    (fun_mk (st := s_choices_of) l17 c17 k17).binds (fun _ _ _ _ _ _ us hl => match us, hl with | [_], _ => rfl),
    PySem.W.mg_of X G a17,
    fun_mk (st := s_unlike_parts) l18 c18 k18,
    (fun_mk (st := s_unlike_parts) l18 c18 k18).binds (fun _ _ _ _ _ _ us hl => match us, hl with | [_], _ => rfl),
    PySem.W.mg_of X G a18,
    fun_mk (st := s_joined) l19 c19 k19,
    (fun_mk (st := s_joined) l19 c19 k19).binds (fun _ _ _ _ _ _ us hl => match us, hl with | [_], _ => rfl),
    PySem.W.mg_of X G a19,
    fun_mk (st := s_joined_of) l20 c20 k20,
    (fun_mk (st := s_joined_of) l20 c20 k20).binds (fun _ _ _ _ _ _ us hl => match us, hl with | [_, _], _ => rfl),
    PySem.W.mg_of X G a20,
    fun_mk (st := s_next_way) l21 c21 k21,
    (fun_mk (st := s_next_way) l21 c21 k21).binds (fun _ _ _ _ _ _ us hl => match us, hl with | [_], _ => rfl),
    PySem.W.mg_of X G a21,
    fun_mk (st := s_ways_to) l22 c22 k22,
    (fun_mk (st := s_ways_to) l22 c22 k22).binds (fun _ _ _ _ _ _ us hl => match us, hl with | [_], _ => rfl),
    PySem.W.mg_of X G a22,
    fun_mk (st := s_count_of) l23 c23 k23,
    (fun_mk (st := s_count_of) l23 c23 k23).binds (fun _ _ _ _ _ _ us hl => match us, hl with | [_, _], _ => rfl),
    PySem.W.mg_of X G a23,
    fun_mk (st := s__law_start) l24 c24 k24,
    (fun_mk (st := s__law_start) l24 c24 k24).binds (fun _ _ _ _ _ _ us hl => match us, hl with | [_], _ => rfl),
    PySem.W.mg_of X G a24,
    fun_mk (st := s__law_mix) l25 c25 k25,
    (fun_mk (st := s__law_mix) l25 c25 k25).binds (fun _ _ _ _ _ _ us hl => match us, hl with | [_], _ => rfl),
    PySem.W.mg_of X G a25,
    fun_mk (st := s__law_draw) l26 c26 k26,
    (fun_mk (st := s__law_draw) l26 c26 k26).binds (fun _ _ _ _ _ _ us hl => match us, hl with | [_, _], _ => rfl),
    PySem.W.mg_of X G a26,
    fun_mk (st := s__law_heap) l27 c27 k27,
    (fun_mk (st := s__law_heap) l27 c27 k27).binds (fun _ _ _ _ _ _ us hl => match us, hl with | [_, _, _], _ => rfl),
    PySem.W.mg_of X G a27,
    fun_mk (st := s__law_some_rule) l28 c28 k28,
    (fun_mk (st := s__law_some_rule) l28 c28 k28).binds (fun _ _ _ _ _ _ us hl => match us, hl with | [_], _ => rfl),
    PySem.W.mg_of X G a28,
    fun_mk (st := s__law_lies) l29 c29 k29,
    (fun_mk (st := s__law_lies) l29 c29 k29).binds (fun _ _ _ _ _ _ us hl => match us, hl with | [_, _], _ => rfl),
    PySem.W.mg_of X G a29,
    fun_mk (st := s__law_whole) l30 c30 k30,
    (fun_mk (st := s__law_whole) l30 c30 k30).binds (fun _ _ _ _ _ _ us hl => match us, hl with | [_], _ => rfl),
    PySem.W.mg_of X G a30,
    fun_mk (st := s__law_row) l31 c31 k31,
    (fun_mk (st := s__law_row) l31 c31 k31).binds (fun _ _ _ _ _ _ us hl => match us, hl with | [_], _ => rfl),
    PySem.W.mg_of X G a31,
    fun_mk (st := s__law_well) l32 c32 k32,
    (fun_mk (st := s__law_well) l32 c32 k32).binds (fun _ _ _ _ _ _ us hl => match us, hl with | [_, _, _], _ => rfl),
    PySem.W.mg_of X G a32,
    fun_mk (st := s_law) l33 c33 k33,
    (fun_mk (st := s_law) l33 c33 k33).binds (fun _ _ _ _ _ _ us hl => match us, hl with | [_], _ => rfl),
    PySem.W.mg_of X G a33,
    PySem.W.mg_none_of X G z_all,
    PySem.W.mg_none_of X G z_bool,
    PySem.W.mg_none_of X G z_enumerate,
    PySem.W.mg_none_of X G z_int,
    PySem.W.mg_none_of X G z_isinstance,
    PySem.W.mg_none_of X G z_len,
    PySem.W.mg_none_of X G z_list,
    PySem.W.mg_none_of X G z_max,
    PySem.W.mg_none_of X G z_min,
    PySem.W.mg_none_of X G z_range,
    PySem.W.mg_none_of X G z_set,
    PySem.W.mg_none_of X G z_sorted,
    PySem.W.mg_none_of X G z_sum,
    PySem.W.mg_none_of X G z_tuple,
    ⟨_, PySem.W.mg_of X G w_MOST_LISTED⟩,
    ⟨_, PySem.W.mg_of X G w_MOST_PAIRED⟩,
    ⟨_, PySem.W.mg_of X G w_MOST_COUNTED⟩,
    ⟨h, X⟩,
    PySem.W.mg_of X G m_NoSum,
    PySem.W.mg_of X G m_NoPair,
    ⟨x_NoPair, y_NoPair⟩,
    ⟨x_NoSum, y_NoSum⟩,
    ⟨e1_NoSum, e2_NoSum, e3_NoSum, e4_NoSum, e5_NoSum, e6_NoSum, e7_NoSum⟩,
    ⟨e1_NoPair, e2_NoPair, e3_NoPair, e4_NoPair, e5_NoPair, e6_NoPair, e7_NoPair⟩⟩
  exact ⟨PySem.W.fnOf "law" "law" (defArgs s_law) (defBody s_law) (defScope s_law) .none kV33 dc33 pm33 an33 cd33 ct33, fun s v => .of_eq rfl, fun base _ _ => ok_law T⟩
theorem walk {l : PySem.W.OpenLaw} {q : Program} {loose : List Str} {XP : (Str → Option Value) → Heap → Prop} {YP : World → Heap → Prop} {d : DefRec} {K : Params → PySem.W.Frag} (hn : l.most = some 63) (hdf : d.params.defaults = [])
    (hY : ∀ (w : World) (h : Heap), YP w h → (K w.params).In h)
    (F : ∀ (w : World) (mg : Str → Option Value) (fa : Addr) (h : Heap), (K w.params).In h → h.Ns mainGlobals mg → mg d.name = some (.ref fa) →
      ∃ fd : FuncData, (∀ (s : Shared) (u : Value), BindsTo s fd ⟨[u], []⟩ [("_law_script", u)]) ∧ ∀ base : Heap, (K w.params).In base → base.Ns mainGlobals mg → FnOk l.prog w (K w.params) mg base CX0 31 fa fd ["_law_script"] (sp_law (K w.params))) :
    PySem.W.WalkO q loose XP YP l.row.toRowW d [] (fun f vs => PySem.call f vs) :=
  L2.walk_of (n := 63) (k := 31) (x := "_law_script") (CX := fun _ => CX0) (sp := fun w => sp_law (K w.params)) hn (by decide) hdf ⟨fun _ => rfl, by decide, by decide⟩ hY F (fun _ _ a ns hl _ hS => ⟨a, ns, rfl, hS, hl, fun _ => rfl⟩) fun _ _ _ _ _ z => z
end My
namespace PySem.W.Fast
def tw11062815580003983479 : Nat := 0
def tw14859819943384813468 : Nat := 0
def tw5463313104735968198 : Nat := 0
def tw2701907370417211186 : Nat := 0
def tw1157651572506665180 : Nat := 0
def tw1327051966372645440 : Nat := 0
def tw2440950438951357976 : Nat := 0
def tw8329303397955671573 : Nat := 0
def tw941634399369367060 : Nat := 0
def tw12259256527160894001 : Nat := 0
def tw11326668421879250050 : Nat := 0
def tw8261228746834756162 : Nat := 0
def tw13001122461419570388 : Nat := 0
def tw16753948794136564970 : Nat := 0
def tw4027285668504550941 : Nat := 0
def tw4795428608088873953 : Nat := 0
def tw2051009734482841058 : Nat := 0
def tw3340775826861086451 : Nat := 0
def tw1244464836790812068 : Nat := 0
def tw17857366690926160276 : Nat := 0
def tw9511790762255851889 : Nat := 0
def tw5020019280958456373 : Nat := 0
def tw1159338039152809718 : Nat := 0
def tw318065493778120339 : Nat := 0
def tw9420573130554013611 : Nat := 0
def tw15339766306337263767 : Nat := 0
def tw15352390559562469798 : Nat := 0
def tw11554354582931113491 : Nat := 0
def tw15842564618760347335 : Nat := 0
def tw5861538260280242973 : Nat := 0
def tw2404289042918294440 : Nat := 0
def tw7380189767402207780 : Nat := 0
def tw12497425613037177212 : Nat := 0
def tw2623224633206158248 : Nat := 0
def tw15460830398089712773 : Nat := 0
def tw4476124998762173945 : Nat := 0
def tw11400217228437615244 : Nat := 0
def tw16599886058448701281 : Nat := 0
def tw7170811049231269561 : Nat := 0
def tw13859759618958592726 : Nat := 0
def tw17812011490882537836 : Nat := 0
def tw15540191963910125057 : Nat := 0
def tw10708964670368928246 : Nat := 0
def tw13750933613867647166 : Nat := 0
def tw17009929352554087193 : Nat := 0
def tw10185041984945257870 : Nat := 0
def tw15660000895376634045 : Nat := 0
def tw2150276879723079024 : Nat := 0
def tw14584913253619696668 : Nat := 0
def tw11224980931429856801 : Nat := 0
def tw14876755356515793671 : Nat := 0
def tw13735943790549595843 : Nat := 0
def tw6080717388893373865 : Nat := 0
def tw6579923536845515546 : Nat := 0
def tw7885578268690504960 : Nat := 0
def tw763141931615727100 : Nat := 0
def tw9031202743290964219 : Nat := 0
def tw7216431953671892741 : Nat := 0
def tw3940716000847536575 : Nat := 0
def tw790909837317673613 : Nat := 0
def tw8965490469708223483 : Nat := 0
def tw13391849428769043061 : Nat := 0
def tw8644280995274206140 : Nat := 0
def tw4936796769968610633 : Nat := 0
def tw14926401900851349237 : Nat := 0
def tw8438769985732650774 : Nat := 0
def tw8202543113144660161 : Nat := 0
def tw1040843367918702460 : Nat := 0
def tw1913086836212091039 : Nat := 0
def tw9928319554164889154 : Nat := 0
def tw9363614293120368514 : Nat := 0
def tw17283858966185085851 : Nat := 0
def tw15522150256744688334 : Nat := 0
def tw16195481206707339398 : Nat := 0
def tw2884606990057986859 : Nat := 0
def tw12907073112906420322 : Nat := 0
def tw14274907393470786375 : Nat := 0
def tw15411952925468122 : Nat := 0
def tw5723388142863825836 : Nat := 0
def tw17108101573813875704 : Nat := 0
def tw1736661224877754421 : Nat := 0
def tw974755468856103820 : Nat := 0
def tw294300136212197049 : Nat := 0
def tw6689148250405776662 : Nat := 0
def tw14154504910363114011 : Nat := 0
def tw416839272871188858 : Nat := 0
def tw9873450317134910784 : Nat := 0
def tw2816639742217521995 : Nat := 0
def tw10546708797398057231 : Nat := 0
def tw4426032366126725481 : Nat := 0
def tw15118040422764793587 : Nat := 0
def tw11198354384326002708 : Nat := 0
def tw11606495490649292964 : Nat := 0
def tw5577875605749961123 : Nat := 0
def tw4244396241285430396 : Nat := 0
def tw17595347708241870078 : Nat := 0
def tw11677701786806259090 : Nat := 0
def tw12779112305305618531 : Nat := 0
def tw4637266458752941004 : Nat := 0
def tw12529715133922306790 : Nat := 0
end PySem.W.Fast
open PySem PySem.W PyProof.Rows
set_option maxRecDepth 100000 in
set_option maxHeartbeats 0 in
theorem PySem.Challenge.cw_shutpairs_k51_whole_pairs_cancel_holds : PySem.Challenge.rw_shutpairs_k51_whole_pairs_cancel.Holds := by
  w_on; o_law; k_head; (case hw => w_witness2)
  k_fill
  refine My.walk (l := PySem.Challenge.rw_shutpairs_k51_whole_pairs_cancel) rfl rfl (fun w h Y => PySem.W.kIn_of Y) ?F
  case F =>
    intro w mg fa h KX G hmg
    refine' My.all_mk KX G hmg ?a0 ?l0 ?c0 ?k0 ?a1 ?l1 ?c1 ?k1 ?a2 ?l2 ?c2 ?k2 ?a3 ?l3 ?c3 ?k3 ?a4 ?l4 ?c4 ?k4 ?a5 ?l5 ?c5 ?k5 ?a6 ?l6 ?c6 ?k6 ?a7 ?l7 ?c7 ?k7 ?a8 ?l8 ?c8 ?k8 ?a9 ?l9 ?c9 ?k9 ?a10 ?l10 ?c10 ?k10 ?a11 ?l11 ?c11 ?k11 ?a12 ?l12 ?c12 ?k12 ?a13 ?l13 ?c13 ?k13 ?a14 ?l14 ?c14 ?k14 ?a15 ?l15 ?c15 ?k15 ?a16 ?l16 ?c16 ?k16 ?a17 ?l17 ?c17 ?k17 ?a18 ?l18 ?c18 ?k18 ?a19 ?l19 ?c19 ?k19 ?a20 ?l20 ?c20 ?k20 ?a21 ?l21 ?c21 ?k21 ?a22 ?l22 ?c22 ?k22 ?a23 ?l23 ?c23 ?k23 ?a24 ?l24 ?c24 ?k24 ?a25 ?l25 ?c25 ?k25 ?a26 ?l26 ?c26 ?k26 ?a27 ?l27 ?c27 ?k27 ?a28 ?l28 ?c28 ?k28 ?a29 ?l29 ?c29 ?k29 ?a30 ?l30 ?c30 ?k30 ?a31 ?l31 ?c31 ?k31 ?a32 ?l32 ?c32 ?k32 ?a33 ?l33 ?c33 ?k33 ?z_all ?z_bool ?z_enumerate ?z_int ?z_isinstance ?z_len ?z_list ?z_max ?z_min ?z_range ?z_set ?z_sorted ?z_sum ?z_tuple ?w_MOST_LISTED ?w_MOST_PAIRED ?w_MOST_COUNTED ?m_NoSum ?m_NoPair ?x_NoPair ?y_NoPair ?x_NoSum ?y_NoSum ?e1_NoSum ?e2_NoSum ?e3_NoSum ?e4_NoSum ?e5_NoSum ?e6_NoSum ?e7_NoSum ?e1_NoPair ?e2_NoPair ?e3_NoPair ?e4_NoPair ?e5_NoPair ?e6_NoPair ?e7_NoPair
    (case a0 => k_is)
    (case l0 => k_is)
    (case c0 => k_is)
    (case k0 => k_is)
    (case a1 => k_is)
    (case l1 => k_is)
    (case c1 => k_is)
    (case k1 => k_is)
    (case a2 => k_is)
    (case l2 => k_is)
    (case c2 => k_is)
    (case k2 => k_is)
    (case a3 => k_is)
    (case l3 => k_is)
    (case c3 => k_is)
    (case k3 => k_is)
    (case a4 => k_is)
    (case l4 => k_is)
    (case c4 => k_is)
    (case k4 => k_is)
    (case a5 => k_is)
    (case l5 => k_is)
    (case c5 => k_is)
    (case k5 => k_is)
    (case a6 => k_is)
    (case l6 => k_is)
    (case c6 => k_is)
    (case k6 => k_is)
    (case a7 => k_is)
    (case l7 => k_is)
    (case c7 => k_is)
    (case k7 => k_is)
    (case a8 => k_is)
    (case l8 => k_is)
    (case c8 => k_is)
    (case k8 => k_is)
    (case a9 => k_is)
    (case l9 => k_is)
    (case c9 => k_is)
    (case k9 => k_is)
    (case a10 => k_is)
    (case l10 => k_is)
    (case c10 => k_is)
    (case k10 => k_is)
    (case a11 => k_is)
    (case l11 => k_is)
    (case c11 => k_is)
    (case k11 => k_is)
    (case a12 => k_is)
    (case l12 => k_is)
    (case c12 => k_is)
    (case k12 => k_is)
    (case a13 => k_is)
    (case l13 => k_is)
    (case c13 => k_is)
    (case k13 => k_is)
    (case a14 => k_is)
    (case l14 => k_is)
    (case c14 => k_is)
    (case k14 => k_is)
    (case a15 => k_is)
    (case l15 => k_is)
    (case c15 => k_is)
    (case k15 => k_is)
    (case a16 => k_is)
    (case l16 => k_is)
    (case c16 => k_is)
    (case k16 => k_is)
    (case a17 => k_is)
    (case l17 => k_is)
    (case c17 => k_is)
    (case k17 => k_is)
    (case a18 => k_is)
    (case l18 => k_is)
    (case c18 => k_is)
    (case k18 => k_is)
    (case a19 => k_is)
    (case l19 => k_is)
    (case c19 => k_is)
    (case k19 => k_is)
    (case a20 => k_is)
    (case l20 => k_is)
    (case c20 => k_is)
    (case k20 => k_is)
    (case a21 => k_is)
    (case l21 => k_is)
    (case c21 => k_is)
    (case k21 => k_is)
    (case a22 => k_is)
    (case l22 => k_is)
    (case c22 => k_is)
    (case k22 => k_is)
    (case a23 => k_is)
    (case l23 => k_is)
    (case c23 => k_is)
    (case k23 => k_is)
    (case a24 => k_is)
    (case l24 => k_is)
    (case c24 => k_is)
    (case k24 => k_is)
    (case a25 => k_is)
    (case l25 => k_is)
    (case c25 => k_is)
    (case k25 => k_is)
    (case a26 => k_is)
    (case l26 => k_is)
    (case c26 => k_is)
    (case k26 => k_is)
    (case a27 => k_is)
    (case l27 => k_is)
    (case c27 => k_is)
    (case k27 => k_is)
    (case a28 => k_is)
    (case l28 => k_is)
    (case c28 => k_is)
    (case k28 => k_is)
    (case a29 => k_is)
    (case l29 => k_is)
    (case c29 => k_is)
    (case k29 => k_is)
    (case a30 => k_is)
    (case l30 => k_is)
    (case c30 => k_is)
    (case k30 => k_is)
    (case a31 => k_is)
    (case l31 => k_is)
    (case c31 => k_is)
    (case k31 => k_is)
    (case a32 => k_is)
    (case l32 => k_is)
    (case c32 => k_is)
    (case k32 => k_is)
    (case a33 => k_is)
    (case l33 => k_is)
    (case c33 => k_is)
    (case k33 => k_is)
    (case z_all => k_is)
    (case z_bool => k_is)
    (case z_enumerate => k_is)
    (case z_int => k_is)
    (case z_isinstance => k_is)
    (case z_len => k_is)
    (case z_list => k_is)
    (case z_max => k_is)
    (case z_min => k_is)
    (case z_range => k_is)
    (case z_set => k_is)
    (case z_sorted => k_is)
    (case z_sum => k_is)
    (case z_tuple => k_is)
    (case w_MOST_LISTED => k_is)
    (case w_MOST_PAIRED => k_is)
    (case w_MOST_COUNTED => k_is)
    (case m_NoSum => k_is)
    (case m_NoPair => k_is)
    (case x_NoPair => k_exc)
    (case y_NoPair => k_is)
    (case x_NoSum => k_exc)
    (case y_NoSum => k_is)
    (case e1_NoSum => k_is)
    (case e2_NoSum => k_is)
    (case e3_NoSum => k_is)
    (case e4_NoSum => k_is)
    (case e5_NoSum => k_is)
    (case e6_NoSum => k_is)
    (case e7_NoSum => k_is)
    (case e1_NoPair => k_is)
    (case e2_NoPair => k_is)
    (case e3_NoPair => k_is)
    (case e4_NoPair => k_is)
    (case e5_NoPair => k_is)
    (case e6_NoPair => k_is)
    (case e7_NoPair => k_is)
