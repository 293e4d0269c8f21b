import PyProof.Rows.All
import Wide.All
import OpenK.AllK
import Wide.FinOn
import PyProof.EqAt
import PyProof.EqKinds
import PyProof.TupleCall
import PyProof.NeKinds
import PyProof.StrLawsTight
import PyProof.ExcClass3
import PyProof.StationsW
import PyProof.ExcBaseAll.ValueError
import PyProof.NsDelKeeps
import PyProof.RulesAs
import PyProof.ExcArgsOwn
import PyProof.ExcAttrAll.ValueError
import PyProof.ZipIter
import PyProof.ListMulRoad
import KE.KDictSum
import PyProof.ListRange
import PyProof.Draws
import PyProof.EnumMake
import PyProof.Rows.Range3
import PyProof.Rows.SortShell
import PyProof.Conv_int_bool
import PyProof.Rows.SetFrom
import PyProof.Rows.SetObj
import PyProof.WalksMore
import KE.IntBitsLaws
import KE.KRevSl
import PyProof.FitsBits
import PyProof.CollectIter
import PyProof.IsRules
import PyProof.AttrMissHeap
import PyProof.WalksS
import KE.KDictOf
import PyProof.PureStr
import PyProof.StrOps2
import PyProof.SliceStr2
import PyProof.StrBlockI
import PyProof.CompFree
import PyProof.Rows.StrSplitJoin
import PyProof.StrCalls6
import PyProof.ConsumeWalk
import PyProof.StrLawsReplace
import PyProof.DictItems
import PyProof.Rows.SortRuns
import KE.KFind
import Lean
import PySem.Challenge.RW_shutpairs_k15_places_among_the_kept
set_option Elab.async false
set_option linter.all false
set_option maxRecDepth 100000
/-! THE HAND LAYER, for ints, bools, texts, own classes, LISTS and tuples (index, slices, in, append, pop ..), calls, loops. Paste it whole ahead of your own text; what your proof does not reach may be deleted. -/
namespace L2
open PySem PySem.Spec PyProof.Rows

/-- a key: an int or a str -/
abbrev Key := Sum Int Str
def keyIs : Key → Value → Bool
  | .inl k, v => Value.isInt k v
  | .inr x, v => Value.isStrOf x v
def keyH (w : World) : Key → Int
  | .inl k => hashInt k
  | .inr x => hashStr w x
theorem keyIs_shape : ∀ {k : Key} {v : Value}, keyIs k v = true → (∃ i t, k = Sum.inl i ∧ v = Value.int i t) ∨ (∃ x t, k = Sum.inr x ∧ v = Value.str x t)
  | .inl i, v, h => by
    obtain ⟨t, e⟩ := Value.isInt_shape (k := i) (v := v) h
    exact .inl ⟨i, t, rfl, e⟩
  | .inr x, v, h => by
    obtain ⟨t, e⟩ := Value.isStrOf_shape (x := x) (v := v) h
    exact .inr ⟨x, t, rfl, e⟩
theorem key_ll (a b : Int) : decide ((Sum.inl a : Key) = Sum.inl b) = (a == b) := by
  by_cases e : a = b
  · subst e; simp
  · have h : ¬ (Sum.inl a : Key) = Sum.inl b := fun q => e (Sum.inl.inj q)
    rw [decide_eq_false h]
    exact (beq_eq_false_iff_ne.mpr e).symm
theorem key_rr (a b : Str) : decide ((Sum.inr a : Key) = Sum.inr b) = decide (a = b) := by
  by_cases e : a = b
  · subst e; simp
  · have h : ¬ (Sum.inr a : Key) = Sum.inr b := fun q => e (Sum.inr.inj q)
    rw [decide_eq_false h, decide_eq_false e]
theorem key_lr (a : Int) (b : Str) : decide ((Sum.inl a : Key) = Sum.inr b) = false := decide_eq_false (fun q => nomatch q)
theorem key_rl (a : Str) (b : Int) : decide ((Sum.inr a : Key) = Sum.inl b) = false := decide_eq_false (fun q => nomatch q)

def mixKind (prog : Program) (w : World) : PySem.KeyKind prog w Key where
  is := keyIs
  hash := keyH w
  inj := fun v a b ha hb => by
    rcases keyIs_shape ha with ⟨i, t, rfl, rfl⟩ | ⟨x, t, rfl, rfl⟩
    · rcases keyIs_shape hb with ⟨j, u, rfl, e⟩ | ⟨y, u, rfl, e⟩
      · injection e with e1 _; rw [e1]
      · exact nomatch e
    · rcases keyIs_shape hb with ⟨j, u, rfl, e⟩ | ⟨y, u, rfl, e⟩
      · exact nomatch e
      · injection e with e1 _; rw [e1]
  byValue := fun k v h => by
    rcases keyIs_shape h with ⟨i, t, rfl, rfl⟩ | ⟨x, t, rfl, rfl⟩ <;> rfl
  pyHash := fun hv h => by
    rcases keyIs_shape hv with ⟨i, t, rfl, rfl⟩ | ⟨x, t, rfl, rfl⟩
    · exact wpAny_pyHash_int h
    · exact wpAny_pyHash_str h
  eqBool := fun hu hv h => by
    rcases keyIs_shape hu with ⟨i, t, rfl, rfl⟩ | ⟨x, t, rfl, rfl⟩
    · rcases keyIs_shape hv with ⟨j, u, rfl, rfl⟩ | ⟨y, u, rfl, rfl⟩
      · rw [key_ll] at h; exact wpAny_eqBool_int h
      · rw [key_lr] at h; exact SeqAt.EqAt.int_str i t y u _ _ _ _ h
    · rcases keyIs_shape hv with ⟨j, u, rfl, rfl⟩ | ⟨y, u, rfl, rfl⟩
      · rw [key_rl] at h; exact SeqAt.EqAt.str_int x t j u _ _ _ _ h
      · rw [key_rr] at h; exact wpAny_eqBool_str h
  «strs» := fun k x t v h => by
    rcases keyIs_shape h with ⟨i, u, rfl, e⟩ | ⟨y, u, rfl, e⟩
    · exact nomatch e
    · injection e with e1 _
      subst e1
      cases v <;> rfl

end L2

namespace L2
open PySem PySem.Spec PyProof.Rows

/-- a value, without the heap -/
inductive V where
  | non | bl (b : Bool) | int (i : Int) | str (x : Str) | byt (b : Array UInt8) | flt (b : UInt64) | ref (a : Addr) | ty (n : String)
  deriving DecidableEq

def RelV : V → Value → Prop
  | .non, u => u = Value.none
  | .bl b, u => u = Value.bool b
  | .int i, u => ∃ t, u = Value.int i t
  | .str x, u => ∃ t, u = Value.str x t
  | .byt b, u => ∃ t, u = Value.bytes b t
  | .flt b, u => ∃ t, u = Value.float b t
  | .ref a, u => u = Value.ref a
  | .ty n, u => u = Value.type n

abbrev Vals : List V → List Value → Prop := Paired RelV
theorem Vals.length {xs : List V} {us : List Value} (r : Vals xs us) : xs.length = us.length := Paired.length r
theorem Vals.get : ∀ {xs : List V} {us : List Value} {i : Nat} {x : V}, Vals xs us → xs[i]? = some x → ∃ u, us[i]? = some u ∧ RelV x u
  | _, _, _, _, .nil, e => by simp at e
  | _, _, 0, _, .cons r _, e => by simp at e; subst e; exact ⟨_, rfl, r⟩
  | _, _, i + 1, x, .cons _ t, e => by
    obtain ⟨u, h1, h2⟩ := Vals.get (i := i) (x := x) t (by simpa using e)
    exact ⟨u, by simpa using h1, h2⟩
theorem Vals.set {x : V} {u : Value} (r : RelV x u) : ∀ {xs : List V} {us : List Value} (i : Nat), Vals xs us → Vals (xs.set i x) (us.set i u)
  | _, _, _, .nil => .nil
  | _, _, 0, .cons _ t => .cons r t
  | _, _, i + 1, .cons q t => .cons q (Vals.set r i t)
theorem Vals.append : ∀ {xs ys : List V} {us ws : List Value}, Vals xs us → Vals ys ws → Vals (xs ++ ys) (us ++ ws)
  | _, _, _, _, .nil, s => s
  | _, _, _, _, .cons r t, s => .cons r (Vals.append t s)
theorem Vals.take : ∀ {xs : List V} {us : List Value} (n : Nat), Vals xs us → Vals (xs.take n) (us.take n)
  | _, _, 0, _ => .nil
  | _, _, _ + 1, .nil => .nil
  | _, _, n + 1, .cons r t => .cons r (Vals.take n t)
theorem Vals.drop : ∀ {xs : List V} {us : List Value} (n : Nat), Vals xs us → Vals (xs.drop n) (us.drop n)
  | _, _, 0, r => r
  | _, _, _ + 1, .nil => .nil
  | _, _, n + 1, .cons _ t => Vals.drop n t
def RelO : Option V → Option Value → Prop
  | some v, some u => RelV v u
  | none, none => True
  | _, _ => False
def KV {κ : Type} : List (κ × V) → List (κ × Value) → Prop := Paired fun (p : κ × V) (q : κ × Value) => p.1 = q.1 ∧ RelV p.2 q.2

/-- a key of a dict (00_mix): an int or a text -/
def kV : Key → V
  | .inl i => .int i
  | .inr x => .str x

/-- what stands at a tracked address -/
inductive HO where
  /-- a list -/
  | lst (xs : List V)
  /-- a tuple (never changes) -/
  | tup (xs : List V)
  /-- a dict whose keys are ints and texts; one whose keys are tuples of ints and texts (the empty one is both) -/
  | dK (kvs : List (Key × V)) | dT (kvs : List (List Key × V))
  /-- a set of ints: its members, its size -/
  | set (S : Int → Bool) (n : Nat)
  /-- an instance of the class at C, its dict at dx, its attributes -/
  | ins (C dx : Addr) (fs : List (Str × V))
  /-- the dict of the instance at x -/
  | own (x : Addr)
  /-- the dict of an exception -/
  | xd (fs : List (Str × V))
  /-- a bound method, f of x -/
  | met (f x : Addr)
  /-- a range object lo, lo + 1, .. below hi -/
  | rng (lo hi : Int)
  /-- a thing that is known to the object (the script; a dict while a loop walks it): read, never written while it is so -/
  | frz (o : Obj) (u : HO)
  /-- a code object's table -/
  | tbl (ps : Array Value)
  /-- any other thing, by what is true of its one object (a def of one's own: SetO a S n := HO.ext fun h => ..) -/
  | ext (φ : Heap → Prop)

abbrev Hp := Addr → Option HO
def upd (H : Hp) (a : Addr) (o : HO) : Hp := fun b => if b = a then some o else H b
theorem upd_same {H : Hp} {a : Addr} {o : HO} : upd H a o a = some o := by unfold upd; rw [if_pos rfl]
theorem upd_ne {H : Hp} {a b : Addr} {o : HO} (h : b ≠ a) : upd H a o b = H b := by unfold upd; rw [if_neg h]
/-- two objects of different content stand apart -/
theorem ne_of {H : Hp} {a b : Addr} {o u : HO} (h : H a = some o) (h' : H b = some u) (d : o ≠ u) : a ≠ b := by
  intro e; subst e; rw [h] at h'; exact d (Option.some.inj h')
theorem ne_of_none {H : Hp} {a b : Addr} {o : HO} (h : H a = some o) (h' : H b = none) : a ≠ b := by
  intro e; subst e; rw [h] at h'; cases h'

section
variable (P : Program) (w : World)
def ObjOk (H : Hp) (h : Heap) (a : Addr) : HO → Prop
  | .lst xs => xs.length ≤ sizeLine ∧ ∃ (its : List Value) (n : Nat), Vals xs its ∧ h.get? a = some { cls := .type "list", data := .seq its.toArray n }
  | .tup xs => xs.length ≤ sizeLine ∧ ∃ its : List Value, Vals xs its ∧ IsTup h a its.toArray ∧ ∀ o, h.get? a = some o → o.dict = none
  | .dK kvs => kvs.length ≤ sizeLine ∧ (a == sysModules) = false ∧ ∃ vs, KV kvs vs ∧ h.DictOf (mixKind P w) a vs
  | .dT kvs => kvs.length ≤ sizeLine ∧ (a == sysModules) = false ∧ ∃ xs : List (List Key × Addr × Value),
      Paired (fun (p : List Key × V) (q : List Key × Addr × Value) => p.1 = q.1 ∧ H q.2.1 = some (.tup (p.1.map kV)) ∧ RelV p.2 q.2.2) kvs xs ∧
      ∃ o es ep, h.get? a = some o ∧ o.ExactDict ∧ o.data = .dict es ep ∧ es.toList = xs.map (entryOfKey (tupleKind (mixKind P w))) ∧ (xs.map (·.1)).Nodup
  | .set S n => h.SetOf (intKind P w) a S n
  | .ins C dx fs => H dx = some (.own a) ∧ fs.length ≤ 1000 ∧ dx ≠ a ∧ h.get? a = some (PySem.W.instObj C dx) ∧
      ∃ mA, h.Ns1 dx mA ∧ (∀ f, RelO (fs.lookup f) (mA f)) ∧ PySem.Within mA (fs.map (·.1))
  | .own _ => ∃ o, h.get? a = some o
  | .xd fs => ∃ mA, h.Ns1 a mA ∧ ∀ f, RelO (fs.lookup f) (mA f)
  | .rng lo hi => ∃ t u v, h.get? a = some { cls := .type "range", data := .fields #[.int lo t, .int hi u, .int 1 v] }
  | .frz o u => h.get? a = some o ∧ ObjOk H h a u
  | .tbl ps => h.get? a = some { cls := .none, data := .fields ps }
  | .met f x => h.get? a = some (PySem.W.methodObj (.ref f) (.ref x))
  | .ext φ => φ h ∧ (∃ o, h.get? a = some o) ∧ ∀ h1 h2 : Heap, φ h1 → (∀ o, h1.get? a = some o → h2.get? a = some o) → φ h2
theorem tup_nodict {h : Heap} {its : Array Value} : ∀ o, (h.push { cls := .type "tuple", data := .seq its }).get? h.objs.size = some o → o.dict = none := by
  intro o e
  rw [Heap.get?_push_size _ rfl] at e
  cases e
  rfl
/-- the abstract heap is held -/
def HOk (H : Hp) (h : Heap) : Prop := ∀ a o, H a = some o → ObjOk P w H h a o
end

section
variable {P : Program} {w : World} {H H' : Hp} {h h' : Heap} {a : Addr} {o : HO}
theorem ObjOk.lt (x : ObjOk P w H h a o) : a < h.objs.size := by
  cases o with
  | lst xs => obtain ⟨_, _, _, _, e⟩ := x; exact Heap.lt_size e
  | tup xs => obtain ⟨_, _, _, p, _⟩ := x; exact p.lt
  | dK kvs => obtain ⟨_, _, _, _, o, _, _, e, _⟩ := x; exact Heap.lt_size e
  | dT kvs => obtain ⟨_, _, _, _, o, _, _, e, _⟩ := x; exact Heap.lt_size e
  | set S n => obtain ⟨o, _, _, _, e, _⟩ := x; exact Heap.lt_size e
  | ins C dx fs => obtain ⟨_, _, _, e, _⟩ := x; exact Heap.lt_size e
  | own y => obtain ⟨_, e⟩ := x; exact Heap.lt_size e
  | xd fs => obtain ⟨_, ⟨_, _, _, e, _⟩, _⟩ := x; exact Heap.lt_size e
  | rng lo hi => obtain ⟨_, _, _, e⟩ := x; exact Heap.lt_size e
  | frz ob u => obtain ⟨e, _⟩ := x; exact Heap.lt_size e
  | tbl ps => exact Heap.lt_size (show h.get? a = some _ from x)
  | met f y => exact Heap.lt_size (show h.get? a = some _ from x)
  | ext φ => obtain ⟨_, ⟨_, e⟩, _⟩ := x; exact Heap.lt_size e
theorem Paired.mapP {α β : Type} {F G : α → β → Prop} : ∀ {l₁ : List α} {l₂ : List β}, Paired F l₁ l₂ → (∀ a b, F a b → G a b) → Paired G l₁ l₂
  | _, _, .nil, _ => .nil
  | _, _, .cons r t, f => .cons (f _ _ r) (Paired.mapP t f)
/-- what an object's description leans on: its own object, its own dict, the tuples -/
theorem ObjOk.stay (x : ObjOk P w H h a o) (k : ∀ b u, (b = a ∨ H b = some (.own a)) → h.get? b = some u → h'.get? b = some u)
    (ho : ∀ b, H b = some (.own a) → H' b = some (.own a)) (ht : ∀ b xs, H b = some (.tup xs) → H' b = some (.tup xs)) : ObjOk P w H' h' a o := by
  induction o with
  | lst xs => obtain ⟨z, its, n, r, e⟩ := x; exact ⟨z, its, n, r, k _ _ (.inl rfl) e⟩
  | tup xs =>
    obtain ⟨z, its, r, ⟨ob, e, c⟩, nd⟩ := x
    have e' := k _ _ (.inl rfl) e
    exact ⟨z, its, r, ⟨ob, e', c⟩, fun o q => by rw [e'] at q; cases q; exact nd ob e⟩
  | dK kvs => obtain ⟨z, y, vs, r, ob, es, ep, e, c⟩ := x; exact ⟨z, y, vs, r, ob, es, ep, k _ _ (.inl rfl) e, c⟩
  | dT kvs =>
    obtain ⟨z, y, xs, r, ob, es, ep, e, c⟩ := x
    exact ⟨z, y, xs, Paired.mapP r fun p q z => ⟨z.1, ht _ _ z.2.1, z.2.2⟩, ob, es, ep, k _ _ (.inl rfl) e, c⟩
  | set S n => obtain ⟨ob, es, ep, t, e, c⟩ := x; exact ⟨ob, es, ep, t, k _ _ (.inl rfl) e, c⟩
  | ins C dx fs =>
    obtain ⟨d, z, ne, e, mA, ⟨od, es, ep, e2, c⟩, r⟩ := x
    exact ⟨ho _ d, z, ne, k _ _ (.inl rfl) e, mA, ⟨od, es, ep, k _ _ (.inr d) e2, c⟩, r⟩
  | own y => obtain ⟨ob, e⟩ := x; exact ⟨ob, k _ _ (.inl rfl) e⟩
  | xd fs => obtain ⟨mA, ⟨od, es, ep, e, c⟩, r⟩ := x; exact ⟨mA, ⟨od, es, ep, k _ _ (.inl rfl) e, c⟩, r⟩
  | rng lo hi => obtain ⟨t, u, v, e⟩ := x; exact ⟨t, u, v, k _ _ (.inl rfl) e⟩
  | frz ob u ih => obtain ⟨e, q⟩ := x; exact ⟨k _ _ (.inl rfl) e, ih q⟩
  | tbl ps =>
    have e : h.get? a = some { cls := .none, data := .fields ps } := x
    show h'.get? a = some { cls := .none, data := .fields ps }
    exact k a _ (.inl rfl) e
  | met f y =>
    have e : h.get? a = some (PySem.W.methodObj (.ref f) (.ref y)) := x
    show h'.get? a = some (PySem.W.methodObj (.ref f) (.ref y))
    exact k a _ (.inl rfl) e
  | ext φ => obtain ⟨p, ⟨o, e⟩, st⟩ := x; exact ⟨st _ _ p fun o q => k _ _ (.inl rfl) q, ⟨o, k _ _ (.inl rfl) e⟩, st⟩
theorem HOk.lt (x : HOk P w H h) (e : H a = some o) : a < h.objs.size := (x a o e).lt
theorem HOk.fresh (x : HOk P w H h) (e : h.objs.size ≤ a) : H a = none := by
  cases q : H a with
  | none => rfl
  | some u => exact absurd (Nat.lt_of_lt_of_le (x.lt q) e) (Nat.lt_irrefl _)
/-- every object of the heap is kept -/
theorem HOk.kept (x : HOk P w H h) (k : ∀ b u, h.get? b = some u → h'.get? b = some u) : HOk P w H h' := fun a o e =>
  (x a o e).stay (fun b u _ q => k b u q) (fun _ q => q) fun _ _ q => q
/-- a new object is laid and tracked -/
theorem HOk.laid (x : HOk P w H h) (k : ∀ b u, h.get? b = some u → h'.get? b = some u) (hp : h.objs.size ≤ a) (new : ObjOk P w (upd H a o) h' a o) : HOk P w (upd H a o) h' := fun b u e => by
  have hn := x.fresh hp
  by_cases hb : b = a
  · subst hb; rw [upd_same] at e; cases e; exact new
  · rw [upd_ne hb] at e
    exact (x b u e).stay (fun c v _ q => k c v q) (fun c q => by rw [upd_ne (ne_of_none q hn)]; exact q) fun c xs q => by rw [upd_ne (ne_of_none q hn)]; exact q
end

/-- what may be read as u: it is u, or a known u -/
def Rd (H : Hp) (a : Addr) (u : HO) : Prop := H a = some u ∨ ∃ o, H a = some (.frz o u)
theorem Rd.ok {P : Program} {w : World} {H : Hp} {h : Heap} {a : Addr} {u : HO} (r : Rd H a u) (x : HOk P w H h) : ObjOk P w H h a u := by
  rcases r with r | ⟨o, r⟩
  · exact x a u r
  · obtain ⟨_, q⟩ := x a _ r
    exact q
/-- what may be written -/
def Mut : Option HO → Prop
  | some (.lst _) => True
  | some (.dK _) => True
  | some (.dT _) => True
  | some (.set _ _) => True
  | some (.ins _ _ _) => True
  | some (.ext _) => True
  | _ => False
section
variable {P : Program} {w : World} {H : Hp} {h h' : Heap} {x e : Addr} {o' : HO}
/-- the object at e is changed: x itself, or the dict of the instance x -/
theorem HOk.write (ok : HOk P w H h) (mu : Mut (H x)) (he : e = x ∨ H e = some (.own x)) (k : ∀ b u, b ≠ e → h.get? b = some u → h'.get? b = some u) (heo : ∃ u, h'.get? e = some u)
    (new : ObjOk P w (upd H x o') h' x o') : HOk P w (upd H x o') h' := fun b u q => by
  have nown : ∀ c y, H c = some (.own y) → c ≠ x := fun c y r z => by subst z; rw [r] at mu; exact mu
  have ntup : ∀ c xs, H c = some (.tup xs) → c ≠ x := fun c xs r z => by subst z; rw [r] at mu; exact mu
  by_cases hb : b = x
  · subst hb; rw [upd_same] at q; cases q; exact new
  · rw [upd_ne hb] at q
    by_cases hbe : b = e
    · have q' : H b = some (.own x) := by
        rcases he with z | z
        · exact absurd (hbe.trans z) hb
        · rw [hbe]; exact z
      rw [q] at q'; cases q'
      obtain ⟨v, hv⟩ := heo
      exact ⟨v, by rw [hbe]; exact hv⟩
    · refine (ok b u q).stay (fun c v hc r => k c v ?_ r) (fun c r => by rw [upd_ne (nown c b r)]; exact r) fun c xs r => by rw [upd_ne (ntup c xs r)]; exact r
      rcases hc with rfl | hc
      · exact hbe
      · rintro rfl
        rcases he with z | z
        · exact nown c b hc z
        · rw [hc] at z; cases z; exact hb rfl
end

/-! ### kept unless tracked; of the frames at fs (the callers') the slots may change (an exception that passes writes there); of the records at ex (iterators) nothing is said -/
structure Un (fs ex : List Addr) (H H' : Hp) (h h' : Heap) : Prop where
  keep : ∀ b o, h.get? b = some o → H b = none → b ∉ fs → b ∉ ex → h'.get? b = some o
  slot : ∀ b o, h.get? b = some o → H b = none → b ∈ fs → b ∉ ex → ∃ sl, h'.get? b = some { o with slots := sl }
  free : ∀ b o, h.get? b = some o → H b = none → b ∉ ex → H' b = none
  there : ∀ b o, h.get? b = some o → b ∉ ex → ∃ o', h'.get? b = some o'
  tups : ∀ b xs, H b = some (.tup xs) → H' b = some (.tup xs)
  frzs : ∀ b o u, H b = some (.frz o u) → H' b = some (.frz o u)
  tbls : ∀ b ps, H b = some (.tbl ps) → ∃ more, H' b = some (.tbl (ps ++ more))
section
variable {fs fs' ex ex' : List Addr} {H H1 H2 : Hp} {h h1 h2 h' : Heap} {a x e : Addr} {o : HO}
theorem Un.any (u : Un fs ex H H1 h h1) {b : Addr} {ob : Obj} (q : h.get? b = some ob) (n : H b = none) (hx : b ∉ ex) : ∃ sl, h1.get? b = some { ob with slots := sl } := by
  by_cases hb : b ∈ fs
  · exact u.slot b ob q n hb hx
  · exact ⟨ob.slots, u.keep b ob q n hb hx⟩
theorem Un.trans (a : Un fs ex H H1 h h1) (b : Un fs ex H1 H2 h1 h2) : Un fs ex H H2 h h2 where
  keep := fun c ob q n hc hx => b.keep c ob (a.keep c ob q n hc hx) (a.free c ob q n hx) hc hx
  slot := fun c ob q n hc hx => by
    obtain ⟨sl, e1⟩ := a.slot c ob q n hc hx
    obtain ⟨sl', e2⟩ := b.slot c _ e1 (a.free c ob q n hx) hc hx
    exact ⟨sl', e2⟩
  free := fun c ob q n hx => by
    obtain ⟨o', e1⟩ := a.there c ob q hx
    exact b.free c o' e1 (a.free c ob q n hx) hx
  there := fun c ob q hx => by
    obtain ⟨o', e1⟩ := a.there c ob q hx
    exact b.there c o' e1 hx
  tups := fun c xs q => b.tups c xs (a.tups c xs q)
  frzs := fun c ob xs q => b.frzs c ob xs (a.frzs c ob xs q)
  tbls := fun c ps q => by
    obtain ⟨m1, e1⟩ := a.tbls c ps q
    obtain ⟨m2, e2⟩ := b.tbls c _ e1
    exact ⟨m1 ++ m2, by rw [e2, Array.append_assoc]⟩
theorem Un.kept (k : ∀ b u, h.get? b = some u → h'.get? b = some u) : Un fs ex H H h h' :=
  ⟨fun b ob q _ _ _ => k b ob q, fun b ob q _ _ _ => ⟨ob.slots, k b ob q⟩, fun _ _ _ n _ => n, fun b ob q _ => ⟨ob, k b ob q⟩, fun _ _ q => q, fun _ _ _ q => q, fun _ ps q => ⟨#[], by rw [q]; simp⟩⟩
theorem Un.refl : Un fs ex H H h h := Un.kept fun _ _ q => q
theorem Un.laid (k : ∀ b u, h.get? b = some u → h'.get? b = some u) (hp : h.objs.size ≤ a) (hn : H a = none) : Un fs ex H (upd H a o) h h' where
  keep := fun b u q _ _ _ => k b u q
  slot := fun b u q _ _ _ => ⟨u.slots, k b u q⟩
  free := fun b u q n _ => by rw [upd_ne (Nat.ne_of_lt (Nat.lt_of_lt_of_le (Heap.lt_size q) hp))]; exact n
  there := fun b u q _ => ⟨u, k b u q⟩
  tups := fun b xs q => by rw [upd_ne (ne_of_none q hn)]; exact q
  frzs := fun b u xs q => by rw [upd_ne (ne_of_none q hn)]; exact q
  tbls := fun b ps q => ⟨#[], by rw [upd_ne (ne_of_none q hn), q]; simp⟩
theorem Un.write (mu : Mut (H x)) (he : e = x ∨ H e = some (.own x)) (k : ∀ b u, b ≠ e → h.get? b = some u → h'.get? b = some u) (heo : ∃ u, h'.get? e = some u) : Un fs ex H (upd H x o) h h' := by
  have hx : ∀ b, H b = none → b ≠ x := fun b n z => by subst z; rw [n] at mu; exact mu
  have hb : ∀ b, H b = none → b ≠ e := fun b n z => by
    subst z
    rcases he with r | r
    · exact hx b n r
    · rw [n] at r; cases r
  have hm : ∀ b u, H b = some u → ¬ Mut (some u) → b ≠ x := fun b u q nm z => by subst z; rw [q] at mu; exact nm mu
  refine ⟨fun b u q n _ _ => k b u (hb b n) q, fun b u q n _ _ => ⟨u.slots, k b u (hb b n) q⟩, fun b u q n _ => by rw [upd_ne (hx b n)]; exact n, fun b u q _ => ?_,
    fun b xs q => by rw [upd_ne (hm b _ q fun z => z)]; exact q, fun b u xs q => by rw [upd_ne (hm b _ q fun z => z)]; exact q, fun b ps q => ⟨#[], by rw [upd_ne (hm b _ q fun z => z), q]; simp⟩⟩
  by_cases hbe : b = e
  · subst hbe; exact heo
  · exact ⟨u, k b u hbe q⟩
end

/-! ### the heap without what is tracked -/
def trk (h : Heap) (H : Hp) : List Addr := (List.range h.objs.size).filter fun a => (H a).isSome
def hidT (h : Heap) (H : Hp) : Heap := PySem.W.hideAll h (trk h H)
theorem hidT_size (h : Heap) (H : Hp) : (hidT h H).objs.size = h.objs.size := PySem.W.hideAll_size _ _
theorem hidT_get {h : Heap} {H : Hp} {b : Addr} {o : Obj} (e : h.get? b = some o) (n : H b = none) : (hidT h H).get? b = some o :=
  PySem.W.hideAll_get _ e fun hm => by
    have q : (H b).isSome = true := (List.mem_filter.mp hm).2
    rw [n] at q; simp at q
theorem of_hidT {h : Heap} {H : Hp} {b : Addr} {o : Obj} (e : (hidT h H).get? b = some o) : h.get? b = some o ∧ H b = none := by
  have e' : h.get? b = some o := PySem.W.of_hideAll (trk h H) e
  refine ⟨e', ?_⟩
  cases q : H b with
  | none => rfl
  | some x =>
    have hm : b ∈ trk h H := List.mem_filter.mpr ⟨List.mem_range.mpr (Heap.lt_size e'), by simp [q]⟩
    have z : (hidT h H).get? b = none := PySem.W.hideAll_none (trk h H) hm
    rw [z] at e; cases e

/-! ### OpenK's ledger, filled with every new object but one -/
def allNews (g h : Heap) (L : Addr) : List (Addr × Obj) := (List.range h.objs.size).filterMap fun a => if a = L ∨ (g.get? a).isSome = true then none else (h.get? a).map fun o => (a, o)
def rest (g h : Heap) (L d : Addr) : List (Addr × Obj) := (allNews g h L).filter fun p => decide (p.1 ≠ d)
end L2

namespace L2
open PySem PySem.Spec PyProof.Rows

/-- the module's facts, over the base: the heap at the law's entry without what is tracked there -/
structure Mod (K : PySem.W.Frag) (mg : Str → Option Value) (base : Heap) : Prop where
  kin : K.In base
  glob : base.Ns mainGlobals mg
  blt : ∃ mb, base.Ns builtinsNs mb ∧ ∀ x : Str, x ≠ "__name__" → mb x = bootBuiltins x
  nolimit : base.NoLimit

/-- the context: a def's body (or a comprehension's block) running. base: fixed through the whole law; s₀, H₀: the entry; outer: the frames whose slots others may change (a def's callers); stack: all frames that run;
   ex: iterators that were made ahead of the entry and are walked here (a comprehension's); fn: the names whose cells were made at the entry (a def: all; a comprehension's block: its own); calm: not within an except suite; pn: pins that every state bears; xe: what is wanted of an exception that leaves the code -/
structure Cx where
  prog : Program
  w : World
  K : PySem.W.Frag
  mg : Str → Option Value
  base : Heap
  A : Around
  N : List Str
  s₀ : Shared
  H₀ : Hp
  env : Env
  outer : List Env
  stack : List Env
  ex : List Addr
  fn : Str → Bool
  calm : Bool
  pn : List (Addr × Obj)
  xe : Value → Shared → Prop
/-- the callers' frames -/
def frs (l : List Env) : List Addr := l.filterMap (·.frame)
abbrev Cx.fs (X : Cx) : List Addr := frs X.outer

def Vis (sc : Scope) (x : Str) : Prop := sc.names.lookup x = some .local ∨ sc.names.lookup x = some .cell ∨ sc.names.lookup x = some .free
def Loc (sc : Scope) (x : Str) : Prop := sc.names.lookup x = some .local ∨ sc.names.lookup x = some .cell
def Look (env : Env) (h : Heap) (m : Str → Option Value) (x : Str) (u : Value) : Prop :=
  (env.kindOf x = some .local ∧ m x = some u) ∨ ((env.kindOf x = some .cell ∨ env.kindOf x = some .free) ∧ ∃ c, env.cells.lookup x = some c ∧ h.IsCell c (some u))

structure Cx.Ok (X : Cx) : Prop where
  mod : Mod X.K X.mg X.base
  kind : X.env.scope.kind = .function
  glob : X.env.globals = mainGlobals
  blt : X.env.builtins = builtinsNs
  above : X.s₀.heap.objs.size ≤ X.env.locals
  inj : ∀ x y c, X.env.cells.lookup x = some c → X.env.cells.lookup y = some c → x = y
  has : ∀ x, (X.env.kindOf x = some .cell ∨ X.env.kindOf x = some .free) → ∃ c, X.env.cells.lookup x = some c
  cab : ∀ x c, X.fn x = true → X.env.cells.lookup x = some c → X.s₀.heap.objs.size ≤ c
  hd : X.calm = true → X.A.handled = none
  frames : X.A.frames = some X.stack
  stk : X.stack = X.outer ∨ (X.stack = X.env :: X.outer ∧ X.env.frame = some X.env.locals)
  exf : ∀ b ∈ X.ex, b ≠ X.env.locals ∧ ∀ x c, X.env.cells.lookup x = some c → c ≠ b
  bs : ∀ b o, X.base.get? b = some o → X.s₀.heap.get? b = some o ∧ X.H₀ b = none
  bsz : X.base.objs.size ≤ X.s₀.heap.objs.size
  noex : ∀ b o, X.base.get? b = some o → b ∉ X.ex
  exfs : ∀ b ∈ X.ex, b ∉ X.fs
  funs : X.s₀.heap.FunFrames X.base X.outer
  frf : ∀ b ∈ X.fs, X.H₀ b = none

structure Inv (X : Cx) (pins : List (Addr × Obj)) (σ : List (Option V)) (H : Hp) (s : Shared) : Prop where
  ok : X.Ok
  os : s.os = X.s₀.os
  bare : AllBare s.gens
  base : Un X.fs X.ex X.H₀ H X.s₀.heap s.heap
  loc : ∃ m, s.heap.Ns X.env.locals m ∧ ∀ (i : Nat) (x : Str) (v : V), X.N[i]? = some x → σ[i]? = some (some v) → Vis X.env.scope x → ∃ u, RelV v u ∧ Look X.env s.heap m x u
  cell : ∀ x c, X.env.cells.lookup x = some c → ∃ v, s.heap.IsCell c v
  free : H X.env.locals = none
  freeC : ∀ x c, X.env.cells.lookup x = some c → H c = none
  pin : ∀ p ∈ X.pn ++ pins, s.heap.get? p.1 = some p.2 ∧ H p.1 = none ∧ p.1 ≠ X.env.locals ∧ p.1 ∉ X.fs ∧ ∀ v, p.2.data ≠ .cell v
  hok : HOk X.prog X.w H s.heap
  len : σ.length = X.N.length

section
variable {X : Cx} {pins : List (Addr × Obj)} {σ : List (Option V)} {H H' : Hp} {s : Shared} {h' : Heap}

theorem Cx.Ok.nofr (ok : X.Ok) {b : Addr} {o : Obj} (e : X.base.get? b = some o) : b ∉ X.fs := fun hb => by
  have := (ok.funs.mem hb).1
  rw [e] at this; cases this
theorem Inv.bs (I : Inv X pins σ H s) : ∀ b o, X.base.get? b = some o → s.heap.get? b = some o ∧ H b = none := fun b o e =>
  ⟨I.base.keep b o (I.ok.bs b o e).1 (I.ok.bs b o e).2 (I.ok.nofr e) (I.ok.noex b o e), I.base.free b o (I.ok.bs b o e).1 (I.ok.bs b o e).2 (I.ok.noex b o e)⟩
theorem Inv.bk (I : Inv X pins σ H s) : ∀ b o, X.base.get? b = some o → s.heap.get? b = some o := fun b o e => (I.bs b o e).1
theorem Inv.mod (I : Inv X pins σ H s) : Mod X.K X.mg X.base := I.ok.mod
theorem Inv.kIn (I : Inv X pins σ H s) : X.K.In s.heap := I.ok.mod.kin.keeps I.bk
theorem Inv.lt (I : Inv X pins σ H s) : X.env.locals < s.heap.objs.size := let ⟨_, hn, _⟩ := I.loc; hn.lt
theorem Inv.sz (I : Inv X pins σ H s) : X.s₀.heap.objs.size ≤ s.heap.objs.size := Nat.le_trans I.ok.above (Nat.le_of_lt I.lt)
theorem Inv.nofs (I : Inv X pins σ H s) {a : Addr} (h : s.heap.objs.size ≤ a) : a ∉ X.fs := fun hb => by
  obtain ⟨_, o, ho, _⟩ := I.ok.funs.mem hb
  exact absurd (Nat.lt_of_lt_of_le (Heap.lt_size ho) (Nat.le_trans I.sz h)) (Nat.lt_irrefl _)
theorem Inv.cne (I : Inv X pins σ H s) : ∀ x c, X.env.cells.lookup x = some c → c ≠ X.env.locals := fun x c e z => by
  obtain ⟨v, o, ho, hd⟩ := I.cell x c e
  obtain ⟨m, ⟨o', es, ep, ho', hd', _⟩, _⟩ := I.loc
  rw [z, ho'] at ho; cases ho; rw [hd'] at hd; cases hd
theorem Inv.funs (I : Inv X pins σ H s) : s.heap.FunFrames X.base X.outer := by
  have all : ∀ (l : List Env), (∀ b ∈ frs l, b ∈ X.fs) → X.s₀.heap.FunFrames X.base l → s.heap.FunFrames X.base l := by
    intro l
    induction l with
    | nil => intro _ _; trivial
    | cons env r ih =>
      intro hs hl
      obtain ⟨hk, ⟨L, o, hf, hn, ho, hd⟩, hr⟩ := hl
      have hL : L ∈ X.fs := hs L (by unfold frs; rw [List.filterMap_cons, hf]; exact List.mem_cons_self)
      obtain ⟨sl, e⟩ := I.base.slot L o ho (I.ok.frf L hL) hL fun z => I.ok.exfs L z hL
      exact ⟨hk, ⟨L, _, hf, hn, e, hd⟩, ih (fun b hb => hs b (by unfold frs; rw [List.filterMap_cons, hf]; exact List.mem_cons_of_mem _ hb)) hr⟩
  exact all X.outer (fun _ hb => hb) I.ok.funs

/-- the frames that run, for a call -/
theorem Inv.stack (I : Inv X pins σ H s) : s.heap.FunFrames X.base X.stack := by
  rcases I.ok.stk with e | ⟨e, hf⟩
  · rw [e]; exact I.funs
  · rw [e]
    obtain ⟨m, hn, _⟩ := I.loc
    refine .cons (by rw [I.ok.kind]; decide) hf hn ?_ I.funs
    exact Heap.get?_none_of_le (Nat.le_trans I.ok.bsz I.ok.above)
theorem Inv.stkSub (I : Inv X pins σ H s) : ∀ b ∈ frs X.stack, b ∈ X.env.locals :: X.fs := fun b hb => by
  rcases I.ok.stk with e | ⟨e, hf⟩
  · rw [e] at hb; exact List.mem_cons_of_mem _ hb
  · rw [e] at hb
    unfold frs at hb
    rw [List.filterMap_cons, hf] at hb
    exact hb
theorem Inv.stkFree (I : Inv X pins σ H s) : ∀ b ∈ frs X.stack, H b = none := fun b hb => by
  rcases List.mem_cons.mp (I.stkSub b hb) with e | hb
  · rw [e]; exact I.free
  · obtain ⟨_, o, ho, _⟩ := I.ok.funs.mem hb
    exact I.base.free b o ho (I.ok.frf b hb) fun z => I.ok.exfs b z hb

/-- THE STEP: the untracked objects but the frame and the records at ch are kept (the callers' frames up to slots), the frame's map is kept, the new abstract heap is held -/
theorem Inv.step {g' : Array GenState} {t' : Nat} {d' : Drawn} {ch : List Addr} (I : Inv X pins σ H s)
    (hch : ∀ b ∈ ch, (b ∈ X.ex ∨ X.s₀.heap.objs.size ≤ b) ∧ b ≠ X.env.locals ∧ (∀ x c, X.env.cells.lookup x = some c → c ≠ b) ∧ ∀ p ∈ X.pn ++ pins, p.1 ≠ b)
    (keep : ∀ b o, b ≠ X.env.locals → b ∉ X.fs → b ∉ ch → s.heap.get? b = some o → H b = none → h'.get? b = some o)
    (slot : ∀ b o, b ≠ X.env.locals → b ∈ X.fs → b ∉ ch → s.heap.get? b = some o → H b = none → ∃ sl, h'.get? b = some { o with slots := sl }) (free : ∀ b o, b ∉ ch → s.heap.get? b = some o → H b = none → H' b = none)
    (there : ∀ b o, b ∉ ch → s.heap.get? b = some o → ∃ o', h'.get? b = some o')
    (tups : ∀ b xs, H b = some (.tup xs) → H' b = some (.tup xs)) (frzs : ∀ b o u, H b = some (.frz o u) → H' b = some (.frz o u)) (tbls : ∀ b ps, H b = some (.tbl ps) → ∃ more, H' b = some (.tbl (ps ++ more)))
    (ns : ∀ m, s.heap.Ns X.env.locals m → h'.Ns X.env.locals m) (hok : HOk X.prog X.w H' h') (hg : AllBare g') :
    Inv X pins σ H' { s with heap := h', gens := g', drawn := d', toks := t' } := by
  have neL : ∀ b o, X.s₀.heap.get? b = some o → b ≠ X.env.locals := fun b o e => Nat.ne_of_lt (Nat.lt_of_lt_of_le (Heap.lt_size e) I.ok.above)
  have neC : ∀ b o, X.s₀.heap.get? b = some o → b ∉ X.ex → b ∉ ch := fun b o e hx hb => by
    rcases (hch b hb).1 with z | z
    · exact hx z
    · exact absurd (Nat.lt_of_lt_of_le (Heap.lt_size e) z) (Nat.lt_irrefl _)
  have cellK : ∀ x c, X.env.cells.lookup x = some c → ∀ v, s.heap.IsCell c v → h'.IsCell c v := fun x c e v ⟨o, ho, hd⟩ => by
    have nch : c ∉ ch := fun z => (hch c z).2.2.1 x c e rfl
    by_cases hc : c ∈ X.fs
    · obtain ⟨sl, q⟩ := slot c o (I.cne x c e) hc nch ho (I.freeC x c e)
      exact ⟨_, q, hd⟩
    · exact ⟨o, keep c o (I.cne x c e) hc nch ho (I.freeC x c e), hd⟩
  refine ⟨I.ok, I.os, hg, ⟨fun b o e n hb hx => ?_, fun b o e n hb hx => ?_, fun b o e n hx => ?_, fun b o e hx => ?_, fun b xs e => tups b xs (I.base.tups b xs e), fun b o xs e => frzs b o xs (I.base.frzs b o xs e), fun b ps e => ?_⟩, ?_, fun x c e => ?_, ?_, fun x c e => ?_, fun p hp => ?_, hok, I.len⟩
  · exact keep b o (neL b o e) hb (neC b o e hx) (I.base.keep b o e n hb hx) (I.base.free b o e n hx)
  · obtain ⟨sl, e1⟩ := I.base.slot b o e n hb hx
    obtain ⟨sl', e2⟩ := slot b _ (neL b o e) hb (neC b o e hx) e1 (I.base.free b o e n hx)
    exact ⟨sl', e2⟩
  · obtain ⟨o', e1⟩ := I.base.there b o e hx
    exact free b o' (neC b o e hx) e1 (I.base.free b o e n hx)
  · obtain ⟨o', e1⟩ := I.base.there b o e hx
    exact there b o' (neC b o e hx) e1
  · obtain ⟨m1, e1⟩ := I.base.tbls b ps e
    obtain ⟨m2, e2⟩ := tbls b _ e1
    exact ⟨m1 ++ m2, by rw [e2, Array.append_assoc]⟩
  · obtain ⟨m, hn, hl⟩ := I.loc
    refine ⟨m, ns m hn, fun i x v e1 e2 e3 => ?_⟩
    obtain ⟨u, r, l⟩ := hl i x v e1 e2 e3
    refine ⟨u, r, ?_⟩
    rcases l with l | ⟨k, c, e, z⟩
    · exact .inl l
    · exact .inr ⟨k, c, e, cellK x c e _ z⟩
  · obtain ⟨v, z⟩ := I.cell x c e
    exact ⟨v, cellK x c e v z⟩
  · obtain ⟨m, ⟨o, _, _, ho, _⟩, _⟩ := I.loc
    exact free _ o (fun z => (hch _ z).2.1 rfl) ho I.free
  · obtain ⟨v, o, ho, hd⟩ := I.cell x c e
    exact free c o (fun z => (hch c z).2.2.1 x c e rfl) ho (I.freeC x c e)
  · obtain ⟨e, n, ne, nf, d⟩ := I.pin p hp
    have nch : p.1 ∉ ch := fun z => (hch p.1 z).2.2.2 p hp rfl
    exact ⟨keep p.1 p.2 ne nf nch e n, free p.1 p.2 nch e n, ne, nf, d⟩
/-- .. where the frame's own object is kept too -/
theorem Inv.un {t' : Nat} (I : Inv X pins σ H s) (u : Un X.fs [] H H' s.heap h') (hok : HOk X.prog X.w H' h') : Inv X pins σ H' { s with heap := h', toks := t' } := by
  obtain ⟨m, ⟨o, es, ep, ho, r⟩, _⟩ := id I.loc
  obtain ⟨sl, hL⟩ := u.any ho I.free (by simp)
  exact I.step (g' := s.gens) (d' := s.drawn) (ch := []) (fun _ z => nomatch z) (fun b o _ hb _ e n => u.keep b o e n hb (by simp)) (fun b o _ hb _ e n => u.slot b o e n hb (by simp)) (fun b o _ e n => u.free b o e n (by simp)) (fun b o _ e => u.there b o e (by simp)) u.tups u.frzs u.tbls (fun m' hm => by
    obtain ⟨o', es', ep', ho', r'⟩ := hm
    rw [ho] at ho'; cases ho'
    exact ⟨_, es', ep', hL, r'⟩) hok I.bare
/-- behind a call (or a comprehension's block): the slots of this frame may have changed too, the records at ch may have turned -/
theorem Inv.call {g' : Array GenState} {t' : Nat} {d' : Drawn} {ch : List Addr} (I : Inv X pins σ H s) (u : Un (frs X.stack) ch H H' s.heap h') (hok : HOk X.prog X.w H' h') (hg : AllBare g')
    (hch : ∀ b ∈ ch, (b ∈ X.ex ∨ X.s₀.heap.objs.size ≤ b) ∧ b ≠ X.env.locals ∧ (∀ x c, X.env.cells.lookup x = some c → c ≠ b) ∧ ∀ p ∈ X.pn ++ pins, p.1 ≠ b) :
    Inv X pins σ H' { s with heap := h', gens := g', drawn := d', toks := t' } := by
  obtain ⟨m, ⟨o, es, ep, ho, r⟩, _⟩ := id I.loc
  obtain ⟨sl, hL⟩ := u.any ho I.free fun z => (hch _ z).2.1 rfl
  exact I.step (ch := ch) hch (fun b o hL hb hc e n => u.keep b o e n (fun z => (List.mem_cons.mp (I.stkSub b z)).elim hL hb) hc) (fun b o _ _ hc e n => u.any e n hc) (fun b o hc e n => u.free b o e n hc) (fun b o hc e => u.there b o e hc) u.tups u.frzs u.tbls (fun m' hm => by
    obtain ⟨o', es', ep', ho', r'⟩ := hm
    rw [ho] at ho'; cases ho'
    exact ⟨_, es', ep', hL, r'⟩) hok hg
/-- an untracked record of ours (an iterator) has turned -/
theorem Inv.turned {t' : Nat} {it : Addr} (I : Inv X pins σ H s) (k : ∀ b o, b ≠ it → s.heap.get? b = some o → h'.get? b = some o) (hn : H it = none) (hL : it ≠ X.env.locals)
    (h1 : it ∈ X.ex ∨ X.s₀.heap.objs.size ≤ it) (h2 : ∀ x c, X.env.cells.lookup x = some c → c ≠ it) (h3 : ∀ p ∈ X.pn ++ pins, p.1 ≠ it) : Inv X pins σ H { s with heap := h', toks := t' } := by
  have nit : ∀ b u, H b = some u → b ≠ it := fun b u e z => by rw [z, hn] at e; cases e
  refine I.step (g' := s.gens) (d' := s.drawn) (ch := [it]) (fun b hb => ?_) (fun b o _ _ hc e _ => k b o (fun z => hc (by simp [z])) e) (fun b o _ _ hc e _ => ⟨o.slots, k b o (fun z => hc (by simp [z])) e⟩) (fun _ _ _ _ n => n)
    (fun b o hc e => ⟨o, k b o (fun z => hc (by simp [z])) e⟩) (fun _ _ e => e) (fun _ _ _ e => e) (fun b ps e => ⟨#[], by rw [e]; simp⟩) (fun m hm => ?_) (fun b u e => ?_) I.bare
  · have e : b = it := by simpa using hb
    subst e
    exact ⟨h1, hL, h2, h3⟩
  · obtain ⟨o, es, ep, ho, r⟩ := hm
    exact ⟨o, es, ep, k _ o (Ne.symm hL) ho, r⟩
  · refine (I.hok b u e).stay (fun c v hc q => k c v ?_ q) (fun _ q => q) fun _ _ q => q
    rcases hc with z | z
    · rw [z]; exact nit b u e
    · exact nit c _ z
theorem Inv.tok (I : Inv X pins σ H s) (t : Nat) : Inv X pins σ H { s with toks := t } := I.un (h' := s.heap) (t' := t) Un.refl I.hok
/-- all objects kept -/
theorem Inv.kept {t' : Nat} (I : Inv X pins σ H s) (k : ∀ b u, s.heap.get? b = some u → h'.get? b = some u) : Inv X pins σ H { s with heap := h', toks := t' } := I.un (Un.kept k) (I.hok.kept k)
/-- a new object laid and tracked -/
theorem Inv.laid {a : Addr} {o : HO} {t' : Nat} (I : Inv X pins σ H s) (k : ∀ b u, s.heap.get? b = some u → h'.get? b = some u) (hp : s.heap.objs.size ≤ a) (new : ObjOk X.prog X.w (upd H a o) h' a o) :
    Inv X pins σ (upd H a o) { s with heap := h', toks := t' } := I.un (Un.laid k hp (I.hok.fresh hp)) (I.hok.laid k hp new)
/-- an object written -/
theorem Inv.write {x e : Addr} {o : HO} {t' : Nat} (I : Inv X pins σ H s) (mu : Mut (H x)) (he : e = x ∨ H e = some (.own x)) (k : ∀ b u, b ≠ e → s.heap.get? b = some u → h'.get? b = some u) (heo : ∃ u, h'.get? e = some u)
    (new : ObjOk X.prog X.w (upd H x o) h' x o) : Inv X pins σ (upd H x o) { s with heap := h', toks := t' } := I.un (Un.write mu he k heo) (I.hok.write mu he k heo new)
theorem Inv.pins_of {pins' : List (Addr × Obj)} (I : Inv X pins σ H s) (h : ∀ p ∈ pins', s.heap.get? p.1 = some p.2 ∧ H p.1 = none ∧ p.1 ≠ X.env.locals ∧ p.1 ∉ X.fs ∧ ∀ v, p.2.data ≠ .cell v) : Inv X pins' σ H s :=
  ⟨I.ok, I.os, I.bare, I.base, I.loc, I.cell, I.free, I.freeC, fun p hp => (List.mem_append.mp hp).elim (fun z => I.pin p (List.mem_append_left _ z)) (h p), I.hok, I.len⟩

theorem nodup_ix {N : List Str} (hN : N.Nodup) {i j : Nat} {x : Str} (a : N[i]? = some x) (b : N[j]? = some x) : i = j := by
  obtain ⟨h1, e1⟩ := List.getElem?_eq_some_iff.mp a
  obtain ⟨h2, e2⟩ := List.getElem?_eq_some_iff.mp b
  exact (List.getElem_inj hN).mp (e1.trans e2.symm)

/-- a name is stored; what changed -/
theorem store_ok2 {M : Model} {A : Around} {E : Value → Shared → Prop} {i : Nat} {x : Str} {v : V} {u : Value} {Q : Unit → Shared → Prop} (I : Inv X pins σ H s) (hN : X.N.Nodup) (hi : X.N[i]? = some x) (hx : Loc X.env.scope x) (r : RelV v u)
    (h : ∀ s', Inv X pins (σ.set i (some v)) H s' → (∃ a, Heap.SameBut a s.heap s'.heap ∧ (a = X.env.locals ∨ X.env.cells.lookup x = some a)) → Q () s') (hf : X.fn x = true ∨ X.env.scope.names.lookup x = some .local := by first | exact .inl rfl | exact .inr rfl | assumption) : wpAny M A (storeName X.env x u) Q E s := by
  obtain ⟨m, hn, hl⟩ := id I.loc
  have hcls : (X.env.scope.kind == .class || (X.env.scope.kind == .module && X.env.locals != X.env.globals)) = false := by rw [I.ok.kind]; rfl
  have hiσ : i < σ.length := by rw [I.len]; exact (List.getElem?_eq_some_iff.mp hi).1
  have cne := I.cne
  have tracked : ∀ {a : Addr} {h' : Heap}, (∃ o, s.heap.get? a = some o ∧ H a = none) → Heap.SameBut a s.heap h' → HOk X.prog X.w H h' := fun {a h'} ha hs b ob e => by
    obtain ⟨_, _, hfree⟩ := ha
    refine (I.hok b ob e).stay (fun c w' hc q => (hs.2 c ?_).trans q) (fun _ q => q) fun _ _ q => q
    rintro rfl
    rcases hc with rfl | hc
    · rw [hfree] at e; cases e
    · rw [hfree] at hc; cases hc
  rcases hx with hk | hk
  · refine wpAny_storeName_local hk hn (fun h' hn' hs => ?_) hcls
    obtain ⟨oL, _, _, hoL, _⟩ := id hn
    refine h _ ⟨I.ok, I.os, I.bare, ⟨fun b o e n hb hx => ?_, fun b o e n hb hx => ?_, I.base.free, fun b o e hx => ?_, I.base.tups, I.base.frzs, I.base.tbls⟩, ⟨_, hn', fun j y v' e1 e2 e3 => ?_⟩, fun y c e => ?_, I.free, I.freeC, fun p hp => ?_, tracked ⟨oL, hoL, I.free⟩ hs, by simpa using I.len⟩ ⟨_, hs, .inl rfl⟩
    · exact (hs.2 b (Nat.ne_of_lt (Nat.lt_of_lt_of_le (Heap.lt_size e) I.ok.above))).trans (I.base.keep b o e n hb hx)
    · obtain ⟨sl, e1⟩ := I.base.slot b o e n hb hx
      exact ⟨sl, (hs.2 b (Nat.ne_of_lt (Nat.lt_of_lt_of_le (Heap.lt_size e) I.ok.above))).trans e1⟩
    · obtain ⟨o', e1⟩ := I.base.there b o e hx
      exact ⟨o', (hs.2 b (Nat.ne_of_lt (Nat.lt_of_lt_of_le (Heap.lt_size e) I.ok.above))).trans e1⟩
    · by_cases hj : j = i
      · subst hj
        rw [hi] at e1; cases e1
        rw [List.getElem?_set_self hiσ] at e2
        cases e2
        exact ⟨u, r, .inl ⟨hk, by simp⟩⟩
      · rw [List.getElem?_set_ne (Ne.symm hj)] at e2
        obtain ⟨u', r', q⟩ := hl j y v' e1 e2 e3
        refine ⟨u', r', ?_⟩
        rcases q with ⟨k, e⟩ | ⟨k, c, e, z⟩
        · refine .inl ⟨k, ?_⟩
          have : y ≠ x := fun e => hj (nodup_ix hN e1 (e ▸ hi))
          simp [this, e]
        · exact .inr ⟨k, c, e, z.sameBut hs (cne y c e)⟩
    · obtain ⟨w', z⟩ := I.cell y c e
      exact ⟨w', z.sameBut hs (cne y c e)⟩
    · obtain ⟨e, n, ne, nf, d⟩ := I.pin p hp
      exact ⟨(hs.2 p.1 ne).trans e, n, ne, nf, d⟩
  · have hfn : X.fn x = true := by
      rcases hf with z | z
      · exact z
      · rw [z] at hk; cases hk
    obtain ⟨c, hc⟩ := I.ok.has x (.inl hk)
    obtain ⟨w', z⟩ := I.cell x c hc
    refine wpAny_storeName_cell I.ok.kind hk hc z (fun h' hc' hs => ?_)
    obtain ⟨oc, hoc, hocd⟩ := id z
    refine h { s with heap := h' } ⟨I.ok, I.os, I.bare, ⟨fun b o e n hb hx => ?_, fun b o e n hb hx => ?_, I.base.free, fun b o e hx => ?_, I.base.tups, I.base.frzs, I.base.tbls⟩, ⟨m, hn.sameBut hs (Ne.symm (cne x c hc)), fun j y v' e1 e2 e3 => ?_⟩, fun y c' e => ?_, I.free, I.freeC, fun p hp => ?_, tracked ⟨oc, hoc, I.freeC x c hc⟩ hs, by simpa using I.len⟩ ⟨c, hs, .inr hc⟩
    · exact (hs.2 b (Nat.ne_of_lt (Nat.lt_of_lt_of_le (Heap.lt_size e) (I.ok.cab x c hfn hc)))).trans (I.base.keep b o e n hb hx)
    · obtain ⟨sl, e1⟩ := I.base.slot b o e n hb hx
      exact ⟨sl, (hs.2 b (Nat.ne_of_lt (Nat.lt_of_lt_of_le (Heap.lt_size e) (I.ok.cab x c hfn hc)))).trans e1⟩
    · obtain ⟨o', e1⟩ := I.base.there b o e hx
      exact ⟨o', (hs.2 b (Nat.ne_of_lt (Nat.lt_of_lt_of_le (Heap.lt_size e) (I.ok.cab x c hfn hc)))).trans e1⟩
    · by_cases hj : j = i
      · subst hj
        rw [hi] at e1; cases e1
        rw [List.getElem?_set_self hiσ] at e2
        cases e2
        exact ⟨u, r, .inr ⟨.inl hk, c, hc, hc'⟩⟩
      · rw [List.getElem?_set_ne (Ne.symm hj)] at e2
        obtain ⟨u', r', q⟩ := hl j y v' e1 e2 e3
        refine ⟨u', r', ?_⟩
        rcases q with q | ⟨k, c', e, z'⟩
        · exact .inl q
        · refine .inr ⟨k, c', e, z'.sameBut hs ?_⟩
          rintro rfl
          exact hj (nodup_ix hN e1 (I.ok.inj _ _ _ e hc ▸ hi))
    · by_cases hcc : c' = c
      · subst hcc; exact ⟨_, hc'⟩
      · obtain ⟨w2, z2⟩ := I.cell y c' e
        exact ⟨w2, z2.sameBut hs hcc⟩
    · obtain ⟨e, n, ne, nf, d⟩ := I.pin p hp
      refine ⟨(hs.2 p.1 ?_).trans e, n, ne, nf, d⟩
      intro q
      rw [q, hoc] at e
      have q' : oc = p.2 := Option.some.inj e
      exact d w' (by rw [← q']; exact hocd)
theorem store_ok {M : Model} {A : Around} {E : Value → Shared → Prop} {i : Nat} {x : Str} {v : V} {u : Value} {Q : Unit → Shared → Prop} (I : Inv X pins σ H s) (hN : X.N.Nodup) (hi : X.N[i]? = some x) (hx : Loc X.env.scope x) (r : RelV v u)
    (h : ∀ s', Inv X pins (σ.set i (some v)) H s' → Q () s') (hf : X.fn x = true ∨ X.env.scope.names.lookup x = some .local := by first | exact .inl rfl | exact .inr rfl | assumption) : wpAny M A (storeName X.env x u) Q E s :=
  store_ok2 I hN hi hx r (fun s' I' _ => h s' I') hf
/-- behind a call or a block, the state as it is -/
theorem Inv.call' {s' : Shared} {ch : List Addr} (I : Inv X pins σ H s) (ho : s'.os = s.os) (u : Un (frs X.stack) ch H H' s.heap s'.heap) (hok : HOk X.prog X.w H' s'.heap) (hg : AllBare s'.gens)
    (hch : ∀ b ∈ ch, (b ∈ X.ex ∨ X.s₀.heap.objs.size ≤ b) ∧ b ≠ X.env.locals ∧ (∀ x c, X.env.cells.lookup x = some c → c ≠ b) ∧ ∀ p ∈ X.pn ++ pins, p.1 ≠ b) : Inv X pins σ H' s' := by
  obtain ⟨h', g', d', t', o'⟩ := s'
  have e : o' = s.os := ho
  subst e
  exact I.call (g' := g') (t' := t') (d' := d') u hok hg hch
end

/-! ### the judgements -/
/-- an exception: its class, its own dict's address (where it has one), the abstract heap behind it -/
abbrev XK := Value → Option Addr → Hp → Prop
abbrev St := List (Option V)
abbrev VK := V → Hp → Prop
/-- an expression's reading; a test's; an argument list's -/
abbrev TE := St → Hp → VK → Prop
abbrev TT := St → Hp → (Bool → Hp → Prop) → Prop
abbrev TA := St → Hp → (List V → Hp → Prop) → Prop
/-- what is wanted behind a statement -/
structure Ends where
  nx : St → Hp → Prop
  rt : VK
  bk : St → Hp → Prop := fun _ _ => False
  ct : St → Hp → Prop := fun _ _ => False
abbrev TS := Ends → St → Hp → Prop

def EP (X : Cx) (pins : List (Addr × Obj)) (σ : St) (Q : VK) (u : Value) (s' : Shared) : Prop := ∃ v H', Inv X pins σ H' s' ∧ RelV v u ∧ Q v H'
def TP (X : Cx) (pins : List (Addr × Obj)) (σ : St) (Q : Bool → Hp → Prop) (b : Bool) (s' : Shared) : Prop := ∃ H', Inv X pins σ H' s' ∧ Q b H'
def AP (X : Cx) (pins : List (Addr × Obj)) (σ : St) (Q : List V → Hp → Prop) (us : List Value) (s' : Shared) : Prop := ∃ vs H', Inv X pins σ H' s' ∧ Vals vs us ∧ Q vs H'
def SP (X : Cx) (pins : List (Addr × Obj)) (D : Ends) (f : Flow) (s' : Shared) : Prop :=
  match f with
  | .next => ∃ σ' H', Inv X pins σ' H' s' ∧ D.nx σ' H'
  | .brk => ∃ σ' H', Inv X pins σ' H' s' ∧ D.bk σ' H'
  | .cont => ∃ σ' H', Inv X pins σ' H' s' ∧ D.ct σ' H'
  | .ret u => ∃ v σ' H', Inv X pins σ' H' s' ∧ RelV v u ∧ D.rt v H'

def PE (X : Cx) (e : Expr) (t : TE) : Prop :=
  ∀ (pins : List (Addr × Obj)) (s : Shared) (σ : St) (H : Hp) (Q : VK), Inv X pins σ H s → t σ H Q → wpAny (model X.prog X.w) X.A (eval e X.env) (EP X pins σ Q) X.xe s
def PT (X : Cx) (e : Expr) (t : TT) : Prop :=
  ∀ (pins : List (Addr × Obj)) (s : Shared) (σ : St) (H : Hp) (Q : Bool → Hp → Prop), Inv X pins σ H s → t σ H Q → wpAny (model X.prog X.w) X.A (isTrue e X.env (eval e X.env)) (TP X pins σ Q) X.xe s
/-- a test whatever its 'whole' is (and, or) -/
def PW (X : Cx) (e : Expr) (t : TT) : Prop :=
  ∀ (whole : Sem Value) (pins : List (Addr × Obj)) (s : Shared) (σ : St) (H : Hp) (Q : Bool → Hp → Prop), Inv X pins σ H s → t σ H Q → wpAny (model X.prog X.w) X.A (isTrue e X.env whole) (TP X pins σ Q) X.xe s
theorem PW.pt {X : Cx} {e : Expr} {t : TT} (h : PW X e t) : PT X e t := h _
/-- an argument list (no star), from the left -/
def PA (X : Cx) (es : List Expr) (t : TA) : Prop :=
  ∀ (pos : Pos) (pins : List (Addr × Obj)) (s : Shared) (σ : St) (H : Hp) (Q : List V → Hp → Prop), Inv X pins σ H s → t σ H Q → wpAny (model X.prog X.w) X.A (spliced (backTo pos (starEach es X.env))) (AP X pins σ Q) X.xe s
def PS (X : Cx) (st : Stmt) (t : TS) : Prop :=
  ∀ (pins : List (Addr × Obj)) (s : Shared) (σ : St) (H : Hp) (D : Ends), Inv X pins σ H s → t D σ H → wpAny (model X.prog X.w) X.A (exec st X.env) (SP X pins D) X.xe s
def PSs (X : Cx) (st : List Stmt) (t : TS) : Prop :=
  ∀ (pins : List (Addr × Obj)) (s : Shared) (σ : St) (H : Hp) (D : Ends), Inv X pins σ H s → t D σ H → wpAny (model X.prog X.w) X.A (execs st X.env) (SP X pins D) X.xe s
/-- weaken the end -/
theorem thn {α : Type} {t : Sem α} {Q Q' : α → Shared → Prop} {M : Model} {A : Around} {E : Value → Shared → Prop} {s : Shared} (h : wpAny M A t Q E s) (hQ : ∀ a s, Q a s → Q' a s) : wpAny M A t Q' E s := wpAny_mono h hQ fun _ _ x => x
end L2

namespace L2
open PySem PySem.Spec PyProof.Rows
section
variable {X : Cx}

/-! ### names and constants -/
def tVar (i : Nat) : TE := fun σ H Q => ∃ v, σ[i]? = some (some v) ∧ Q v H
def tC (v : V) : TE := fun _ H Q => Q v H
theorem pe_var {i : Nat} {x : Str} {pos : Pos} (hN : X.N[i]? = some x) (hv : Vis X.env.scope x) (hd : (x == ("__debug__" : Str)) = false := by decide) (hcd : (x == ("__classdict__" : Str)) = false := by decide) : PE X (.Name x pos) (tVar i) := by
  intro pins s σ H Q I h
  obtain ⟨v, e, h⟩ := h
  obtain ⟨m, hn, hl⟩ := I.loc
  obtain ⟨u, r, l⟩ := hl i x v hN e hv
  have fin : EP X pins σ Q u s := ⟨v, H, I, r, h⟩
  rcases l with ⟨hk, hm⟩ | ⟨hk, c, hc, hcell⟩
  · exact wpAny_Name (wpAny_loadName_local I.ok.kind hk hn hm fin) hd
  · rcases hk with hk | hk
    · exact wpAny_Name (wpAny_loadName_cell I.ok.kind hk hc hcell fin) hd
    · exact wpAny_Name (wpAny_loadName_free I.ok.kind hk hc hcell fin hcd) hd
theorem pe_int {i j pos} : PE X (.Constant (.int i) j pos) (tC (.int i)) := fun _ _ _ H _ I h => wpAny_Constant_int ⟨.int i, H, I.tok _, ⟨_, rfl⟩, h⟩
theorem pe_bl {b j pos} : PE X (.Constant (.bool b) j pos) (tC (.bl b)) := fun _ _ _ H _ I h => Constant_bool ⟨.bl b, H, I, rfl, h⟩
theorem pe_non {j pos} : PE X (.Constant .none j pos) (tC .non) := fun _ _ _ H _ I h => Constant_none ⟨.non, H, I, rfl, h⟩
theorem pe_str {x j pos} : PE X (.Constant (.str x) j pos) (tC (.str x)) := fun _ _ _ H _ I h => Calls.Constant_str ⟨.str x, H, I.tok _, ⟨_, rfl⟩, h⟩

/-- a global name of the def -/
def Gl (X : Cx) (x : Str) : Prop := X.env.kindOf x = some .globalImplicit
theorem ld_glob {E : Value → Shared → Prop} {pins : List (Addr × Obj)} {s : Shared} {σ : St} {H : Hp} {x : Str} {u : Value} {pos : Pos} {Q : Value → Shared → Prop} (I : Inv X pins σ H s) (hg : Gl X x) (hm : X.mg x = some u) (h : Q u s)
    (hd : (x == ("__debug__" : Str)) = false := by decide) : wpAny (model X.prog X.w) X.A (eval (.Name x pos) X.env) Q E s :=
  Calls.Name_function_global I.ok.kind hg (Calls.loadGlobal_global (by rw [I.ok.glob]; exact I.mod.glob.keeps I.bk) hm h) hd
theorem ld_blt {E : Value → Shared → Prop} {pins : List (Addr × Obj)} {s : Shared} {σ : St} {H : Hp} {x : Str} {u : Value} {pos : Pos} {Q : Value → Shared → Prop} (I : Inv X pins σ H s) (hg : Gl X x) (hm : X.mg x = none) (hv : bootBuiltins x = some u) (h : Q u s)
    (hn : x ≠ "__name__" := by decide) (hd : (x == ("__debug__" : Str)) = false := by decide) : wpAny (model X.prog X.w) X.A (eval (.Name x pos) X.env) Q E s := by
  obtain ⟨mb, h1, h2⟩ := I.mod.blt
  exact Calls.Name_function_global I.ok.kind hg (Calls.loadGlobal_builtin (by rw [I.ok.glob]; exact I.mod.glob.keeps I.bk) hm (by rw [I.ok.blt]; exact h1.keeps I.bk) ((h2 x hn).trans hv) h) hd
/-- a module's constant, a class, a function, as a value -/
theorem pe_glob {x : Str} {v : V} {u : Value} {pos : Pos} (hg : Gl X x) (hm : X.mg x = some u) (r : RelV v u) (hd : (x == ("__debug__" : Str)) = false := by decide) : PE X (.Name x pos) (tC v) :=
  fun _ _ _ H _ I h => ld_glob I hg hm ⟨v, H, I, r, h⟩ hd
theorem pe_bltn {x : Str} {v : V} {u : Value} {pos : Pos} (hg : Gl X x) (hm : X.mg x = none) (hv : bootBuiltins x = some u) (r : RelV v u) (hn : x ≠ "__name__" := by decide) (hd : (x == ("__debug__" : Str)) = false := by decide) : PE X (.Name x pos) (tC v) :=
  fun _ _ _ H _ I h => ld_blt I hg hm hv ⟨v, H, I, r, h⟩ hn hd

/-! ### arithmetic -/
variable {a b : Expr} {ta tb : TE} {pos : Pos}
/-! ### comparisons -/
/-! ### and, or, not -/
variable {tA tB' : TT} {rest : List Expr}
def tAnd (t u : TT) : TT := fun σ H Q => t σ H fun c H1 => if c = true then u σ H1 Q else Q false H1
def tOr (t u : TT) : TT := fun σ H Q => t σ H fun c H1 => if c = true then Q true H1 else u σ H1 Q
def tNot (t : TT) : TT := fun σ H Q => t σ H fun c H1 => Q (!c) H1
theorem pw_and1 (ha : PT X a tA) : PW X (.BoolOp .And [a] pos) tA := by
  intro wh pins s σ H Q I h
  refine isTrue_and (thn (ha pins s σ H Q I h) fun c s1 e => ?_)
  cases c with
  | true => exact isTrue_and_nil e
  | false => exact e
theorem pw_or1 (ha : PT X a tA) : PW X (.BoolOp .Or [a] pos) tA := by
  intro wh pins s σ H Q I h
  refine isTrue_or (thn (ha pins s σ H Q I h) fun c s1 e => ?_)
  cases c with
  | false => exact isTrue_or_nil e
  | true => exact e
theorem pw_and (ha : PT X a tA) (hb : PW X (.BoolOp .And (b :: rest) pos) tB') : PW X (.BoolOp .And (a :: b :: rest) pos) (tAnd tA tB') := by
  intro wh pins s σ H Q I h
  refine isTrue_and (thn (ha pins s σ H _ I h) fun c s1 ⟨H1, I1, q1⟩ => ?_)
  cases c with
  | true => exact hb wh pins s1 σ H1 Q I1 q1
  | false => exact ⟨H1, I1, q1⟩
theorem pw_or (ha : PT X a tA) (hb : PW X (.BoolOp .Or (b :: rest) pos) tB') : PW X (.BoolOp .Or (a :: b :: rest) pos) (tOr tA tB') := by
  intro wh pins s σ H Q I h
  refine isTrue_or (thn (ha pins s σ H _ I h) fun c s1 ⟨H1, I1, q1⟩ => ?_)
  cases c with
  | true => exact ⟨H1, I1, q1⟩
  | false => exact hb wh pins s1 σ H1 Q I1 q1
theorem pt_not (ha : PT X a tA) : PT X (.UnaryOp .Not a pos) (tNot tA) := by
  intro pins s σ H Q I h
  exact isTrue_not (ha pins s σ H (fun c H1 => Q (!c) H1) I h)
/-- .. as values (bools) -/
def tAndV (ta tb : TE) : TE := fun σ H Q => ta σ H fun x H1 => ∃ c, x = .bl c ∧ if c = true then tb σ H1 Q else Q (.bl false) H1
def tNotV (ta : TE) : TE := fun σ H Q => ta σ H fun x H1 => ∃ c, x = .bl c ∧ Q (.bl (!c)) H1
theorem pe_one {op} {t : TE} (h : PE X a t) : PE X (.BoolOp op [a] pos) t := fun pins s σ H Q I hw => BoolOp_one (h pins s σ H Q I hw)
theorem pe_and (ha : PE X a ta) (hb : PE X (.BoolOp .And (b :: rest) pos) tb) : PE X (.BoolOp .And (a :: b :: rest) pos) (tAndV ta tb) := by
  intro pins s σ H Q I h
  refine BoolOp_and (thn (ha pins s σ H _ I h) fun v s1 ⟨x, H1, I1, r1, q1⟩ => ?_)
  obtain ⟨c, rfl, q1⟩ := q1
  cases r1
  refine wpAny_truthy_bool ?_
  cases c with
  | true => exact hb pins s1 σ H1 Q I1 q1
  | false => exact ⟨.bl false, H1, I1, rfl, q1⟩
theorem pe_not (ha : PE X a ta) : PE X (.UnaryOp .Not a pos) (tNotV ta) := by
  intro pins s σ H Q I h
  refine UnaryOp_ (thn (ha pins s σ H _ I h) fun v s1 ⟨x, H1, I1, r1, q1⟩ => ?_)
  obtain ⟨c, rfl, q1⟩ := q1
  cases r1
  exact not_of (wpAny_truthy_bool ⟨.bl (!c), H1, I1, rfl, q1⟩)
end
end L2

namespace L2
open PySem PySem.Spec PyProof.Rows

/-! ### a list, a tuple that is read: tracked, frozen, or an object of the module -/
def SqL (K : PySem.W.Frag) (H : Hp) (a : Addr) (xs : List V) : Prop :=
  Rd H a (.lst xs) ∨
    ∃ (o : Obj) (its : Array Value) (n : Nat), K.lookup a = some o ∧ o.cls = .type "list" ∧ o.dict = none ∧ o.data = .seq its n ∧ its.size ≤ sizeLine ∧ Vals xs its.toList
def SqT (K : PySem.W.Frag) (H : Hp) (a : Addr) (xs : List V) : Prop :=
  Rd H a (.tup xs) ∨
    ∃ (o : Obj) (its : Array Value) (n : Nat), K.lookup a = some o ∧ o.cls = .type "tuple" ∧ o.data = .seq its n ∧ its.size ≤ sizeLine ∧ Vals xs its.toList
def absV : Value → Option V
  | .none => some .non
  | .bool b => some (.bl b)
  | .int i _ => some (.int i)
  | .str x _ => some (.str x)
  | .bytes b _ => some (.byt b)
  | .float b _ => some (.flt b)
  | .ref a => some (.ref a)
  | .type n => some (.ty n)
  | _ => none
theorem RelV.abs {x : V} {u : Value} (r : RelV x u) : absV u = some x := by
  cases x with
  | non => cases r; rfl
  | bl _ => cases r; rfl
  | int _ => obtain ⟨t, rfl⟩ := r; rfl
  | str _ => obtain ⟨t, rfl⟩ := r; rfl
  | byt _ => obtain ⟨t, rfl⟩ := r; rfl
  | flt _ => obtain ⟨t, rfl⟩ := r; rfl
  | ref _ => cases r; rfl
  | ty _ => cases r; rfl
theorem RelV.inj {x y : V} {u : Value} (r : RelV x u) (q : RelV y u) : x = y := Option.some.inj (r.abs.symm.trans q.abs)
theorem Vals.inj : ∀ {xs ys : List V} {us : List Value}, Vals xs us → Vals ys us → xs = ys
  | _, _, _, .nil, .nil => rfl
  | _, _, _, .cons r t, .cons r' t' => by rw [r.inj r', Vals.inj t t']
section
variable {X : Cx} {pins : List (Addr × Obj)} {σ : St} {H : Hp} {s : Shared} {a : Addr} {xs ys : List V}
theorem SqL.of {K : PySem.W.Frag} (h : H a = some (.lst xs)) : SqL K H a xs := .inl (.inl h)
theorem SqT.of {K : PySem.W.Frag} (h : H a = some (.tup xs)) : SqT K H a xs := .inl (.inl h)
theorem Inv.list (I : Inv X pins σ H s) (h : SqL X.K H a xs) : ∃ its : List Value, Vals xs its ∧ PlainL s.heap a its.toArray ∧ xs.length ≤ sizeLine := by
  rcases h with h | ⟨o, its, n, hk, hc, hd, hs, hz, r⟩
  · obtain ⟨z, its, n, r, e⟩ := h.ok I.hok
    exact ⟨its, r, ⟨_, n, e, rfl, rfl, rfl⟩, z⟩
  · refine ⟨its.toList, r, ⟨o, n, I.kIn a o hk, hc, hd, by simpa using hs⟩, ?_⟩
    have e := r.length
    simp only [Array.length_toList] at e
    omega
theorem Inv.tuple (I : Inv X pins σ H s) (h : SqT X.K H a xs) : ∃ its : List Value, Vals xs its ∧ IsTup s.heap a its.toArray ∧ xs.length ≤ sizeLine := by
  rcases h with h | ⟨o, its, n, hk, hc, hs, hz, r⟩
  · obtain ⟨z, its, r, p, _⟩ := h.ok I.hok
    exact ⟨its, r, p, z⟩
  · refine ⟨its.toList, r, ⟨o, I.kIn a o hk, hc, n, by simpa using hs⟩, ?_⟩
    have e := r.length
    simp only [Array.length_toList] at e
    omega
theorem Inv.list_inj (I : Inv X pins σ H s) (h : SqL X.K H a xs) (h' : SqL X.K H a ys) : xs = ys := by
  obtain ⟨its, r, ⟨o, n, e, _, _, d⟩, _⟩ := I.list h
  obtain ⟨its', r', ⟨o', n', e', _, _, d'⟩, _⟩ := I.list h'
  rw [e] at e'; cases e'
  rw [d] at d'
  injection d' with d1 _
  have : its = its' := by simpa using congrArg Array.toList d1
  subst this
  exact r.inj r'
theorem Inv.tuple_inj (I : Inv X pins σ H s) (h : SqT X.K H a xs) (h' : SqT X.K H a ys) : xs = ys := by
  obtain ⟨its, r, ⟨o, e, _, n, d⟩, _⟩ := I.tuple h
  obtain ⟨its', r', ⟨o', e', _, n', d'⟩, _⟩ := I.tuple h'
  rw [e] at e'; cases e'
  rw [d] at d'
  injection d' with d1 _
  have : its = its' := by simpa using congrArg Array.toList d1
  subst this
  exact r.inj r'
end

/-! ### another wish about exceptions -/
abbrev Cx.wish (X : Cx) (E : Value → Shared → Prop) : Cx := { X with xe := E }
/-- no exception leaves -/
abbrev Cx.nox (X : Cx) : Cx := X.wish fun _ _ => False
theorem Cx.Ok.wish {X : Cx} (ok : X.Ok) (E : Value → Shared → Prop) : (X.wish E).Ok :=
  ⟨ok.mod, ok.kind, ok.glob, ok.blt, ok.above, ok.inj, ok.has, ok.cab, ok.hd, ok.frames, ok.stk, ok.exf, ok.bs, ok.bsz, ok.noex, ok.exfs, ok.funs, ok.frf⟩
theorem Cx.Ok.unwish {X : Cx} {E : Value → Shared → Prop} (ok : (X.wish E).Ok) : X.Ok :=
  ⟨ok.mod, ok.kind, ok.glob, ok.blt, ok.above, ok.inj, ok.has, ok.cab, ok.hd, ok.frames, ok.stk, ok.exf, ok.bs, ok.bsz, ok.noex, ok.exfs, ok.funs, ok.frf⟩
section
variable {X : Cx} {pins : List (Addr × Obj)} {σ : St} {H : Hp} {s : Shared} {E : Value → Shared → Prop}
theorem Inv.wish (I : Inv X pins σ H s) (E : Value → Shared → Prop) : Inv (X.wish E) pins σ H s := ⟨I.ok.wish E, I.os, I.bare, I.base, I.loc, I.cell, I.free, I.freeC, I.pin, I.hok, I.len⟩
theorem Inv.unwish (I : Inv (X.wish E) pins σ H s) : Inv X pins σ H s := ⟨I.ok.unwish, I.os, I.bare, I.base, I.loc, I.cell, I.free, I.freeC, I.pin, I.hok, I.len⟩
theorem SP.unwish {D : Ends} {f : Flow} {s' : Shared} (h : SP (X.wish E) pins D f s') : SP X pins D f s' := by
  cases f with
  | next => obtain ⟨σ', H', I, q⟩ := h; exact ⟨σ', H', I.unwish, q⟩
  | brk => obtain ⟨σ', H', I, q⟩ := h; exact ⟨σ', H', I.unwish, q⟩
  | cont => obtain ⟨σ', H', I, q⟩ := h; exact ⟨σ', H', I.unwish, q⟩
  | ret u => obtain ⟨v, σ', H', I, r, q⟩ := h; exact ⟨v, σ', H', I.unwish, r, q⟩
theorem PSs.nox {st : List Stmt} {t : TS} (h : PSs X.nox st t) : PSs X st t := fun pins s σ H D I hw =>
  wpAny_mono (h pins s σ H D (I.wish _) hw) (fun _ _ q => q.unwish) fun _ _ z => False.elim z
end

/-! ### blocks and small statements -/
section
variable {X : Cx} {st : Stmt} {rest : List Stmt} {t u : TS} {e : Expr} {te : TE} {pos : Pos}
def tNext : TS := fun D σ H => D.nx σ H
def tSeq (t u : TS) : TS := fun D σ H => t { D with nx := u D } σ H
theorem pss_nil : PSs X [] tNext := fun _ _ σ H _ I h => wpAny_execs_nil ⟨σ, H, I, h⟩
theorem pss_cons (h1 : PS X st t) (h2 : PSs X rest u) : PSs X (st :: rest) (tSeq t u) := by
  intro pins s σ H D I h
  refine wpAny_execs_cons (thn (h1 pins s σ H { D with nx := u D } I h) fun f s1 q => ?_)
  cases f with
  | next =>
    obtain ⟨σ', H', I', q⟩ := q
    exact h2 pins s1 σ' H' D I' q
  | ret v => exact q
  | brk => exact q
  | cont => exact q
theorem pss_one (h1 : PS X st t) : PSs X [st] t := by
  intro pins s σ H D I h
  refine wpAny_execs_cons (thn (h1 pins s σ H D I h) fun f s1 q => ?_)
  cases f with
  | next => exact wpAny_execs_nil q
  | ret v => exact q
  | brk => exact q
  | cont => exact q
/-- in a def's body nothing is shown -/
theorem Inv.quiet {pins : List (Addr × Obj)} {σ : St} {H : Hp} {s : Shared} (I : Inv X pins σ H s) : interactive X.env = false := by simp [interactive, I.ok.kind]
/-- an expression whose value is dropped -/
def tDrop (te : TE) : TS := fun D σ H => te σ H fun _ H1 => D.nx σ H1
theorem ps_expr (he : PE X e te) (hs : swapsWith e none pos.line X.env = pure false := by rfl) : PS X (.Expr e pos) (tDrop te) := by
  intro pins s σ H D I h
  exact wpAny_Expr_any (thn (he pins s σ H _ I h) fun v s1 ⟨x, H1, I1, r1, q1⟩ => ⟨σ, H1, I1, q1⟩) I.quiet hs
def tRet (te : TE) : TS := fun D σ H => te σ H D.rt
theorem ps_ret (he : PE X e te) : PS X (.Return (some e) pos) (tRet te) := by
  intro pins s σ H D I h
  exact wpAny_Return_some (thn (he pins s σ H _ I h) fun v s1 ⟨x, H1, I1, r1, q1⟩ => ⟨x, σ, H1, I1, r1, q1⟩)
def tIfS (c : TT) (t u : TS) : TS := fun D σ H => c σ H fun b H1 => if b = true then t D σ H1 else u D σ H1
theorem ps_if {c : Expr} {a b : List Stmt} {tc : TT} (hc : PT X c tc) (ha : PSs X a t) (hb : PSs X b u) : PS X (.If c a b pos) (tIfS tc t u) := by
  intro pins s σ H D I h
  refine wpAny_If (thn (hc pins s σ H _ I h) fun d s1 ⟨H1, I1, q1⟩ => ?_)
  cases d with
  | true => exact ha pins s1 σ H1 D I1 q1
  | false => exact hb pins s1 σ H1 D I1 q1
end

/-! ### targets -/
abbrev TG := V → St → Hp → (St → Hp → Prop) → Prop
abbrev TGs := List V → St → Hp → (St → Hp → Prop) → Prop
def PG (X : Cx) (target : Expr) (t : TG) : Prop :=
  ∀ (pins : List (Addr × Obj)) (s : Shared) (σ : St) (H : Hp) (v : V) (u : Value) (Q : St → Hp → Prop), Inv X pins σ H s → RelV v u → t v σ H Q →
    wpAny (model X.prog X.w) X.A (assign target X.env u) (fun _ s' => ∃ σ' H', Inv X pins σ' H' s' ∧ Q σ' H') X.xe s
/-- several targets, one after another -/
def PGs (X : Cx) (ts : List Expr) (t : TGs) : Prop :=
  ∀ (pins : List (Addr × Obj)) (s : Shared) (σ : St) (H : Hp) (vs : List V) (us : List Value) (Q : St → Hp → Prop), Inv X pins σ H s → Vals vs us → t vs σ H Q →
    wpAny (model X.prog X.w) X.A (assignInOrder ((assignEach ts X.env).map (·.2)) us) (fun _ s' => ∃ σ' H', Inv X pins σ' H' s' ∧ Q σ' H') X.xe s
/-- o[i] = v, by values -/
abbrev TSet := V → V → V → Hp → (Hp → Prop) → Prop
def PSet (X : Cx) (t : TSet) : Prop :=
  ∀ (pins : List (Addr × Obj)) (s : Shared) (σ : St) (H : Hp) (o i v : V) (ov iv u : Value) (Q : Hp → Prop), Inv X pins σ H s → RelV o ov → RelV i iv → RelV v u → t o i v H Q →
    wpAny (model X.prog X.w) X.A (setItem ov iv u) (fun _ s' => ∃ H', Inv X pins σ H' s' ∧ Q H') X.xe s
/-- a op= b, by values -/
abbrev TIp := V → V → Hp → VK → Prop
def PIp (X : Cx) (op : Operator) (t : TIp) : Prop :=
  ∀ (pins : List (Addr × Obj)) (s : Shared) (σ : St) (H : Hp) (x y : V) (v u : Value) (Q : VK), Inv X pins σ H s → RelV x v → RelV y u → t x y H Q →
    wpAny (model X.prog X.w) X.A (inplaceOp op v u) (EP X pins σ Q) X.xe s
section
variable {X : Cx} {pos : Pos}
def gName (i : Nat) : TG := fun v σ H Q => Q (σ.set i (some v)) H
theorem pg_name {i : Nat} {x : Str} (hN : X.N.Nodup) (hi : X.N[i]? = some x) (hx : Loc X.env.scope x) (hf : X.fn x = true ∨ X.env.scope.names.lookup x = some .local := by first | exact .inl rfl | exact .inr rfl | assumption) : PG X (.Name x pos) (gName i) := by
  intro pins s σ H v u Q I r h
  exact wpAny_assign_Name (store_ok I hN hi hx r (fun s' I' => ⟨_, H, I', h⟩) hf)
def gNil : TGs := fun vs σ H Q => vs = [] ∧ Q σ H
def gCons (t : TG) (u : TGs) : TGs := fun vs σ H Q => ∃ v r, vs = v :: r ∧ t v σ H fun σ' H' => u r σ' H' Q
theorem pgs_nil : PGs X [] gNil := by
  intro pins s σ H vs us Q I r h
  obtain ⟨e, h⟩ := h
  subst e
  cases r
  exact assignInOrder_nil ⟨σ, H, I, h⟩
theorem pgs_cons {e : Expr} {es : List Expr} {t : TG} {u : TGs} (h1 : PG X e t) (h2 : PGs X es u)
    (hs : (assignEach (e :: es) X.env).map (·.2) = assign e X.env :: (assignEach es X.env).map (·.2) := by rfl) : PGs X (e :: es) (gCons t u) := by
  intro pins s σ H vs us Q I r h
  obtain ⟨v, vr, e1, h⟩ := h
  subst e1
  cases r with
  | cons r rr =>
    rw [hs]
    refine assignInOrder_cons (thn (h1 pins s σ H _ _ _ I r h) fun _ s1 ⟨σ1, H1, I1, q1⟩ => ?_)
    exact h2 pins s1 σ1 H1 _ _ Q I1 rr q1
/-- (a, b, ..) = a tuple of that length -/
def gTup (K : PySem.W.Frag) (n : Nat) (t : TGs) : TG := fun v σ H Q => ∃ a xs, v = .ref a ∧ SqT K H a xs ∧ xs.length = n ∧ t xs σ H Q
theorem pg_tup {es : List Expr} {k : Nat} {t : TGs} {n : Nat} (hc : X.calm = true) (h : PGs X es t)
    (hn : (assignEach es X.env).length = n := by rfl) (hst : (assignEach es X.env).findIdx? (·.1) = none := by rfl) : PG X (.Tuple es k pos) (gTup X.K n t) := by
  intro pins s σ H v u Q I r hw
  obtain ⟨a, xs, e1, hq, hl, hw⟩ := hw
  subst e1
  cases r
  obtain ⟨its, rv, ht, hz⟩ := I.tuple hq
  refine assign_Tuple_tuple (I.ok.hd hc) ht (by simp [hn, ← hl, rv.length]) hst fun h' hx => ?_
  have I1 : Inv X pins σ H { s with heap := h' } := I.kept (t' := s.toks) fun b o e => hx b o (Nat.ne_of_lt (Heap.lt_size e)) e
  exact h pins _ σ H xs _ Q I1 (by simpa using rv) hw
/-- o[i] = .. -/
def gSub (to ti : TE) (t : TSet) : TG := fun v σ H Q => to σ H fun o H1 => ti σ H1 fun i H2 => t o i v H2 fun H3 => Q σ H3
theorem pg_sub {o i : Expr} {to ti : TE} {t : TSet} (ho : PE X o to) (hi : PE X i ti) (hs : PSet X t)
    (ha : ∀ v, assign (.Subscript o i pos) X.env v = (do
      let ov ← holding [v] (eval o X.env)
      let iv ← holding [v, ov] (eval i X.env)
      standAt pos
      holding [v, ov, iv] (setItem ov iv v)
      release [v, ov, iv] []) := by intro _; rfl) : PG X (.Subscript o i pos) (gSub to ti t) := by
  intro pins s σ H v u Q I r h
  rw [ha]
  refine wpAny_bind (wpAny_holding (thn (ho pins s σ H _ I h) fun ov s1 ⟨x, H1, I1, r1, q1⟩ => ?_))
  refine wpAny_bind (wpAny_holding (thn (hi pins s1 σ H1 _ I1 q1) fun iv s2 ⟨y, H2, I2, r2, q2⟩ => ?_))
  refine wpAny_bind (wpAny_standAt (wpAny_bind (wpAny_holding (thn (hs pins s2 σ H2 x y v ov iv u _ I2 r1 r2 r q2) fun _ s3 ⟨H3, I3, q3⟩ => ?_))))
  exact wpAny_release ⟨σ, H3, I3, q3⟩
/-- target = value -/
def tAsg (te : TE) (g : TG) : TS := fun D σ H => te σ H fun x H1 => g x σ H1 D.nx
theorem ps_asg {tg e : Expr} {te : TE} {g : TG} (he : PE X e te) (hg : PG X tg g) (hs : swapsWithSole [tg] e pos.line X.env = pure false := by rfl) (hw : swappedStores [tg] e X.env = pure none := by rfl)
    (h1 : (assignEach [tg] X.env).map (·.2) = [assign tg X.env] := by rfl) : PS X (.Assign [tg] e pos) (tAsg te g) := by
  intro pins s σ H D I h
  refine wpAny_Assign_stores (thn (he pins s σ H _ I h) fun v s1 ⟨x, H1, I1, r1, q1⟩ => ?_) hs hw
  rw [h1]
  exact thn (hg pins s1 σ H1 x v _ I1 r1 q1) fun _ s2 q => q
/-- name = value -/
theorem ps_set {i : Nat} {x : Str} {e : Expr} {te : TE} {pos' : Pos} (hN : X.N.Nodup) (hi : X.N[i]? = some x) (hx : Loc X.env.scope x) (he : PE X e te) (hs : swapsWith e (some (.Name x pos')) pos.line X.env = pure false := by rfl) (hf : X.fn x = true ∨ X.env.scope.names.lookup x = some .local := by first | exact .inl rfl | exact .inr rfl | assumption) :
    PS X (.Assign [.Name x pos'] e pos) (tAsg te (gName i)) := by
  intro pins s σ H D I h
  refine wpAny_Assign_Name (thn (he pins s σ H _ I h) fun v s1 ⟨y, H1, I1, r1, q1⟩ => ?_) hs
  exact store_ok I1 hN hi hx r1 (fun s2 I2 => ⟨_, H1, I2, q1⟩) hf
/-- o[i] op= e -/
def tAugS (to ti te : TE) (tget : V → V → Hp → VK → Prop) (tip : TIp) (tset : TSet) : TS := fun D σ H => to σ H fun o H1 => ti σ H1 fun i H2 => tget o i H2 fun x H3 => te σ H3 fun y H4 => tip x y H4 fun z H5 => tset o i z H5 fun H6 => D.nx σ H6
/-- o[i], by values -/
def PGet (X : Cx) (t : V → V → Hp → VK → Prop) : Prop :=
  ∀ (pins : List (Addr × Obj)) (s : Shared) (σ : St) (H : Hp) (o i : V) (ov iv : Value) (Q : VK), Inv X pins σ H s → RelV o ov → RelV i iv → t o i H Q →
    wpAny (model X.prog X.w) X.A (getItem ov iv) (EP X pins σ Q) X.xe s
theorem ps_augS {o i e : Expr} {to ti te : TE} {tget : V → V → Hp → VK → Prop} {tip : TIp} {tset : TSet} {op : Operator} {tpos : Pos} (ho : PE X o to) (hi : PE X i ti) (hg : PGet X tget) (he : PE X e te) (hp : PIp X op tip) (hs : PSet X tset)
    (ha : ∀ ov iv new, augStore i ov iv new = (do holding [new, ov, iv] (setItem ov iv new); release [new, ov, iv] []; pure .next) := by intros; rfl) : PS X (.AugAssign (.Subscript o i tpos) op e pos) (tAugS to ti te tget tip tset) := by
  intro pins s σ H D I h
  refine wpAny_AugAssign_SubscriptAny (thn (ho pins s σ H _ I h) fun ov s1 ⟨x1, H1, I1, r1, q1⟩ => ?_) ha
  refine thn (hi pins s1 σ H1 _ I1 q1) fun iv s2 ⟨x2, H2, I2, r2, q2⟩ => ?_
  refine thn (hg pins s2 σ H2 x1 x2 ov iv _ I2 r1 r2 q2) fun old s3 ⟨x3, H3, I3, r3, q3⟩ => ?_
  refine thn (he pins s3 σ H3 _ I3 q3) fun v s4 ⟨x4, H4, I4, r4, q4⟩ => ?_
  refine thn (hp pins s4 σ H4 x3 x4 old v _ I4 r3 r4 q4) fun new s5 ⟨x5, H5, I5, r5, q5⟩ => ?_
  exact thn (hs pins s5 σ H5 x1 x2 x5 ov iv new _ I5 r1 r2 r5 q5) fun _ s6 ⟨H6, I6, q6⟩ => ⟨σ, H6, I6, q6⟩
/-- ints -/
def ipI (f : Int → Int → Int) : TIp := fun x y H Q => ∃ i j, x = .int i ∧ y = .int j ∧ Q (.int (f i j)) H
theorem ip_add : PIp X .Add (ipI fun i j => i + j) := by
  intro pins s σ H x y v u Q I r1 r2 h
  obtain ⟨i, j, e1, e2, q⟩ := h
  subst e1; subst e2
  obtain ⟨t, rfl⟩ := r1
  obtain ⟨t', rfl⟩ := r2
  exact iadd_int ⟨.int _, H, I.tok _, ⟨_, rfl⟩, q⟩
end

/-! ### while -/
section
variable {X : Cx} {pos : Pos}
/-- the invariant W with its measure -/
def tWhile (c : TT) (tb : TS) : TS := fun D σ H => ∃ W : Nat → St → Hp → Prop, (∃ m, W m σ H) ∧ ∀ m σ H, W m σ H →
  c σ H fun b H1 => if b = true then ∃ N : St → Hp → Prop, (∀ σ' H', N σ' H' → ∃ m', m' < m ∧ W m' σ' H') ∧ tb { D with nx := N, ct := N, bk := D.nx } σ H1 else D.nx σ H1
theorem ps_while {c : Expr} {body : List Stmt} {tc : TT} {tb : TS} (hp : PassesOwn (model X.prog X.w) X.A X.env X.xe) (hc : PT X c tc) (hb : PSs X body tb) : PS X (.While c body [] pos) (tWhile tc tb) := by
  intro pins s σ H D I h
  obtain ⟨W, ⟨m0, w0⟩, turn⟩ := h
  refine wpAny_While (codeAny_whileLoop (fun n s' => ∃ σ' H', Inv X pins σ' H' s' ∧ W n σ' H') ?_ m0 ⟨σ, H, I, w0⟩)
  rintro n s1 ⟨σ1, H1, I1, w1⟩
  refine wpAny_passesOwn hp (thn (hc pins s1 σ1 H1 _ I1 (turn n σ1 H1 w1)) fun b s2 ⟨H2, I2, q2⟩ => ?_)
  cases b with
  | true =>
    obtain ⟨N, hN, q2⟩ := q2
    rw [if_pos rfl]
    refine wpAny_passesOwn hp (thn (hb pins s2 σ1 H2 _ I2 q2) fun f s3 q3 => ?_)
    cases f with
    | next =>
      obtain ⟨σ3, H3, I3, n3⟩ := q3
      obtain ⟨m', hm, w3⟩ := hN σ3 H3 n3
      exact ⟨m', hm, σ3, H3, I3, w3⟩
    | cont =>
      obtain ⟨σ3, H3, I3, n3⟩ := q3
      obtain ⟨m', hm, w3⟩ := hN σ3 H3 n3
      exact ⟨m', hm, σ3, H3, I3, w3⟩
    | brk => exact q3
    | ret v => exact q3
  | false =>
    rw [if_neg Bool.false_ne_true]
    exact wpAny_execs_nil ⟨σ1, H2, I2, q2⟩
end

/-! ### what a loop or a comprehension walks -/
/-- at turn i: it yields x (the heap may grow), or it stops -/
structure It where
  go : Nat → Hp → Prop
  yld : Nat → Hp → V → Hp → Prop
  stop : Nat → Hp → Prop
/-- the iterator's own objects may turn: they are not the frame's, not pinned, younger than the entry (or a comprehension's own) -/
def FpOk (X : Cx) (pins : List (Addr × Obj)) (H : Hp) (b : Addr) : Prop :=
  H b = none ∧ b ≠ X.env.locals ∧ b ∉ X.fs ∧ (b ∈ X.ex ∨ X.s₀.heap.objs.size ≤ b) ∧ (∀ x c, X.env.cells.lookup x = some c → c ≠ b) ∧ ∀ p ∈ X.pn ++ pins, p.1 ≠ b
theorem Inv.fpOk {X : Cx} {pins : List (Addr × Obj)} {σ : St} {H H' : Hp} {s : Shared} {b : Addr} (I : Inv X pins σ H s) (hb : s.heap.objs.size ≤ b) (hn : H' b = none) : FpOk X pins H' b := by
  refine ⟨hn, Nat.ne_of_gt (Nat.lt_of_lt_of_le I.lt hb), I.nofs hb, .inr (Nat.le_trans I.sz hb), fun x c e z => ?_, fun p hp z => ?_⟩
  · obtain ⟨v, q⟩ := I.cell x c e
    exact absurd (Nat.lt_of_lt_of_le q.lt (by rw [z]; exact hb)) (Nat.lt_irrefl _)
  · exact absurd (Nat.lt_of_lt_of_le (Heap.lt_size (I.pin p hp).1) (by rw [z]; exact hb)) (Nat.lt_irrefl _)
structure Turn (P : Program) (w : World) (K : PySem.W.Frag) (tg : Expr) (J : It) (fp : List Addr) (it : Addr) (tn : Nat → Heap → Prop) : Prop where
  mem : it ∈ fp
  obj : ∀ i h, tn i h → ∀ b ∈ fp, ∃ o, h.get? b = some o ∧ ∀ v, o.data ≠ .cell v
  keep : ∀ i h h', tn i h → (∀ b ∈ fp, ∀ o, h.get? b = some o → h'.get? b = some o) → tn i h'
  item : ∀ (X : Cx), X.prog = P → X.w = w → X.K = K → X.calm = true → ∀ (i : Nat) (pins : List (Addr × Obj)) (s : Shared) (σ : St) (H : Hp) (E : Value → Shared → Prop), Inv X pins σ H s → (∀ b ∈ fp, FpOk X pins H b) → tn i s.heap → J.go i H →
    wpAny (model P w) X.A (pyNext (.ref it)) (fun r s1 => ∃ u, r = some u ∧
      wpAny (model P w) X.A (letOwnedTupleGo tg (.ref it) u) (fun _ s2 => ∃ x H', Inv X pins σ H' s2 ∧ RelV x u ∧ J.yld i H x H' ∧ tn (i + 1) s2.heap ∧ ∀ b ∈ fp, H' b = none) E s1) E s
  done : ∀ (X : Cx), X.prog = P → X.w = w → X.K = K → X.calm = true → ∀ (i : Nat) (pins : List (Addr × Obj)) (s : Shared) (σ : St) (H : Hp) (E : Value → Shared → Prop), Inv X pins σ H s → (∀ b ∈ fp, FpOk X pins H b) → tn i s.heap → J.stop i H →
    wpAny (model P w) X.A (pyNext (.ref it)) (fun r s1 => r = none ∧ Inv X pins σ H s1) E s
  self : ∀ (A : Around) (i : Nat) (s : Shared) (Q : Value → Shared → Prop) (E : Value → Shared → Prop), tn i s.heap → Q (.ref it) s → wpAny (model P w) A (pyIter (.ref it)) Q E s
abbrev TI := St → Hp → (It → Hp → Prop) → Prop
/-- an iterator has come -/
def PIE (X : Cx) (pins : List (Addr × Obj)) (σ : St) (tg : Expr) (R : It → Hp → Prop) (itv : Value) (s2 : Shared) : Prop :=
  ∃ (it : Addr) (fp : List Addr) (tn : Nat → Heap → Prop) (J : It) (H' : Hp), itv = .ref it ∧ Inv X pins σ H' s2 ∧ Turn X.prog X.w X.K tg J fp it tn ∧ tn 0 s2.heap ∧ (∀ b ∈ fp, FpOk X pins H' b) ∧ R J H'
def PI (X : Cx) (tg iter : Expr) (wi : TI) : Prop :=
  ∀ (pins : List (Addr × Obj)) (s : Shared) (σ : St) (H : Hp) (R : It → Hp → Prop), Inv X pins σ H s → wi σ H R →
    wpAny (model X.prog X.w) X.A (eval iter X.env) (fun v s1 => wpAny (model X.prog X.w) X.A (pyIter v) (PIE X pins σ tg R) X.xe s1) X.xe s

/-- the step ahead of the store is nothing for an iterator that keeps no tuple -/
theorem go_of {M : Model} {A : Around} {E : Value → Shared → Prop} {s : Shared} {tg : Expr} {it : Addr} {u : Value} {o : Obj} {n : String} {vs : Array Value} {Q : Unit → Shared → Prop} (ho : s.heap.get? it = some o) (hc : o.cls = .type n) (hd : o.data = .fields vs)
    (hn : ["enumerate", "zip", "dict_itemiterator", "dict_reverseitemiterator", "odict_iterator", "itertools.zip_longest", "itertools.pairwise"].contains n = false) (hQ : Q () s) : wpAny M A (letOwnedTupleGo tg (.ref it) u) Q E s := by
  unfold letOwnedTupleGo
  cases tg <;> first
    | exact wpAny_pure hQ
    | (cases u <;> first
        | exact wpAny_pure hQ
        | (refine wpAny_bind (wpAny_load ho ?_)
           rw [hc, hd]
           show wpAny M A (if (["enumerate", "zip", "dict_itemiterator", "dict_reverseitemiterator", "odict_iterator", "itertools.zip_longest", "itertools.pairwise"].contains n && vs[0]? == some (rawInt _)) = true then _ else _) Q E s
           rw [if_neg (by intro h; rw [hn, Bool.false_and] at h; cases h)]
           exact wpAny_pure hQ))

/-- the list at a, as it stands at each turn (a loop may append to it) -/
def Itl (K : PySem.W.Frag) (a : Addr) : It :=
  ⟨fun i H => ∃ xs x, SqL K H a xs ∧ xs[i]? = some x, fun i H x H' => H' = H ∧ ∀ xs, SqL K H a xs → xs[i]? = some x, fun i H => ∃ xs, SqL K H a xs ∧ xs.length ≤ i⟩
def Itt (K : PySem.W.Frag) (a : Addr) : It :=
  ⟨fun i H => ∃ xs x, SqT K H a xs ∧ xs[i]? = some x, fun i H x H' => H' = H ∧ ∀ xs, SqT K H a xs → xs[i]? = some x, fun i H => ∃ xs, SqT K H a xs ∧ xs.length ≤ i⟩
/-- lo, lo + 1, .. (n of them) -/
def Itr (lo : Int) (n : Nat) : It := ⟨fun i _ => i < n, fun i H x H' => H' = H ∧ x = .int (lo + i), fun i _ => n ≤ i⟩
theorem turn_list {P : Program} {w : World} {K : PySem.W.Frag} {tg : Expr} (a it : Addr) : Turn P w K tg (Itl K a) [it] it (fun i h => h.IsListIter it a i) where
  mem := by simp
  obj := fun i h st b hb => by
    have e : b = it := by simpa using hb
    subst e
    obtain ⟨o, e, c, d⟩ := st
    exact ⟨o, e, fun v z => by rw [d] at z; cases z⟩
  keep := fun i h h' st k => st.at fun o e => k it (by simp) o e
  item := by
    intro X hP hw hK hc i pins s σ H E I hf st hg
    subst hP hw hK
    obtain ⟨xs, x, hq, hx⟩ := hg
    obtain ⟨its, rv, p, hz⟩ := I.list hq
    obtain ⟨u, hu, ru⟩ := rv.get hx
    obtain ⟨f0, f1, f2, f3, f4, f5⟩ := hf it (by simp)
    refine wpAny_pyNext_list_item st p.isList (x := u) (by simpa using hu) fun h' st' sb => ?_
    have I1 : Inv X pins σ H { s with heap := h' } := I.turned (t' := s.toks) (fun b o hb e => (sb.2 b hb).trans e) f0 f1 f3 f4 f5
    obtain ⟨o, e, c, d⟩ := id st'
    exact ⟨u, rfl, go_of (s := { s with heap := h' }) e c d (by decide) ⟨x, H, I1, ru, ⟨rfl, fun ys hy => by rw [I.list_inj hy hq]; exact hx⟩, st', fun b hb => (hf b hb).1⟩⟩
  done := by
    intro X hP hw hK hc i pins s σ H E I hf st hg
    subst hP hw hK
    obtain ⟨xs, hq, hx⟩ := hg
    obtain ⟨its, rv, p, hz⟩ := I.list hq
    obtain ⟨f0, f1, f2, f3, f4, f5⟩ := hf it (by simp)
    have hl := rv.length
    exact wpAny_pyNext_list_end (I.ok.hd hc) st p.isList (by simp; omega) fun h' eb => ⟨rfl, I.turned (t' := s.toks) (fun b o hb e => eb b o hb e) f0 f1 f3 f4 f5⟩
  self := fun _ _ _ _ _ st h => wpAny_pyIter_listiter st h
theorem turn_tuple {P : Program} {w : World} {K : PySem.W.Frag} {tg : Expr} (a it : Addr) : Turn P w K tg (Itt K a) [it] it (fun i h => h.IsTupleIter it a i) where
  mem := by simp
  obj := fun i h st b hb => by
    have e : b = it := by simpa using hb
    subst e
    obtain ⟨o, e, c, d⟩ := st
    exact ⟨o, e, fun v z => by rw [d] at z; cases z⟩
  keep := fun i h h' st k => st.at fun o e => k it (by simp) o e
  item := by
    intro X hP hw hK hc i pins s σ H E I hf st hg
    subst hP hw hK
    obtain ⟨xs, x, hq, hx⟩ := hg
    obtain ⟨its, rv, p, hz⟩ := I.tuple hq
    obtain ⟨u, hu, ru⟩ := rv.get hx
    obtain ⟨f0, f1, f2, f3, f4, f5⟩ := hf it (by simp)
    refine wpAny_pyNext_tuple_item st (show s.heap.IsTuple a its.toArray from p) (x := u) (by simpa using hu) fun h' st' sb => ?_
    have I1 : Inv X pins σ H { s with heap := h' } := I.turned (t' := s.toks) (fun b o hb e => (sb.2 b hb).trans e) f0 f1 f3 f4 f5
    obtain ⟨o, e, c, d⟩ := id st'
    exact ⟨u, rfl, go_of (s := { s with heap := h' }) e c d (by decide) ⟨x, H, I1, ru, ⟨rfl, fun ys hy => by rw [I.tuple_inj hy hq]; exact hx⟩, st', fun b hb => (hf b hb).1⟩⟩
  done := by
    intro X hP hw hK hc i pins s σ H E I hf st hg
    subst hP hw hK
    obtain ⟨xs, hq, hx⟩ := hg
    obtain ⟨its, rv, p, hz⟩ := I.tuple hq
    obtain ⟨f0, f1, f2, f3, f4, f5⟩ := hf it (by simp)
    have hl := rv.length
    exact wpAny_pyNext_tuple_end (I.ok.hd hc) st (show s.heap.IsTuple a its.toArray from p) (by simp; omega) fun h' eb => ⟨rfl, I.turned (t' := s.toks) (fun b o hb e => eb b o hb e) f0 f1 f3 f4 f5⟩
  self := fun _ _ _ _ _ st h => wpAny_pyIter_tupleiter st h
theorem turn_range {P : Program} {w : World} {K : PySem.W.Frag} {tg : Expr} (it : Addr) (lo : Int) (n : Nat) : Turn P w K tg (Itr lo n) [it] it (fun i h => IsRangeIter h it (lo + (i : Nat) * 1) ((n : Int) - (i : Nat)) 1) where
  mem := by simp
  obj := fun i h st b hb => by
    have e : b = it := by simpa using hb
    subst e
    exact ⟨_, st, fun v z => by
      have z' : Data.fields _ = Data.cell v := z
      cases z'⟩
  keep := fun i h h' st k => k it (by simp) _ st
  item := by
    intro X hP hw hK hc i pins s σ H E I hf st hg
    subst hP hw hK
    obtain ⟨f0, f1, f2, f3, f4, f5⟩ := hf it (by simp)
    have W := Walks.range (prog := X.prog) (w := X.w) (I.ok.hd hc) it lo 1 n
    refine W.item i s _ _ hg st fun v h' tk hv st' kk => ?_
    obtain ⟨t, rfl⟩ := hv
    have I1 : Inv X pins σ H { s with heap := h', toks := tk } := I.turned (fun b o hb e => kk b o (by simpa using hb) e) f0 f1 f3 f4 f5
    refine ⟨_, rfl, go_of (s := { s with heap := h', toks := tk }) (n := "range_iterator") st' rfl rfl (by decide) ⟨.int (lo + i), H, I1, ⟨t, ?_⟩, ⟨rfl, rfl⟩, st', fun b hb => (hf b hb).1⟩⟩
    rw [Int.mul_one]
  done := by
    intro X hP hw hK hc i pins s σ H E I hf st hg
    subst hP hw hK
    obtain ⟨f0, f1, f2, f3, f4, f5⟩ := hf it (by simp)
    exact wpAny_pyNext_range_end (I.ok.hd hc) st (by have : n ≤ i := hg; omega) fun h' eb => ⟨rfl, I.turned (t' := s.toks) (fun b o hb e => eb b o hb e) f0 f1 f3 f4 f5⟩
  self := fun _ _ _ _ _ st h => wpAny_pyIter_rangeiter st h
end L2

namespace L2
open PySem PySem.Spec PyProof.Rows
section
variable {X : Cx} {tg : Expr}
def iList (K : PySem.W.Frag) (tl : TE) : TI := fun σ H R => tl σ H fun x H1 => ∃ a, x = .ref a ∧ (∃ xs, SqL K H1 a xs) ∧ R (Itl K a) H1
def iTup (K : PySem.W.Frag) (tl : TE) : TI := fun σ H R => tl σ H fun x H1 => ∃ a, x = .ref a ∧ (∃ xs, SqT K H1 a xs) ∧ R (Itt K a) H1
theorem pi_list {l : Expr} {tl : TE} (hl : PE X l tl) : PI X tg l (iList X.K tl) := by
  intro pins s σ H R I h
  refine thn (hl pins s σ H _ I h) fun v s1 ⟨x, H1, I1, r1, q1⟩ => ?_
  obtain ⟨a, e, ⟨xs, hq⟩, q⟩ := q1
  subst e
  cases r1
  obtain ⟨its, rv, p, hz⟩ := I1.list hq
  refine wpAny_pyIter_list p.isList ?_
  refine ⟨s1.heap.objs.size, [s1.heap.objs.size], _, _, H1, rfl, I1.kept (t' := s1.toks) fun b o e => Heap.get?_push_of_some _ e, turn_list a _, ⟨_, Heap.get?_push_size _ rfl, rfl, rfl⟩, fun b hb => ?_, q⟩
  have e : b = s1.heap.objs.size := by simpa using hb
  subst e
  exact I1.fpOk (Nat.le_refl _) (I1.hok.fresh (Nat.le_refl _))
theorem pi_tup {l : Expr} {tl : TE} (hl : PE X l tl) : PI X tg l (iTup X.K tl) := by
  intro pins s σ H R I h
  refine thn (hl pins s σ H _ I h) fun v s1 ⟨x, H1, I1, r1, q1⟩ => ?_
  obtain ⟨a, e, ⟨xs, hq⟩, q⟩ := q1
  subst e
  cases r1
  obtain ⟨its, rv, p, hz⟩ := I1.tuple hq
  refine wpAny_pyIter_tuple (show s1.heap.IsTuple a its.toArray from p) ?_
  refine ⟨s1.heap.objs.size, [s1.heap.objs.size], _, _, H1, rfl, I1.kept (t' := s1.toks) fun b o e => Heap.get?_push_of_some _ e, turn_tuple a _, ⟨_, Heap.get?_push_size _ rfl, rfl, rfl⟩, fun b hb => ?_, q⟩
  have e : b = s1.heap.objs.size := by simpa using hb
  subst e
  exact I1.fpOk (Nat.le_refl _) (I1.hok.fresh (Nat.le_refl _))
/-- a range object just made, walked -/
theorem range_it {pins : List (Addr × Obj)} {σ : St} {H : Hp} {s : Shared} {R : It → Hp → Prop} {E : Value → Shared → Prop} {lo hi : Int} {t u v : Tok} {tk : Nat} (I : Inv X pins σ H s) (h1 : -(2 ^ 62) ≤ lo) (h2 : lo < 2 ^ 62) (h3 : -(2 ^ 62) ≤ hi) (h4 : hi < 2 ^ 62)
    (q : R (Itr lo (hi - lo).toNat) H) : wpAny (model X.prog X.w) X.A (pyIter (.ref s.heap.objs.size)) (PIE X pins σ tg R) E { s with heap := s.heap.push { cls := .type "range", data := .fields #[.int lo t, .int hi u, .int 1 v] }, toks := tk } := by
  refine wpAny_pyIter_range (IsRange.new ..) (small_one h1 h2 h3 h4) ?_
  have I1 : Inv X pins σ H { s with heap := s.heap.push { cls := .type "range", data := .fields #[.int lo t, .int hi u, .int 1 v] }, toks := tk } := I.kept fun b o e => Heap.get?_push_of_some _ e
  refine ⟨(s.heap.push { cls := .type "range", data := .fields #[.int lo t, .int hi u, .int 1 v] }).objs.size, [(s.heap.push { cls := .type "range", data := .fields #[.int lo t, .int hi u, .int 1 v] }).objs.size], _, _, H, rfl,
    I1.kept (t' := tk) fun b o e => Heap.get?_push_of_some _ e, turn_range _ lo (hi - lo).toNat, ?_, fun b hb => ?_, q⟩
  · have e1 : lo + ((0 : Nat) : Int) * 1 = lo := by simp
    have e2 : (((hi - lo).toNat : Nat) : Int) - ((0 : Nat) : Int) = Builtin.Range.rangeSize lo hi 1 := by rw [rangeSize_one]; split <;> omega
    show IsRangeIter _ _ (lo + ((0 : Nat) : Int) * 1) ((((hi - lo).toNat : Nat) : Int) - ((0 : Nat) : Int)) 1
    rw [e1, e2]
    exact Heap.get?_push_size _ rfl
  · have e : b = (s.heap.push { cls := .type "range", data := .fields #[.int lo t, .int hi u, .int 1 v] }).objs.size := by simpa using hb
    subst e
    exact I1.fpOk (Nat.le_refl _) (I1.hok.fresh (Nat.le_refl _))
def iRng1 (ta : TA) : TI := fun σ H R => ta σ H fun vs H1 => ∃ j : Int, vs = [.int j] ∧ -(2 ^ 62) ≤ j ∧ j < 2 ^ 62 ∧ R (Itr 0 j.toNat) H1
theorem pi_range1 {a : Expr} {ta : TA} {p pos : Pos} (hg : Gl X "range") (hm : X.mg "range" = none) (ha : PA X [a] ta) (hs : starEach [a] X.env = [(false, eval a X.env)] := by rfl) : PI X tg (.Call (.Name "range" p) [a] [] pos) (iRng1 ta) := by
  intro pins s σ H R I h
  refine Call_ (ld_blt I hg hm boot_range (PyProof.Rows.callWith_type1 (thn (ha pos pins s σ H _ I h) fun us s1 ⟨vs, H1, I1, r1, q1⟩ => ?_) hs rfl))
  obtain ⟨j, e, q1, q2, q⟩ := q1
  subst e
  cases r1 with
  | cons r rr =>
    cases rr
    obtain ⟨t, rfl⟩ := r
    exact call_range_1 (range_it I1 (by omega) (by omega) q1 q2 (by simpa using q))
/-! ### for -/
/-- W: the invariant by the turn and a measure; N: what the body is to reach -/
def tFor (wi : TI) (g : TG) (tb : TS) : TS := fun D σ H => wi σ H fun J H1 => ∃ W : Nat → Nat → St → Hp → Prop, (∃ m, W 0 m σ H1) ∧ ∀ i m σ H, W i m σ H →
  (J.stop i H ∧ D.nx σ H) ∨ (J.go i H ∧ ∃ N : St → Hp → Prop, (∀ σ' H', N σ' H' → ∃ m', m' < m ∧ W (i + 1) m' σ' H') ∧ ∀ x H', J.yld i H x H' → g x σ H' fun σ2 H2 => tb { D with nx := N, ct := N, bk := D.nx } σ2 H2)
/-- the records at fp as they stand -/
def pinsAt (fp : List Addr) (h : Heap) : List (Addr × Obj) := fp.filterMap fun b => (h.get? b).map fun o => (b, o)
theorem mem_pinsAt {fp : List Addr} {h : Heap} {b : Addr} {o : Obj} (hb : b ∈ fp) (e : h.get? b = some o) : (b, o) ∈ pinsAt fp h := List.mem_filterMap.mpr ⟨b, hb, by rw [e]; rfl⟩
theorem of_pinsAt {fp : List Addr} {h : Heap} {p : Addr × Obj} (hp : p ∈ pinsAt fp h) : p.1 ∈ fp ∧ h.get? p.1 = some p.2 := by
  obtain ⟨b, hb, e⟩ := List.mem_filterMap.mp hp
  cases q : h.get? b with
  | none => rw [q] at e; cases e
  | some o =>
    rw [q] at e
    have e' : (b, o) = p := Option.some.inj e
    subst e'
    exact ⟨hb, q⟩
theorem Inv.pinned {pins : List (Addr × Obj)} {σ : St} {H : Hp} {s : Shared} {fp : List Addr} (I : Inv X pins σ H s) (hf : ∀ b ∈ fp, FpOk X pins H b) (ho : ∀ b ∈ fp, ∃ o, s.heap.get? b = some o ∧ ∀ v, o.data ≠ .cell v) : Inv X (pins ++ pinsAt fp s.heap) σ H s :=
  I.pins_of fun p hp => (List.mem_append.mp hp).elim (fun z => I.pin p (List.mem_append_right _ z)) fun z => by
    obtain ⟨hb, e⟩ := of_pinsAt z
    obtain ⟨f0, f1, f2, _⟩ := hf p.1 hb
    obtain ⟨o, e', d⟩ := ho p.1 hb
    rw [e] at e'; cases e'
    exact ⟨e, f0, f1, f2, d⟩
theorem Inv.unpinned {pins pl : List (Addr × Obj)} {σ : St} {H : Hp} {s : Shared} (I : Inv X (pins ++ pl) σ H s) : Inv X pins σ H s := I.pins_of fun p hp => I.pin p (List.mem_append_right _ (List.mem_append_left _ hp))
theorem ps_for {iter : Expr} {body : List Stmt} {wi : TI} {g : TG} {tb : TS} {pos : Pos} (hp : PassesOwn (model X.prog X.w) X.A X.env X.xe) (hc : X.calm = true) (hi : PI X tg iter wi) (hg : PG X tg g) (hb : PSs X body tb)
    (hs : ∀ x, foldedSetIterable iter X.env x = pure x := by intro _; rfl) : PS X (.For tg iter body [] pos) (tFor wi g tb) := by
  intro pins s σ H D I h
  refine wpAny_For (thn (hi pins s σ H _ I h) fun v s1 h1 => thn h1 fun itv s2 h2 => ?_) hs
  obtain ⟨it, fp, tn, J, H2, e, I2, T, st2, f2, W, ⟨m0, w0⟩, turn⟩ := h2
  subst e
  -- what stays true of the iterator's objects through the loop
  have stat : ∀ {H' : Hp}, (∀ b ∈ fp, H' b = none) → ∀ b ∈ fp, FpOk X pins H' b := fun hn b hb => ⟨hn b hb, (f2 b hb).2⟩
  refine codeAny_forLoop_any (fun n s' => ∃ i σ' H', Inv X pins σ' H' s' ∧ tn i s'.heap ∧ (∀ b ∈ fp, H' b = none) ∧ W i n σ' H') ?_ m0 ⟨0, σ, H2, I2, st2, fun b hb => (f2 b hb).1, w0⟩
  rintro n s3 ⟨i, σ3, H3, I3, st3, fr3, w3⟩
  rcases turn i n σ3 H3 w3 with ⟨stop, qn⟩ | ⟨go, N, hN, step⟩
  · refine wpAny_passesOwn hp (thn (T.done X rfl rfl rfl hc i pins s3 σ3 H3 X.xe I3 (stat fr3) st3 stop) fun r s4 ⟨hr, I4⟩ => ?_)
    subst hr
    exact wpAny_execs_nil ⟨σ3, H3, I4, qn⟩
  · refine wpAny_passesOwn hp (thn (T.item X rfl rfl rfl hc i pins s3 σ3 H3 X.xe I3 (stat fr3) st3 go) fun r s4 ⟨u, hr, h4⟩ => ?_)
    subst hr
    refine wpAny_passesOwn hp (thn h4 fun _ s5 ⟨x, H5, I5, r5, y5, st5, fr5⟩ => ?_)
    have I5' := I5.pinned (stat fr5) (T.obj _ _ st5)
    refine wpAny_passesOwn hp (thn (hg _ s5 σ3 H5 x u _ I5' r5 (step x H5 y5)) fun _ s6 ⟨σ6, H6, I6, q6⟩ => ?_)
    refine wpAny_passesOwn hp (thn (hb _ s6 σ6 H6 _ I6 q6) fun f s7 q7 => ?_)
    have again : ∀ {σ7 : St} {H7 : Hp}, Inv X (pins ++ pinsAt fp s5.heap) σ7 H7 s7 → N σ7 H7 → ∃ m, m < n ∧ ∃ i σ' H', Inv X pins σ' H' s7 ∧ tn i s7.heap ∧ (∀ b ∈ fp, H' b = none) ∧ W i m σ' H' := fun {σ7 H7} I7 n7 => by
      obtain ⟨m', hm, w7⟩ := hN σ7 H7 n7
      refine ⟨m', hm, i + 1, σ7, H7, I7.unpinned, T.keep _ _ _ st5 fun b hb o e => (I7.pin (b, o) (List.mem_append_right _ (List.mem_append_right _ (mem_pinsAt hb e)))).1, fun b hb => ?_, w7⟩
      obtain ⟨o, e, d⟩ := T.obj _ _ st5 b hb
      exact (I7.pin (b, o) (List.mem_append_right _ (List.mem_append_right _ (mem_pinsAt hb e)))).2.1
    cases f with
    | next => obtain ⟨σ7, H7, I7, n7⟩ := q7; exact again I7 n7
    | cont => obtain ⟨σ7, H7, I7, n7⟩ := q7; exact again I7 n7
    | brk => obtain ⟨σ7, H7, I7, q7⟩ := q7; exact ⟨σ7, H7, I7.unpinned, q7⟩
    | ret v => obtain ⟨x7, σ7, H7, I7, r7, q7⟩ := q7; exact ⟨x7, σ7, H7, I7.unpinned, r7, q7⟩
end

/-! ### the forms one uses -/
theorem for_tup {K : PySem.W.Frag} {a : Addr} {xs : List V} {g : TG} {tb : TS} {D : Ends} {σ : St} {H : Hp} (Pv : Nat → St → Hp → Prop) (h0 : Pv 0 σ H) (hl : ∀ i σ H, i ≤ xs.length → Pv i σ H → SqT K H a xs)
    (hs : ∀ i x σ H, xs[i]? = some x → Pv i σ H → g x σ H fun σ2 H2 => tb { D with nx := Pv (i + 1), ct := Pv (i + 1), bk := D.nx } σ2 H2) (hd : ∀ σ H, Pv xs.length σ H → D.nx σ H) :
    ∃ W : Nat → Nat → St → Hp → Prop, (∃ m, W 0 m σ H) ∧ ∀ i m σ H, W i m σ H →
      ((Itt K a).stop i H ∧ D.nx σ H) ∨ ((Itt K a).go i H ∧ ∃ N : St → Hp → Prop, (∀ σ' H', N σ' H' → ∃ m', m' < m ∧ W (i + 1) m' σ' H') ∧ ∀ x H', (Itt K a).yld i H x H' → g x σ H' fun σ2 H2 => tb { D with nx := N, ct := N, bk := D.nx } σ2 H2) := by
  refine ⟨fun i m σ H => m = xs.length - i ∧ i ≤ xs.length ∧ Pv i σ H, ⟨xs.length, by simp, Nat.zero_le _, h0⟩, ?_⟩
  rintro i m σ H ⟨rfl, hi, p⟩
  have q := hl i σ H hi p
  by_cases hlt : i < xs.length
  · refine .inr ⟨⟨xs, xs[i], q, by simp [hlt]⟩, Pv (i + 1), fun σ' H' p' => ⟨xs.length - (i + 1), by omega, rfl, hlt, p'⟩, fun x H' y => ?_⟩
    obtain ⟨e, y⟩ := y
    subst e
    exact hs i x σ _ (y xs q) p
  · have e : i = xs.length := by omega
    subst e
    exact .inl ⟨⟨xs, q, Nat.le_refl _⟩, hd σ H p⟩
theorem for_range {lo : Int} {n : Nat} {g : TG} {tb : TS} {D : Ends} {σ : St} {H : Hp} (Pv : Nat → St → Hp → Prop) (h0 : Pv 0 σ H)
    (hs : ∀ i σ H, i < n → Pv i σ H → g (.int (lo + i)) σ H fun σ2 H2 => tb { D with nx := Pv (i + 1), ct := Pv (i + 1), bk := D.nx } σ2 H2) (hd : ∀ σ H, Pv n σ H → D.nx σ H) :
    ∃ W : Nat → Nat → St → Hp → Prop, (∃ m, W 0 m σ H) ∧ ∀ i m σ H, W i m σ H →
      ((Itr lo n).stop i H ∧ D.nx σ H) ∨ ((Itr lo n).go i H ∧ ∃ N : St → Hp → Prop, (∀ σ' H', N σ' H' → ∃ m', m' < m ∧ W (i + 1) m' σ' H') ∧ ∀ x H', (Itr lo n).yld i H x H' → g x σ H' fun σ2 H2 => tb { D with nx := N, ct := N, bk := D.nx } σ2 H2) := by
  refine ⟨fun i m σ H => m = n - i ∧ i ≤ n ∧ Pv i σ H, ⟨n, by simp, Nat.zero_le _, h0⟩, ?_⟩
  rintro i m σ H ⟨rfl, hi, p⟩
  by_cases hlt : i < n
  · refine .inr ⟨hlt, Pv (i + 1), fun σ' H' p' => ⟨n - (i + 1), by omega, rfl, hlt, p'⟩, fun x H' y => ?_⟩
    obtain ⟨e, y⟩ := y
    subst e y
    exact hs i σ _ hlt p
  · have e : i = n := by omega
    subst e
    exact .inl ⟨Nat.le_refl _, hd σ H p⟩
end L2

namespace L2
open PySem PySem.Spec PyProof.Rows

abbrev R2 := V → V → Hp → VK → Prop
/-- a two-place operation on values: f is binaryOp op, inplaceOp op or compareOp op -/
def OpR (X : Cx) (f : Value → Value → Sem Value) (r : R2) : Prop :=
  ∀ (pins : List (Addr × Obj)) (s : Shared) (σ : St) (H : Hp) (x y : V) (v u : Value) (Q : VK), Inv X pins σ H s → RelV x v → RelV y u → r x y H Q →
    wpAny (model X.prog X.w) X.A (f v u) (EP X pins σ Q) X.xe s
/-- a one-place operation -/
def UnR (X : Cx) (f : Value → Sem Value) (r : V → Hp → VK → Prop) : Prop :=
  ∀ (pins : List (Addr × Obj)) (s : Shared) (σ : St) (H : Hp) (x : V) (v : Value) (Q : VK), Inv X pins σ H s → RelV x v → r x H Q →
    wpAny (model X.prog X.w) X.A (f v) (EP X pins σ Q) X.xe s
/-- a call of a value that is known (a builtin, a type) with values -/
def CallR (X : Cx) (f : Value) (r : List V → Hp → VK → Prop) : Prop :=
  ∀ (pins : List (Addr × Obj)) (s : Shared) (σ : St) (H : Hp) (xs : List V) (us : List Value) (Q : VK), Inv X pins σ H s → Vals xs us → r xs H Q →
    wpAny (model X.prog X.w) X.A (call f us) (EP X pins σ Q) X.xe s
/-- a value's truth -/
def TruR (X : Cx) (r : V → Hp → (Bool → Hp → Prop) → Prop) : Prop :=
  ∀ (pins : List (Addr × Obj)) (s : Shared) (σ : St) (H : Hp) (x : V) (v : Value) (Q : Bool → Hp → Prop), Inv X pins σ H s → RelV x v → r x H Q →
    wpAny (model X.prog X.w) X.A (truthy v) (TP X pins σ Q) X.xe s

def tOp (r : R2) (ta tb : TE) : TE := fun σ H Q => ta σ H fun x H1 => tb σ H1 fun y H2 => r x y H2 Q
def tUn (r : V → Hp → VK → Prop) (ta : TE) : TE := fun σ H Q => ta σ H fun x H1 => r x H1 Q
/-- ints in, under C, and a value out -/
def rI (C : Int → Int → Prop) (g : Int → Int → V) : R2 := fun x y H Q => ∃ i j, x = .int i ∧ y = .int j ∧ C i j ∧ Q (g i j) H
def rI0 (g : Int → Int → V) : R2 := fun x y H Q => ∃ i j, x = .int i ∧ y = .int j ∧ Q (g i j) H
def rU (g : Int → V) : V → Hp → VK → Prop := fun x H Q => ∃ i, x = .int i ∧ Q (g i) H

section
variable {X : Cx} {a b c : Expr} {ta tb tc : TE} {pos : Pos}

theorem binT (ha : PE X a ta) (hb : PE X b tb) {pins : List (Addr × Obj)} {s : Shared} {σ : St} {H : Hp} {R : V → V → Hp → Prop} (I : Inv X pins σ H s)
    (h : ta σ H fun x H1 => tb σ H1 fun y H2 => R x y H2) {Q : Value → Shared → Prop} {f : Value → Value → Sem Value}
    (hf : ∀ v u s2 x y H2, Inv X pins σ H2 s2 → RelV x v → RelV y u → R x y H2 → wpAny (model X.prog X.w) X.A (f v u) Q X.xe s2) :
    wpAny (model X.prog X.w) X.A (eval a X.env) (fun v s₁ => wpAny (model X.prog X.w) X.A (eval b X.env) (fun u s₂ => wpAny (model X.prog X.w) X.A (f v u) Q X.xe s₂) X.xe s₁) X.xe s := by
  refine thn (ha pins s σ H _ I h) fun v s1 ⟨x, H1, I1, r1, q1⟩ => ?_
  refine thn (hb pins s1 σ H1 _ I1 q1) fun u s2 ⟨y, H2, I2, r2, q2⟩ => ?_
  exact hf v u s2 x y H2 I2 r1 r2 q2

theorem pe_op {op : Operator} {r : R2} (ho : OpR X (binaryOp op) r) (ha : PE X a ta) (hb : PE X b tb) : PE X (.BinOp a op b pos) (tOp r ta tb) := by
  intro pins s σ H Q I h
  exact wpAny_BinOp (binT ha hb I h fun v u s2 x y H2 I2 rx ry q => ho pins s2 σ H2 x y v u Q I2 rx ry q)
theorem pe_un {op : UnaryOp} {r : V → Hp → VK → Prop} (ho : UnR X (unaryOp op) r) (ha : PE X a ta) : PE X (.UnaryOp op a pos) (tUn r ta) := by
  intro pins s σ H Q I h
  exact UnaryOp_ (thn (ha pins s σ H _ I h) fun v s1 ⟨x, H1, I1, r1, q1⟩ => ho pins s1 σ H1 x v Q I1 r1 q1)
/-! ### ints -/
theorem opI {f : Value → Value → Sem Value} {C : Int → Int → Prop} {g : Int → Int → Int}
    (rule : ∀ (i j : Int) (t u : Tok) (s : Shared) (Q : Value → Shared → Prop) (E : Value → Shared → Prop), C i j → Q (.int (g i j) s.toks) { s with toks := s.toks + 1 } → wpAny (model X.prog X.w) X.A (f (.int i t) (.int j u)) Q E s) :
    OpR X f (rI C fun i j => .int (g i j)) := by
  intro pins s σ H x y v u Q I rx ry h
  obtain ⟨i, j, rfl, rfl, hc, q⟩ := h
  obtain ⟨t, rfl⟩ := rx
  obtain ⟨t', rfl⟩ := ry
  exact rule i j t t' s _ _ hc ⟨.int (g i j), H, I.tok _, ⟨_, rfl⟩, q⟩
theorem opI0 {f : Value → Value → Sem Value} {g : Int → Int → Int}
    (rule : ∀ (i j : Int) (t u : Tok) (s : Shared) (Q : Value → Shared → Prop) (E : Value → Shared → Prop), Q (.int (g i j) s.toks) { s with toks := s.toks + 1 } → wpAny (model X.prog X.w) X.A (f (.int i t) (.int j u)) Q E s) :
    OpR X f (rI0 fun i j => .int (g i j)) := by
  intro pins s σ H x y v u Q I rx ry h
  obtain ⟨i, j, rfl, rfl, q⟩ := h
  obtain ⟨t, rfl⟩ := rx
  obtain ⟨t', rfl⟩ := ry
  exact rule i j t t' s _ _ ⟨.int (g i j), H, I.tok _, ⟨_, rfl⟩, q⟩
theorem opB0 {f : Value → Value → Sem Value} {g : Int → Int → Bool}
    (rule : ∀ (i j : Int) (t u : Tok) (s : Shared) (Q : Value → Shared → Prop) (E : Value → Shared → Prop), Q (.bool (g i j)) s → wpAny (model X.prog X.w) X.A (f (.int i t) (.int j u)) Q E s) :
    OpR X f (rI0 fun i j => .bl (g i j)) := by
  intro pins s σ H x y v u Q I rx ry h
  obtain ⟨i, j, rfl, rfl, q⟩ := h
  obtain ⟨t, rfl⟩ := rx
  obtain ⟨t', rfl⟩ := ry
  exact rule i j t t' s _ _ ⟨.bl (g i j), H, I, rfl, q⟩

def CPow (i j : Int) : Prop := 0 ≤ j ∧ j ≤ 1000000 ∧ i.natAbs < 2 ^ 64
def CMul (i j : Int) : Prop := (-(2 ^ 64) < i ∧ i < 2 ^ 64) ∨ (-(2 ^ 64) < j ∧ j < 2 ^ 64)
theorem CMul.ok {i j : Int} (h : CMul i j) : IntMulOk i j := by
  rcases h with ⟨h1, h2⟩ | ⟨h1, h2⟩
  · exact .of_left (intBits_le_64 h1 h2)
  · exact .of_right (intBits_le_64 h1 h2)
theorem op_add : OpR X (binaryOp .Add) (rI0 fun i j => .int (i + j)) := opI0 fun _ _ _ _ _ _ _ q => add_int q
theorem op_sub : OpR X (binaryOp .Sub) (rI0 fun i j => .int (i - j)) := opI0 fun _ _ _ _ _ _ _ q => sub_int q
theorem op_mul : OpR X (binaryOp .Mult) (rI CMul fun i j => .int (i * j)) := opI fun _ _ _ _ _ _ _ hc q => mul_int q hc.ok
/-- % by a positive divisor of any size -/
theorem op_mod : OpR X (binaryOp .Mod) (rI (fun _ j => 0 < j) fun i j => .int (i % j)) := opI fun i j _ _ _ _ _ hc q => by
  have h1 : (0 : Int) < j := hc
  exact mod_int' (by omega) (by rw [Int.fmod_eq_emod_of_nonneg i (by omega)]; exact q)
theorem op_pow : OpR X (binaryOp .Pow) (rI CPow fun i j => .int (i ^ j.toNat)) := opI fun _ _ _ _ _ _ _ hc q => pow_int_small hc.1 hc.2.1 hc.2.2 q
theorem unI {f : Value → Sem Value} {g : Int → Int}
    (rule : ∀ (i : Int) (t : Tok) (s : Shared) (Q : Value → Shared → Prop) (E : Value → Shared → Prop), Q (.int (g i) s.toks) { s with toks := s.toks + 1 } → wpAny (model X.prog X.w) X.A (f (.int i t)) Q E s) :
    UnR X f (rU fun i => .int (g i)) := by
  intro pins s σ H x v Q I rx h
  obtain ⟨i, rfl, q⟩ := h
  obtain ⟨t, rfl⟩ := rx
  exact rule i t s _ _ ⟨.int (g i), H, I.tok _, ⟨_, rfl⟩, q⟩
theorem un_neg : UnR X (unaryOp .USub) (rU fun i => .int (-i)) := unI fun _ _ _ _ _ q => neg_int q
/-! ### bools among ints: n += (a < b) -/
end

/-! ### comparisons -/
/-- the scalars that == tells apart as data does -/
def scal : V → V → Bool
  | .non, .non => true | .non, .int _ => true | .int _, .non => true | .non, .bl _ => true | .bl _, .non => true | .non, .str _ => true | .str _, .non => true
  | .int _, .int _ => true | .bl _, .bl _ => true | .str _, .str _ => true | .byt _, .byt _ => true
  | .int _, .str _ => true | .str _, .int _ => true | .bl _, .str _ => true | .str _, .bl _ => true
  | _, _ => false
def rEq : R2 := fun x y H Q => scal x y = true ∧ Q (.bl (decide (x = y))) H
def rNe : R2 := fun x y H Q => scal x y = true ∧ Q (.bl (!decide (x = y))) H

theorem dec_int {i j : Int} : decide (V.int i = V.int j) = (i == j) := by
  rw [Bool.eq_iff_iff]
  simp
theorem dec_bl {i j : Bool} : decide (V.bl i = V.bl j) = (i == j) := by
  rw [Bool.eq_iff_iff]
  simp
theorem dec_str {i j : Str} : decide (V.str i = V.str j) = (i == j) := by
  rw [Bool.eq_iff_iff]
  simp
theorem dec_byt {i j : Array UInt8} : decide (V.byt i = V.byt j) = (i.toList == j.toList) := by
  rw [Bool.eq_iff_iff]
  cases i
  cases j
  simp

section
variable {X : Cx} {a b c : Expr} {ta tb tc : TE} {pos : Pos}
theorem fin_bl {pins : List (Addr × Obj)} {σ : St} {H : Hp} {s : Shared} {Q : VK} {k k' : Bool} (I : Inv X pins σ H s) (q : Q (.bl k) H) (e : k = k') : EP X pins σ Q (.bool k') s := by
  subst e
  exact ⟨.bl k, H, I, rfl, q⟩
theorem op_eq : OpR X (compareOp .Eq) rEq := by
  intro pins s σ H x y v u Q I rx ry h
  obtain ⟨hs, q⟩ := h
  cases x with
  | non =>
    cases rx
    cases y with
    | non => cases ry; exact PySem.EqNone.eq_none_none (fin_bl I q (by simp))
    | bl j => cases ry; exact PySem.EqNone.eq_none_bool (fin_bl I q (by simp))
    | int j => obtain ⟨t', rfl⟩ := ry; exact PySem.EqNone.eq_none_int (fin_bl I q (by simp))
    | str j => obtain ⟨t', rfl⟩ := ry; exact PySem.EqNone.eq_none_str (fin_bl I q (by simp))
    | _ => exact absurd (show false = true from hs) Bool.false_ne_true
  | bl i =>
    cases rx
    cases y with
    | non => cases ry; exact PySem.EqNone.eq_bool_none (fin_bl I q (by simp))
    | bl j => cases ry; exact eq_bool (fin_bl I q dec_bl)
    | str j => obtain ⟨t', rfl⟩ := ry; exact PySem.EqMixed.eq_bool_str (fin_bl I q (by simp))
    | _ => exact absurd (show false = true from hs) Bool.false_ne_true
  | int i =>
    obtain ⟨t, rfl⟩ := rx
    cases y with
    | non => cases ry; exact PySem.EqNone.eq_int_none (fin_bl I q (by simp))
    | int j => obtain ⟨t', rfl⟩ := ry; exact eq_int (fin_bl I q dec_int)
    | str j => obtain ⟨t', rfl⟩ := ry; exact PySem.EqMixed.eq_int_str (fin_bl I q (by simp))
    | _ => exact absurd (show false = true from hs) Bool.false_ne_true
  | str i =>
    obtain ⟨t, rfl⟩ := rx
    cases y with
    | non => cases ry; exact PySem.EqNone.eq_str_none (fin_bl I q (by simp))
    | bl j => cases ry; exact PySem.EqMixed.eq_str_bool (fin_bl I q (by simp))
    | int j => obtain ⟨t', rfl⟩ := ry; exact PySem.EqMixed.eq_str_int (fin_bl I q (by simp))
    | str j => obtain ⟨t', rfl⟩ := ry; exact eq_str (fin_bl I q dec_str)
    | _ => exact absurd (show false = true from hs) Bool.false_ne_true
  | byt i =>
    obtain ⟨t, rfl⟩ := rx
    cases y with
    | byt j => obtain ⟨t', rfl⟩ := ry; exact PySem.W.eq_bytes (fin_bl I q dec_byt)
    | _ => exact absurd (show false = true from hs) Bool.false_ne_true
  | _ => cases y <;> exact absurd (show false = true from hs) Bool.false_ne_true
theorem op_ne : OpR X (compareOp .NotEq) rNe := by
  intro pins s σ H x y v u Q I rx ry h
  obtain ⟨hs, q⟩ := h
  cases x with
  | non =>
    cases rx
    cases y with
    | non => cases ry; exact PySem.EqNone.ne_none_none (fin_bl I q (by simp))
    | bl j => cases ry; exact PySem.EqNone.ne_none_bool (fin_bl I q (by simp))
    | int j => obtain ⟨t', rfl⟩ := ry; exact PySem.EqNone.ne_none_int (fin_bl I q (by simp))
    | str j => obtain ⟨t', rfl⟩ := ry; exact PySem.EqNone.ne_none_str (fin_bl I q (by simp))
    | _ => exact absurd (show false = true from hs) Bool.false_ne_true
  | bl i =>
    cases rx
    cases y with
    | non => cases ry; exact PySem.EqNone.ne_bool_none (fin_bl I q (by simp))
    | bl j => cases ry; exact ne_bool (fin_bl I q (congrArg not dec_bl))
    | str j => obtain ⟨t', rfl⟩ := ry; exact PySem.EqMixed.ne_bool_str (fin_bl I q (by simp))
    | _ => exact absurd (show false = true from hs) Bool.false_ne_true
  | int i =>
    obtain ⟨t, rfl⟩ := rx
    cases y with
    | non => cases ry; exact PySem.EqNone.ne_int_none (fin_bl I q (by simp))
    | int j => obtain ⟨t', rfl⟩ := ry; exact ne_int (fin_bl I q (congrArg not dec_int))
    | str j => obtain ⟨t', rfl⟩ := ry; exact PySem.EqMixed.ne_int_str (fin_bl I q (by simp))
    | _ => exact absurd (show false = true from hs) Bool.false_ne_true
  | str i =>
    obtain ⟨t, rfl⟩ := rx
    cases y with
    | non => cases ry; exact PySem.EqNone.ne_str_none (fin_bl I q (by simp))
    | bl j => cases ry; exact PySem.EqMixed.ne_str_bool (fin_bl I q (by simp))
    | int j => obtain ⟨t', rfl⟩ := ry; exact PySem.EqMixed.ne_str_int (fin_bl I q (by simp))
    | str j => obtain ⟨t', rfl⟩ := ry; exact ne_str (fin_bl I q (congrArg not dec_str))
    | _ => exact absurd (show false = true from hs) Bool.false_ne_true
  | byt i =>
    obtain ⟨t, rfl⟩ := rx
    cases y with
    | byt j => obtain ⟨t', rfl⟩ := ry; exact PySem.W.ne_bytes (fin_bl I q (congrArg not dec_byt))
    | _ => exact absurd (show false = true from hs) Bool.false_ne_true
  | _ => cases y <;> exact absurd (show false = true from hs) Bool.false_ne_true

theorem op_lt : OpR X (compareOp .Lt) (rI0 fun i j => .bl (decide (i < j))) := opB0 fun _ _ _ _ _ _ _ q => lt_int q
theorem op_le : OpR X (compareOp .LtE) (rI0 fun i j => .bl (decide (i ≤ j))) := opB0 fun _ _ _ _ _ _ _ q => le_int q
theorem op_gt : OpR X (compareOp .Gt) (rI0 fun i j => .bl (decide (j < i))) := opB0 fun _ _ _ _ _ _ _ q => gt_int q
theorem op_ge : OpR X (compareOp .GtE) (rI0 fun i j => .bl (decide (j ≤ i))) := opB0 fun _ _ _ _ _ _ _ q => ge_int q
/-- is None, is not None: the right side a value none -/
theorem op_isN : OpR X (compareOp .Is) (fun x y H Q => y = .non ∧ Q (.bl (decide (x = .non))) H) := by
  intro pins s σ H x y v u Q I rx ry h
  obtain ⟨rfl, q⟩ := h
  cases ry
  refine is_none_gen (fin_bl I q ?_)
  cases x <;> first
    | (cases rx; rfl)
    | (obtain ⟨t, rfl⟩ := rx; rfl)
theorem op_notN : OpR X (compareOp .IsNot) (fun x y H Q => y = .non ∧ Q (.bl (!decide (x = .non))) H) := by
  intro pins s σ H x y v u Q I rx ry h
  obtain ⟨rfl, q⟩ := h
  cases ry
  refine isnot_none_gen (fin_bl I q ?_)
  cases x <;> first
    | (cases rx; rfl)
    | (obtain ⟨t, rfl⟩ := rx; rfl)

theorem nomark (b : Expr) {op : CmpOp} (h : op ≠ .In := by decide) (h2 : op ≠ .NotIn := by decide) : behindInMarks op b = false := by
  have e1 : (op == CmpOp.In) = false := by cases op <;> first | rfl | exact absurd rfl h
  have e2 : (op == CmpOp.NotIn) = false := by cases op <;> first | rfl | exact absurd rfl h2
  cases b <;> simp [behindInMarks, e1, e2]
/-- a comparison as a value; hm: nomark b, or (for in, not in) by with_unfolding_all rfl -/
theorem pe_cmpR {op : CmpOp} {r : R2} (ho : OpR X (compareOp op) r) (ha : PE X a ta) (hb : PE X b tb) (hm : behindInMarks op b = false) : PE X (.Compare a [op] [b] pos) (tOp r ta tb) := by
  intro pins s σ H Q I h
  exact wpAny_Compare1 (binT ha hb I h fun v u s2 x y H2 I2 rx ry q => ho pins s2 σ H2 x y v u Q I2 rx ry q) hm
/-- a reading of a value as a test -/
def tTest (t : TE) : TT := fun σ H Q => t σ H fun x H' => ∃ k, x = .bl k ∧ Q k H'
theorem pt_cmpR {op : CmpOp} {r : R2} (ho : OpR X (compareOp op) r) (ha : PE X a ta) (hb : PE X b tb) (hm : behindInMarks op b = false) : PT X (.Compare a [op] [b] pos) (tTest (tOp r ta tb)) := by
  intro pins s σ H Q I h
  refine wpAny_isTrue_Compare1 (thn (ha pins s σ H _ I h) fun v s1 ⟨x, H1, I1, r1, q1⟩ => thn (hb pins s1 σ H1 _ I1 q1) fun u s2 ⟨y, H2, I2, r2, q2⟩ =>
    thn (ho pins s2 σ H2 x y v u _ I2 r1 r2 q2) fun c s3 ⟨z, H3, I3, r3, k, e, q3⟩ => ?_) hm
  subst e
  cases r3
  exact wpAny_truthy_bool ⟨H3, I3, q3⟩
/-! ### truth -/
/-- a value's truth by the abstract heap -/
def TruV (K : PySem.W.Frag) (x : V) (H : Hp) (k : Bool) : Prop :=
  match x with
  | .non => k = false
  | .bl b => k = b
  | .int i => k = (i != 0)
  | .str y => y.length ≤ sizeLine ∧ k = ((y.length : Int) != 0)
  | .byt y => y.size ≤ sizeLine ∧ k = ((y.size : Int) != 0)
  | .ref p => (∃ xs, SqL K H p xs ∧ k = !xs.isEmpty) ∨ (∃ xs, SqT K H p xs ∧ k = !xs.isEmpty) ∨ ∃ kvs, H p = some (.dK kvs) ∧ k = !kvs.isEmpty
  | _ => False
theorem isEmpty_kv {κ : Type} {kvs : List (κ × V)} {vs : List (κ × Value)} (r : KV kvs vs) : (!vs.isEmpty) = !kvs.isEmpty := by
  cases r <;> rfl
theorem isEmpty_of {xs : List V} {its : List Value} (r : Vals xs its) : (!its.toArray.isEmpty) = !xs.isEmpty := by
  cases r <;> simp
theorem line63 : (sizeLine : Nat) < 2 ^ 63 := by rw [sizeLine_eq]; decide
theorem tru_ok : TruR X (fun x H Q => ∃ k, TruV X.K x H k ∧ Q k H) := by
  intro pins s σ H x v Q I rx h
  obtain ⟨k, e, q⟩ := h
  have hl := line63
  have hs : sizeLine = 16777216 := sizeLine_eq
  cases x with
  | non =>
    cases rx
    have e' : k = false := e
    subst e'
    exact truthy_none ⟨H, I, q⟩
  | bl b =>
    cases rx
    have e' : k = b := e
    subst e'
    exact wpAny_truthy_bool ⟨H, I, q⟩
  | int i =>
    obtain ⟨t, rfl⟩ := rx
    have e' : k = (i != 0) := e
    subst e'
    exact PySem.P.truthy_int ⟨H, I, q⟩
  | str y =>
    obtain ⟨t, rfl⟩ := rx
    obtain ⟨hy, e'⟩ : y.length ≤ sizeLine ∧ k = ((y.length : Int) != 0) := e
    subst e'
    exact PySem.P.truthy_str (by omega) ⟨H, I.tok _, q⟩
  | byt y =>
    obtain ⟨t, rfl⟩ := rx
    obtain ⟨hy, e'⟩ : y.size ≤ sizeLine ∧ k = ((y.size : Int) != 0) := e
    subst e'
    exact PySem.W.truthy_bytes (by omega) ⟨H, I.tok _, q⟩
  | ref p =>
    cases rx
    have e' : (∃ xs, SqL X.K H p xs ∧ k = !xs.isEmpty) ∨ (∃ xs, SqT X.K H p xs ∧ k = !xs.isEmpty) ∨ ∃ kvs, H p = some (.dK kvs) ∧ k = !kvs.isEmpty := e
    rcases e' with ⟨xs, hx, e'⟩ | ⟨xs, hx, e'⟩ | ⟨kvs, hx, e'⟩
    · subst e'
      obtain ⟨its, r, pl, hz⟩ := I.list hx
      have hlen := r.length
      exact wpAny_truthy_list pl.isList (by simp only [List.size_toArray]; omega) ⟨H, I.tok _, by rw [isEmpty_of r]; exact q⟩
    · subst e'
      obtain ⟨its, r, pl, hz⟩ := I.tuple hx
      have hlen := r.length
      exact truthy_tuple pl (by simp only [List.size_toArray]; omega) ⟨H, I.tok _, by rw [isEmpty_of r]; exact q⟩
    · subst e'
      obtain ⟨hz, hS, vs, r, m⟩ : kvs.length ≤ sizeLine ∧ (p == sysModules) = false ∧ ∃ vs, KV kvs vs ∧ s.heap.DictOf (mixKind X.prog X.w) p vs := I.hok p _ hx
      have hlen : kvs.length = vs.length := Paired.length r
      exact wpAny_truthy_dict hS m (by omega) ⟨H, I.tok _, by rw [isEmpty_kv r]; exact q⟩
  | _ => exact (show False from e).elim
/-- any expression whose test is its value's truth (a name, a call, a subscript, a field ..: he by fun _ => rfl) -/
theorem pt_truth (ha : PE X a ta) (he : ∀ whole, isTrue a X.env whole = (do let v ← whole; standAt a.pos; holding [v] (truthy v))) :
    PT X a (fun σ H Q => ta σ H fun x H' => ∃ k, TruV X.K x H' k ∧ Q k H') := by
  intro pins s σ H Q I h
  exact isTrue_plain (thn (ha pins s σ H _ I h) fun v s1 ⟨x, H1, I1, r1, q1⟩ => tru_ok pins s1 σ H1 x v Q I1 r1 q1) (he _)

/-! ### strs and bytes -/
/-! ### scalar builtins, by CallR -/
theorem vals1 {x : V} {us : List Value} (r : Vals [x] us) : ∃ u, us = [u] ∧ RelV x u := by
  cases r with
  | cons r1 r2 => cases r2; exact ⟨_, rfl, r1⟩
theorem vals2 {x y : V} {us : List Value} (r : Vals [x, y] us) : ∃ u w', us = [u, w'] ∧ RelV x u ∧ RelV y w' := by
  cases r with
  | cons r1 r2 =>
    cases r2 with
    | cons r3 r4 => cases r4; exact ⟨_, _, rfl, r1, r3⟩
theorem call_min2 (hc : X.calm = true) : CallR X (.builtin "min") (fun xs H Q => ∃ i j, xs = [.int i, .int j] ∧ Q (.int (if j < i then j else i)) H) := by
  intro pins s σ H xs us Q I r h
  obtain ⟨i, j, rfl, q⟩ := h
  obtain ⟨u, w', rfl, ⟨t, rfl⟩, ⟨t', rfl⟩⟩ := vals2 r
  refine min_two_ints (I.ok.hd hc) fun h' tk k => ⟨_, H, I.kept k, ?_, q⟩
  by_cases hj : j < i
  · rw [if_pos hj, if_pos hj]; exact ⟨_, rfl⟩
  · rw [if_neg hj, if_neg hj]; exact ⟨_, rfl⟩
end
end L2

namespace L2
open PySem PySem.Spec PyProof.Rows

/-! ### an instance, its attributes a map -/
structure ObjM (h : Heap) (x dx C : Addr) (mA : Str → Option Value) : Prop where
  obj : h.get? x = some (PySem.W.instObj C dx)
  ns : h.Ns1 dx mA
  ne : dx ≠ x

theorem lookIn_ns {h : Heap} {dx : Addr} {mA : Str → Option Value} (n : h.Ns1 dx mA) : ∃ od, h.get? dx = some od ∧ ∀ name, PySem.W.lookIn name od = some (mA name) := by
  obtain ⟨o, es, ep, ho, hd, hk, _, hm⟩ := n
  refine ⟨o, ho, fun name => ?_⟩
  have e := hm name
  unfold nsFind findBy at e
  rw [← Array.find?_toList] at e
  unfold PySem.W.lookIn
  rw [hd]
  dsimp only
  split
  · rename_i y q
    rw [q] at e
    exact congrArg some e
  · rename_i q
    rw [q] at e
    have a : es.toList.any (·.refKey) = false := by
      rw [List.any_eq_false]
      intro y hy
      obtain ⟨z, t, hkey⟩ := hk y (Array.mem_toList_iff.mp hy)
      simp [DictEntry.refKey, hkey]
    have a' : ¬ es.toList.any (·.refKey) = true := by rw [a]; exact Bool.false_ne_true
    rw [if_neg a']
    exact congrArg some e

theorem ObjM.look {h : Heap} {x dx C : Addr} {mA : Str → Option Value} (I : ObjM h x dx C mA) : ∃ od, PySem.W.InstAt h x (PySem.W.instObj C dx) C (some od) ∧ ∀ name, PySem.W.lookIn name od = some (mA name) :=
  let ⟨od, ho, hl⟩ := lookIn_ns I.ns
  ⟨od, ⟨I.obj, rfl, rfl, ho⟩, hl⟩

section
variable {prog : Program} {w : World} {A : Around} {E : Value → Shared → Prop} {s : Shared} {K : PySem.W.Frag} {x dx C f : Addr} {mA : Str → Option Value} {name : Str} {v : Value}

end

/-! ### the attributes as a list of pairs -/
theorem RelO.some_of {v : V} {o : Option Value} (r : RelO (some v) o) : ∃ u, o = some u ∧ RelV v u := by
  cases o with
  | none => exact (show False from r).elim
  | some u => exact ⟨u, rfl, r⟩
theorem handed_of {v : V} {u : Value} (r : RelV v u) : PySem.W.handedIn u = true := by
  cases v with
  | non => cases (show u = Value.none from r); rfl
  | bl b => cases (show u = Value.bool b from r); rfl
  | int i => obtain ⟨t, e⟩ := (show ∃ t, u = Value.int i t from r); cases e; rfl
  | str x => obtain ⟨t, e⟩ := (show ∃ t, u = Value.str x t from r); cases e; rfl
  | byt b => obtain ⟨t, e⟩ := (show ∃ t, u = Value.bytes b t from r); cases e; rfl
  | flt b => obtain ⟨t, e⟩ := (show ∃ t, u = Value.float b t from r); cases e; rfl
  | ref a => cases (show u = Value.ref a from r); rfl
  | ty n => cases (show u = Value.type n from r); rfl

section
variable {P : Program} {w : World} {H H' : Hp} {h h' : Heap} {a C dx : Addr} {fs fs' : List (Str × V)}
theorem ins_get (hok : HOk P w H h) (e : H a = some (.ins C dx fs)) : ∃ mA, ObjM h a dx C mA ∧ (∀ f, RelO (fs.lookup f) (mA f)) ∧ PySem.Within mA (fs.map (·.1)) ∧ fs.length ≤ 1000 ∧ H dx = some (.own a) := by
  obtain ⟨d, z, ne, ob, mA, n, r, q⟩ := (show ObjOk P w H h a (.ins C dx fs) from hok a _ e)
  exact ⟨mA, ⟨ob, n, ne⟩, r, q, z, d⟩
end

/-! ### what of the text a class must have -/
structure Cls (K : PySem.W.Frag) (C : Addr) : Prop where
  pg : PySem.W.plainGet K C Str.empty = true
  hd : PySem.W.hasDictIn K C = true
  po : PySem.W.plainOver K C = true
  sa : PySem.W.findIn K (.ref C) "__setattr__" = some (some (.builtin "object.__setattr__"))
theorem Cls.get {K : PySem.W.Frag} {C : Addr} (c : Cls K C) (f : Str) : PySem.W.plainGet K C f = true := c.pg
/-- no class of it has the name -/
def NoAttr (K : PySem.W.Frag) (C : Addr) (f : Str) : Prop := PySem.W.findIn K (.ref C) f = some none
section
variable {X : Cx} {pins : List (Addr × Obj)} {σ : St} {H : Hp} {s : Shared} {a C dx : Addr} {fs : List (Str × V)} {f : Str} {v : V} {A : Around} {E : Value → Shared → Prop}

/-- e.f where nothing but the object is asked: through attributeBase (super) and the last hold -/
theorem attr_of {prog : Program} {w : World} {env : Env} {e : Expr} {f : Str} {pos : Pos} {s : Shared} {Q : Value → Shared → Prop} (hb : attributeBase e f env (eval e env) = eval e env)
    (h : wpAny (model prog w) A (eval e env) (fun o s₁ => wpAny (model prog w) A (getAttr o f true) Q E s₁) E s) : wpAny (model prog w) A (eval (.Attribute e f pos) env) Q E s :=
  Attribute_any_ h (by rw [arm_eval_Attribute, hb])
end

/-! ### readings and rules -/
section
variable {X : Cx} {o e value : Expr} {f : Str} {pos pos' tpos : Pos} {ta tv : TE}
end

/-! ### isinstance -/
section
variable {X : Cx} {pins : List (Addr × Obj)} {σ : St} {H : Hp} {s : Shared} {A : Around} {E : Value → Shared → Prop} {Q : Value → Shared → Prop} {c : Value} {b : Bool}
/-- the type of a value, as the fragment's deciders take it; for an instance its class -/
inductive TyOf (K : PySem.W.Frag) (H : Hp) : V → Value → Prop where
  | non : TyOf K H .non (.type "NoneType")
  | bl (x : Bool) : TyOf K H (.bl x) (.type "bool")
  | int (i : Int) : TyOf K H (.int i) (.type "int")
  | str (x : Str) : TyOf K H (.str x) (.type "str")
  | flt (x : UInt64) : TyOf K H (.flt x) (.type "float")
  | lst {a : Addr} {xs : List V} (e : H a = some (.lst xs)) : TyOf K H (.ref a) (.type "list")
  | frz {a : Addr} {o : Obj} {xs : List V} (e : H a = some (.frz o (.lst xs))) : TyOf K H (.ref a) (.type "list")
  | tup {a : Addr} {xs : List V} (e : H a = some (.tup xs)) : TyOf K H (.ref a) (.type "tuple")
  | dK {a : Addr} {kvs : List (Key × V)} (e : H a = some (.dK kvs)) : TyOf K H (.ref a) (.type "dict")
  | dT {a : Addr} {kvs : List (List Key × V)} (e : H a = some (.dT kvs)) : TyOf K H (.ref a) (.type "dict")
  | ins {a C dx : Addr} {fs : List (Str × V)} (e : H a = some (.ins C dx fs)) (cl : Cls K C) (ha : PySem.W.findIn K (.ref C) "__class__" = some (some (.builtin "object.__class__")))
      (hn : PySem.W.specialIn K (.builtin "object.__class__") "__get__" = some (some (.builtin "getset_descriptor.__get__"))) (htk : PySem.W.takesIn K (.builtin "object.__class__") = some true)
      (hm : PySem.W.mroIn K C (.type "object") = some true) : TyOf K H (.ref a) (.ref C)
/-- isinstance(x, c) for one class c, a built-in or an own one: kitOne's answer -/
theorem isinst_ok {x : V} {u t : Value} (I : Inv X pins σ H s) (rx : RelV x u) (ty : TyOf X.K H x t) (e : PySem.W.kitOne X.K t c = some b) (h : ∀ tk, Q (.bool b) { s with toks := tk }) :
    wpAny (model X.prog X.w) A (call (.builtin "isinstance") [u, c]) Q E s := by
  cases ty with
  | non => cases (show u = Value.none from rx); exact PySem.W.kia_one PySem.W.kitx_none I.kIn True.intro e (fun z => nomatch z) h
  | bl y => cases (show u = Value.bool y from rx); exact PySem.W.kia_one PySem.W.kitx_bool I.kIn True.intro e (fun z => nomatch z) h
  | int i => obtain ⟨t, q⟩ := (show ∃ t, u = Value.int i t from rx); cases q; exact PySem.W.kia_one PySem.W.kitx_int I.kIn True.intro e (fun z => nomatch z) h
  | str y => obtain ⟨t, q⟩ := (show ∃ t, u = Value.str y t from rx); cases q; exact PySem.W.kia_one PySem.W.kitx_str I.kIn True.intro e (fun z => nomatch z) h
  | flt y => obtain ⟨t, q⟩ := (show ∃ t, u = Value.float y t from rx); cases q; exact PySem.W.kia_one PySem.W.kitx_float I.kIn True.intro e (fun z => nomatch z) h
  | @lst a xs ea =>
    cases (show u = Value.ref a from rx)
    obtain ⟨_, _, n, _, h1⟩ := (show ObjOk X.prog X.w H s.heap a (.lst xs) from I.hok a _ ea)
    exact PySem.W.kia_one PySem.W.kitx_list I.kIn ⟨_, h1, rfl⟩ e (fun z => nomatch z) h
  | @frz a ob xs ea =>
    cases (show u = Value.ref a from rx)
    obtain ⟨_, _, _, n, _, h1⟩ := (show ObjOk X.prog X.w H s.heap a (.frz ob (.lst xs)) from I.hok a _ ea)
    exact PySem.W.kia_one PySem.W.kitx_list I.kIn ⟨_, h1, rfl⟩ e (fun z => nomatch z) h
  | @tup a xs ea =>
    cases (show u = Value.ref a from rx)
    obtain ⟨_, _, _, p, _⟩ := (show ObjOk X.prog X.w H s.heap a (.tup xs) from I.hok a _ ea)
    obtain ⟨o, h1, h2, _⟩ := p
    exact PySem.W.kia_one PySem.W.kitx_tuple I.kIn ⟨o, h1, h2⟩ e (fun z => nomatch z) h
  | @dK a kvs ea =>
    cases (show u = Value.ref a from rx)
    obtain ⟨_, _, vs, _, p⟩ := (show ObjOk X.prog X.w H s.heap a (.dK kvs) from I.hok a _ ea)
    obtain ⟨o, es, ep, h1, h2, _⟩ := p
    exact PySem.W.kia_one PySem.W.kitx_dict I.kIn ⟨o, h1, h2.1⟩ e (fun z => nomatch z) h
  | @dT a kvs ea =>
    cases (show u = Value.ref a from rx)
    obtain ⟨_, _, xs, _, o, es, ep, h1, h2, _⟩ := (show ObjOk X.prog X.w H s.heap a (.dT kvs) from I.hok a _ ea)
    exact PySem.W.kia_one PySem.W.kitx_dict I.kIn ⟨o, h1, h2.1⟩ e (fun z => nomatch z) h
  | @ins a C dx fs ea cl ha hn htk hm =>
    cases (show u = Value.ref a from rx)
    obtain ⟨mA, O, _⟩ := ins_get I.hok ea
    obtain ⟨od, J, _⟩ := O.look
    exact PySem.W.kia_one (PySem.W.kitx_own (cl.get _) cl.hd ha hn htk hm) I.kIn J e (fun z => nomatch z) h
end
end L2

namespace L2
open PySem PySem.Spec PyProof.Rows

/-! ### room -/
structure Room (k : Nat) (A : Around) (cm : Bool := true) : Prop where
  hd : cm = true → A.handled = none
  dp : A.depth + 3 * k + 5 < recursionLimit
  un : A.units + 16 * k + 200 < cLine
theorem Room.mono {j k : Nat} {A : Around} {cm : Bool} (r : Room k A cm) (h : j ≤ k) : Room j A cm := ⟨r.hd, by have := r.dp; omega, by have := r.un; omega⟩
theorem Room.deeper {k : Nat} {A : Around} {cm : Bool} (r : Room (k + 1) A cm) (env : Env) : Room k (A.deeper env) cm :=
  ⟨r.hd, by have := r.dp; show A.depth + 1 + 3 * k + 5 < _; omega, by have := r.un; show A.units + 3 + 16 * k + 200 < _; omega⟩
theorem make_depth {A : Around} {C : Addr} {us : List Value} {kw : List (Str × Value)} : (A.under (.builtin "type.__call__" ⟨.ref C :: us, kw⟩)).depth = A.depth + 1 := by
  first | rfl | simp [Around.under, Code.weight, Code.isCreation, Code.isGuard, Code.isCaller, Code.frames, Code.isFrame, guardIds]
theorem make_units {A : Around} {C : Addr} {us : List Value} {kw : List (Str × Value)} : (A.under (.builtin "type.__call__" ⟨.ref C :: us, kw⟩)).units = A.units + 1 := by
  first | rfl | simp [Around.under, Code.cUnits, Code.frames, Code.isFrame]
theorem Room.make {k : Nat} {A : Around} {cm : Bool} (r : Room (k + 1) A cm) (C : Addr) (us : List Value) (kw : List (Str × Value)) : Room k (A.under (.builtin "type.__call__" ⟨.ref C :: us, kw⟩)) cm :=
  ⟨r.hd, by have := r.dp; rw [make_depth]; omega, by have := r.un; rw [make_units]; omega⟩
theorem Room.depth {k : Nat} {A : Around} {cm : Bool} (r : Room k A cm) : A.depth < recursionLimit := by have := r.dp; omega
theorem Room.units {k : Nat} {A : Around} {cm : Bool} (r : Room k A cm) : A.units + 64 < cLine := by have := r.un; omega
/-! ### argument lists and displays -/
def tNil : TA := fun _ H Q => Q [] H
def tCons (ta : TE) (tr : TA) : TA := fun σ H Q => ta σ H fun x H1 => tr σ H1 fun xs H2 => Q (x :: xs) H2
section
variable {X : Cx} {e : Expr} {es : List Expr} {te : TE} {t : TA} {pos : Pos}
theorem pa_nil : PA X [] tNil := fun _ _ _ _ H Q I h => Calls.spliced_nil ⟨[], H, I, .nil, h⟩
theorem pa_cons (ha : PE X e te) (hr : PA X es t) (hs : starEach (e :: es) X.env = (false, eval e X.env) :: starEach es X.env := by rfl) : PA X (e :: es) (tCons te t) := by
  intro pos pins s σ H Q I h
  rw [hs]
  show wpAny _ _ (spliced ((false, eval e X.env) :: backTo pos (starEach es X.env))) _ _ s
  refine Calls.spliced_cons (thn (ha pins s σ H _ I h) fun u s1 ⟨x, H1, I1, r1, q1⟩ => ?_)
  exact thn (hr pos pins s1 σ H1 _ I1 q1) fun us s2 ⟨xs, H2, I2, r2, q2⟩ => ⟨x :: xs, H2, I2, .cons r1 r2, q2⟩

/-- a tuple, a list of written items -/
def tTup (t : TA) : TE := fun σ H Q => t σ H fun xs H1 => xs.length ≤ sizeLine ∧ ∀ p, H1 p = none → Q (.ref p) (upd H1 p (.tup xs))
def tLst (t : TA) : TE := fun σ H Q => t σ H fun xs H1 => xs.length ≤ sizeLine ∧ ∀ p, H1 p = none → Q (.ref p) (upd H1 p (.lst xs))
theorem pe_tup {x1} (h : PA X es t) : PE X (.Tuple es x1 pos) (tTup t) := by
  intro pins s σ H Q I hq
  refine wpAny_Tuple_spliced (thn (h pos pins s σ H _ I hq) fun us s1 ⟨xs, H1, I1, r, z, q⟩ => ⟨by rw [← r.length]; exact z, ?_⟩)
  have hf : H1 s1.heap.objs.size = none := I1.hok.fresh (Nat.le_refl _)
  refine ⟨.ref s1.heap.objs.size, upd H1 s1.heap.objs.size (.tup xs), I1.laid (t' := s1.toks) (fun b u e => Heap.get?_push_of_some _ e) (Nat.le_refl _) ?_, rfl, q _ hf⟩
  exact ⟨z, us, r, ⟨_, Heap.get?_push_size _ rfl, rfl, _, rfl⟩, tup_nodict⟩
theorem pe_lst (h : PA X es t) : PE X (.List es pos) (tLst t) := by
  intro pins s σ H Q I hq
  refine wpAny_List_spliced (thn (h pos pins s σ H _ I hq) fun us s1 ⟨xs, H1, I1, r, z, q⟩ => ⟨by rw [← r.length]; exact z, ?_⟩)
  have hf : H1 s1.heap.objs.size = none := I1.hok.fresh (Nat.le_refl _)
  refine ⟨.ref s1.heap.objs.size, upd H1 s1.heap.objs.size (.lst xs), I1.laid (t' := s1.toks) (fun b u e => Heap.get?_push_of_some _ e) (Nat.le_refl _) ?_, rfl, q _ hf⟩
  exact ⟨z, us, 0, r, Heap.get?_push_size _ rfl⟩
end

/-! ### what a def promises -/
/-- a def's promise: the bound arguments in the parameters' order, the heap, the wanted end, the wanted exception -/
abbrev Sp := List V → Hp → VK → XK → Prop
/-- how an exception lies behind a call (file 08 gives it): the callers' frames, abstract heap and state ahead of the call, the wish, the exception, the state -/
abbrev CXT := List Env → Hp → Shared → XK → Value → Shared → Prop

/-- the state at a call -/
structure Env0 (P : Program) (w : World) (K : PySem.W.Frag) (mg : Str → Option Value) (base : Heap) (A : Around) (outer : List Env) (s : Shared) (H : Hp) : Prop where
  frames : A.frames = some outer
  mod : Mod K mg base
  bs : ∀ b o, base.get? b = some o → s.heap.get? b = some o ∧ H b = none
  bsz : base.objs.size ≤ s.heap.objs.size
  funs : s.heap.FunFrames base outer
  frf : ∀ b ∈ frs outer, H b = none
  hok : HOk P w H s.heap
  bare : AllBare s.gens
/-- a call's end -/
def CE (outer : List Env) (P : Program) (w : World) (H : Hp) (s : Shared) (Q : VK) (u : Value) (s' : Shared) : Prop :=
  ∃ v H', s'.os = s.os ∧ AllBare s'.gens ∧ Un (frs outer) [] H H' s.heap s'.heap ∧ HOk P w H' s'.heap ∧ RelV v u ∧ Q v H'
def CR (CX : CXT) (outer : List Env) (P : Program) (w : World) (H : Hp) (s : Shared) (Q : VK) (E : XK) (r : Result) (s' : Shared) : Prop :=
  match r with
  | .ok (.ret u) => CE outer P w H s Q u s'
  | .ok _ => False
  | .error e => CX outer H s E e s'
structure FnOk (P : Program) (w : World) (K : PySem.W.Frag) (mg : Str → Option Value) (base : Heap) (CX : CXT) (k : Nat) (f : Addr) (fd : FuncData) (ps : List Str) (sp : Sp) (cm : Bool := true) : Prop where
  len : ∀ vs H Q E, sp vs H Q E → vs.length = ps.length
  run : ∀ (A : Around) (outer : List Env) (s : Shared) (H : Hp) (args : Args) (us : List Value) (vs : List V) (Q : VK) (E : XK), Room k A cm → Env0 P w K mg base A outer s H → BindsTo s fd args (ps.zip us) → Vals vs us → sp vs H Q E →
    codeAny (model P w) A (.call (.ref f) args) (CR CX outer P w H s Q E) s
theorem Env0.make {P : Program} {w : World} {K : PySem.W.Frag} {mg : Str → Option Value} {base : Heap} {A : Around} {outer : List Env} {s : Shared} {H : Hp} (e : Env0 P w K mg base A outer s H) (C : Addr) (us : List Value) (kw : List (Str × Value)) :
    Env0 P w K mg base (A.under (.builtin "type.__call__" ⟨.ref C :: us, kw⟩)) outer s H := ⟨by first | exact e.frames | (simpa [Around.under, Code.envs, Code.isFrame, pushEnvs] using e.frames), e.mod, e.bs, e.bsz, e.funs, e.frf, e.hok, e.bare⟩
section
variable {X : Cx} {pins : List (Addr × Obj)} {σ : St} {H : Hp} {s s' : Shared}
/-- from a body: what a callee wants -/
theorem Inv.env0 (I : Inv X pins σ H s) : Env0 X.prog X.w X.K X.mg X.base X.A X.stack s H :=
  ⟨I.ok.frames, I.ok.mod, I.bs, Nat.le_trans I.ok.bsz I.sz, I.stack, I.stkFree, I.hok, I.bare⟩
/-- behind a call -/
theorem Inv.after {Q : VK} {u : Value} (I : Inv X pins σ H s) (h : CE X.stack X.prog X.w H s Q u s') : EP X pins σ Q u s' := by
  obtain ⟨v, H', os, bare, un, hok, r, q⟩ := h
  obtain ⟨hh, g, d, t, os'⟩ := s'
  obtain rfl : os' = s.os := os
  exact ⟨v, H', I.call (h' := hh) (g' := g) (d' := d) (t' := t) (ch := []) un hok bare (fun b z => absurd z (by simp)), r, q⟩
end

/-! ### calls -/
/-- f(..): the written arguments, then the defaults dvs; E: what is wanted of an exception -/
def tCall (sp : Sp) (dvs : List V) (E : XK) (t : TA) : TE := fun σ H Q => t σ H fun vs H1 => sp (vs ++ dvs) H1 Q E
/-- how the parameters are bound: us the positional arguments, kw the keywords' values by name, ds the defaults that fill up -/
def Binds (K : PySem.W.Frag) (fd : FuncData) (ps : List Str) (ds : List Value) : Prop :=
  ∀ (s : Shared) (us : List Value), K.In s.heap → (us ++ ds).length = ps.length → BindsTo s fd ⟨us, []⟩ (ps.zip (us ++ ds))
/-- every parameter is given -/
theorem Binds.all {K : PySem.W.Frag} {fd : FuncData} {ps : List Str} (h : ∀ us : List Value, us.length = ps.length → bindArgs fd ⟨us, []⟩ = pure (ps.zip us)) : Binds K fd ps [] := fun s us _ hl => by
  rw [List.append_nil] at hl ⊢
  exact .of_eq (h us hl)

/-- an exception of a callee reaches what this body wants of exceptions -/
def Passes (CX : CXT) (X : Cx) (E : XK) : Prop := ∀ (pins : List (Addr × Obj)) (σ : St) (H : Hp) (s : Shared) (e : Value) (s' : Shared), Inv X pins σ H s → CX X.stack H s E e s' → X.xe e s'

section
variable {cm : Bool} {X : Cx} {CX : CXT} {k : Nat} {f C : Addr} {fd : FuncData} {ps : List Str} {sp : Sp} {dvs : List V} {ds : List Value} {E : XK} {x m : Str} {p pos apos : Pos} {e o : Expr} {es : List Expr} {ta : TE} {t : TA}

/-- the callee runs -/
theorem run_fn {pins : List (Addr × Obj)} {σ : St} {H : Hp} {s : Shared} {Q : VK} {us : List Value} {vs : List V} (F : FnOk X.prog X.w X.K X.mg X.base CX k f fd ps sp cm) (hr : Room k X.A cm) (hb : Binds X.K fd ps ds) (hd : Vals dvs ds) (hx : Passes CX X E)
    (I : Inv X pins σ H s) (r : Vals vs us) (h : sp (vs ++ dvs) H Q E) : wpAny (model X.prog X.w) X.A (call (.ref f) us) (EP X pins σ Q) X.xe s := by
  have r2 : Vals (vs ++ dvs) (us ++ ds) := r.append hd
  have hl : (us ++ ds).length = ps.length := by rw [← r2.length]; exact F.len _ _ _ _ h
  refine wpAny_call (codeAny_mono (F.run X.A X.stack s H ⟨us, []⟩ (us ++ ds) (vs ++ dvs) Q E hr I.env0 (hb s us I.kIn hl) r2 h) fun r s' hq => ?_)
  cases r with
  | error e => exact hx pins σ H s e s' I hq
  | ok fl =>
    cases fl with
    | ret u => exact I.after hq
    | next => exact False.elim hq
    | brk => exact False.elim hq
    | cont => exact False.elim hq

theorem pe_call (F : FnOk X.prog X.w X.K X.mg X.base CX k f fd ps sp cm) (hr : Room k X.A cm) (hg : Gl X x) (hm : X.mg x = some (.ref f)) (hk : PySem.W.keepIn X.K (.ref f) = true) (hb : Binds X.K fd ps ds) (hd : Vals dvs ds) (hx : Passes CX X E)
    (ha : PA X (e :: es) t) (hdb : (x == ("__debug__" : Str)) = false := by decide) (he : starEach (e :: es) X.env = (false, eval e X.env) :: starEach es X.env := by rfl) (hpl : (backTo pos (starEach es X.env)).any (·.1) = false := by rfl) :
    PE X (.Call (.Name x p) (e :: es) [] pos) (tCall sp dvs E t) := by
  intro pins s σ H Q I h
  refine wpAny_Call_Name_kw (ld_glob I hg hm ?_ hdb)
  refine PySem.W.callWith_K (h₀ := X.base) I.ok.mod.kin hk (thn (ha pos pins s σ H _ I h) fun us s1 ⟨vs, H1, I1, r, q⟩ => ⟨I1.kIn, ?_⟩) he hpl
  exact run_fn F hr hb hd hx I1 r q
end

/-! ### keywords -/
section
variable {cm : Bool} {X : Cx} {CX : CXT} {k : Nat} {f C : Addr} {fd : FuncData} {ps ks : List Str} {sp : Sp} {E : XK} {x m : Str} {p pos apos kpos : Pos} {e o : Expr} {es : List Expr} {kws : List Keyword} {te ta : TE} {t tk : TA} {nm : Option Str}
variable {g : List Value → List Value → List Value} {gV : List V → List V → List V}
end

/-! ### a def's body keeps its promise -/
/-- names: the parameters first -/
structure FnScope (N P : List Str) (sc : Scope) : Prop where
  kind : sc.kind = .function
  co : sc.isCoroutine = false
  gen : sc.isGenerator = false
  nd : N.Nodup
  pre : N.take P.length = P
  par : ∀ x ∈ P, sc.names.lookup x = some .local ∨ sc.names.lookup x = some .cell
  nofree : ∀ y ∈ sc.names, y.2 ≠ .free

theorem bindL_out {kindOf : Str → Option NameKind} {x : Str} : ∀ {binds : List (Str × Value)} {m : Str → Option Value}, (∀ v, (x, v) ∉ binds) → bindL kindOf binds m x = m x
  | [], _, _ => rfl
  | (n, v) :: r, m, h => by
    unfold bindL
    rw [bindL_out fun w hw => h w (List.mem_cons_of_mem _ hw)]
    split
    · have : x ≠ n := by rintro rfl; exact h v List.mem_cons_self
      simp [this]
    · rfl
theorem bindC_out {kindOf : Str → Option NameKind} {x : Str} : ∀ {binds : List (Str × Value)} {m : Str → Option Value}, (∀ v, (x, v) ∉ binds) → bindC kindOf binds m x = m x
  | [], _, _ => rfl
  | (n, v) :: r, m, h => by
    unfold bindC
    rw [bindC_out fun w hw => h w (List.mem_cons_of_mem _ hw)]
    split
    · rfl
    · have : x ≠ n := by rintro rfl; exact h v List.mem_cons_self
      simp [this]
theorem bindL_get {kindOf : Str → Option NameKind} {x : Str} {v : Value} : ∀ {P : List Str} {vs : List Value} {i : Nat} {m : Str → Option Value}, P.Nodup → P[i]? = some x → vs[i]? = some v → kindOf x = some .local →
    bindL kindOf (P.zip vs) m x = some v
  | [], _, _, _, _, h, _, _ => by simp at h
  | _ :: _, [], _, _, _, _, h, _ => by simp at h
  | p :: P, w :: vs, 0, m, nd, h1, h2, hk => by
    simp at h1 h2; subst h1; subst h2
    show bindL kindOf ((p, w) :: P.zip vs) m p = _
    unfold bindL
    rw [bindL_out fun v hv => (List.nodup_cons.mp nd).1 (List.of_mem_zip hv).1, if_pos hk]
    simp
  | p :: P, w :: vs, i + 1, m, nd, h1, h2, hk => by
    show bindL kindOf ((p, w) :: P.zip vs) m x = _
    unfold bindL
    exact bindL_get (i := i) (List.nodup_cons.mp nd).2 (by simpa using h1) (by simpa using h2) hk
theorem bindC_get {kindOf : Str → Option NameKind} {x : Str} {v : Value} : ∀ {P : List Str} {vs : List Value} {i : Nat} {m : Str → Option Value}, P.Nodup → P[i]? = some x → vs[i]? = some v → kindOf x ≠ some .local →
    bindC kindOf (P.zip vs) m x = some v
  | [], _, _, _, _, h, _, _ => by simp at h
  | _ :: _, [], _, _, _, _, h, _ => by simp at h
  | p :: P, w :: vs, 0, m, nd, h1, h2, hk => by
    simp at h1 h2; subst h1; subst h2
    show bindC kindOf ((p, w) :: P.zip vs) m p = _
    unfold bindC
    rw [bindC_out fun v hv => (List.nodup_cons.mp nd).1 (List.of_mem_zip hv).1, if_neg hk]
    simp
  | p :: P, w :: vs, i + 1, m, nd, h1, h2, hk => by
    show bindC kindOf ((p, w) :: P.zip vs) m x = _
    unfold bindC
    exact bindC_get (i := i) (List.nodup_cons.mp nd).2 (by simpa using h1) (by simpa using h2) hk

/-- the names' values at the entry -/
def start (N : List Str) (vs : List V) : St := vs.map some ++ List.replicate (N.length - vs.length) none

/-- the context of a def's body, at its entry; an exception leaves the frame, then lies as CX says -/
def cxOf (CX : CXT) (P : Program) (w : World) (K : PySem.W.Frag) (mg : Str → Option Value) (base : Heap) (N : List Str) (qual : Str) (scope : Scope) (f : Addr) (cd : Value) (A : Around) (outer : List Env) (s : Shared) (H : Hp) (E : XK) (cm : Bool := true) : Cx where
  prog := P
  w := w
  K := K
  mg := mg
  base := base
  A := A.deeper (envOfC qual scope s.heap.objs.size f cd)
  N := N
  s₀ := s
  H₀ := H
  env := envOfC qual scope s.heap.objs.size f cd
  outer := outer
  stack := envOfC qual scope s.heap.objs.size f cd :: outer
  ex := []
  calm := cm
  fn := fun _ => true
  pn := []
  xe := fun e s' => wpAny (model P w) (A.deeper (envOfC qual scope s.heap.objs.size f cd)) (leaving (envOfC qual scope s.heap.objs.size f cd) e) (fun _ s'' => CX outer H s E e s'') (fun e' s'' => CX outer H s E e' s'') s'

theorem cell_has {sc : Scope} {n : Nat} {x : Str} (h : sc.names.lookup x = some .cell) : ∃ c, (cellsFrom n sc.names []).lookup x = some c := by
  have q := PySem.W.cellsFrom_some sc.names n [] (.inl h)
  exact Option.isSome_iff_exists.mp q

theorem inv_start {CX : CXT} {P : Program} {w : World} {K : PySem.W.Frag} {mg : Str → Option Value} {base : Heap} {N ps : List Str} {qual : Str} {scope : Scope} {f : Addr} {cd : Value} {A : Around} {outer : List Env} {s s1 : Shared} {H : Hp} {E : XK} {cm : Bool} {us : List Value} {vs : List V}
    (S : FnScope N ps scope) (hd : cm = true → A.handled = none) (e0 : Env0 P w K mg base A outer s H) (hl : vs.length = ps.length) (r : Vals vs us)
    (x : InCallC s s.heap.objs.size (bindL (envOfC qual scope s.heap.objs.size f cd).kindOf (ps.zip us) fun _ => none) (cellsFrom (s.heap.objs.size + 1) scope.names []) (bindC (envOfC qual scope s.heap.objs.size f cd).kindOf (ps.zip us) fun _ => none) s1) :
    Inv (cxOf CX P w K mg base N qual scope f cd A outer s H E cm) [] (start N vs) H s1 := by
  have hpl : ps.length ≤ N.length := by have := congrArg List.length S.pre; rw [List.length_take] at this; omega
  obtain ⟨h1, tk, rfl, hk⟩ := x.done
  have noA : ∀ b : Addr, b ∉ (cxOf CX P w K mg base N qual scope f cd A outer s H E cm).ex := fun b z => absurd (show b ∈ ([] : List Addr) from z) (by simp)
  refine ⟨⟨e0.mod, S.kind, rfl, rfl, Nat.le_refl _, fun y z c h1 h2 => ?_, fun y hy => ?_, fun y c _ h => ?_, hd, Around.frames_deeper e0.frames, .inr ⟨rfl, rfl⟩, fun b z => absurd z (noA b), e0.bs, e0.bsz, fun b _ _ => noA b, fun b z => absurd z (noA b), e0.funs, e0.frf⟩,
    rfl, e0.bare, Un.kept hk, ⟨_, x.toInCall.ns, fun i y v h1 h2 h3 => ?_⟩, fun y c h => ⟨_, x.cell y c h⟩, e0.hok.fresh (Nat.le_refl _), fun y c h => ?_, fun p hp => absurd (show p ∈ ([] : List (Addr × Obj)) from hp) (by simp), e0.hok.kept hk, ?_⟩
  · exact name_of_addr x.apart (PySem.mem_of_lookup h1) (PySem.mem_of_lookup h2)
  · have hy : scope.names.lookup y = some .cell ∨ scope.names.lookup y = some .free := hy
    rcases hy with hy | hy
    · exact cell_has hy
    · exact absurd rfl (S.nofree _ (PySem.mem_of_lookup hy))
  · exact Nat.le_of_lt (x.above y c (PySem.mem_of_lookup h))
  · have hi : i < vs.length := by
      unfold start at h2
      by_cases hi : i < vs.length
      · exact hi
      · rw [List.getElem?_append_right (by simpa using hi)] at h2
        rw [List.getElem?_replicate] at h2
        split at h2 <;> cases h2
    have ha : vs[i]? = some v := by
      unfold start at h2
      rw [List.getElem?_append_left (by simpa using hi), List.getElem?_map] at h2
      cases e : vs[i]? with
      | none => rw [e] at h2; cases h2
      | some a => rw [e] at h2; cases h2; rfl
    obtain ⟨u, hu, rv⟩ := r.get ha
    have hp : ps[i]? = some y := by
      rw [← S.pre, List.getElem?_take_of_lt (by omega)]; exact h1
    have ndP : ps.Nodup := by rw [← S.pre]; exact S.nd.sublist (List.take_sublist _ _)
    refine ⟨u, rv, ?_⟩
    rcases S.par y (List.mem_of_getElem? hp) with k | k
    · exact .inl ⟨k, bindL_get ndP hp hu k⟩
    · obtain ⟨c, e⟩ := cell_has (n := s.heap.objs.size + 1) k
      refine .inr ⟨.inl k, c, e, ?_⟩
      have q := x.cell y c e
      rw [bindC_get ndP hp hu (by show scope.names.lookup y ≠ _; rw [k]; decide)] at q
      exact q
  · exact e0.hok.fresh (Nat.le_of_lt (x.above y c (PySem.mem_of_lookup h)))
  · unfold start
    show _ = N.length
    rw [List.length_append, List.length_map, List.length_replicate]
    omega

/-- THE RULE: a def (or a method) of the text, by its body. The body's reading t is chosen for each entry; it is run at the parameters' values -/
theorem fn_of {CX : CXT} {P : Program} {w : World} {K : PySem.W.Frag} {mg : Str → Option Value} {base : Heap} {k : Nat} {f : Addr} {name qual : Str} {params : Arguments} {body : List Stmt} {scope : Scope} {dV kV doc pm cdv ct oc : Value} {an od : Option Addr}
    {osl : Array (Option Value)} {N ps : List Str} {sp : Sp} {cm : Bool} (lk : K.lookup f = some ⟨oc, od, .func (PySem.W.fnOf name qual params body scope dV kV doc pm an cdv ct), osl⟩) (hcd : PySem.W.codeIn K cdv qual = true) (S : FnScope N ps scope)
    (len : ∀ vs H Q E, sp vs H Q E → vs.length = ps.length)
    (hbody : ∀ (A : Around) (outer : List Env) (s : Shared) (H : Hp) (vs : List V) (Q : VK) (E : XK), Room k (A.deeper (envOfC qual scope s.heap.objs.size f cdv)) cm → sp vs H Q E →
      ∃ t, PSs (cxOf CX P w K mg base N qual scope f cdv A outer s H E cm) body t ∧ t { nx := fun _ H' => Q .non H', rt := Q } (start N vs) H) :
    FnOk P w K mg base CX (k + 1) f (PySem.W.fnOf name qual params body scope dV kV doc pm an cdv ct) ps sp cm := by
  refine ⟨len, fun A outer s H args us vs Q E hr e0 hb r hsp => ?_⟩
  have hl := len _ _ _ _ hsp
  have KX : K.In s.heap := e0.mod.kin.keeps fun b o e => (e0.bs b o e).1
  have lim : s.heap.NoLimit := e0.mod.nolimit.keeps fun b o e => (e0.bs b o e).1
  have hkind : ∀ y ∈ ps.zip us, scope.names.lookup y.1 = some .local ∨ (scope.names.lookup y.1 = some .cell ∧ ((cellsFrom (s.heap.objs.size + 1) scope.names []).lookup y.1).isSome = true) := fun ⟨n, v⟩ hy => by
    rcases S.par n (List.of_mem_zip hy).1 with q | q
    · exact .inl q
    · exact .inr ⟨q, PySem.W.cellsFrom_some _ _ _ (.inl q)⟩
  refine codeAny_call_function hr.depth (KX _ _ lk) rfl S.co S.gen rfl (PySem.W.codeRec_of KX hcd) (hb _ _ _ _ ?_)
  refine wpAny_newFunctionEnv_cells S.kind hkind fun env he s1 x => ?_
  subst he
  refine ⟨lim.keeps x.toInCall.keep, codeAny_func ?_⟩
  obtain ⟨t, ht, hq⟩ := hbody A outer s H vs Q E (hr.deeper _) hsp
  have I : Inv (cxOf CX P w K mg base N qual scope f cdv A outer s H E cm) [] (start N vs) H s1 := inv_start S hr.hd e0 hl r x
  refine wpAny_mono (ht [] s1 (start N vs) H _ I hq) (fun fl s' hs => ?_) fun e s' hs => hs
  have fin : ∀ {σ' : St} {H' : Hp} {v : V} {u : Value}, Inv (cxOf CX P w K mg base N qual scope f cdv A outer s H E cm) [] σ' H' s' → RelV v u → Q v H' → CE outer P w H s Q u s' :=
    fun {σ' H' v u} J rv q => ⟨v, H', J.os, J.bare, J.base, J.hok, rv, q⟩
  cases fl with
  | ret u =>
    obtain ⟨v, σ', H', J, rv, q⟩ := hs
    exact fin J rv q
  | next =>
    obtain ⟨σ', H', J, q⟩ := hs
    exact fin (v := V.non) (u := Value.none) J rfl q
  | brk =>
    obtain ⟨_, _, _, q⟩ := hs
    exact False.elim q
  | cont =>
    obtain ⟨_, _, _, q⟩ := hs
    exact False.elim q
end L2

namespace L2
open PySem PySem.Spec PyProof.Rows
section
variable {X : Cx} {x : Str} {p pos : Pos} {e : Expr} {es : List Expr} {t : TA} {id T : String} {r : List V → Hp → VK → Prop}

def tCB (r : List V → Hp → VK → Prop) (t : TA) : TE := fun σ H Q => t σ H fun vs H1 => r vs H1 Q
/-- f(e, ..), f a built-in function -/
theorem pe_callB (hc : CallR X (.builtin id) r) (hg : Gl X x) (hm : X.mg x = none) (hv : bootBuiltins x = some (.builtin id)) (ha : PA X (e :: es) t) (hn : x ≠ "__name__" := by decide) (hdb : (x == ("__debug__" : Str)) = false := by decide)
    (he : starEach (e :: es) X.env = (false, eval e X.env) :: starEach es X.env := by rfl) (hpl : (backTo pos (starEach es X.env)).any (·.1) = false := by rfl) : PE X (.Call (.Name x p) (e :: es) [] pos) (tCB r t) := by
  intro pins s σ H Q I h
  refine wpAny_Call_Name_kw (ld_blt I hg hm hv ?_ hn hdb)
  exact PyProof.Rows.callWith_builtin1 (thn (ha pos pins s σ H _ I h) fun us s1 ⟨vs, H1, I1, r1, q1⟩ => hc pins s1 σ H1 vs us Q I1 r1 q1) he hpl
/-- T(e, ..), T a built-in type -/
theorem pe_callTy (hc : CallR X (.type T) r) (hg : Gl X x) (hm : X.mg x = none) (hv : bootBuiltins x = some (.type T)) (ha : PA X (e :: es) t) (hn : x ≠ "__name__" := by decide) (hdb : (x == ("__debug__" : Str)) = false := by decide)
    (he : starEach (e :: es) X.env = (false, eval e X.env) :: starEach es X.env := by rfl) (hpl : (backTo pos (starEach es X.env)).any (·.1) = false := by rfl) : PE X (.Call (.Name x p) (e :: es) [] pos) (tCB r t) := by
  intro pins s σ H Q I h
  refine wpAny_Call_Name_kw (ld_blt I hg hm hv ?_ hn hdb)
  exact PyProof.Rows.callWith_type1 (thn (ha pos pins s σ H _ I h) fun us s1 ⟨vs, H1, I1, r1, q1⟩ => hc pins s1 σ H1 vs us Q I1 r1 q1) he hpl
end
end L2

namespace HT
open PySem PyProof.Rows

section
open PySem.SeqAt
open PySem.AutoSeq1 (wpAny_loadPart')
open PySem.MeetsSeq PySem.MeetsSeq2 PySem.MeetsSeq3

end

section
variable {prog : Program} {w : World} {A : Around} {E : Value → Shared → Prop} {s : Shared}

/-- t + u, t not empty -/
theorem cat_tup {t b : Addr} {vs ws : List Value} {Q : Value → Shared → Prop} (ht : IsTup s.heap t vs.toArray) (hb : IsTup s.heap b ws.toArray) (hv : vs ≠ [])
    (h1 : ws = [] → Q (.ref t) s) (h2 : ws ≠ [] → Q (.ref s.heap.objs.size) { s with heap := s.heap.push { cls := .type "tuple", data := .seq (vs ++ ws).toArray } })
    (hsz : vs.length + ws.length ≤ sizeLine) : wpAny (model prog w) A (binaryOp .Add (.ref t) (.ref b)) Q E s := by
  obtain ⟨⟨cls, dd, data, sl⟩, ho, hc, n, hd⟩ := id ht
  obtain ⟨⟨cls2, dd2, data2, sl2⟩, ho2, hc2, n2, hd2⟩ := id hb
  simp only at hc hd hc2 hd2
  subst hc hd hc2 hd2
  have e : vs.toArray ++ ws.toArray = (vs ++ ws).toArray := by simp
  by_cases hw : ws = []
  · exact concat_meets ⟨_, ho, rfl⟩ ⟨_, ho2, rfl⟩ noFill_tuple_add seq_tuple_add PySem.F.slot_tuple_add PySem.F.entry_tuple_add (PySem.F.args_tuple_add_2 _ _)
      (tuple_addW1 t b vs.toArray ws.toArray n n2 dd dd2 sl sl2 (by simpa using hv) (by simp [hw])) ⟨ho, ho2, h1 hw⟩
  · refine concat_meets ⟨_, ho, rfl⟩ ⟨_, ho2, rfl⟩ noFill_tuple_add seq_tuple_add PySem.F.slot_tuple_add PySem.F.entry_tuple_add (PySem.F.args_tuple_add_2 _ _)
      (tuple_addW2 t b vs.toArray ws.toArray n n2 dd dd2 sl sl2 (by simpa using hv) (by simpa using hw) (by rw [List.size_toArray, List.size_toArray]; exact hsz)) ⟨ho, ho2, ?_⟩
    rw [e]
    exact h2 hw

/-! ### t[a:b], not the whole -/
/-- a slice's bound as a place among n (d where it is left out) -/
def sIx (n d : Nat) : Option Int → Nat
  | none => d
  | some v => if v < 0 then (v + (n : Int)).toNat else min v.toNat n
theorem sIx_none (n d : Nat) : sIx n d none = d := rfl
theorem sIx_nat (n d k : Nat) : sIx n d (some (k : Int)) = min k n := by
  show (if (k : Int) < 0 then ((k : Int) + (n : Int)).toNat else min (k : Int).toNat n) = min k n
  rw [if_neg (by omega), Int.toNat_natCast]
theorem sIx_le (n d : Nat) (hd : d ≤ n) (o : Option Int) : sIx n d o ≤ n := by
  cases o with
  | none => exact hd
  | some v =>
    show (if v < 0 then (v + (n : Int)).toNat else min v.toNat n) ≤ n
    by_cases hv : v < 0
    · rw [if_pos hv]; omega
    · rw [if_neg hv]; exact Nat.min_le_right _ _
theorem clip_eq (v : Int) (n d : Nat) : (if v < 0 then max (v + (n : Int)) 0 else min v (n : Int)) = ((sIx n d (some v) : Nat) : Int) := by
  show (if v < 0 then max (v + (n : Int)) 0 else min v (n : Int)) = (((if v < 0 then (v + (n : Int)).toNat else min v.toNat n) : Nat) : Int)
  by_cases hv : v < 0
  · simp only [if_pos hv]; omega
  · simp only [if_neg hv]; omega
theorem adjust_gen (lo hi : Option Int) (n : Nat) : Builtin.Slice.sliceAdjust lo hi 1 (n : Int) = (((sIx n 0 lo : Nat) : Int), ((sIx n n hi : Nat) : Int)) := by
  have h1 : ¬ ((1 : Int) < 0) := by omega
  unfold Builtin.Slice.sliceAdjust
  simp only [h1, if_false]
  refine Prod.ext ?_ ?_
  · cases lo with
    | none => rfl
    | some v => exact clip_eq v n 0
  · cases hi with
    | none => rfl
    | some v => exact clip_eq v n n
theorem places_gen (i j : Nat) : Builtin.Slice.slicePlaces (i : Int) (j : Int) 1 = j - i := by
  unfold Builtin.Slice.slicePlaces
  have h1 : (1 : Int) > 0 := by omega
  simp only [h1, if_true, Int.ediv_one]
  split <;> omega
theorem slicePart_ {v : Value} {o : Option Int} {Q : Option Int → Shared → Prop} (p : IsPart v o) (h : Q o s) : wpAny (model prog w) A (Builtin.Slice.slicePartIndex v) Q E s := by
  cases p with
  | none => exact slicePart_none h
  | int i t => exact slicePart_int h
theorem sliceApplied_gen {sl : Addr} {vl vu : Value} {lo hi : Option Int} {n : Nat} {Q : Int × Int × Nat → Shared → Prop} (hs : s.heap.IsSliceOf sl vl vu .none) (pl : IsPart vl lo) (pu : IsPart vu hi)
    (h : Q (((sIx n 0 lo : Nat) : Int), 1, sIx n n hi - sIx n 0 lo) s) : wpAny (model prog w) A (Builtin.Slice.sliceApplied (.ref sl) (pure (n : Int))) Q E s := by
  obtain ⟨os, hos, hcs, hds⟩ := id hs
  unfold Builtin.Slice.sliceApplied Builtin.Slice.sliceFields
  refine wpAny_bind (wpAny_bind (wpAny_field hos hds (x := vl) rfl (wpAny_bind (wpAny_field hos hds (x := vu) rfl (wpAny_bind (wpAny_field hos hds (x := .none) rfl (wpAny_pure ?_)))))))
  refine wpAny_bind (slicePart_none ?_)
  show wpAny _ _ (if ((1 : Int) == 0) = true then _ else _) _ _ s
  rw [if_neg (by decide)]
  refine wpAny_bind (slicePart_ pl (wpAny_bind (slicePart_ pu (wpAny_bind (wpAny_pure ?_)))))
  show wpAny _ _ (match Builtin.Slice.sliceAdjust lo hi 1 (n : Int) with | (lo, hi) => pure (lo, (1 : Int), Builtin.Slice.slicePlaces lo hi 1)) _ _ s
  rw [adjust_gen lo hi n]
  show wpAny _ _ (pure (((sIx n 0 lo : Nat) : Int), (1 : Int), Builtin.Slice.slicePlaces ((sIx n 0 lo : Nat) : Int) ((sIx n n hi : Nat) : Int) 1)) _ _ s
  rw [places_gen]
  exact wpAny_pure h
theorem pick_gen (xs : Array Value) (i k : Nat) : ((List.range k).filterMap fun (m : Nat) => xs[((i : Int) + (m : Int) * 1).toNat]?).toArray = ((xs.toList.drop i).take k).toArray := by
  have e : (fun (m : Nat) => xs[((i : Int) + (m : Int) * 1).toNat]?) = fun m => xs[i + m]? := by
    funext m
    have : ((i : Int) + (m : Int) * 1).toNat = i + m := by omega
    rw [this]
  rw [e]
  have := pick_run xs i k
  rw [List.filterMap_map] at this
  have e2 : ((fun x => xs[x]?) ∘ fun x => i + x) = fun m => xs[i + m]? := rfl
  rw [e2] at this
  rw [this]

theorem getItem_tuple_cut {t sl : Addr} {items : Array Value} {vl vu : Value} {lo hi : Option Int} {Q : Value → Shared → Prop} (ht : IsTup s.heap t items) (hs : s.heap.IsSliceOf sl vl vu .none) (pl : IsPart vl lo) (pu : IsPart vu hi)
    (hw : ¬ (sIx items.size 0 lo = 0 ∧ sIx items.size items.size hi = items.size))
    (h : Q (.ref s.heap.objs.size) { s with heap := s.heap.push { cls := .type "tuple", data := .seq ((items.toList.drop (sIx items.size 0 lo)).take (sIx items.size items.size hi - sIx items.size 0 lo)).toArray } })
    (hsz : items.size ≤ sizeLine) : wpAny (model prog w) A (getItem (.ref t) (.ref sl)) Q E s := by
  have htake : sizeOk (.seq ((items.toList.drop (sIx items.size 0 lo)).take (sIx items.size items.size hi - sIx items.size 0 lo)).toArray) := by
    show ((items.toList.drop (sIx items.size 0 lo)).take (sIx items.size items.size hi - sIx items.size 0 lo)).toArray.size ≤ sizeLine
    rw [List.size_toArray, List.length_take, List.length_drop, Array.length_toList]
    omega
  have hj : sIx items.size items.size hi ≤ items.size := sIx_le _ _ (Nat.le_refl _) hi
  obtain ⟨os, hos, hcs, hds⟩ := id hs
  have hTs : s.TypeIs (.ref sl) "slice" := ⟨os, hos, hcs⟩
  unfold getItem
  try with_reducible refine wpAny_holding ?_
  first | refine wpAny_bind (wpAny_pure ?_) | skip
  refine wpAny_bind (wpAny_sequenceKey ht.typeIs (by decide) ?_)
  refine wpAny_bind (wpAny_callSpecial?_slot (name := Str.ofString "__getitem__") ht.typeIs PyProof.Rows.slot_tuple_getitem
    (wpAny_call_entry PyProof.Rows.slot_tuple_getitem ht.typeIs entry_tuple_getitem ?_ (args_tuple_getitem _ _)))
  show wpAny _ _ (Builtin.Tuple.tupleItemsOf (.ref t) >>= _) _ _ s
  refine wpAny_bind (tupleItemsOf_ ht ?_)
  refine wpAny_bind (wpAny_typeOf hTs ?_)
  rw [if_pos (by decide)]
  refine wpAny_bind (sliceApplied_gen hs pl pu ?_)
  have hno : ¬ ((((sIx items.size 0 lo : Nat) : Int) == 0 && (1 : Int) == 1 && (sIx items.size items.size hi - sIx items.size 0 lo) == items.size) = true) := by
    intro q
    rw [Bool.and_eq_true, Bool.and_eq_true] at q
    have q1 : ((sIx items.size 0 lo : Nat) : Int) = 0 := eq_of_beq q.1.1
    have q2 : sIx items.size items.size hi - sIx items.size 0 lo = items.size := eq_of_beq q.2
    exact hw ⟨by omega, by omega⟩
  show wpAny _ _ (if (((sIx items.size 0 lo : Nat) : Int) == 0 && (1 : Int) == 1 && (sIx items.size items.size hi - sIx items.size 0 lo) == items.size) = true then _ else _) _ _ s
  rw [if_neg hno, pick_gen]
  first
    | exact wpAny_bind (m := Builtin.Tuple.tupleExact _) (wpAny_newObj_type (wpAny_pure ⟨_, rfl, wpAny_pure h⟩) htake)
    | exact wpAny_bind (m := Builtin.Tuple.tupleExact _) (wpAny_newObj_type (wpAny_bind (wpAny_pure (wpAny_pure ⟨_, rfl, wpAny_pure h⟩))) htake)
    | exact wpAny_bind (wpAny_bind (m := Builtin.Tuple.tupleExact _) (wpAny_newObj_type (wpAny_pure (wpAny_pure ⟨_, rfl, wpAny_pure h⟩)) htake))
    | exact wpAny_bind (wpAny_bind (m := Builtin.Tuple.tupleExact _) (wpAny_newObj_type (wpAny_pure ⟨_, rfl, wpAny_pure h⟩) htake))
end
end HT

namespace L2
open PySem PySem.Spec PyProof.Rows

/-! ### the parts of a slice -/
abbrev TO := St → Hp → (Option Int → Hp → Prop) → Prop
/-- a slice's part (left out, or an int) -/
def PO (X : Cx) (e : Option Expr) (t : TO) : Prop :=
  ∀ (pins : List (Addr × Obj)) (s : Shared) (σ : St) (H : Hp) (Q : Option Int → Hp → Prop), Inv X pins σ H s → t σ H Q →
    wpAny (model X.prog X.w) X.A (evalPart e X.env) (fun u s' => ∃ o H', Inv X pins σ H' s' ∧ IsPart u o ∧ Q o H') X.xe s
def tNoPart : TO := fun _ H Q => Q none H
def tPart (t : TE) : TO := fun σ H Q => t σ H fun x H1 => ∃ i, x = .int i ∧ Q (some i) H1

theorem intsAre_of {ns : List Int} : ∀ {us : List Value}, Vals (ns.map V.int) us → IntsAre us ns := by
  induction ns with
  | nil => intro us r; rw [List.map_nil] at r; cases r; exact .nil
  | cons n ns ih =>
    intro us r
    rw [List.map_cons] at r
    cases r with
    | cons r1 r2 =>
      obtain ⟨t, e⟩ := r1
      subst e
      exact .cons n t (ih r2)

section
variable {X : Cx} {e : Expr} {te : TE} {lo hi : Option Expr} {tl th : TO} {pos p2 : Pos}

theorem po_none : PO X none tNoPart := by
  intro pins s σ H Q I h
  rw [evalPart_none]
  exact wpAny_pure ⟨none, H, I, .none, h⟩
theorem po_some (h : PE X e te) : PO X (some e) (tPart te) := by
  intro pins s σ H Q I hw
  rw [evalPart_some]
  refine thn (h pins s σ H _ I hw) fun u s1 ⟨x, H1, I1, r1, q1⟩ => ?_
  obtain ⟨i, rfl, q⟩ := q1
  obtain ⟨t, rfl⟩ := r1
  exact ⟨some i, H1, I1, .int i t, q⟩

/-- what a slice of a value is, by values: the slice object stands at sl -/
def SlR (X : Cx) (r : V → Option Int → Option Int → Hp → VK → Prop) : Prop :=
  ∀ (pins : List (Addr × Obj)) (s : Shared) (σ : St) (H : Hp) (x : V) (v vl vu : Value) (lo hi : Option Int) (sl : Addr) (Q : VK), Inv X pins σ H s → RelV x v → s.heap.IsSliceOf sl vl vu .none → IsPart vl lo → IsPart vu hi → r x lo hi H Q →
    ∃ T id, typeLookup (.type T) "__getitem__" = pure (some (.builtin id)) ∧ s.TypeIs v T ∧ wpAny (model X.prog X.w) X.A (getItem v (.ref sl)) (EP X pins σ Q) X.xe s
theorem SlR.or {r r' : V → Option Int → Option Int → Hp → VK → Prop} (h : SlR X r) (h' : SlR X r') : SlR X (fun x lo hi H Q => r x lo hi H Q ∨ r' x lo hi H Q) := by
  intro pins s σ H x v vl vu lo hi sl Q I rx hs pl pu q
  rcases q with q | q
  · exact h pins s σ H x v vl vu lo hi sl Q I rx hs pl pu q
  · exact h' pins s σ H x v vl vu lo hi sl Q I rx hs pl pu q
def tSl (r : V → Option Int → Option Int → Hp → VK → Prop) (te : TE) (tl th : TO) : TE := fun σ H Q => te σ H fun x H1 => tl σ H1 fun l H2 => th σ H2 fun u H3 => r x l u H3 Q
/-- a[lo:hi], any a -/
theorem pe_slice {r : V → Option Int → Option Int → Hp → VK → Prop} (hr : SlR X r) (he : PE X e te) (hl : PO X lo tl) (hu : PO X hi th) : PE X (.Subscript e (.Slice lo hi none p2) pos) (tSl r te tl th) := by
  intro pins s σ H Q I h
  refine Subscript_ (thn (he pins s σ H _ I h) fun v s1 ⟨x, H1, I1, r1, q1⟩ => ?_)
  refine wpAny_Slice (thn (hl pins s1 σ H1 _ I1 q1) fun vl s2 ⟨l, H2, I2, pl, q2⟩ => thn (hu pins s2 σ H2 _ I2 q2) fun vu s3 ⟨u, H3, I3, pu, q3⟩ => ?_)
  rw [evalPart_none]
  refine wpAny_pure ?_
  have I4 : Inv X pins σ H3 { s3 with heap := s3.heap.push { cls := .type "slice", data := .fields #[vl, vu, .none] } } := I3.kept (t' := s3.toks) fun b ob q => Heap.get?_push_of_some _ q
  obtain ⟨T, id, hT, ht, hg⟩ := hr pins { s3 with heap := s3.heap.push { cls := .type "slice", data := .fields #[vl, vu, .none] } } σ H3 x v vl vu l u s3.heap.objs.size Q I4 r1 (Heap.IsSliceOf.new ..) pl pu q3
  show wpAny (model X.prog X.w) X.A (subscriptTail e (.Slice lo hi none p2) v (.ref s3.heap.objs.size)) (EP X pins σ Q) X.xe { s3 with heap := s3.heap.push { cls := .type "slice", data := .fields #[vl, vu, .none] } }
  exact tail_any (ops := [.ref s3.heap.objs.size, v]) ht hT hg (by with_unfolding_all rfl)

/-- the items of xs[lo:hi] -/
def cutV (xs : List V) (lo hi : Option Int) : List V := (xs.drop (HT.sIx xs.length 0 lo)).take (HT.sIx xs.length xs.length hi - HT.sIx xs.length 0 lo)
theorem cutV_length (xs : List V) (lo hi : Option Int) : (cutV xs lo hi).length ≤ xs.length := by
  unfold cutV
  rw [List.length_take, List.length_drop]
  omega
/-- t[lo:hi], not the whole of it (the whole would be t itself) -/
def rSlT (K : PySem.W.Frag) : V → Option Int → Option Int → Hp → VK → Prop := fun x lo hi H Q => ∃ a xs, x = .ref a ∧ SqT K H a xs ∧
  ¬ (HT.sIx xs.length 0 lo = 0 ∧ HT.sIx xs.length xs.length hi = xs.length) ∧ ∀ p, H p = none → Q (.ref p) (upd H p (.tup (cutV xs lo hi)))
theorem sl_tup : SlR X (rSlT X.K) := by
  intro pins s σ H x v vl vu lo hi sl Q I rx hs pl pu h
  obtain ⟨a, xs, rfl, hx, hw, q⟩ := h
  cases rx
  obtain ⟨its, r, ht, hz⟩ := I.tuple hx
  have hlen : its.toArray.size = xs.length := by rw [List.size_toArray]; exact r.length.symm
  refine ⟨"tuple", _, PyProof.Rows.slot_tuple_getitem.lookup, ht.typeIs, ?_⟩
  refine HT.getItem_tuple_cut ht hs pl pu (by rw [hlen]; exact hw) ?_ (by rw [hlen]; exact hz)
  rw [hlen]
  refine ⟨.ref s.heap.objs.size, _, I.laid (t' := s.toks) (o := .tup (cutV xs lo hi)) (fun b ob q => Heap.get?_push_of_some _ q) (Nat.le_refl _) ?_, rfl, q _ (I.hok.fresh (Nat.le_refl _))⟩
  exact ⟨Nat.le_trans (cutV_length xs lo hi) hz, _, (r.drop (HT.sIx xs.length 0 lo)).take (HT.sIx xs.length xs.length hi - HT.sIx xs.length 0 lo), IsTup.new _ _, tup_nodict⟩

/-! ### t < u, t + u -/
/-- t + u, t not empty: u empty gives t itself -/
def rCatT (K : PySem.W.Frag) : R2 := fun x y H Q => ∃ a b xs ys, x = .ref a ∧ y = .ref b ∧ SqT K H a xs ∧ SqT K H b ys ∧ xs ≠ [] ∧ xs.length + ys.length ≤ sizeLine ∧
  (ys = [] → Q (.ref a) H) ∧ (ys ≠ [] → ∀ p, H p = none → Q (.ref p) (upd H p (.tup (xs ++ ys))))
theorem Vals.nil_iff {xs : List V} {us : List Value} (r : Vals xs us) : us = [] ↔ xs = [] := by
  cases r with
  | nil => simp
  | cons _ _ => simp
theorem op_catT : OpR X (binaryOp .Add) (rCatT X.K) := by
  intro pins s σ H x y v u Q I rx ry h
  obtain ⟨a, b, xs, ys, rfl, rfl, ha, hb, hx, hz, q1, q2⟩ := h
  cases rx
  cases ry
  obtain ⟨its, r1, p1, _⟩ := I.tuple ha
  obtain ⟨its2, r2, p2, _⟩ := I.tuple hb
  refine HT.cat_tup p1 p2 (fun z => hx (r1.nil_iff.mp z)) (fun z => ⟨.ref a, H, I, rfl, q1 (r2.nil_iff.mp z)⟩) (fun z => ?_) (by rw [← r1.length, ← r2.length]; exact hz)
  refine ⟨.ref s.heap.objs.size, _, I.laid (t' := s.toks) (o := .tup (xs ++ ys)) (fun b ob q => Heap.get?_push_of_some _ q) (Nat.le_refl _) ?_, rfl, q2 (fun w => z (r2.nil_iff.mpr w)) _ (I.hok.fresh (Nat.le_refl _))⟩
  exact ⟨by rw [List.length_append]; exact hz, _, r1.append r2, IsTup.new _ _, tup_nodict⟩
end
end L2

namespace L2
open PySem PySem.Spec PyProof.Rows

/-! ### places -/
/-- the place that an index of any sign means -/
def ixN (n : Nat) (i : Int) : Option Nat := if 0 ≤ i then (if i < n then some i.toNat else none) else if -(n : Int) ≤ i then some (i + n).toNat else none
def atI {α : Type} (xs : List α) (i : Int) : Option α := (ixN xs.length i).bind fun j => xs[j]?
theorem ixN_seq {n : Nat} {i : Int} {j : Nat} (h : ixN n i = some j) : seqIndex? i n = some j ∧ j < n ∧ -(n : Int) ≤ i ∧ i < n := by
  unfold ixN at h
  by_cases h0 : 0 ≤ i
  · rw [if_pos h0] at h
    by_cases h1 : i < n
    · rw [if_pos h1] at h
      have e : i.toNat = j := Option.some.inj h
      exact ⟨by rw [seqIndex_of h0 h1, e], by omega, by omega, h1⟩
    · rw [if_neg h1] at h; cases h
  · rw [if_neg h0] at h
    by_cases h1 : -(n : Int) ≤ i
    · rw [if_pos h1] at h
      have e : (i + n).toNat = j := Option.some.inj h
      exact ⟨by rw [seqIndex_neg (by omega) h1, e], by omega, h1, by omega⟩
    · rw [if_neg h1] at h; cases h
theorem atI_get {α : Type} {xs : List α} {i : Int} {v : α} (h : atI xs i = some v) : ∃ j, seqIndex? i xs.length = some j ∧ xs[j]? = some v ∧ j < xs.length ∧ -(xs.length : Int) ≤ i ∧ i < xs.length := by
  unfold atI at h
  cases e : ixN xs.length i with
  | none => rw [e] at h; cases h
  | some j =>
    rw [e] at h
    obtain ⟨h1, h2, h3, h4⟩ := ixN_seq e
    exact ⟨j, h1, h, h2, h3, h4⟩
theorem atI_nat {α : Type} {xs : List α} {j : Nat} {v : α} (h : xs[j]? = some v) : atI xs (j : Int) = some v := by
  have hj : j < xs.length := (List.getElem?_eq_some_iff.mp h).1
  have e : ixN xs.length (j : Int) = some j := by
    unfold ixN
    rw [if_pos (by omega), if_pos (by omega)]; simp
  unfold atI; rw [e]; exact h
/-! ### what may be subscripted -/
/-- what stands as an index of a plain subscript -/
def PlainIx (b : Expr) : Prop := ∀ o i, subscripted b false o i = operate [o, i] (getItem o i)
/-- a subscript by values -/
def IxR (X : Cx) (r : R2) : Prop :=
  ∀ (value slice : Expr) (pins : List (Addr × Obj)) (s : Shared) (σ : St) (H : Hp) (x y : V) (v u : Value) (Q : VK), Inv X pins σ H s → RelV x v → RelV y u → r x y H Q →
    subscripted slice false v u = operate [v, u] (getItem v u) → wpAny (model X.prog X.w) X.A (subscriptTail value slice v u) (EP X pins σ Q) X.xe s
/-- a call of a builtin's method by values: the receiver, the arguments -/
def MtR (X : Cx) (id : String) (r : V → List V → Hp → VK → Prop) : Prop :=
  ∀ (pins : List (Addr × Obj)) (s : Shared) (σ : St) (H : Hp) (x : V) (xs : List V) (v : Value) (us : List Value) (Q : VK), Inv X pins σ H s → RelV x v → Vals xs us → r x xs H Q →
    wpAny (model X.prog X.w) X.A (call (.builtin id) (v :: us)) (EP X pins σ Q) X.xe s
section
variable {X : Cx} {a b : Expr} {ta tb : TE} {pos : Pos}
/-- a[b] -/
theorem pe_ix {r : R2} (hr : IxR X r) (ha : PE X a ta) (hb : PE X b tb) (hs : PlainIx b) : PE X (.Subscript a b pos) (tOp r ta tb) := by
  intro pins s σ H Q I h
  exact Subscript_ (binT ha hb I h fun v u s2 x y H2 I2 rx ry q => hr a b pins s2 σ H2 x y v u Q I2 rx ry q (hs _ _))

def rIxL (K : PySem.W.Frag) : R2 := fun x y H Q => ∃ p xs i v, x = .ref p ∧ y = .int i ∧ SqL K H p xs ∧ atI xs i = some v ∧ Q v H
def rIxT (K : PySem.W.Frag) : R2 := fun x y H Q => ∃ p xs i v, x = .ref p ∧ y = .int i ∧ SqT K H p xs ∧ atI xs i = some v ∧ Q v H
theorem ix_list : IxR X (rIxL X.K) := by
  intro value slice pins s σ H x y v u Q I rx ry h hs
  obtain ⟨p, xs, i, z, rfl, rfl, hq, he, q⟩ := h
  cases rx
  obtain ⟨t, rfl⟩ := ry
  obtain ⟨its, r, pl, hz⟩ := I.list hq
  obtain ⟨j, h1, h2, h3, h4, h5⟩ := atI_get he
  obtain ⟨w, ew, rw'⟩ := r.get h2
  have hl := r.length
  have hn := line63
  have fin : EP X pins σ Q w s := ⟨z, H, I, rw', q⟩
  by_cases h0 : 0 ≤ i
  · have hj : i.toNat = j := by
      rw [seqIndex_of h0 h5] at h1
      exact Option.some.inj h1
    exact item_listR pl.isList h0 (by omega) (by rw [hj]; simpa using ew) fin hs
  · have hj : (i + (its.toArray.size : Int)).toNat = j := by
      rw [seqIndex_neg (by omega) h4] at h1
      rw [List.size_toArray, ← hl]
      exact Option.some.inj h1
    exact subscriptTail_builtinR (x := w) pl.isList.typeIs slot_list_getitem.lookup
      (wpAny_getItem_list_neg (Q := fun r s' => r = w ∧ EP X pins σ Q r s') pl.isList (by omega) (by rw [List.size_toArray] <;> omega) (by omega) (by rw [hj]; simpa using ew) ⟨rfl, fin⟩) hs
theorem ix_tup : IxR X (rIxT X.K) := by
  intro value slice pins s σ H x y v u Q I rx ry h hs
  obtain ⟨p, xs, i, z, rfl, rfl, hq, he, q⟩ := h
  cases rx
  obtain ⟨t, rfl⟩ := ry
  obtain ⟨its, r, pl, hz⟩ := I.tuple hq
  obtain ⟨j, h1, h2, h3, h4, h5⟩ := atI_get he
  obtain ⟨w, ew, rw'⟩ := r.get h2
  have hl := r.length
  have hn := line63
  have fin : EP X pins σ Q w s := ⟨z, H, I, rw', q⟩
  exact subscriptTail_builtinR (x := w) pl.typeIs slot_tuple_getitem.lookup
    (getItem_tuple (j := j) (Q := fun r s' => r = w ∧ EP X pins σ Q r s') pl (by omega) (by omega) (by rw [List.size_toArray, ← hl]; exact h1) (by simpa using ew) ⟨rfl, fin⟩) hs
/-! ### xs[i] = v, any sign -/
/-- the list's object behind a store -/
theorem mapSeq_set (its : List Value) (n j : Nat) (u : Value) : Obj.mapSeq (·.setIfInBounds j u) { cls := .type "list", data := .seq its.toArray n } = { cls := .type "list", data := .seq (its.set j u).toArray n } := by
  simp [Obj.mapSeq]
theorem Inv.lst {pins : List (Addr × Obj)} {σ : St} {H : Hp} {s : Shared} {p : Addr} {xs : List V} (I : Inv X pins σ H s) (h : H p = some (.lst xs)) :
    ∃ (its : List Value) (n : Nat), Vals xs its ∧ s.heap.get? p = some { cls := .type "list", data := .seq its.toArray n } ∧ xs.length ≤ sizeLine := by
  obtain ⟨z, its, n, r, e⟩ := I.hok p _ h
  exact ⟨its, n, r, e, z⟩
/-- the list at p is written by an update of its object -/
theorem Inv.lstUpd {pins : List (Addr × Obj)} {σ : St} {H : Hp} {s : Shared} {p : Addr} {xs ys : List V} {its its' : List Value} {n n' : Nat} {f : Obj → Obj} (I : Inv X pins σ H s) (h : H p = some (.lst xs))
    (ho : s.heap.get? p = some { cls := .type "list", data := .seq its.toArray n }) (hf : f { cls := .type "list", data := .seq its.toArray n } = { cls := .type "list", data := .seq its'.toArray n' }) (r : Vals ys its') (hz : ys.length ≤ sizeLine) (t : Nat) :
    Inv X pins σ (upd H p (.lst ys)) { s with heap := s.heap.update p f, toks := t } := by
  have e : (s.heap.update p f).get? p = some { cls := .type "list", data := .seq its'.toArray n' } := by
    rw [Heap.get?_update_self f ho (by rw [hf] <;> rfl), hf]
  refine I.write (x := p) (e := p) (by rw [h]; trivial) (.inl rfl) (fun b u hb q => (Heap.get?_update_other _ _ (Ne.symm hb)).trans q) ⟨_, e⟩ ?_
  exact ⟨hz, its', n', r, e⟩
def rSetL : V → V → V → Hp → (Hp → Prop) → Prop := fun o i v H Q => ∃ p xs k j, o = .ref p ∧ i = .int k ∧ H p = some (.lst xs) ∧ ixN xs.length k = some j ∧ Q (upd H p (.lst (xs.set j v)))
theorem set_list : PSet X rSetL := by
  intro pins s σ H o i v ov iv u Q I ro ri rv h
  obtain ⟨p, xs, k, j, rfl, rfl, hp, hj, q⟩ := h
  cases ro
  obtain ⟨t, rfl⟩ := ri
  obtain ⟨its, n, r, ho, hz⟩ := I.lst hp
  obtain ⟨h1, h2, h3, h4⟩ := ixN_seq hj
  have hl := r.length
  have hn := line63
  have I' : Inv X pins σ (upd H p (.lst (xs.set j v))) { s with heap := s.heap.update p (Obj.mapSeq (·.setIfInBounds j u)) } :=
    I.lstUpd hp ho (mapSeq_set its n j u) (r.set rv j) (by rw [List.length_set]; exact hz) s.toks
  by_cases h0 : 0 ≤ k
  · have hk : k.toNat = j := by
      rw [seqIndex_of h0 h4] at h1
      exact Option.some.inj h1
    exact PySem.W.ki_setAt ho h0 (by omega) (by rw [List.size_toArray, ← hl]; exact h4) (by rw [hk]; exact ⟨_, I', q⟩)
  · have hk : (k + (its.toArray.size : Int)).toNat = j := by
      rw [seqIndex_neg (by omega) h3] at h1
      rw [List.size_toArray, ← hl]
      exact Option.some.inj h1
    exact PySem.W.ki_setBack ho (by omega) (by rw [List.size_toArray, ← hl]; exact h3) (by omega) (by rw [hk]; exact ⟨_, I', q⟩)

/-! ### slices -/
/-! ### in, not in: flat items -/
def flatV : V → Bool
  | .non => true
  | .bl _ => true
  | .int _ => true
  | .str _ => true
  | _ => false
/-- == of flat values -/
def eqV : V → V → Bool
  | .non, .non => true
  | .bl a, .bl b => a == b
  | .bl a, .int b => (if a then 1 else 0) == b
  | .int a, .bl b => a == (if b then 1 else 0)
  | .int a, .int b => a == b
  | .str a, .str b => a == b
  | _, _ => false
theorem eqAt_V {A : Around} {s : Shared} {y x : V} {u v : Value} (ry : RelV y u) (rx : RelV x v) (fy : flatV y = true) (fx : flatV x = true) : SeqAt.EqAt A s u v (eqV y x) := by
  cases y with
  | non =>
    cases ry
    cases x with
    | non => cases rx; exact SeqAt.EqAt.same _
    | bl b => cases rx; exact SeqAt.EqAt.none_bool b
    | int b => obtain ⟨t, rfl⟩ := rx; exact SeqAt.EqAt.none_int b t
    | str b => obtain ⟨t, rfl⟩ := rx; exact SeqAt.EqAt.none_str b t
    | _ => exact absurd (show false = true from fx) Bool.false_ne_true
  | bl a =>
    cases ry
    cases x with
    | non => cases rx; exact SeqAt.EqAt.bool_none a
    | bl b => cases rx; exact SeqAt.EqAt.bool_bool a b
    | int b => obtain ⟨t, rfl⟩ := rx; exact SeqAt.EqAt.bool_int a b t
    | str b => obtain ⟨t, rfl⟩ := rx; exact SeqAt.EqAt.bool_str a b t
    | _ => exact absurd (show false = true from fx) Bool.false_ne_true
  | int a =>
    obtain ⟨t', rfl⟩ := ry
    cases x with
    | non => cases rx; exact SeqAt.EqAt.int_none a t'
    | bl b => cases rx; exact SeqAt.EqAt.int_bool a t' b
    | int b => obtain ⟨t, rfl⟩ := rx; exact SeqAt.EqAt.int_int a t' b t
    | str b => obtain ⟨t, rfl⟩ := rx; exact SeqAt.EqAt.int_str a t' b t
    | _ => exact absurd (show false = true from fx) Bool.false_ne_true
  | str a =>
    obtain ⟨t', rfl⟩ := ry
    cases x with
    | non => cases rx; exact SeqAt.EqAt.str_none a t'
    | bl b => cases rx; exact SeqAt.EqAt.str_bool a t' b
    | int b => obtain ⟨t, rfl⟩ := rx; exact SeqAt.EqAt.str_int a t' b t
    | str b => obtain ⟨t, rfl⟩ := rx; exact SeqAt.EqAt.str_str a t' b t
    | _ => exact absurd (show false = true from fx) Bool.false_ne_true
  | _ => exact absurd (show false = true from fy) Bool.false_ne_true
/-- the items' answers, read off the values (a value's own answer does not lean on its token) -/
def eqU (x : V) (u : Value) : Bool := match u with
  | .none => eqV .non x
  | .bool b => eqV (.bl b) x
  | .int i _ => eqV (.int i) x
  | .str z _ => eqV (.str z) x
  | _ => false
theorem eqU_of {x y : V} {u : Value} (r : RelV y u) (f : flatV y = true) : eqU x u = eqV y x := by
  cases y with
  | non => cases r; rfl
  | bl b => cases r; rfl
  | int i => obtain ⟨t, rfl⟩ := r; rfl
  | str z => obtain ⟨t, rfl⟩ := r; rfl
  | _ => exact absurd (show false = true from f) Bool.false_ne_true
theorem mem_eqAt {A : Around} {s : Shared} {x : V} {v : Value} (rx : RelV x v) (fx : flatV x = true) : ∀ {xs : List V} {us : List Value}, Vals xs us → xs.all flatV = true → ∀ u ∈ us, SeqAt.EqAt A s u v (eqU x u)
  | _, _, .nil, _ => fun u hu => by cases hu
  | y :: xs, u :: us, .cons r t, f => fun u' hu => by
    rw [List.all_cons, Bool.and_eq_true] at f
    rcases List.mem_cons.mp hu with rfl | hu
    · rw [eqU_of r f.1]; exact eqAt_V r rx f.1 fx
    · exact mem_eqAt rx fx t f.2 u' hu
/-! ### len, list(x), tuple(x) of any list or tuple that is read -/
theorem call_len_seq : CallR X (.builtin "len") (fun xs H Q => ∃ p ys, xs = [.ref p] ∧ (SqL X.K H p ys ∨ SqT X.K H p ys) ∧ Q (.int ys.length) H) := by
  intro pins s σ H xs us Q I r h
  obtain ⟨p, ys, rfl, hq, q⟩ := h
  obtain ⟨u, rfl, rx⟩ := vals1 r
  cases rx
  have hn := line63
  rcases hq with hq | hq
  · obtain ⟨its, r', pl, hz⟩ := I.list hq
    have hlen := r'.length
    exact Calls.call_len_list pl.isList (by simp only [List.size_toArray] <;> omega) ⟨.int ys.length, H, I.tok _, ⟨s.toks + 1, by rw [List.size_toArray, hlen]⟩, q⟩
  · obtain ⟨its, r', pl, hz⟩ := I.tuple hq
    have hlen := r'.length
    exact len_tuple pl (by simp only [List.size_toArray] <;> omega) ⟨.int ys.length, H, I.tok _, ⟨s.toks + 1, by rw [List.size_toArray, hlen]⟩, q⟩
theorem call_tuple_of : CallR X (.type "tuple") (fun xs H Q => ∃ p ys, xs = [.ref p] ∧ ((SqL X.K H p ys ∧ ∀ l, H l = none → Q (.ref l) (upd H l (.tup ys))) ∨ (SqT X.K H p ys ∧ Q (.ref p) H))) := by
  intro pins s σ H xs us Q I r h
  obtain ⟨p, ys, rfl, h⟩ := h
  obtain ⟨u, rfl, rx⟩ := vals1 r
  cases rx
  rcases h with ⟨hq, q⟩ | ⟨hq, q⟩
  · obtain ⟨its, r', pl, hz⟩ := I.list hq
    have hlen := r'.length
    refine call_tuple_list pl.isList (fun h' kp => ?_) (by simp only [List.size_toArray] <;> omega)
    have I1 : Inv X pins σ H { s with heap := h' } := I.kept (t' := s.toks) kp
    have I2 : Inv X pins σ (upd H h'.objs.size (.tup ys)) { s with heap := h'.push { cls := .type "tuple", data := .seq its.toArray } } :=
      I1.laid (t' := s.toks) (fun b o e => Heap.get?_push_of_some _ e) (Nat.le_refl _) (show ObjOk X.prog X.w _ _ _ (.tup ys) from ⟨hz, its, r', IsTup.new _ _, tup_nodict⟩)
    exact ⟨.ref h'.objs.size, _, I2, rfl, q _ (I1.hok.fresh (Nat.le_refl _))⟩
  · obtain ⟨its, r', pl, hz⟩ := I.tuple hq
    exact call_tuple_same pl ⟨.ref p, H, I, rfl, q⟩

/-! ### the call of a builtin's method: o.m(..) -/
/-- the value is of that builtin type -/
def tyV (K : PySem.W.Frag) (T : String) (x : V) (H : Hp) : Prop := match x with
  | .str _ => T = "str"
  | .int _ => T = "int"
  | .ref p => (T = "list" ∧ ∃ xs, SqL K H p xs) ∨ (T = "tuple" ∧ ((∃ o, K.lookup p = some o ∧ o.cls = .type "tuple" ∧ o.dict = none) ∨ ∃ xs, H p = some (.tup xs))) ∨
      (T = "dict" ∧ ((∃ kvs, H p = some (.dK kvs)) ∨ ∃ kvs, H p = some (.dT kvs))) ∨ (T = "set" ∧ ∃ S n, H p = some (.set S n))
  | _ => False
theorem tyV_is {pins : List (Addr × Obj)} {σ : St} {H : Hp} {s : Shared} {T : String} {x : V} {v : Value} (I : Inv X pins σ H s) (r : RelV x v) (ty : tyV X.K T x H) :
    s.TypeIs v T ∧ ∀ a, v = .ref a → ∃ ob, s.heap.get? a = some ob ∧ ob.dict = none := by
  cases x with
  | str z =>
    obtain ⟨t, rfl⟩ := r
    cases (show T = "str" from ty)
    exact ⟨typeIs_str s z t, fun _ e => nomatch e⟩
  | int i =>
    obtain ⟨t, rfl⟩ := r
    cases (show T = "int" from ty)
    exact ⟨typeIs_int s i t, fun _ e => nomatch e⟩
  | ref p =>
    cases r
    rcases ty with ⟨rfl, xs, hq⟩ | ⟨rfl, ⟨o, hk, hc, hd⟩ | ⟨xs, hk⟩⟩ | ⟨rfl, hk⟩ | ⟨rfl, S, n, hk⟩
    · obtain ⟨its, _, pl, _⟩ := I.list hq
      refine ⟨pl.isList.typeIs, fun a e => ?_⟩
      cases e
      obtain ⟨o, n, e, c, hd, _⟩ := pl
      exact ⟨o, e, hd⟩
    · refine ⟨⟨o, I.kIn p o hk, hc⟩, fun a e => ?_⟩
      cases e
      exact ⟨o, I.kIn _ o hk, hd⟩
    · obtain ⟨_, _, _, ⟨o, e, hc, _⟩, nd⟩ := (show ObjOk X.prog X.w H s.heap p (.tup xs) from I.hok p _ hk)
      refine ⟨⟨o, e, hc⟩, fun a e2 => ?_⟩
      cases e2
      exact ⟨o, e, nd o e⟩
    · have z : ∃ o, s.heap.get? p = some o ∧ o.ExactDict := by
        rcases hk with ⟨kvs, hk⟩ | ⟨kvs, hk⟩
        · obtain ⟨_, _, _, _, o, _, _, e, ex, _⟩ := I.hok p _ hk
          exact ⟨o, e, ex⟩
        · obtain ⟨_, _, _, _, o, _, _, e, ex, _⟩ := I.hok p _ hk
          exact ⟨o, e, ex⟩
      obtain ⟨o, e, ex⟩ := z
      refine ⟨⟨o, e, ex.1⟩, fun a e2 => ?_⟩
      cases e2
      exact ⟨o, e, ex.2.1⟩
    · obtain ⟨o, _, _, _, e, ex, _⟩ := I.hok p _ hk
      refine ⟨⟨o, e, ex.1⟩, fun a e2 => ?_⟩
      cases e2
      exact ⟨o, e, ex.2.1⟩
  | _ => exact False.elim ty
def tBM (K : PySem.W.Frag) (T : String) (r : V → List V → Hp → VK → Prop) (to : TE) (t : TA) : TE := fun σ H Q => to σ H fun x H1 => tyV K T x H1 ∧ t σ H1 fun xs H2 => r x xs H2 Q
variable {o e : Expr} {es : List Expr} {to : TE} {t : TA} {name : Str} {apos cpos : Pos} {T id : String} {r : V → List V → Hp → VK → Prop}
theorem pe_bm (pa : PlainAttrs T) (slot : Slot T name id) (hty : typeOf (.builtin id) = pure (.type "method_descriptor")) (hm : MtR X id r) (ho : PE X o to) (ha : PA X (e :: es) t)
    (hbase : attributeBase o name X.env (eval o X.env) = eval o X.env := by rfl)
    (hfew : ((backTo cpos (starEach (e :: es) X.env)).all (fun x => !x.1) && (backToKw cpos (keywordEach [] X.env)).all (fun x => x.1.isSome)
      && decide ((e :: es).length + ([] : List Keyword).length + (if ([] : List Keyword).isEmpty then 0 else 1) < 30)) = true := by rfl)
    (hline : (apos.endLine == cpos.line) = true := by rfl) (hs : starEach (e :: es) X.env = (false, eval e X.env) :: starEach es X.env := by rfl) (hplain : (backTo cpos (starEach es X.env)).any (·.1) = false := by rfl) :
    PE X (.Call (.Attribute o name apos) (e :: es) [] cpos) (tBM X.K T r to t) := by
  intro pins s σ H Q I h
  refine wpAny_Call_method_late hbase hfew hline rfl (thn (ho pins s σ H _ I h) fun v s1 ⟨x, H1, I1, r1, ty, q1⟩ => ?_)
  obtain ⟨h1, h2⟩ := tyV_is I1 r1 ty
  refine ⟨T, id, pa, slot, hty, h1, h2, ?_⟩
  have hA := ha cpos pins s1 σ H1 _ I1 q1
  rw [hs] at hA ⊢
  refine Calls.callWith_builtin (by show (false || (backTo cpos (starEach es X.env)).any (·.1)) = false; rw [hplain] <;> rfl) (Calls.evalArgs_plain ?_)
  exact thn hA fun us s2 ⟨vs, H2, I2, r2, q2⟩ => hm pins s2 σ H2 x vs v us Q I2 r1 r2 q2
/- xs.append(e), list.index on a module's tuple .. are MtR facts of 06m -/
end
end L2

namespace L2
open PySem PySem.Spec PyProof.Rows

def MtM (X : Cx) (id : String) (r : V → List V → Hp → VK → Prop) : Prop :=
  ∀ (pins : List (Addr × Obj)) (s : Shared) (σ : St) (H : Hp) (x : V) (xs : List V) (v : Value) (us : List Value) (Q : VK), Inv X pins σ H s → RelV x v → Vals xs us → r x xs H Q →
    wpAny (model X.prog X.w) X.A (call (.builtin id) (v :: us)) (EP X pins σ Q) X.xe s

/-! ### lists of values -/
theorem Vals.one : ∀ {x : V} {us : List Value}, Vals [x] us → ∃ u, us = [u] ∧ RelV x u
  | _, _, .cons r .nil => ⟨_, rfl, r⟩
theorem Vals.eraseIdx : ∀ {xs : List V} {us : List Value} (i : Nat), Vals xs us → Vals (xs.eraseIdx i) (us.eraseIdx i)
  | _, _, _, .nil => .nil
  | _, _, 0, .cons _ t => t
  | _, _, i + 1, .cons r t => .cons r (Vals.eraseIdx i t)
theorem len_erase {α : Type} : ∀ (l : List α) (i : Nat), (l.eraseIdx i).length ≤ l.length
  | [], _ => Nat.le_refl _
  | _ :: _, 0 => Nat.le_succ _
  | _ :: r, i + 1 => Nat.succ_le_succ (len_erase r i)
section
variable {X : Cx} {pins : List (Addr × Obj)} {σ : St} {H : Hp} {s : Shared} {l b : Addr} {xs ys zs : List V}

/-! ### the two steps: a tracked list is rewritten, a new list is laid -/
theorem Inv.lset {its its' : List Value} {n : Nat} {f : Array Value → Array Value} {t' : Nat} (I : Inv X pins σ H s) (hH : H l = some (.lst xs))
    (e : s.heap.get? l = some { cls := .type "list", data := .seq its.toArray n }) (hf : f its.toArray = its'.toArray) (hv : Vals ys its') (hz : ys.length ≤ sizeLine) :
    Inv X pins σ (upd H l (.lst ys)) { s with heap := s.heap.update l (Obj.mapSeq f), toks := t' } := by
  have q := PySem.IsL.update e f
  rw [hf] at q
  refine I.write (x := l) (e := l) (by rw [hH]; exact trivial) (.inl rfl) (fun b' u hb hu => (Heap.get?_update_other s.heap (Obj.mapSeq f) (Ne.symm hb)).trans hu) ⟨_, q⟩ ?_
  exact ⟨hz, its', _, hv, q⟩
theorem Inv.lnew {its : List Value} {t' : Nat} (I : Inv X pins σ H s) (hv : Vals ys its) (hz : ys.length ≤ sizeLine) :
    Inv X pins σ (upd H s.heap.objs.size (.lst ys)) { s with heap := s.heap.push { cls := .type "list", data := .seq its.toArray }, toks := t' } :=
  I.laid (fun _ _ q => Heap.get?_push_of_some _ q) (Nat.le_refl _) ⟨hz, its, 0, hv, Heap.get?_push_size _ rfl⟩
theorem Inv.fresh (I : Inv X pins σ H s) : H s.heap.objs.size = none := I.hok.fresh (Nat.le_refl _)
theorem Inv.lstM (I : Inv X pins σ H s) (hH : H l = some (.lst xs)) : xs.length ≤ sizeLine ∧ ∃ (its : List Value) (n : Nat), Vals xs its ∧ xs.length = its.length ∧ s.heap.get? l = some { cls := .type "list", data := .seq its.toArray n } := by
  obtain ⟨z, its, n, r, e⟩ := I.hok l _ hH
  exact ⟨z, its, n, r, r.length, e⟩

theorem notLongL {n : Nat} (h : n ≤ sizeLine) : Builtin.List.listTooLong n = false := by
  unfold Builtin.List.listTooLong
  exact decide_eq_false (by omega)
end

section
variable {X : Cx}

/-! ### methods -/
def rAppend : V → List V → Hp → VK → Prop := fun x vs H Q => ∃ l xs y, x = .ref l ∧ vs = [y] ∧ H l = some (.lst xs) ∧ xs.length < sizeLine ∧ Q .non (upd H l (.lst (xs ++ [y])))
theorem mt_append : MtM X "list.append" rAppend := by
  intro pins s σ H x vs v us Q I rx rv h
  obtain ⟨l, xs, y, rfl, rfl, hH, hz, q⟩ := h
  cases rx
  obtain ⟨u, rfl, ru⟩ := rv.one
  obtain ⟨z, its, n, r, hl, e⟩ := I.lstM hH
  refine call_meets F.slot_list_append ⟨_, e, rfl⟩ F.entry_list_append (F.args_list_append_2 _ _) (PySem.list_append l its.toArray n u (by rw [List.size_toArray]; omega)) ⟨e, ?_⟩
  refine ⟨.non, _, I.lset (its' := its ++ [u]) hH e (by simp) (r.append (.cons ru .nil)) ?_, rfl, q⟩
  rw [List.length_append, List.length_singleton]
  omega

def rExtend : V → List V → Hp → VK → Prop := fun x vs H Q => ∃ l b xs zs, x = .ref l ∧ vs = [.ref b] ∧ H l = some (.lst xs) ∧ H b = some (.lst zs) ∧ xs.length + zs.length ≤ sizeLine ∧ Q .non (upd H l (.lst (xs ++ zs)))
theorem mt_extend : MtM X "list.extend" rExtend := by
  intro pins s σ H x vs v us Q I rx rv h
  obtain ⟨l, b, xs, zs, rfl, rfl, hH, hB, hz, q⟩ := h
  cases rx
  obtain ⟨u, rfl, ru⟩ := rv.one
  cases ru
  obtain ⟨z, its, n, r, hl, e⟩ := I.lstM hH
  obtain ⟨z2, its2, n2, r2, hl2, e2⟩ := I.lstM hB
  have hsz : its.toArray.size + its2.toArray.size ≤ sizeLine := by rw [List.size_toArray, List.size_toArray]; omega
  have hlong : ¬ (!its.toArray.isEmpty && Builtin.List.listTooLong (its.toArray.size + its2.toArray.size)) = true := by
    rw [notLongL hsz, Bool.and_false]
    exact Bool.false_ne_true
  refine call_meets F.slot_list_extend ⟨_, e, rfl⟩ F.entry_list_extend (F.args_list_extend_2 _ _)
    (AutoSeq1.list_extend_list_list_0 l its.toArray n b its2.toArray n2 hlong (by rw [List.size_toArray]; omega) (by omega)) ⟨e, e2, ?_⟩
  refine ⟨.non, _, I.lset (its' := its ++ its2) hH e (by simp) (r.append r2) ?_, rfl, q⟩
  rw [List.length_append]
  omega

def rPopAt : V → List V → Hp → VK → Prop := fun x vs H Q => ∃ l xs i k y, x = .ref l ∧ vs = [.int i] ∧ H l = some (.lst xs) ∧ -(2 ^ 63) ≤ i ∧ i < 2 ^ 63 ∧ seqIndex? i xs.length = some k ∧ xs[k]? = some y ∧ Q y (upd H l (.lst (xs.eraseIdx k)))
theorem mt_popAt : MtM X "list.pop" rPopAt := by
  intro pins s σ H x vs v us Q I rx rv h
  obtain ⟨l, xs, i, k, y, rfl, rfl, hH, h1, h2, hk, hy, q⟩ := h
  cases rx
  obtain ⟨u, rfl, ru⟩ := rv.one
  obtain ⟨t, rfl⟩ := ru
  obtain ⟨z, its, n, r, hl, e⟩ := I.lstM hH
  obtain ⟨w, hw, rw'⟩ := r.get hy
  refine call_meets F.slot_list_pop ⟨_, e, rfl⟩ F.entry_list_pop (F.args_list_pop_2 _ _)
    (MeetsSeq.list_pop_at l its.toArray n i t k w (fitsIndex_both h1 h2) (by rw [List.size_toArray, ← hl]; exact hk) (by rw [← Array.getElem?_toList]; exact hw) (by rw [List.size_toArray]; omega)) ⟨e, ?_⟩
  refine ⟨y, _, I.lset (its' := its.eraseIdx k) hH e ?_ (r.eraseIdx k) ?_, rw', q⟩
  · show its.toArray.eraseIdxIfInBounds k = (its.eraseIdx k).toArray
    rw [List.eraseIdxIfInBounds_toArray]
  · have := len_erase xs k
    omega

/-! ### list + list, list += list, list * int -/
def rCat : R2 := fun x y H Q => ∃ l b xs zs, x = .ref l ∧ y = .ref b ∧ H l = some (.lst xs) ∧ H b = some (.lst zs) ∧ xs.length + zs.length ≤ sizeLine ∧ ∀ p, H p = none → Q (.ref p) (upd H p (.lst (xs ++ zs)))
theorem op_cat : OpR X (binaryOp .Add) rCat := by
  intro pins s σ H x y v u Q I rx ry h
  obtain ⟨l, b, xs, zs, rfl, rfl, hH, hB, hz, q⟩ := h
  cases rx
  cases ry
  obtain ⟨z, its, n, r, hl, e⟩ := I.lstM hH
  obtain ⟨z2, its2, n2, r2, hl2, e2⟩ := I.lstM hB
  refine PySem.P.add_list e e2 ?_ (by rw [List.size_toArray, List.size_toArray]; omega)
  have ea : its.toArray ++ its2.toArray = (its ++ its2).toArray := by simp
  rw [ea]
  exact ⟨.ref _, _, I.lnew (t' := s.toks) (r.append r2) (by rw [List.length_append]; omega), rfl, q _ I.fresh⟩
/-! ### del xs[i] -/
end

/-! ### xs[a:b] = ys -/
section
variable {prog : Program} {w : World} {A : Around} {E : Value → Shared → Prop} {s : Shared}
end

section
variable {X : Cx}
end
end L2

namespace Att
open PySem PySem.W PySem.Calls PyProof.Rows

/-! ### the script -/
theorem ints_of_wellAll {P : Params} {h : Heap} : ∀ (ns : List Int) (vs : List Value), WellAll P h vs (ns.map WData.int) → IntsAre vs ns := by
  intro ns
  induction ns with
  | nil =>
    intro vs w
    rw [List.map_nil] at w
    cases w
    exact .nil
  | cons n ns ih =>
    intro vs w
    rw [List.map_cons] at w
    cases w with
    | cons a b =>
      cases a
      exact .cons _ _ (ih _ b)

theorem script_of {l : OpenLaw} {n : Nat} (hn : l.most = some n) {P : Params} {h : Heap} {args : List WData} {vals : List Value}
    (hpre : l.row.toRowW.claim.pre args = true) (hwl : WellAll P h vals args) :
    ∃ a vs ns, vals = [Value.ref a] ∧ args = [WData.list (ns.map WData.int)] ∧ h.get? a = some { cls := .type "list", data := .seq vs.toArray } ∧ IntsAre vs ns ∧ ns.length ≤ n := by
  have hsh : WShape.hasAll [] args [.list .int] = true := (pre_splitW hpre).1
  have hc : l.pre.holds [] { args := args } = true := (pre_splitW hpre).2
  obtain ⟨d, r, rfl, h1, h2⟩ := hasAllW_cons hsh
  obtain rfl := hasAllW_nil h2
  obtain ⟨xs, rfl, h3⟩ := hasW_list h1
  obtain ⟨ns, rfl⟩ := items_int h3
  have hlen : ns.length ≤ n := by
    unfold OpenLaw.pre at hc
    have h4 : (WTm.not (.lt (.lit (.int (n : Int))) (.len (.arg 0)))).holds [] { args := [.list (ns.map .int)] } = true := by
      have h4 := (holds_andW hc).1
      rw [hn] at h4
      exact h4
    have h5 := condW_of h4 (w_not (w_lt w_lit (w_len_list (w_arg rfl))))
    rw [List.length_map] at h5
    refine Nat.le_of_not_lt fun q => ?_
    have q' : (n : Int) < ((ns.length : Nat) : Int) := by omega
    first
      | (rw [decide_eq_true q'] at h5; exact absurd h5 (by decide))
      | (simp at h5; omega)
  cases hwl with
  | cons w1 w2 =>
    cases w2
    cases w1 with
    | list ho hall => exact ⟨_, _, ns, rfl, rfl, ho, ints_of_wellAll ns _ hall, hlen⟩

theorem post_true (l : OpenLaw) (args : List WData) : l.row.toRowW.claim.post args (.bool true) args = true :=
  postW_of (r := l.row.toRowW) (X := (true == true))
    (show WShape.has [] (.bool true) .bool = true by first | rfl | decide | simp [WShape.has, WShape.arms, WShape.armsAll])
    (show (WTm.eq .res (.lit (.bool true))).value [] { args := args, res := some (.bool true), after := args } = some (.bool (true == true)) from w_eq_bool (w_res rfl) w_lit) rfl

/-! ### the attachment: holds_open's last premise (the goal 'hc' behind k_head) from a wpAny of the law's body -/
/-- the same from a codeAny of the CALL (for a layer whose function contracts speak of calls) -/
theorem attach_call {l : OpenLaw} {n : Nat} {q : Program} {loose : List Str} {XP : (Str → Option Value) → Heap → Prop} {YP : World → Heap → Prop} {d : DefRec}
    (hn : l.most = some n) (hdf : d.params.defaults = [])
    (call : ∀ (w : World) (s₀ s₁ : Shared) (mg mb : Str → Option Value) (fa : Addr) (o : Obj) (pm cd doc : Value) (a : Addr) (vs : List Value) (ns : List Int),
      Ground q loose [] XP w s₀ mg mb s₁.heap → YP w s₁.heap →
      s₁.heap.get? fa = some o → o.data = .func (docDef d.name d.params d.body d.scope pm cd doc) → s₁.heap.CodeRec cd d.name → mg d.name = some (.ref fa) →
      s₁.heap.get? a = some { cls := .type "list", data := .seq vs.toArray } → IntsAre vs ns → ns.length ≤ n → s₁.gens = #[] →
      codeAny (model l.prog w) callerA (.call (.ref fa) ⟨[.ref a], []⟩) (fun r s' => r = .ok (.ret (.bool true)) ∧ OldK s₁.heap s'.heap ∧ s'.os = s₁.os ∧ AllBare s'.gens) s₁) :
    WalkO q loose XP YP l.row.toRowW d [] (fun f vs => PySem.call f vs) := by
  intro w s₀ s₁ mg mb G Y fa o pm cd doc dV kV ho hd hcd hD hmg hg args vals as hpre hlay hrd hwl hlo
  obtain rfl : dV = .none := Dflts.none hD hdf
  obtain rfl : kV = .none := Dflts.noKw hD
  obtain ⟨a, vs, ns, rfl, rfl, hobj, hints, hlen⟩ := script_of hn hpre hwl
  refine enter_call (codeAny_mono (call w s₀ s₁ mg mb fa o pm cd doc a vs ns G Y ho (fd_plain hd) hcd hmg hobj hints hlen hg) fun r s' hq => ?_)
  obtain ⟨rfl, h2, h3, h4⟩ := hq
  exact ⟨.inl ⟨.bool true, .bool true, [], rfl, fun _ => rfl, .bool true, post_true l _, fun _ => ⟨List.Pairwise.nil, fun _ hm => (nomatch hm)⟩⟩, h2, h3, h4⟩

/-! ### rules over ANY heap (no ledger) from facts about the written part K: the library's own take a ledger (News) for what they write -/
section
variable {prog : Program} {w : World} {A : Around} {E : Value → Shared → Prop} {s : Shared} {K : Frag}

/-! the whole heap as the ledger: makes every rule that writes through a ledger a rule over any heap -/
def ledger (h : Heap) (L d : Addr) : List (Addr × Obj) := (List.range h.objs.size).filterMap fun a => if a = L ∨ a = d then none else (h.get? a).map fun o => (a, o)
end
end Att

namespace L2
open PySem PySem.Spec PyProof.Rows

theorem vals_ints : ∀ {vs : List Value} {ns : List Int}, IntsAre vs ns → Vals (ns.map V.int) vs
  | _, _, .nil => .nil
  | _, _, .cons n t h => .cons ⟨t, rfl⟩ (vals_ints h)

/-- nothing is tracked but the script, known to the object (or it is an object of the module) -/
def Only (H : Hp) : Prop := ∀ b, H b = none ∨ ∃ o xs, H b = some (.frz o (.lst xs))

/-- THE HEAD: the law's promise, at the heap behind the top. F, the promise of the law's def, may use that base is part of the heap (so K.In base, base.Ns mainGlobals mg stand in Mod) -/
theorem law_call {P : Program} {w : World} {K : PySem.W.Frag} {mg mb : Str → Option Value} {CX : CXT} {k : Nat} {fa a : Addr} {fd : FuncData} {x : Str} {sp : Sp} {s₁ : Shared} {vs : List Value} {ns : List Int}
    (KX : K.In s₁.heap) (hns : s₁.heap.Ns mainGlobals mg) (hb : s₁.heap.Ns builtinsNs mb) (hbb : ∀ x : Str, x ≠ "__name__" → mb x = bootBuiltins x) (hlim : s₁.heap.NoLimit) (hg : s₁.gens = #[])
    (ha : s₁.heap.get? a = some { cls := .type "list", data := .seq vs.toArray }) (hi : IntsAre vs ns) (hl : ns.length ≤ sizeLine) (hr : Room k callerA)
    (F : ∀ base : Heap, K.In base → base.Ns mainGlobals mg → FnOk P w K mg base CX k fa fd [x] sp) (hbind : ∀ (s : Shared) (u : Value), BindsTo s fd ⟨[u], []⟩ [(x, u)])
    (hsp : ∀ H : Hp, Only H → SqL K H a (ns.map V.int) → sp [.ref a] H (fun v _ => v = .bl true) fun _ _ _ => False)
    (hCX : ∀ H e s', CX [] H s₁ (fun _ _ _ => False) e s' → False) :
    codeAny (model P w) callerA (.call (.ref fa) ⟨[.ref a], []⟩) (fun r s' => r = .ok (.ret (.bool true)) ∧ OldK s₁.heap s'.heap ∧ s'.os = s₁.os ∧ AllBare s'.gens) s₁ := by
  have rv := vals_ints hi
  have lenV := hi.length
  -- from an abstract heap in which nothing but the script may be tracked
  have core : ∀ H : Hp, Only H → SqL K H a (ns.map V.int) → HOk P w H s₁.heap → (∀ b, H b ≠ none → b = a) → (H a ≠ none → K.lookup a = none) →
      codeAny (model P w) callerA (.call (.ref fa) ⟨[.ref a], []⟩) (fun r s' => r = .ok (.ret (.bool true)) ∧ OldK s₁.heap s'.heap ∧ s'.os = s₁.os ∧ AllBare s'.gens) s₁ := by
    intro H hO hS hok hA hK
    have base_of : ∀ {b : Addr} {o : Obj}, s₁.heap.get? b = some o → H b = none → (hidT s₁.heap H).get? b = some o := fun e n => hidT_get e n
    have noA : ∀ {b : Addr} {o : Obj} {es : Array DictEntry} {ep : Nat}, s₁.heap.get? b = some o → o.data = .dict es ep → H b = none := fun {b o es ep} e d => by
      cases q : H b with
      | none => rfl
      | some u =>
        have e' : b = a := hA b (by rw [q]; simp)
        subst e'
        rw [ha] at e; cases e
        have d' : Data.seq vs.toArray _ = Data.dict es ep := d
        cases d'
    have nsK : ∀ {b : Addr} {m : Str → Option Value}, s₁.heap.Ns b m → (hidT s₁.heap H).Ns b m := fun {b m} ⟨o, es, ep, e, d, r⟩ => ⟨o, es, ep, base_of e (noA e d), d, r⟩
    have hKb : K.In (hidT s₁.heap H) := fun b o e => base_of (KX b o e) (by
      cases q : H b with
      | none => rfl
      | some u =>
        have e' : b = a := hA b (by rw [q]; simp)
        subst e'
        rw [hK (by rw [q]; simp)] at e; cases e)
    have hM : Mod K mg (hidT s₁.heap H) := ⟨hKb, nsK hns, ⟨mb, nsK hb, hbb⟩, let ⟨mc, h1, h2⟩ := hlim; ⟨mc, nsK h1, h2⟩⟩
    have e0 : Env0 P w K mg (hidT s₁.heap H) callerA [] s₁ H := ⟨rfl, hM, fun b o e => of_hidT e, Nat.le_of_eq (hidT_size _ _), trivial, fun b hb => absurd (show b ∈ ([] : List Addr) from hb) (by simp), hok, .of_eq hg⟩
    refine codeAny_mono ((F _ hKb (nsK hns)).run callerA [] s₁ H ⟨[.ref a], []⟩ [.ref a] [.ref a] _ _ hr e0 (hbind s₁ (.ref a)) (.cons rfl .nil) (hsp H hO hS)) fun r s' h => ?_
    cases r with
    | error e => exact (hCX H e s' h).elim
    | ok fl =>
      cases fl with
      | next => exact False.elim h
      | brk => exact False.elim h
      | cont => exact False.elim h
      | ret u =>
        obtain ⟨v, H', os, bare, un, hok', r', q⟩ := h
        have q' : v = .bl true := q
        subst q'
        obtain rfl : u = Value.bool true := r'
        refine ⟨rfl, OldK.of_keep fun b o e => ?_, os, bare⟩
        cases q : H b with
        | none => exact un.keep b o e q (by intro z; exact absurd (show b ∈ ([] : List Addr) from z) (by simp)) (by simp)
        | some u =>
          rcases hO b with z | ⟨ob, xs, z⟩
          · rw [q] at z; cases z
          · have z2 := un.frzs b ob _ z
            obtain ⟨e1, _⟩ := hok b _ z
            obtain ⟨e2, _⟩ := hok' b _ z2
            rw [e] at e1; cases e1
            exact e2
  cases hk : K.lookup a with
  | some o =>
    -- the script is one of the module's own objects
    have e := KX a o hk
    rw [ha] at e
    cases e
    refine core (fun _ => none) (fun _ => .inl rfl) (.inr ⟨_, vs.toArray, _, hk, rfl, rfl, rfl, by rw [List.size_toArray, lenV]; exact hl, by simpa using rv⟩) (fun b u z => by have z' : (none : Option HO) = some u := z; cases z') (fun b z => absurd rfl z) fun z => absurd rfl z
  | none =>
    refine core (fun b => if b = a then some (.frz { cls := .type "list", data := .seq vs.toArray } (.lst (ns.map V.int))) else none) (fun b => ?_) (.inl (.inr ⟨{ cls := .type "list", data := .seq vs.toArray }, if_pos rfl⟩)) (fun b u z => ?_) (fun b z => ?_) fun _ => hk
    · by_cases hb : b = a
      · exact .inr ⟨_, _, if_pos hb⟩
      · exact .inl (if_neg hb)
    · by_cases hb : b = a
      · have z' := (if_pos hb).symm.trans z
        cases z'
        subst hb
        exact ⟨ha, by rw [List.length_map]; exact hl, vs, _, rv, ha⟩
      · have z' := (if_neg hb).symm.trans z
        cases z'
    · by_cases hb : b = a
      · exact hb
      · exact absurd (if_neg hb) z
end L2

namespace L2
open PySem PySem.Spec PyProof.Rows

/-- the goal that k_head leaves (case hc), from the law's promise. F gives the function object fd (K's own) once, then the promise over every base -/
theorem walk_of {l : PySem.W.OpenLaw} {n k : Nat} {q : Program} {loose : List Str} {XP : (Str → Option Value) → Heap → Prop} {YP : World → Heap → Prop} {d : DefRec} {K : Params → PySem.W.Frag} {CX : World → CXT} {sp : World → Sp} {x : Str}
    (hn : l.most = some n) (hn2 : n ≤ sizeLine) (hdf : d.params.defaults = []) (hr : Room k callerA)
    (hY : ∀ (w : World) (h : Heap), YP w h → (K w.params).In h)
    (F : ∀ (w : World) (mg : Str → Option Value) (fa : Addr) (h : Heap), (K w.params).In h → h.Ns mainGlobals mg → mg d.name = some (.ref fa) →
      ∃ fd : FuncData, (∀ (s : Shared) (u : Value), BindsTo s fd ⟨[u], []⟩ [(x, u)]) ∧
        ∀ base : Heap, (K w.params).In base → base.Ns mainGlobals mg → FnOk l.prog w (K w.params) mg base (CX w) k fa fd [x] (sp w))
    (hsp : ∀ (w : World) (H : Hp) (a : Addr) (ns : List Int), ns.length ≤ n → Only H → SqL (K w.params) H a (ns.map V.int) → sp w [.ref a] H (fun v _ => v = .bl true) fun _ _ _ => False)
    (hCX : ∀ (w : World) (H : Hp) (s : Shared) (e : Value) (s' : Shared), CX w [] H s (fun _ _ _ => False) e s' → False) :
    PySem.W.WalkO q loose XP YP l.row.toRowW d [] (fun f vs => PySem.call f vs) := by
  refine Att.attach_call hn hdf fun w s₀ s₁ mg mb fa o pm cd doc a vs ns G Y ho hd hcd hmg hobj hints hlen hg => ?_
  have KX := hY w _ Y
  obtain ⟨fd, hb, hF⟩ := F w mg fa _ KX G.T.g hmg
  exact law_call KX G.T.g G.T.b G.T.builtins G.T.nolimit hg hobj hints (Nat.le_trans hlen hn2) hr hF hb (fun H hO hS => hsp w H a ns hlen hO hS) fun H e s' => hCX w H s₁ e s'
end L2

/- THE LAST THEOREM (shape; LID, My.* are yours):
   My.Adr: a structure of the addresses that your layer names (classes, functions); My.Txt K t: a structure (Prop) of the equations over K;
   My.txt_mk : {K} {implicit addresses ..} (e1 : nsIn K mainGlobals "law" = some (some (.ref f))) (e2 : K.lookup f = some ⟨oc, od, .func (fnOf "law" "law" params body scope dV kV doc pm an cdv ct), sl⟩) (e3 : codeIn K cdv "law" = true) .. : ∃ t, My.Txt K t

(the tactic k_is has no namespace: write k_is) -/

/-! SHORT WORDS over the layer: a def of the text, its body, what a loop and a test want. -/
namespace L2
open PySem PySem.Spec PyProof.Rows

/-! ### the text by places -/
/-- the j-th statement of a class's body -/
def inClass (s : Stmt) (j : Nat) : Stmt := match s with
  | .ClassDef _ _ _ body _ _ _ _ _ _ _ => body.getD j (.Pass ⟨0, 0, 0, 0⟩)
  | _ => .Pass ⟨0, 0, 0, 0⟩
def defArgs (s : Stmt) : Arguments := match s with
  | .FunctionDef _ a _ _ _ _ _ _ _ _ => a
  | _ => { posonlyargs := [], args := [], vararg := none, kwonlyargs := [], kw_defaults := [], kwarg := none, defaults := [] }
def defBody (s : Stmt) : List Stmt := match s with
  | .FunctionDef _ _ b _ _ _ _ _ _ _ => b
  | _ => []
def defScope (s : Stmt) : Scope := match s with
  | .FunctionDef _ _ _ _ _ _ sc _ _ _ => sc
  | _ => { kind := .function, names := [], isGenerator := false, isCoroutine := false }

/-! ### no exception leaves a def -/
abbrev CX0 : CXT := fun _ _ _ _ _ _ => False
abbrev E0 : XK := fun _ _ _ => False
theorem pass0 {X : Cx} : Passes CX0 X E0 := fun _ _ _ _ _ _ _ h => h.elim

/-! ### a def (or method) of the text as it stands behind the top -/
structure Fun (K : PySem.W.Frag) (x qual : Str) (st : Stmt) (f : Addr) (fd : FuncData) : Prop where
  ex : ∃ (oc : Value) (od : Option Addr) (kV doc pm : Value) (an : Option Addr) (cdv ct : Value) (osl : Array (Option Value)),
    fd = PySem.W.fnOf x qual (defArgs st) (defBody st) (defScope st) .none kV doc pm an cdv ct ∧ K.lookup f = some ⟨oc, od, .func fd, osl⟩ ∧ PySem.W.codeIn K cdv qual = true
  kp : PySem.W.keepIn K (.ref f) = true
section
variable {P : Program} {w : World} {K : PySem.W.Frag} {mg : Str → Option Value} {base : Heap}
/-- THE RULE for a def: its body as a term of rules, and the reading of that term -/
theorem Fun.ok {x qual : Str} {st : Stmt} {f : Addr} {fd : FuncData} {N ps : List Str} {k : Nat} {sp : Sp} {cm : Bool} (F : Fun K x qual st f fd) (S : FnScope N ps (defScope st)) (len : ∀ vs H Q E, sp vs H Q E → vs.length = ps.length)
    (hbody : ∀ (cdv : Value) (A : Around) (outer : List Env) (s : Shared) (H : Hp) (vs : List V) (Q : VK) (E : XK), Room k (A.deeper (envOfC qual (defScope st) s.heap.objs.size f cdv)) cm → sp vs H Q E →
      ∃ t, PSs (cxOf CX0 P w K mg base N qual (defScope st) f cdv A outer s H E cm).nox (defBody st) t ∧ t { nx := fun _ H' => Q .non H', rt := Q } (start N vs) H) : FnOk P w K mg base CX0 (k + 1) f fd ps sp cm := by
  obtain ⟨oc, od, kV, doc, pm, an, cdv, ct, osl, rfl, lk, hcd⟩ := F.ex
  refine fn_of lk hcd S len fun A outer s H vs Q E hr hsp => ?_
  obtain ⟨t, h, q⟩ := hbody cdv A outer s H vs Q E hr hsp
  exact ⟨t, h.nox, q⟩
/-- how its arguments bind (no defaults): h is «fun _ _ _ _ _ _ us hl => match us, hl with | [_, _], _ => rfl», one _ a parameter -/
theorem Fun.binds {x qual : Str} {st : Stmt} {f : Addr} {fd : FuncData} {ps : List Str} (F : Fun K x qual st f fd)
    (h : ∀ (kV doc pm : Value) (an : Option Addr) (cdv ct : Value) (us : List Value), us.length = ps.length → bindArgs (PySem.W.fnOf x qual (defArgs st) (defBody st) (defScope st) .none kV doc pm an cdv ct) ⟨us, []⟩ = pure (ps.zip us)) : Binds K fd ps [] := by
  obtain ⟨oc, od, kV, doc, pm, an, cdv, ct, osl, rfl, lk, hcd⟩ := F.ex
  exact .all (h kV doc pm an cdv ct)
theorem fun_mk {x qual : Str} {st : Stmt} {f : Addr} {oc : Value} {od an : Option Addr} {osl : Array (Option Value)} {kV doc pm cdv ct : Value} (l : K.lookup f = some ⟨oc, od, .func (PySem.W.fnOf x qual (defArgs st) (defBody st) (defScope st) .none kV doc pm an cdv ct), osl⟩)
    (c : PySem.W.codeIn K cdv qual = true) (k : PySem.W.keepIn K (.ref f) = true) : Fun K x qual st f (PySem.W.fnOf x qual (defArgs st) (defBody st) (defScope st) .none kV doc pm an cdv ct) := ⟨⟨oc, od, kV, doc, pm, an, cdv, ct, osl, rfl, l, c⟩, k⟩
end
/-! ### expressions in short: the name that stands in the i-th slot -/
section
variable {X : Cx}
theorem pv (i : Nat) {x : Str} {pos : Pos} (hN : X.N[i]? = some x := by rfl) (hv : Vis X.env.scope x := by first | exact Or.inl rfl | exact Or.inr (Or.inl rfl) | exact Or.inr (Or.inr rfl)) (hd : (x == ("__debug__" : Str)) = false := by decide)
    (hcd : (x == ("__classdict__" : Str)) = false := by decide) : PE X (.Name x pos) (tVar i) := pe_var hN hv hd hcd
end

/-! ### tests -/
theorem iteF {A B : Prop} (h : B) : if false = true then A else B := by
  rw [if_neg Bool.false_ne_true]
  exact h
theorem iteT {A B : Prop} (h : A) : if true = true then A else B := by
  rw [if_pos rfl]
  exact h
theorem ite2 {c A B : Prop} [Decidable c] (h1 : c → A) (h2 : ¬ c → B) : if c then A else B := by
  by_cases h : c
  · rw [if_pos h]
    exact h1 h
  · rw [if_neg h]
    exact h2 h
/-! ### heaps -/
/-- all that was tracked is as it was -/
def Same (H H' : Hp) : Prop := ∀ b o, H b = some o → H' b = some o
theorem Same.trans {H H1 H2 : Hp} (a : Same H H1) (b : Same H1 H2) : Same H H2 := fun c o h => b c o (a c o h)
theorem Same.free {H H' : Hp} (e : Same H H') {l : Addr} (h : H' l = Option.none) : H l = Option.none := by
  cases q : H l with
  | none => rfl
  | some o =>
    rw [e l o q] at h
    cases h
theorem Same.seq {K : PySem.W.Frag} {H H' : Hp} {a : Addr} {xs : List V} (e : Same H H') (h : SqL K H a xs) : SqL K H' a xs := by
  rcases h with (h | ⟨o, h⟩) | h
  · exact .inl (.inl (e _ _ h))
  · exact .inl (.inr ⟨o, e _ _ h⟩)
  · exact .inr h

end L2

set_option Elab.async false
set_option linter.all false
set_option maxRecDepth 100000
/-! ### list comprehensions (one for, none or one test) -/
namespace L2
open PySem PySem.Spec PyProof.Rows

section
variable {prog : Program} {w : World} {A : Around} {R : Result → Shared → Prop} {s : Shared}
theorem comp_loop_any {elt target iter : Expr} {ifs : List Expr} {scope : Scope} {pos : Pos} {it acc : Value} {env : Env} (I : Nat → Shared → Prop)
    (turn : ∀ n s, I n s → wpAny (model prog w) A (pyNext it) (fun r s₁ => match r with
      | none => R (.ok .next) s₁
      | some v => wpAny (model prog w) A (letOwnedTupleGo target it v) (fun _ s₁' => wpAny (model prog w) A (assign target env v) (fun _ s₂ =>
          wpAny (model prog w) A (forIn ifs true fun c r => if r = true then do let ok ← isTrue c env (eval c env); pure (ForInStep.yield ok) else pure (ForInStep.yield r)) (fun ok s₃ =>
            if ok = true then wpAny (model prog w) A (eval elt env) (fun x s₄ =>
              wpAny (model prog w) A (call (.builtin "list.append") [acc, x]) (fun _ s₅ => ∃ m, m < n ∧ I m s₅) (notedBy (model prog w) A env fun e s' => R (.error e) s') s₄) (notedBy (model prog w) A env fun e s' => R (.error e) s') s₃
            else ∃ m, m < n ∧ I m s₃) (notedBy (model prog w) A env fun e s' => R (.error e) s') s₂) (notedBy (model prog w) A env fun e s' => R (.error e) s') s₁') (notedBy (model prog w) A env fun e s' => R (.error e) s') s₁) (notedBy (model prog w) A env fun e s' => R (.error e) s') s)
    (n : Nat) (h : I n s) :
    codeAny (model prog w) A (.compLoop (.ListComp elt [⟨target, iter, ifs, 0⟩] scope pos) 0 it acc env) R s := by
  refine codeAny_loop rfl I (fun n s hI => ?_) n h
  show wpAny _ A ((compTurn (.ListComp elt [⟨target, iter, ifs, 0⟩] scope pos) 0 it acc env).onRaise (fun x => do noteFrame x env; theTreesLotGoes x)) _ _ s
  refine wpAny_noted ?_
  rw [compTurn_list]
  refine wpAny_bind (wpAny_standAt (wpAny_bind (wpAny_mono (turn n s hI) (fun r s₁ h₁ => ?_) fun _ _ h' => h')))
  cases r with
  | none => exact wpAny_pure h₁
  | some v =>
    refine wpAny_bind (wpAny_mono h₁ (fun _ s₁' h₁ => ?_) fun _ _ h' => h')
    refine wpAny_bind (wpAny_mono h₁ (fun _ s₂ h₂ => wpAny_bind (wpAny_mono h₂ (fun ok s₃ h₃ => ?_) fun _ _ h' => h')) fun _ _ h' => h')
    cases ok with
    | false => exact wpAny_pure ⟨rfl, h₃⟩
    | true =>
      exact wpAny_bind (wpAny_bind (wpAny_mono h₃ (fun x s₄ h₄ => wpAny_bind (wpAny_mono h₄ (fun _ s₅ h₅ => wpAny_pure (wpAny_pure ⟨rfl, h₅⟩)) fun _ _ h' => h')) fun _ _ h' => h'))
end

/-- the closure of a comprehension's block -/
def closL (env : Env) : List (Str × NameKind) → List (Str × Addr) → List (Str × Addr)
  | [], cs => cs
  | (n, k) :: r, cs => closL env r (if k == .free then (n, (env.cells.lookup n).getD 0) :: cs else cs)
def clos (scope : Scope) (env : Env) : List (Str × Addr) := closL env scope.names []
theorem forIn_closL {env : Env} : ∀ (ns : List (Str × NameKind)) (cs : List (Str × Addr)), (∀ x ∈ ns, x.2 = .free → ∃ c, env.cells.lookup x.1 = some c) →
    (forIn ns cs fun (x : Str × NameKind) (r : List (Str × Addr)) => (match x with | (name, kind) => if kind == .free then do let c ← cellOf env name; pure (ForInStep.yield ((name, c) :: r)) else pure (ForInStep.yield r) : Sem (ForInStep (List (Str × Addr))))) = (pure (closL env ns cs) : Sem (List (Str × Addr)))
  | [], cs, _ => rfl
  | (n, k) :: r, cs, h => by
    rw [List.forIn_cons]
    by_cases hk : k = .free
    · subst hk
      obtain ⟨c, hc⟩ := h (n, .free) List.mem_cons_self rfl
      have e : cellOf env n = pure c := by
        have hc' : env.cells.lookup n = some c := hc
        unfold cellOf; rw [hc']
      simp only [beq_self_eq_true, if_true, e, pure_bind]
      rw [forIn_closL r _ fun x hx => h x (List.mem_cons_of_mem _ hx)]
      have hc' : env.cells.lookup n = some c := hc
      simp [closL, hc']
    · have hb : (k == NameKind.free) = false := by simpa using hk
      simp only [hb, Bool.false_eq_true, if_false, pure_bind]
      rw [forIn_closL r _ fun x hx => h x (List.mem_cons_of_mem _ hx)]
      simp [closL, hb]
theorem closureFor_eq {scope : Scope} {env : Env} (h : ∀ x ∈ scope.names, x.2 = .free → ∃ c, env.cells.lookup x.1 = some c) : closureFor scope env = pure (clos scope env) := by
  unfold closureFor clos
  have := forIn_closL (env := env) scope.names [] h
  simp only [bind_pure]
  exact this
theorem closL_look {env : Env} {x : Str} {c : Addr} : ∀ (ns : List (Str × NameKind)) (cs : List (Str × Addr)), (∀ y ∈ ns, y.2 = .free → ∃ c, env.cells.lookup y.1 = some c) → (∀ c, cs.lookup x = some c → env.cells.lookup x = some c) →
    (closL env ns cs).lookup x = some c → env.cells.lookup x = some c
  | [], cs, _, hc, e => hc c e
  | (n, k) :: r, cs, h, hc, e => by
    refine closL_look r _ (fun y hy => h y (List.mem_cons_of_mem _ hy)) (fun c' e' => ?_) e
    by_cases hk : k = .free
    · subst hk
      obtain ⟨c₁, h₁⟩ := h (n, .free) List.mem_cons_self rfl
      have h₁' : env.cells.lookup n = some c₁ := h₁
      simp only [beq_self_eq_true, if_true, List.lookup_cons] at e'
      cases hx : x == n with
      | true =>
        rw [hx] at e'
        have hxn : x = n := by simpa using hx
        subst hxn
        rw [h₁'] at e' ⊢
        exact e'
      | false => rw [hx] at e'; exact hc c' e'
    · have hb : (k == NameKind.free) = false := by simpa using hk
      simp only [hb, Bool.false_eq_true, if_false] at e'
      exact hc c' e'
theorem closL_has {env : Env} {x : Str} : ∀ (ns : List (Str × NameKind)) (cs : List (Str × Addr)), ((x, NameKind.free) ∈ ns ∨ ∃ c, cs.lookup x = some c) → ∃ c, (closL env ns cs).lookup x = some c
  | [], cs, h => h.elim (fun z => nomatch z) fun z => z
  | (n, k) :: r, cs, h => by
    refine closL_has r _ ?_
    rcases h with h | ⟨c, h⟩
    · rcases List.mem_cons.mp h with e | h
      · cases e
        right
        simp
      · exact .inl h
    · right
      by_cases hk : k = .free
      · subst hk
        simp only [beq_self_eq_true, if_true, List.lookup_cons]
        cases x == n with
        | true => exact ⟨_, rfl⟩
        | false => exact ⟨c, h⟩
      · have hb : (k == NameKind.free) = false := by simpa using hk
        simp only [hb, Bool.false_eq_true, if_false]
        exact ⟨c, h⟩

theorem relabel_back {env : Env} {x : Str} {k' : NameKind} : ∀ {names : List (Str × NameKind)},
    (names.map fun (n, k) => if (k == NameKind.free && env.scope.kind == .function && env.kindOf n == some .cell) then (n, NameKind.cell) else (n, k)).lookup x = some k' →
    ∃ k, names.lookup x = some k ∧ (x, k) ∈ names ∧ (k' = k ∨ (k = .free ∧ k' = .cell))
  | [], h => by simp at h
  | (n, k) :: r, h => by
    have ih := @relabel_back env x k' r
    have h' : List.lookup x ((if (k == NameKind.free && env.scope.kind == .function && env.kindOf n == some .cell) = true then (n, NameKind.cell) else (n, k)) :: r.map fun (n, k) => if (k == NameKind.free && env.scope.kind == .function && env.kindOf n == some .cell) then (n, NameKind.cell) else (n, k)) = some k' := h
    cases hx : x == n with
    | true =>
      have hxn : x = n := by simpa using hx
      subst hxn
      refine ⟨k, by simp, List.mem_cons_self, ?_⟩
      by_cases hc : (k == NameKind.free && env.scope.kind == .function && env.kindOf x == some .cell) = true
      · rw [if_pos hc] at h'
        simp at h'
        have hk : k = .free := by
          cases k <;> simp at hc ⊢
        exact .inr ⟨hk, h'.symm⟩
      · rw [if_neg hc] at h'
        simp at h'
        exact .inl h'.symm
    | false =>
      have h2 : (r.map fun (n, k) => if (k == NameKind.free && env.scope.kind == .function && env.kindOf n == some .cell) then (n, NameKind.cell) else (n, k)).lookup x = some k' := by
        by_cases hc : (k == NameKind.free && env.scope.kind == .function && env.kindOf n == some .cell) = true
        · rw [if_pos hc] at h'; simp only [List.lookup_cons, hx] at h'; exact h'
        · rw [if_neg hc] at h'; simp only [List.lookup_cons, hx] at h'; exact h'
      obtain ⟨k0, e1, e2, e3⟩ := ih h2
      exact ⟨k0, by simp only [List.lookup_cons, hx]; exact e1, List.mem_cons_of_mem _ e2, e3⟩

/-- the block's context: s, H at the entry, ex the iterator's records -/
def cxC (X : Cx) (scope : Scope) (N : List Str) (C : Addr) (s : Shared) (H : Hp) (ex : List Addr) : Cx :=
  { X with N := N, s₀ := s, H₀ := H, env := compEnvC scope (clos scope X.env) C X.env, outer := X.stack, stack := X.stack, ex := ex, fn := fun _ => false, pn := [], xe := fun _ _ => False }

/-- a comprehension's scope in X; fr: its free names with their slots in X -/
structure CScope (X : Cx) (scope : Scope) (ls : List Str) (fr : List (Str × Nat)) : Prop where
  kind : scope.kind = .function
  nocell : ∀ y ∈ scope.names, y.2 ≠ .cell
  names : ∀ y ∈ scope.names, y.2 = .local → scope.names.lookup y.1 = some .local
  free : ∀ y ∈ scope.names, y.2 = .free → X.env.kindOf y.1 = some .cell ∨ X.env.kindOf y.1 = some .free
  slots : ∀ p ∈ fr, X.N[p.2]? = some p.1 ∧ scope.names.lookup p.1 = some .free

def startC (ls : List Str) (fr : List (Str × Nat)) (σ : St) : St := ls.map (fun _ => none) ++ fr.map fun p => (σ[p.2]?).join
section
variable {X : Cx} {scope : Scope} {ls : List Str} {fr : List (Str × Nat)}
theorem CScope.cells {pins : List (Addr × Obj)} {σ : St} {H : Hp} {s : Shared} (S : CScope X scope ls fr) (I : Inv X pins σ H s) : ∀ x ∈ scope.names, x.2 = .free → ∃ c, X.env.cells.lookup x.1 = some c :=
  fun x hx hk => I.ok.has x.1 (S.free x hx hk)
theorem CScope.look {pins : List (Addr × Obj)} {σ : St} {H : Hp} {s : Shared} (S : CScope X scope ls fr) (I : Inv X pins σ H s) {x : Str} {c : Addr} (e : (clos scope X.env).lookup x = some c) : X.env.cells.lookup x = some c :=
  closL_look scope.names [] (S.cells I) (fun _ z => by simp at z) e

theorem comp_ok {pins : List (Addr × Obj)} {σ : St} {H : Hp} {s : Shared} {C : Addr} {ex : List Addr} (S : CScope X scope ls fr) (I : Inv X pins σ H s) (hC : s.heap.objs.size ≤ C) (hex : ∀ b ∈ ex, FpOk X pins H b ∧ b < s.heap.objs.size) :
    (cxC X scope (ls ++ fr.map (·.1)) C s H ex).Ok where
  mod := I.ok.mod
  kind := S.kind
  glob := I.ok.glob
  blt := I.ok.blt
  above := hC
  inj := fun x y c e1 e2 => I.ok.inj x y c (S.look I e1) (S.look I e2)
  has := fun x h => by
    have h' : ∃ k', (relabel scope X.env).names.lookup x = some k' ∧ (k' = .cell ∨ k' = .free) := h.elim (fun z => ⟨_, z, .inl rfl⟩) fun z => ⟨_, z, .inr rfl⟩
    obtain ⟨k', e, hk⟩ := h'
    obtain ⟨k, e1, e2, e3⟩ := relabel_back e
    refine closL_has scope.names [] (.inl ?_)
    have hn := S.nocell _ e2
    rcases e3 with rfl | ⟨rfl, _⟩
    · rcases hk with rfl | rfl
      · exact absurd rfl hn
      · exact e2
    · exact e2
  cab := fun x c h => nomatch h
  hd := I.ok.hd
  frames := I.ok.frames
  stk := .inl rfl
  exf := fun b hb => by
    obtain ⟨⟨f0, f1, f2, f3, f4, f5⟩, hl⟩ := hex b hb
    exact ⟨Nat.ne_of_lt (Nat.lt_of_lt_of_le hl hC), fun x c e => f4 x c (S.look I e)⟩
  bs := I.bs
  bsz := Nat.le_trans I.ok.bsz I.sz
  noex := fun b o e hb => by
    obtain ⟨⟨f0, f1, f2, f3, f4, f5⟩, hl⟩ := hex b hb
    rcases f3 with z | z
    · exact I.ok.noex b o e z
    · exact absurd (Nat.lt_of_lt_of_le (Heap.lt_size e) (Nat.le_trans I.ok.bsz z)) (Nat.lt_irrefl _)
  exfs := fun b hb hf => by
    obtain ⟨⟨f0, f1, f2, f3, f4, f5⟩, hl⟩ := hex b hb
    exact (List.mem_cons.mp (I.stkSub b hf)).elim f1 f2
  funs := I.stack
  frf := I.stkFree

theorem comp_inv {pins : List (Addr × Obj)} {σ : St} {H : Hp} {s s' : Shared} {C : Addr} {m : Str → Option Value} {ex : List Addr} (S : CScope X scope ls fr) (I : Inv X pins σ H s) (hC : s.heap.objs.size ≤ C) (hex : ∀ b ∈ ex, FpOk X pins H b ∧ b < s.heap.objs.size)
    (ho : s'.os = s.os) (hg : AllBare s'.gens) (k : ∀ b o, s.heap.get? b = some o → s'.heap.get? b = some o) (hn : s'.heap.Ns C m) : Inv (cxC X scope (ls ++ fr.map (·.1)) C s H ex) [] (startC ls fr σ) H s' where
  ok := comp_ok S I hC hex
  os := ho
  bare := hg
  base := Un.kept k
  loc := by
    refine ⟨m, hn, fun i x v e1 e2 e3 => ?_⟩
    have e2' : (ls.map (fun _ => (none : Option V)) ++ fr.map fun p => (σ[p.2]?).join)[i]? = some (some v) := e2
    have e1' : (ls ++ fr.map (·.1))[i]? = some x := e1
    by_cases hi : i < ls.length
    · rw [List.getElem?_append_left (by simpa using hi), List.getElem?_map] at e2'
      cases q : ls[i]? with
      | none => rw [q] at e2'; cases e2'
      | some y => rw [q] at e2'; cases e2'
    · have hi' : ls.length ≤ i := Nat.le_of_not_lt hi
      rw [List.getElem?_append_right (by simpa using hi'), List.getElem?_map, List.length_map] at e2'
      rw [List.getElem?_append_right hi', List.getElem?_map] at e1'
      cases q : fr[i - ls.length]? with
      | none => rw [q] at e1'; cases e1'
      | some p =>
        rw [q] at e1' e2'
        have ex1 : p.1 = x := Option.some.inj e1'
        have hp : p ∈ fr := List.mem_of_getElem? q
        obtain ⟨hsl, hfree⟩ := S.slots p hp
        subst ex1
        have hv : σ[p.2]? = some (some v) := by
          have z : (σ[p.2]?).join = some v := Option.some.inj e2'
          cases w : σ[p.2]? with
          | none => rw [w] at z; cases z
          | some o => rw [w] at z; exact congrArg some z
        obtain ⟨m0, hn0, hl⟩ := id I.loc
        have vis' : ∃ k', (relabel scope X.env).names.lookup p.1 = some k' ∧ (k' = .local ∨ k' = .cell ∨ k' = .free) := by
          rcases e3 with z | z | z
          · exact ⟨_, z, .inl rfl⟩
          · exact ⟨_, z, .inr (.inl rfl)⟩
          · exact ⟨_, z, .inr (.inr rfl)⟩
        obtain ⟨k', ek, _⟩ := vis'
        obtain ⟨k0, f1, f2, f3⟩ := relabel_back ek
        rw [hfree] at f1
        cases f1
        have hk := S.free _ f2 rfl
        have hk' : k' = .cell ∨ k' = .free := f3.elim .inr fun z => .inl z.2
        have hvis : Vis X.env.scope p.1 := hk.elim (fun z => .inr (.inl z)) fun z => .inr (.inr z)
        obtain ⟨u, ru, lk⟩ := hl p.2 p.1 v hsl hv hvis
        obtain ⟨c', hc'⟩ : ∃ c, (clos scope X.env).lookup p.1 = some c := closL_has scope.names [] (.inl f2)
        refine ⟨u, ru, .inr ⟨hk'.elim (fun z => .inl (z ▸ ek)) fun z => .inr (z ▸ ek), c', hc', ?_⟩⟩
        rcases lk with ⟨z, _⟩ | ⟨_, c, ec, ic⟩
        · rcases hk with y | y <;> (rw [y] at z; cases z)
        · have := S.look I hc'
          rw [ec] at this
          cases this
          exact ic.keeps k
  cell := fun x c e => by
    obtain ⟨v, z⟩ := I.cell x c (S.look I e)
    exact ⟨v, z.keeps k⟩
  free := I.hok.fresh hC
  freeC := fun x c e => I.freeC x c (S.look I e)
  pin := fun p hp => nomatch hp
  hok := I.hok.kept k
  len := by simp [startC, cxC]

/-- none or one test -/
def PF (X : Cx) (ifs : List Expr) (t : TT) : Prop :=
  ∀ (pins : List (Addr × Obj)) (s : Shared) (σ : St) (H : Hp) (Q : Bool → Hp → Prop), Inv X pins σ H s → t σ H Q →
    wpAny (model X.prog X.w) X.A (forIn ifs true fun c r => if r = true then do let ok ← isTrue c X.env (eval c X.env); pure (ForInStep.yield ok) else pure (ForInStep.yield r)) (TP X pins σ Q) X.xe s
def tYes : TT := fun _ H Q => Q true H
theorem pf_nil {X : Cx} : PF X [] tYes := fun pins s σ H Q I h => wpAny_tests_nil ⟨H, I, h⟩
theorem pf_one {X : Cx} {c : Expr} {t : TT} (h : PT X c t) : PF X [c] t := fun pins s σ H Q I hw => wpAny_tests_one (h pins s σ H Q I hw)

/-- the list that was grown aside is tracked -/
theorem HOk.add {P : Program} {w : World} {H : Hp} {h : Heap} {a : Addr} {o : HO} (x : HOk P w H h) (hn : H a = none) (new : ObjOk P w (upd H a o) h a o) : HOk P w (upd H a o) h := fun b u e => by
  by_cases hb : b = a
  · subst hb; rw [upd_same] at e; cases e; exact new
  · rw [upd_ne hb] at e
    exact (x b u e).stay (fun _ _ _ q => q) (fun c q => by rw [upd_ne (ne_of_none q hn)]; exact q) fun c xs q => by rw [upd_ne (ne_of_none q hn)]; exact q
theorem Un.add {fs ex : List Addr} {H H' : Hp} {h h' : Heap} {a : Addr} {o : HO} (u : Un fs ex H H' h h') (ha : h.objs.size ≤ a) (hn : H' a = none) : Un fs ex H (upd H' a o) h h' where
  keep := u.keep
  slot := u.slot
  free := fun b ob q n hx => by rw [upd_ne (Nat.ne_of_lt (Nat.lt_of_lt_of_le (Heap.lt_size q) ha))]; exact u.free b ob q n hx
  there := u.there
  tups := fun b xs q => by
    have z := u.tups b xs q
    rw [upd_ne (ne_of_none z hn)]; exact z
  frzs := fun b ob xs q => by
    have z := u.frzs b ob xs q
    rw [upd_ne (ne_of_none z hn)]; exact z
  tbls := fun b ps q => by
    obtain ⟨more, z⟩ := u.tbls b ps q
    exact ⟨more, by rw [upd_ne (ne_of_none z hn)]; exact z⟩

/-- W: the invariant by the turn, a measure and the list so far -/
def tCompK (g : TG) (tf : TT) (te : TE) (σ0 : St) (J : It) (H : Hp) (Q : VK) : Prop :=
  ∃ W : Nat → Nat → List V → St → Hp → Prop, (∃ m, W 0 m [] σ0 H) ∧ ∀ i m ys σ H, W i m ys σ H →
    (J.stop i H ∧ ys.length ≤ sizeLine ∧ ∀ p, H p = none → Q (.ref p) (upd H p (.lst ys))) ∨
    (J.go i H ∧ ys.length ≤ sizeLine ∧ ∃ N : List V → St → Hp → Prop, (∀ ys σ' H', N ys σ' H' → ∃ m', m' < m ∧ W (i + 1) m' ys σ' H') ∧ ∀ x H1, J.yld i H x H1 → g x σ H1 fun σ2 H2 => tf σ2 H2 fun b H3 => if b = true then te σ2 H3 fun v H4 => N (ys ++ [v]) σ2 H4 else N ys σ2 H3)
def tComp (wi : TI) (ls : List Str) (fr : List (Str × Nat)) (g : TG) (tf : TT) (te : TE) : TE := fun σ H Q => wi σ H fun J H1 => tCompK g tf te (startC ls fr σ) J H1 Q

/-- the block, from the iterator on -/
theorem comp_block {pins : List (Addr × Obj)} {σ : St} {H : Hp} {s : Shared} {it : Addr} {fp : List Addr} {tn : Nat → Heap → Prop} {J : It} {tg elt iter : Expr} {ifs : List Expr} {pos : Pos} {g : TG} {tf : TT} {te : TE} {Q : VK} {E : Value → Shared → Prop} {RR : Value → Addr → Result → Shared → Prop}
    (S : CScope X scope ls fr) (hc : X.calm = true) (I : Inv X pins σ H s) (T : Turn X.prog X.w X.K tg J fp it tn) (st : tn 0 s.heap) (hf : ∀ b ∈ fp, FpOk X pins H b) (hq : tCompK g tf te (startC ls fr σ) J H Q)
    (hg : ∀ C s H ex, PG (cxC X scope (ls ++ fr.map (·.1)) C s H ex) tg g) (ht : ∀ C s H ex, PF (cxC X scope (ls ++ fr.map (·.1)) C s H ex) ifs tf) (he : ∀ C s H ex, PE (cxC X scope (ls ++ fr.map (·.1)) C s H ex) elt te)
    (hRR : ∀ (D C : Addr) (s' : Shared) (H' : Hp) (m : Str → Option Value), Inv X pins σ H' s' → s'.heap.Ns C m → s.heap.objs.size ≤ C → H' C = none → Q (.ref D) H' → RR (.ref D) C (.ok .next) s') :
    wpAny (model X.prog X.w) X.A (newList []) (fun acc s₃ => wpAny (model X.prog X.w) X.A (newFunctionEnv scope X.env.globals (clos scope X.env) [] X.env.qual none .none (some X.env)) (fun cenv s₄ =>
      codeAny (model X.prog X.w) X.A (.compStart (.ListComp elt [⟨tg, iter, ifs, 0⟩] scope pos) 0 (.ref it) acc { cenv with scope := relabel scope X.env }) (RR acc cenv.locals) s₄) E s₃) E s := by
  refine wpAny_newObj_type (wpAny_newFunctionEnv S.nocell (by intro y hy; simp at hy) (fun h₁ hns₁ hsb₁ => ?_) S.kind)
  dsimp only at hns₁ hsb₁ ⊢
  generalize hH2 : s.heap.push { cls := .type "list", dict := none, data := .seq ([] : List Value).toArray } = H2 at hns₁ hsb₁ ⊢
  have hC : H2.objs.size = s.heap.objs.size + 1 := by rw [← hH2, Heap.size_push]
  have hDC : s.heap.objs.size ≠ H2.objs.size := by rw [hC]; exact Nat.ne_of_lt (Nat.lt_succ_self _)
  have hCle : s.heap.objs.size ≤ H2.objs.size := by rw [hC]; exact Nat.le_succ _
  have below : ∀ b, b < s.heap.objs.size → b ≠ H2.objs.size ∧ b ≠ s.heap.objs.size := fun b hb => ⟨by rw [hC]; exact Nat.ne_of_lt (Nat.lt_succ_of_lt hb), Nat.ne_of_lt hb⟩
  have old : ∀ b o, s.heap.get? b = some o → h₁.get? b = some o := fun b o e => hsb₁.extBut b o (below b (Heap.lt_size e)).1 (Heap.get?_push_of_some _ (hH2 ▸ Heap.get?_push_of_some _ e))
  have hacc : h₁.PlainList s.heap.objs.size #[] := ⟨_, hsb₁.extBut _ _ hDC (Heap.get?_push_of_some _ (hH2 ▸ Heap.get?_push_size _ rfl))⟩
  have hfl : ∀ b ∈ fp, b < s.heap.objs.size := fun b hb => by
    obtain ⟨o, e, _⟩ := T.obj _ _ st b hb
    exact Heap.lt_size e
  have hex : ∀ b ∈ fp, FpOk X pins H b ∧ b < s.heap.objs.size := fun b hb => ⟨hf b hb, hfl b hb⟩
  generalize hs4 : ({ s with heap := h₁, toks := s.toks + ([] : List (Str × Value)).length } : Shared) = s4
  generalize hX : cxC X scope (ls ++ fr.map (·.1)) H2.objs.size s H fp = Y
  have I4 : Inv Y [] (startC ls fr σ) H s4 := by
    rw [← hX, ← hs4]
    exact comp_inv S I hCle hex rfl I.bare old hns₁
  have YP : Y.prog = X.prog := by rw [← hX]; rfl
  have Yw : Y.w = X.w := by rw [← hX]; rfl
  have YK : Y.K = X.K := by rw [← hX]; rfl
  have YA : Y.A = X.A := by rw [← hX]; rfl
  have Yc : Y.calm = true := by rw [← hX]; exact hc
  have Yx : Y.xe = fun _ _ => False := by rw [← hX]; rfl
  have Yl : Y.env.locals = H2.objs.size := by rw [← hX]; rfl
  have Yok : (cxC X scope (ls ++ fr.map (·.1)) H2.objs.size s H fp).Ok := comp_ok S I hCle hex
  have fpY : ∀ {H' : Hp} {o : Obj}, (∀ b ∈ fp, H' b = none) → ∀ b ∈ fp, FpOk Y [(s.heap.objs.size, o)] H' b := fun {H' o} hn b hb => by
    rw [← hX]
    obtain ⟨f0, f1, f2, f3, f4, f5⟩ := hf b hb
    refine ⟨hn b hb, (below b (hfl b hb)).1, fun z => Yok.exfs b hb z, .inl hb, fun x c e => f4 x c (S.look I e), fun p hp => ?_⟩
    have e : p = (s.heap.objs.size, o) := by simpa [cxC] using hp
    subst e
    exact Ne.symm (below b (hfl b hb)).2
  have pinD : ∀ {σ' : St} {H' : Hp} {s' : Shared} {its : Array Value} {n : Nat}, Inv Y [] σ' H' s' → H' s.heap.objs.size = none → s'.heap.get? s.heap.objs.size = some { cls := .type "list", data := .seq its n } →
      Inv Y [(s.heap.objs.size, { cls := .type "list", data := .seq its n })] σ' H' s' := fun {σ' H' s' its n} I' hn e => I'.pins_of fun p hp => by
    have ep : p = (s.heap.objs.size, { cls := .type "list", data := .seq its n }) := by simpa using hp
    subst ep
    refine ⟨e, hn, by rw [Yl]; exact hDC, ?_, fun v z => nomatch z⟩
    rw [← hX]
    exact fun hb => I.nofs (Nat.le_refl _) ((List.mem_cons.mp (I.stkSub _ hb)).resolve_left fun z => absurd I.lt (by rw [← z]; exact Nat.lt_irrefl _))
  obtain ⟨W, ⟨m0, w0⟩, turn⟩ := hq
  have E1 : ∀ {α : Type} {t : Sem α} {Q1 : α → Shared → Prop} {s1 : Shared} {E1 : Value → Shared → Prop}, wpAny (model X.prog X.w) X.A t Q1 Y.xe s1 → wpAny (model X.prog X.w) X.A t Q1 E1 s1 := fun h => wpAny_mono h (fun _ _ z => z) fun _ _ z => by rw [Yx] at z; exact z.elim
  have endC : ∀ {σ' : St} {H' : Hp} {s' : Shared} {its : List Value} {ys : List V}, Inv Y [] σ' H' s' → H' s.heap.objs.size = none → s'.heap.PlainList s.heap.objs.size its.toArray → Vals ys its → ys.length ≤ sizeLine →
      (∀ p, H' p = none → Q (.ref p) (upd H' p (.lst ys))) → RR (.ref s.heap.objs.size) H2.objs.size (.ok .next) s' := fun {σ' H' s' its ys} I' hn ⟨n, e⟩ rv hz q => by
    subst hX
    obtain ⟨m, hm, _⟩ := id I'.loc
    have hCn : H' H2.objs.size = none := I'.free
    refine hRR _ _ s' (upd H' s.heap.objs.size (.lst ys)) m (I.call' I'.os (Un.add I'.base (Nat.le_refl _) hn) (I'.hok.add hn ⟨hz, its, n, rv, e⟩) I'.bare fun b hb => ?_) hm hCle (by rw [upd_ne (Ne.symm hDC)]; exact hCn) (q _ hn)
    obtain ⟨f0, f1, f2, f3, f4, f5⟩ := hf b hb
    exact ⟨f3, f1, f4, f5⟩
  have loop : codeAny (model X.prog X.w) X.A (.compLoop (.ListComp elt [⟨tg, iter, ifs, 0⟩] scope pos) 0 (.ref it) (.ref s.heap.objs.size) Y.env) (RR (.ref s.heap.objs.size) H2.objs.size) s4 := by
    refine comp_loop_any (fun n s' => ∃ (i : Nat) (σ' : St) (H' : Hp) (ys : List V) (its : List Value), Inv Y [] σ' H' s' ∧ tn i s'.heap ∧ (∀ b ∈ fp, H' b = none) ∧ H' s.heap.objs.size = none ∧ s'.heap.PlainList s.heap.objs.size its.toArray ∧ Vals ys its ∧ W i n ys σ' H') ?_ m0
      ⟨0, startC ls fr σ, H, [], [], I4, T.keep _ _ _ st fun b _ o e => by rw [← hs4]; exact old b o e, fun b hb => (hf b hb).1, I.hok.fresh (Nat.le_refl _), by rw [← hs4]; exact hacc, .nil, w0⟩
    rintro n s5 ⟨i, σ5, H5, ys, its, I5, st5, fr5, hn5, ⟨nn, e5⟩, rv, w5⟩
    have I5p := pinD I5 hn5 e5
    rcases turn i n ys σ5 H5 w5 with ⟨stop, hz, qn⟩ | ⟨go, hz, NN, hNN, step⟩
    · rw [← YA]
      refine thn (T.done Y YP Yw YK Yc i _ s5 σ5 H5 _ I5p (fpY fr5) st5 stop) fun r s6 ⟨hr, I6⟩ => ?_
      subst hr
      exact endC (I6.pins_of fun p hp => nomatch hp) hn5 ⟨nn, (I6.pin _ (List.mem_append_right _ List.mem_cons_self)).1⟩ rv hz qn
    · have hit := T.item Y YP Yw YK Yc i _ s5 σ5 H5 (notedBy (model X.prog X.w) X.A Y.env fun e s' => RR (Value.ref s.heap.objs.size) H2.objs.size (Except.error e) s') I5p (fpY fr5) st5 go
      rw [YA] at hit
      refine thn hit fun r s6 ⟨u, hr, h6⟩ => ?_
      subst hr
      refine thn h6 fun _ s7 ⟨x, H7, I7, r7, y7, st7, fr7⟩ => ?_
      have I7' := I7.pinned (fpY fr7) (T.obj _ _ st7)
      have h8 := hg H2.objs.size s H fp
      have h9 := ht H2.objs.size s H fp
      have h10 := he H2.objs.size s H fp
      rw [hX] at h8 h9 h10
      have a8 := h8 _ s7 σ5 H7 x u _ I7' r7 (step x H7 y7)
      rw [YP, Yw, YA] at a8
      refine thn (E1 a8) fun _ s8 ⟨σ8, H8, I8, q8⟩ => ?_
      have a9 := h9 _ s8 σ8 H8 _ I8 q8
      rw [YP, Yw, YA] at a9
      refine thn (E1 a9) fun b s9 ⟨H9, I9, q9⟩ => ?_
      have back : ∀ {σ' : St} {H' : Hp} {s' : Shared}, Inv Y ([(s.heap.objs.size, { cls := .type "list", data := .seq its.toArray nn })] ++ pinsAt fp s7.heap) σ' H' s' →
          tn (i + 1) s'.heap ∧ (∀ b ∈ fp, H' b = none) ∧ H' s.heap.objs.size = none ∧ s'.heap.PlainList s.heap.objs.size its.toArray := fun {σ' H' s'} I' => by
        have hp := I'.pin (s.heap.objs.size, { cls := .type "list", data := .seq its.toArray nn }) (List.mem_append_right _ (List.mem_append_left _ List.mem_cons_self))
        refine ⟨T.keep _ _ _ st7 fun b hb o e => (I'.pin (b, o) (List.mem_append_right _ (List.mem_append_right _ (mem_pinsAt hb e)))).1, fun b hb => ?_, hp.2.1, ⟨nn, hp.1⟩⟩
        obtain ⟨o, e, d⟩ := T.obj _ _ st7 b hb
        exact (I'.pin (b, o) (List.mem_append_right _ (List.mem_append_right _ (mem_pinsAt hb e)))).2.1
      cases b with
      | false =>
        rw [if_neg Bool.false_ne_true] at q9 ⊢
        obtain ⟨m', hm, w9⟩ := hNN _ _ _ q9
        obtain ⟨z1, z2, z3, z4⟩ := back I9
        exact ⟨m', hm, i + 1, σ8, H9, ys, its, I9.pins_of (fun p hp => nomatch hp), z1, z2, z3, z4, rv, w9⟩
      | true =>
        rw [if_pos rfl] at q9 ⊢
        have a10 := h10 _ s9 σ8 H9 _ I9 q9
        rw [YP, Yw, YA] at a10
        refine thn (E1 a10) fun xv s10 ⟨v, H10, I10, rx, q10⟩ => ?_
        obtain ⟨m', hm, w10⟩ := hNN _ _ _ q10
        obtain ⟨z1, z2, z3, z4⟩ := back I10
        have hlen : its.length = ys.length := (rv.length).symm
        refine wpAny_list_append_plain z4 (fun h' pl sb => ?_) (by rw [List.size_toArray, hlen]; exact hz)
        refine ⟨m', hm, i + 1, σ8, H10, ys ++ [v], its ++ [xv], ?_, ?_, z2, z3, ?_, rv.append (.cons rx .nil), w10⟩
        · have I10' : Inv Y [] σ8 H10 s10 := I10.pins_of fun p hp => nomatch hp
          refine I10'.turned (t' := s10.toks) (it := s.heap.objs.size) (fun b o hb e => (sb.2 b hb).trans e) z3 (by rw [Yl]; exact hDC) (.inr ?_) (fun x c e => ?_) fun p hp => ?_
          · rw [← hX]; exact Nat.le_refl _
          · rw [← hX] at e
            intro z
            obtain ⟨v0, q0⟩ := I.cell x c (S.look I e)
            exact absurd q0.lt (by rw [z]; exact Nat.lt_irrefl _)
          · rw [← hX] at hp; exact nomatch hp
        · refine T.keep _ _ _ z1 fun b hb o e => (sb.2 b (below b (hfl b hb)).2).trans e
        · have : (its ++ [xv]).toArray = its.toArray.push xv := by simp
          rw [this]; exact pl
  have hYe : Y.env = { newEnv scope H2.objs.size X.env.globals (clos scope X.env) X.env.qual none .none (some X.env) builtinsNs with scope := relabel scope X.env } := by rw [← hX]; rfl
  rw [← hYe]
  rw [hYe] at loop ⊢
  refine codeAny_compStart_list loop ?_
  exact T.self _ 0 _ _ _ (T.keep _ _ _ st fun b _ o e => by rw [← hs4]; exact old b o e) loop

/-- a comprehension as a value -/
theorem pe_comp {wi : TI} {tg elt iter : Expr} {ifs : List Expr} {pos : Pos} {g : TG} {tf : TT} {te : TE} (S : CScope X scope ls fr) (hc : X.calm = true) (hi : PI X tg iter wi)
    (hg : ∀ C s H ex, PG (cxC X scope (ls ++ fr.map (·.1)) C s H ex) tg g) (ht : ∀ C s H ex, PF (cxC X scope (ls ++ fr.map (·.1)) C s H ex) ifs tf) (he : ∀ C s H ex, PE (cxC X scope (ls ++ fr.map (·.1)) C s H ex) elt te)
    (hs : ∀ x, foldedSetIterable iter X.env x = pure x := by intro _; rfl) : PE X (.ListComp elt [⟨tg, iter, ifs, 0⟩] scope pos) (tComp wi ls fr g tf te) := by
  intro pins s σ H Q I h
  rw [eval_ListComp]
  refine wpAny_comprehension_free (use := none) rfl hs (closureFor_eq (S.cells I)) S.kind S.names (thn (hi pins s σ H _ I h) fun xv s₁ h₁ => thn h₁ fun itv s₂ h₂ => ?_)
  obtain ⟨it, fp, tn, J, H2, rfl, I2, T, st, hf, q⟩ := h₂
  refine comp_block (RR := fun acc C => compPost (model X.prog X.w) X.A X.xe none (EP X pins σ Q) acc C) S hc I2 T st hf q hg ht he ?_
  intro D C s' H' m I' hn hC hCn hq
  refine ⟨m, hn, fun h' sb => ?_⟩
  have nC : ∀ {b : Addr}, b < s₂.heap.objs.size → b ≠ C := fun hb => Nat.ne_of_lt (Nat.lt_of_lt_of_le hb hC)
  refine ⟨.ref D, H', I'.turned (t' := s'.toks) (it := C) (fun b o hb e => (sb.2 b hb).trans e) hCn (Ne.symm (nC I2.lt)) (.inr (Nat.le_trans I2.sz hC)) (fun x c e => ?_) fun p hp => ?_, rfl, hq⟩
  · obtain ⟨v0, q0⟩ := I2.cell x c e
    exact nC q0.lt
  · exact nC (Heap.lt_size (I2.pin p hp).1)
/-- x = [..] (the name is stored ahead of the block's end) -/
theorem ps_comp {wi : TI} {tg elt iter : Expr} {ifs : List Expr} {pos spos py : Pos} {y : Str} {i : Nat} {g : TG} {tf : TT} {te : TE} (S : CScope X scope ls fr) (hc : X.calm = true) (hi : PI X tg iter wi)
    (hg : ∀ C s H ex, PG (cxC X scope (ls ++ fr.map (·.1)) C s H ex) tg g) (ht : ∀ C s H ex, PF (cxC X scope (ls ++ fr.map (·.1)) C s H ex) ifs tf) (he : ∀ C s H ex, PE (cxC X scope (ls ++ fr.map (·.1)) C s H ex) elt te)
    (hN : X.N.Nodup) (hy : X.N[i]? = some y) (hl : X.env.scope.names.lookup y = some .local) (hsw : swapsWith (.ListComp elt [⟨tg, iter, ifs, 0⟩] scope pos) (some (.Name y py)) spos.line X.env = pure true)
    (hs : ∀ x, foldedSetIterable iter X.env x = pure x := by intro _; rfl) : PS X (.Assign [.Name y py] (.ListComp elt [⟨tg, iter, ifs, 0⟩] scope pos) spos) (tAsg (tComp wi ls fr g tf te) (gName i)) := by
  intro pins s σ H D I h
  rw [exec_Assign_Name_used _ _ _ _ hsw]
  refine wpAny_bind (wpAny_standAt (wpAny_bind ?_))
  show wpAny _ X.A (do let _ ← comprehension (.ListComp elt [⟨tg, iter, ifs, 0⟩] scope pos) scope X.env _ (newList []) false (eval iter X.env) (some (assign (.Name y py) X.env))) _ _ s
  refine wpAny_bind (wpAny_mono (wpAny_comprehension_free (use := some (assign (.Name y py) X.env)) (Q := fun _ s' => SP X pins D .next s') rfl hs (closureFor_eq (S.cells I)) S.kind S.names
    (thn (hi pins s σ H _ I h) fun xv s₁ h₁ => thn h₁ fun itv s₂ h₂ => ?_)) (fun _ s' hq => wpAny_pure (wpAny_pure hq)) fun _ _ e => e)
  obtain ⟨it, fp, tn, J, H2, rfl, I2, T, st, hf, q⟩ := h₂
  refine comp_block (RR := fun acc C => compPost (model X.prog X.w) X.A X.xe (some (assign (.Name y py) X.env)) (fun _ s' => SP X pins D .next s') acc C) S hc I2 T st hf q hg ht he ?_
  intro D1 C s' H' m I' hn hC hCn hq
  have nC : ∀ {b : Addr}, b < s₂.heap.objs.size → b ≠ C := fun hb => Nat.ne_of_lt (Nat.lt_of_lt_of_le hb hC)
  have cC : ∀ x c, X.env.cells.lookup x = some c → c ≠ C := fun x c e => by
    obtain ⟨v0, q0⟩ := I2.cell x c e
    exact nC q0.lt
  show wpAny _ X.A (assign (.Name y py) X.env (.ref D1)) _ _ _
  refine wpAny_assign_Name (store_ok2 I' hN hy (.inl hl) (v := .ref D1) rfl (fun s3 I3 hsb => ?_) (.inr hl))
  obtain ⟨a, sb1, ha⟩ := hsb
  have haC : C ≠ a := by
    rcases ha with rfl | e
    · exact Ne.symm (nC I2.lt)
    · exact Ne.symm (cC _ _ e)
  refine ⟨m, hn.sameBut sb1 haC, fun h' sb => ⟨_, H', I3.turned (t' := s3.toks) (it := C) (fun b o hb e => (sb.2 b hb).trans e) hCn (Ne.symm (nC I2.lt)) (.inr (Nat.le_trans I2.sz hC)) cC fun p hp => nC (Heap.lt_size (I2.pin p hp).1), hq⟩⟩
end

/-! ### the forms one uses -/
theorem comp_list {K : PySem.W.Frag} {a : Addr} {xs : List V} {g : TG} {tf : TT} {te : TE} {σ : St} {H : Hp} {Q : VK} (Pv : Nat → List V → St → Hp → Prop) (h0 : Pv 0 [] σ H) (hl : ∀ i ys σ H, i ≤ xs.length → Pv i ys σ H → SqL K H a xs ∧ ys.length ≤ sizeLine)
    (hs : ∀ i x ys σ H, xs[i]? = some x → Pv i ys σ H → g x σ H fun σ2 H2 => tf σ2 H2 fun b H3 => if b = true then te σ2 H3 fun v H4 => Pv (i + 1) (ys ++ [v]) σ2 H4 else Pv (i + 1) ys σ2 H3)
    (hd : ∀ ys σ H, Pv xs.length ys σ H → ∀ p, H p = none → Q (.ref p) (upd H p (.lst ys))) : tCompK g tf te σ (Itl K a) H Q := by
  refine ⟨fun i m ys σ H => m = xs.length - i ∧ i ≤ xs.length ∧ Pv i ys σ H, ⟨xs.length, by simp, Nat.zero_le _, h0⟩, ?_⟩
  rintro i m ys σ H ⟨rfl, hi, p⟩
  obtain ⟨q, hz⟩ := hl i ys σ H hi p
  by_cases hlt : i < xs.length
  · refine .inr ⟨⟨xs, xs[i], q, by simp [hlt]⟩, hz, Pv (i + 1), fun ys' σ' H' p' => ⟨xs.length - (i + 1), by omega, rfl, hlt, p'⟩, fun x H' y => ?_⟩
    obtain ⟨e, y⟩ := y
    subst e
    exact hs i x ys σ _ (y xs q) p
  · have e : i = xs.length := by omega
    subst e
    exact .inl ⟨⟨xs, q, Nat.le_refl _⟩, hz, hd ys σ H p⟩
theorem comp_tup {K : PySem.W.Frag} {a : Addr} {xs : List V} {g : TG} {tf : TT} {te : TE} {σ : St} {H : Hp} {Q : VK} (Pv : Nat → List V → St → Hp → Prop) (h0 : Pv 0 [] σ H) (hl : ∀ i ys σ H, i ≤ xs.length → Pv i ys σ H → SqT K H a xs ∧ ys.length ≤ sizeLine)
    (hs : ∀ i x ys σ H, xs[i]? = some x → Pv i ys σ H → g x σ H fun σ2 H2 => tf σ2 H2 fun b H3 => if b = true then te σ2 H3 fun v H4 => Pv (i + 1) (ys ++ [v]) σ2 H4 else Pv (i + 1) ys σ2 H3)
    (hd : ∀ ys σ H, Pv xs.length ys σ H → ∀ p, H p = none → Q (.ref p) (upd H p (.lst ys))) : tCompK g tf te σ (Itt K a) H Q := by
  refine ⟨fun i m ys σ H => m = xs.length - i ∧ i ≤ xs.length ∧ Pv i ys σ H, ⟨xs.length, by simp, Nat.zero_le _, h0⟩, ?_⟩
  rintro i m ys σ H ⟨rfl, hi, p⟩
  obtain ⟨q, hz⟩ := hl i ys σ H hi p
  by_cases hlt : i < xs.length
  · refine .inr ⟨⟨xs, xs[i], q, by simp [hlt]⟩, hz, Pv (i + 1), fun ys' σ' H' p' => ⟨xs.length - (i + 1), by omega, rfl, hlt, p'⟩, fun x H' y => ?_⟩
    obtain ⟨e, y⟩ := y
    subst e
    exact hs i x ys σ _ (y xs q) p
  · have e : i = xs.length := by omega
    subst e
    exact .inl ⟨⟨xs, q, Nat.le_refl _⟩, hz, hd ys σ H p⟩
theorem comp_range {lo : Int} {n : Nat} {g : TG} {tf : TT} {te : TE} {σ : St} {H : Hp} {Q : VK} (Pv : Nat → List V → St → Hp → Prop) (h0 : Pv 0 [] σ H) (hl : ∀ i ys σ H, i ≤ n → Pv i ys σ H → ys.length ≤ sizeLine)
    (hs : ∀ i ys σ H, i < n → Pv i ys σ H → g (.int (lo + i)) σ H fun σ2 H2 => tf σ2 H2 fun b H3 => if b = true then te σ2 H3 fun v H4 => Pv (i + 1) (ys ++ [v]) σ2 H4 else Pv (i + 1) ys σ2 H3)
    (hd : ∀ ys σ H, Pv n ys σ H → ∀ p, H p = none → Q (.ref p) (upd H p (.lst ys))) : tCompK g tf te σ (Itr lo n) H Q := by
  refine ⟨fun i m ys σ H => m = n - i ∧ i ≤ n ∧ Pv i ys σ H, ⟨n, by simp, Nat.zero_le _, h0⟩, ?_⟩
  rintro i m ys σ H ⟨rfl, hi, p⟩
  have hz := hl i ys σ H hi p
  by_cases hlt : i < n
  · refine .inr ⟨hlt, hz, Pv (i + 1), fun ys' σ' H' p' => ⟨n - (i + 1), by omega, rfl, hlt, p'⟩, fun x H' y => ?_⟩
    obtain ⟨e, y⟩ := y
    subst e y
    exact hs i ys σ _ hlt p
  · have e : i = n := by omega
    subst e
    exact .inl ⟨Nat.le_refl _, hz, hd ys σ H p⟩

/-- the scope's conditions, to be decided -/
def cscopeB (sc : Scope) (N : List Str) (scope : Scope) (fr : List (Str × Nat)) : Bool :=
  (scope.kind == .function) && scope.names.all (fun y => y.2 != .cell) && scope.names.all (fun y => y.2 != .local || scope.names.lookup y.1 == some .local) &&
  scope.names.all (fun y => y.2 != .free || sc.names.lookup y.1 == some .cell || sc.names.lookup y.1 == some .free) && fr.all (fun p => N[p.2]? == some p.1 && scope.names.lookup p.1 == some .free)
theorem cs_of {X : Cx} {scope : Scope} {ls : List Str} {fr : List (Str × Nat)} (sc : Scope) (N : List Str) (h1 : X.env.scope = sc) (h2 : X.N = N) (h : cscopeB sc N scope fr = true) : CScope X scope ls fr := by
  subst h1 h2
  simp only [cscopeB, Bool.and_eq_true, List.all_eq_true, Bool.or_eq_true, bne_iff_ne, beq_iff_eq, ne_eq] at h
  obtain ⟨⟨⟨⟨a, b⟩, c⟩, d⟩, e⟩ := h
  refine ⟨a, b, fun y hy hk => (c y hy).resolve_left fun z => z hk, fun y hy hk => ?_, e⟩
  rcases d y hy with (z | z) | z
  · exact absurd hk z
  · exact .inl z
  · exact .inr z
theorem pgc {X : Cx} {scope : Scope} {ls : List Str} {fr : List (Str × Nat)} {C : Addr} {s : Shared} {H : Hp} {ex : List Addr} {x : Str} {pos : Pos} (i : Nat) (hN : (ls ++ fr.map (·.1)).Nodup) (hi : (ls ++ fr.map (·.1))[i]? = some x) (hx : scope.names.lookup x = some .local) :
    PG (cxC X scope (ls ++ fr.map (·.1)) C s H ex) (.Name x pos) (gName i) :=
  pg_name hN hi (.inl (lookup_relabel_local hx)) (.inr (lookup_relabel_local hx))
/-- names within a block, to be decided over the two scopes -/
def relN (scope sc : Scope) : List (Str × NameKind) := scope.names.map fun (n, k) => if (k == .free && sc.kind == .function && sc.names.lookup n == some .cell) then (n, .cell) else (n, k)
def visB (scope sc : Scope) (x : Str) : Bool := match (relN scope sc).lookup x with | some .local => true | some .cell => true | some .free => true | _ => false
theorem pvc (sc : Scope) (i : Nat) {X : Cx} {scope : Scope} {N : List Str} {C : Addr} {s : Shared} {H : Hp} {ex : List Addr} {x : Str} {pos : Pos} (hN : N[i]? = some x := by rfl) (hs : X.env.scope = sc := by rfl) (hv : visB scope sc x = true := by decide +kernel)
    (hd : (x == ("__debug__" : Str)) = false := by decide +kernel) (hcd : (x == ("__classdict__" : Str)) = false := by decide +kernel) : PE (cxC X scope N C s H ex) (.Name x pos) (tVar i) := by
  subst hs
  refine pe_var hN ?_ hd hcd
  have hv' : visB scope X.env.scope x = true := hv
  unfold visB at hv'
  show (relN scope X.env.scope).lookup x = some .local ∨ (relN scope X.env.scope).lookup x = some .cell ∨ (relN scope X.env.scope).lookup x = some .free
  split at hv'
  · rename_i e; exact .inl e
  · rename_i e; exact .inr (.inl e)
  · rename_i e; exact .inr (.inr e)
  · cases hv'
theorem glc (sc : Scope) {X : Cx} {scope : Scope} {N : List Str} {C : Addr} {s : Shared} {H : Hp} {ex : List Addr} {x : Str} (hs : X.env.scope = sc := by rfl) (h : ((relN scope sc).lookup x == some .globalImplicit) = true := by decide +kernel) : Gl (cxC X scope N C s H ex) x := by
  subst hs
  exact eq_of_beq h
end L2

set_option Elab.async false
set_option linter.all false
set_option maxRecDepth 100000
namespace L2
open PySem PySem.Spec PyProof.Rows

/-! ### ints sorted falling -/
section
variable {prog : Program} {w : World} {A : Around} {E : Value → Shared → Prop} {s : Shared}
theorem sorted_ints_revT {l : Addr} {vs : List Value} {ns : List Int} {b : Bool} {Q : Value → Shared → Prop} (hl : IsTup s.heap l vs.toArray) (hI : IntsAre vs ns) (h64 : vs.length < 64)
    (h : ∀ (out : List Value) (n : Nat) (h1 h' : Heap) (ns' : List Int), (∀ b o, s.heap.get? b = some o → h1.get? b = some o) → (∀ b o, h1.get? b = some o → h'.get? b = some o) → h'.get? h1.objs.size = some (seqObj "list" out.toArray n) → IntsAre out ns' → ns'.Perm ns → Ordered b ns' → Q (.ref h1.objs.size) { s with heap := h' }) :
    wpAny (model prog w) A (call (.builtin "sorted") [.ref l] [(Str.ofString "reverse", .bool b)]) Q E s := by
  refine call_function_entry_kw kind_sorted plain_sorted entry_sorted (args_sorted_rev _ _) ?_
  unfold Builtin.«sorted»
  refine wpAny_bind (m := checkCount "sorted" 1 1 _) (wpAny_pure ?_)
  obtain ⟨o, ho, hc, n, hd⟩ := hl
  refine wpAny_bind (wpAny_collect_seq l (.inr rfl) ho hc hd (fun h1 hk1 => ?_) (by simp [sizeLine_eq]; omega))
  refine wpAny_bind (wpAny_newList ?_)
  have hoL : (h1.push (seqObj "list" vs.toArray 0)).get? h1.objs.size = some (seqObj "list" vs.toArray 0) := Heap.get?_push_size _ rfl
  refine wpAny_bind (wpAny_holding (wpAny_call_entry_kw slot_list_sort ⟨_, hoL, rfl⟩ entry_list_sort (list_sort_tree_rev hoL hI h64 fun out ns' a1 a2 a3 => ⟨_, rfl, ?_⟩) (args_list_sort_rev _ _)))
  obtain ⟨e, he⟩ := sortedHeap_at (vs := vs) (out := out) hoL
  refine wpAny_pure ⟨_, rfl, h out.toList e h1 _ ns' hk1 (fun b o hb => ?_) he a1 a2 a3⟩
  have hlt := Heap.lt_size hb
  rw [sortedHeap_old (Nat.ne_of_lt hlt) (by rw [Heap.size_push]; exact Nat.lt_succ_of_lt hlt)]
  exact Heap.get?_push_of_some _ hb
end

section
variable {X : Cx}
def rSortR (K : PySem.W.Frag) (b : Bool) : V → Hp → VK → Prop := fun x H Q => ∃ a ns, x = .ref a ∧ (SqL K H a (ns.map V.int) ∨ SqT K H a (ns.map V.int)) ∧ ns.length < 64 ∧ ∀ ns' p, ns'.Perm ns → Ordered b ns' → H p = none → Q (.ref p) (upd H p (.lst (ns'.map V.int)))
def tSortR (K : PySem.W.Frag) (b : Bool) (te : TE) : TE := fun σ H Q => te σ H fun x H1 => rSortR K b x H1 Q
theorem small64 {n : Nat} (h : n < 64) : n ≤ sizeLine := Nat.le_trans (Nat.le_of_lt h) (by decide)
/-- sorted(e, reverse=True) -/
theorem pe_sortR {e : Expr} {te : TE} {b : Bool} {p kp cp pos : Pos} {j : Nat} (hg : Gl X "sorted") (hm : X.mg "sorted" = none) (he : PE X e te)
    (hse : starEach [e] X.env = [(false, eval e X.env)] := by rfl) : PE X (.Call (.Name "sorted" p) [e] [⟨some "reverse", .Constant (.bool b) j cp, kp⟩] pos) (tSortR X.K b te) := by
  intro pins s σ H Q I h
  refine wpAny_Call_Name_kw (ld_blt I hg hm boot_sorted ?_ (by decide) (by decide))
  refine callWith_kw (thn (pa_cons he pa_nil hse pos pins s σ H (fun vs H1 => match vs with | [x] => rSortR X.K b x H1 Q | _ => False) I h) fun us s1 ⟨vs, H1, I1, r1, q1⟩ => ?_) (by rw [hse]; rfl) (by rw [hse]; rfl)
  match vs, r1, q1 with
  | [x], r1, q =>
    obtain ⟨u, rfl, ru⟩ := vals1 r1
    refine kws_cons (Constant_bool (kws_nil ?_))
    obtain ⟨a, ns, rfl, hq, hl, q⟩ := q
    cases ru
    show wpAny _ _ (call (.builtin "sorted") [.ref a] [(Str.ofString "reverse", .bool b)]) _ _ _
    rcases hq with hq | hq
    · obtain ⟨its, r', pl, hz⟩ := I1.list hq
      have hlen := r'.length
      rw [List.length_map] at hlen
      refine sorted_ints_rev pl.isList (intsAre_of r') (by omega) fun out ns' a1 a2 a3 => ?_
      obtain ⟨n, hn⟩ := sortedAll_at s1.heap its out
      have hz' : (ns'.map V.int).length ≤ sizeLine := by rw [List.length_map, a2.length_eq]; exact small64 hl
      exact ⟨.ref _, _, I1.laid (t' := s1.toks) (fun _ _ => sortedAll_old) (Nat.le_succ _) (show ObjOk X.prog X.w _ _ _ (.lst (ns'.map V.int)) from ⟨hz', out.toList, n, vals_ints a1, by simpa [seqObj] using hn⟩), rfl, q ns' _ a2 a3 (I1.hok.fresh (Nat.le_succ _))⟩
    · obtain ⟨its, r', pl, hz⟩ := I1.tuple hq
      have hlen := r'.length
      rw [List.length_map] at hlen
      refine sorted_ints_revT pl (intsAre_of r') (by omega) fun out n h1 h' ns' k1 k2 e a1 a2 a3 => ?_
      have hz' : (ns'.map V.int).length ≤ sizeLine := by rw [List.length_map, a2.length_eq]; exact small64 hl
      have I2 : Inv X pins σ H1 { s1 with heap := h1 } := I1.kept (t' := s1.toks) k1
      exact ⟨.ref _, _, I2.laid (t' := s1.toks) k2 (Nat.le_refl _) (show ObjOk X.prog X.w _ _ _ (.lst (ns'.map V.int)) from ⟨hz', out, n, vals_ints a1, by simpa [seqObj] using e⟩), rfl, q ns' _ a2 a3 (I2.hok.fresh (Nat.le_refl _))⟩

theorem preSum_list (ns : List Int) : ∀ j, preSum (fun i => ns.getD i 0) j = (ns.take j).sum
  | 0 => by simp [preSum]
  | j + 1 => by
    rw [preSum, preSum_list ns j]
    by_cases h : j < ns.length
    · rw [List.take_succ_eq_append_getElem h, List.sum_append, List.sum_cons, List.sum_nil]
      have e : ns.getD j 0 = ns[j] := by simp [h]
      rw [e]
      omega
    · rw [List.take_of_length_le (by omega), List.take_of_length_le (by omega)]
      have : ns[j]? = none := List.getElem?_eq_none (by omega)
      simp [List.getD, this]
theorem vals_int_at {ns : List Int} {its : List Value} (r : Vals (ns.map V.int) its) (i : Nat) (v : Value) (e : its.toArray[i]? = some v) : ∃ t, v = .int (ns.getD i 0) t := by
  have e' : its[i]? = some v := by simpa using e
  have hi : i < its.length := (List.getElem?_eq_some_iff.mp e').1
  have hl := r.length
  rw [List.length_map] at hl
  have hx : (ns.map V.int)[i]? = some (V.int (ns.getD i 0)) := by
    have hi' : i < ns.length := by omega
    simp [hi']
  obtain ⟨u, hu, t, rfl⟩ := r.get hx
  rw [e'] at hu
  cases hu
  exact ⟨t, rfl⟩
/-- sum(x) of a list or tuple of ints -/
theorem call_sum_ints (hc : X.calm = true) : CallR X (.builtin "sum") (fun xs H Q => ∃ (a : Addr) (ns : List Int), xs = [.ref a] ∧ (SqL X.K H a (ns.map V.int) ∨ SqT X.K H a (ns.map V.int)) ∧ Q (.int ns.sum) H) := by
  intro pins s σ H xs us Q I r h
  obtain ⟨a, ns, rfl, hq, q⟩ := h
  obtain ⟨u, rfl, ru⟩ := vals1 r
  cases ru
  have hh : X.A.in1.handled = none := I.ok.hd hc
  have fin : ∀ {its : List Value} (h' : Heap) (tk : Nat) (t' : Tok), Vals (ns.map V.int) its → (∀ b o, s.heap.get? b = some o → h'.get? b = some o) → EP X pins σ Q (.int (preSum (fun i => ns.getD i 0) its.toArray.size) t') { s with heap := h', toks := tk } := fun {its} h' tk t' r' hk => by
    have hl := r'.length
    rw [List.length_map] at hl
    refine ⟨.int ns.sum, H, I.kept hk, ⟨t', ?_⟩, q⟩
    rw [preSum_list, List.size_toArray, ← hl, List.take_length]
  rcases hq with hq | hq
  · obtain ⟨its, r', pl, hz⟩ := I.list hq
    have hlt : a < s.heap.objs.size := by obtain ⟨_, e, _⟩ := pl.isList; exact Heap.lt_size e
    refine call_sum_walkG (wpAny_pyIter_list pl.isList ⟨_, _, _, _, _, _, fun i => ns.getD i 0, rfl, Walks.list (A := X.A.in1) hh _ a (Nat.ne_of_lt hlt) its.toArray, ⟨⟨_, Heap.get?_push_size _ rfl, rfl, rfl⟩, pl.isList.push _⟩, fun b hb => ?_, vals_int_at r', fun h' tk t' hk => fin h' tk t' r' fun b o e => hk b o (by simpa using Nat.ne_of_lt (Heap.lt_size e)) (Heap.get?_push_of_some _ e)⟩)
    show b < (s.heap.push _).objs.size
    rw [Heap.size_push]
    rcases List.mem_cons.mp hb with rfl | hb
    · exact Nat.lt_succ_self _
    · rcases List.mem_cons.mp hb with rfl | hb
      · exact Nat.lt_succ_of_lt hlt
      · cases hb
  · obtain ⟨its, r', pl, hz⟩ := I.tuple hq
    have pl' : s.heap.IsTuple a its.toArray := pl
    have hlt : a < s.heap.objs.size := by obtain ⟨_, e, _⟩ := pl; exact Heap.lt_size e
    refine call_sum_walkG (wpAny_pyIter_tuple pl' ⟨_, _, _, _, _, _, fun i => ns.getD i 0, rfl, Walks.tuple (A := X.A.in1) hh _ a (Nat.ne_of_lt hlt) its.toArray, ⟨⟨_, Heap.get?_push_size _ rfl, rfl, rfl⟩, pl'.at fun o e => Heap.get?_push_of_some _ e⟩, fun b hb => ?_, vals_int_at r', fun h' tk t' hk => fin h' tk t' r' fun b o e => hk b o (by simpa using Nat.ne_of_lt (Heap.lt_size e)) (Heap.get?_push_of_some _ e)⟩)
    show b < (s.heap.push _).objs.size
    rw [Heap.size_push]
    rcases List.mem_cons.mp hb with rfl | hb
    · exact Nat.lt_succ_self _
    · rcases List.mem_cons.mp hb with rfl | hb
      · exact Nat.lt_succ_of_lt hlt
      · cases hb

/-! ### x.count(y) over flat items -/
def cntV (y : V) (xs : List V) : Nat := xs.countP fun x => eqV x y
theorem cnt_eqU {x : V} : ∀ {xs : List V} {us : List Value}, Vals xs us → xs.all flatV = true → us.countP (eqU x) = cntV x xs
  | _, _, .nil, _ => rfl
  | y :: xs, u :: us, .cons r t, f => by
    rw [List.all_cons, Bool.and_eq_true] at f
    unfold cntV
    rw [List.countP_cons, List.countP_cons, eqU_of r f.1, cnt_eqU t f.2]
    rfl
def rCount (K : PySem.W.Frag) (SQ : PySem.W.Frag → Hp → Addr → List V → Prop) : V → List V → Hp → VK → Prop := fun x vs H Q => ∃ a xs y, x = .ref a ∧ vs = [y] ∧ SQ K H a xs ∧ flatV y = true ∧ xs.all flatV = true ∧ Q (.int (cntV y xs)) H
theorem mt_countT : MtR X "tuple.count" (rCount X.K SqT) := by
  intro pins s σ H x vs v us Q I rx rv h
  obtain ⟨a, xs, y, rfl, rfl, hq, fy, fs, q⟩ := h
  cases rx
  obtain ⟨u, rfl, ru⟩ := rv.one
  obtain ⟨its, r, pl, hz⟩ := I.tuple hq
  obtain ⟨o, ho, hc, n, hd⟩ := pl
  obtain ⟨c, dd, dt, sl⟩ := o
  cases hc
  cases hd
  refine call_meets F.slot_tuple_count ⟨_, ho, rfl⟩ F.entry_tuple_count (F.args_tuple_count_2 _ _) (SeqAt.tuple_countAt a its.toArray n dd sl u (eqU y)) ⟨ho, fun w hw => mem_eqAt ru fy r fs w (by simpa using hw), ?_⟩
  refine ⟨.int _, H, I.tok _, ⟨s.toks, ?_⟩, q⟩
  rw [show its.toArray.toList = its from rfl, cnt_eqU r fs]
theorem mt_countL : MtR X "list.count" (rCount X.K SqL) := by
  intro pins s σ H x vs v us Q I rx rv h
  obtain ⟨a, xs, y, rfl, rfl, hq, fy, fs, q⟩ := h
  cases rx
  obtain ⟨u, rfl, ru⟩ := rv.one
  obtain ⟨its, r, pl, hz⟩ := I.list hq
  obtain ⟨o, ho, hc, n, hd⟩ := pl.isList
  obtain ⟨c, dd, dt, sl⟩ := o
  cases hc
  cases hd
  refine call_meets F.slot_list_count ⟨_, ho, rfl⟩ F.entry_list_count (F.args_list_count_2 _ _) (SeqAt.list_countAt a its.toArray n dd sl u (eqU y)) ⟨ho, fun w hw => mem_eqAt ru fy r fs w (by simpa using hw), ?_⟩
  refine ⟨.int _, H, I.tok _, ⟨s.toks, ?_⟩, q⟩
  rw [show its.toArray.toList = its from rfl, cnt_eqU r fs]
theorem cntV_ints (k : Int) (ns : List Int) : cntV (.int k) (ns.map V.int) = ns.count k := by
  unfold cntV
  rw [List.countP_map, List.count_eq_countP]
  congr 1
theorem flat_ints (ns : List Int) : (ns.map V.int).all flatV = true := by
  rw [List.all_map]; simp [flatV]

/-! ### isinstance(x, T), T a built-in type -/
theorem call_isi : CallR X (.builtin "isinstance") (fun xs H Q => ∃ x T t b, xs = [x, .ty T] ∧ TyOf X.K H x t ∧ PySem.W.kitOne X.K t (.type T) = some b ∧ Q (.bl b) H) := by
  intro pins s σ H xs us Q I r h
  obtain ⟨x, T, t, b, rfl, ty, hk, q⟩ := h
  obtain ⟨u, v, rfl, ru, rv⟩ := vals2 r
  cases (show v = Value.type T from rv)
  exact isinst_ok I ru ty hk fun tk => ⟨.bl b, H, I.tok tk, rfl, q⟩
end
/-! ### which built-in type lies beneath which -/
theorem kit_int_int {K : PySem.W.Frag} : PySem.W.kitOne K (.type "int") (.type "int") = some true := by unfold PySem.W.kitOne; rw [if_pos (by decide +kernel)]
theorem kit_int_bool {K : PySem.W.Frag} : PySem.W.kitOne K (.type "int") (.type "bool") = some false := by
  unfold PySem.W.kitOne
  rw [if_neg (by decide +kernel)]
  rfl
theorem kit_tup_tup {K : PySem.W.Frag} : PySem.W.kitOne K (.type "tuple") (.type "tuple") = some true := by unfold PySem.W.kitOne; rw [if_pos (by decide +kernel)]
end L2

set_option Elab.async false
set_option linter.all false
set_option maxRecDepth 100000
namespace L2
open PySem PySem.Spec PyProof.Rows
/-! ### the drawn state: [great, rest, cells, count] -/
theorem noPylong_big {x y : Int} (h0 : 0 < y) (h : y ≤ 10 ^ 100) : Builtin.divisionGoesByPylong x y = false := by
  refine PyProof.noPylong_of_log2 ?_
  have hn : y.natAbs ≠ 0 := by omega
  have h1 : y.natAbs ≤ 10 ^ 100 := by omega
  refine (Nat.log2_lt hn).mpr (Nat.lt_of_le_of_lt h1 (by decide +kernel))
def CDivB (i j : Int) : Prop := 0 < j ∧ j ≤ 10 ^ 100
theorem op_fdivB {X : Cx} : OpR X (binaryOp .FloorDiv) (rI CDivB fun i j => .int (i / j)) := opI fun i j _ _ _ _ _ hc q => by
  refine floordiv_int (by have := hc.1; omega) ?_ (.inl (noPylong_big hc.1 hc.2))
  rw [Int.fdiv_eq_ediv_of_nonneg _ (Int.le_of_lt hc.1)]
  exact q
theorem get_list {X : Cx} : PGet X (fun x y H Q => ∃ p xs i v, x = .ref p ∧ y = .int i ∧ SqL X.K H p xs ∧ 0 ≤ i ∧ xs[i.toNat]? = some v ∧ Q v H) := by
  intro pins s σ H o i ov iv Q I ro ri h
  obtain ⟨p, xs, k, v, rfl, rfl, hq, h0, hv, q⟩ := h
  cases ro
  obtain ⟨t, rfl⟩ := ri
  obtain ⟨its, r, pl, hz⟩ := I.list hq
  have hlen := r.length
  have hn := line63
  obtain ⟨u, hu, ru⟩ := r.get hv
  have hk := (List.getElem?_eq_some_iff.mp hv).1
  exact wpAny_getItem_list pl.isList h0 (by omega) (by simpa using hu) ⟨v, H, I, ru, q⟩

/-- what holds between two statements -/
theorem seqJoin {A B : TS} {D : Ends} {σ : St} {H : Hp} (R : St → Hp → Prop) (h : ∀ nx : St → Hp → Prop, (∀ σ' H', R σ' H' → nx σ' H') → A { D with nx := nx } σ H) (hR : ∀ σ' H', R σ' H' → B D σ' H') : tSeq A B D σ H := h (B D) hR
/-- what may change is at S alone -/
def Keep (S : List Addr) (H H' : Hp) : Prop := ∀ b o, H b = some o → b ∉ S → H' b = some o
theorem Keep.refl (S : List Addr) (H : Hp) : Keep S H H := fun _ _ h _ => h
theorem Keep.trans {S : List Addr} {H H1 H2 : Hp} (a : Keep S H H1) (b : Keep S H1 H2) : Keep S H H2 := fun c o h n => b c o (a c o h n) n
theorem Keep.new {S : List Addr} {H : Hp} {p : Addr} {o : HO} (h : H p = none) : Keep S H (upd H p o) := fun b u e _ => by rw [upd_ne (ne_of_none e h)]; exact e
theorem Keep.set {S : List Addr} {H : Hp} {p : Addr} {o : HO} (h : p ∈ S) : Keep S H (upd H p o) := fun b u e n => by
  have hb : b ≠ p := fun z => n (by rw [z]; exact h)
  rw [upd_ne hb]; exact e
theorem Same.keep {S : List Addr} {H H' : Hp} (h : Same H H') : Keep S H H' := fun b o e _ => h b o e
structure StAt (H : Hp) (st ga ca : Addr) (N : Nat) : Prop where
  ex : ∃ (gs cs : List Int) (q n : Int), H st = some (.lst [.ref ga, .int q, .ref ca, .int n]) ∧ H ga = some (.lst (gs.map V.int)) ∧ H ca = some (.lst (cs.map V.int)) ∧
    gs.length ≤ 63 ∧ (∀ x ∈ gs, 0 < x) ∧ 0 ≤ q ∧ 0 ≤ n ∧ n ≤ N
  gc : ga ≠ ca
  sg : st ≠ ga
  sc : st ≠ ca
theorem StAt.nin {H : Hp} {st ga ca : Addr} {N : Nat} (S : StAt H st ga ca N) {p : Addr} (h : H p = none) : p ∉ [st, ga] := by
  obtain ⟨gs, cs, q, n, h1, h2, _⟩ := S.ex
  intro z
  rcases List.mem_cons.mp z with rfl | z
  · rw [h1] at h; cases h
  · rcases List.mem_cons.mp z with rfl | z
    · rw [h2] at h; cases h
    · cases z
theorem StAt.mono {H : Hp} {st ga ca : Addr} {N M : Nat} (S : StAt H st ga ca N) (h : N ≤ M) : StAt H st ga ca M := by
  obtain ⟨gs, cs, q, n, h1, h2, h3, h4, h5, h6, h7, h8⟩ := S.ex
  exact ⟨⟨gs, cs, q, n, h1, h2, h3, h4, h5, h6, h7, by omega⟩, S.gc, S.sg, S.sc⟩
theorem StAt.same {H H' : Hp} {st ga ca : Addr} {N : Nat} (S : StAt H st ga ca N) (h : Same H H') : StAt H' st ga ca N := by
  obtain ⟨gs, cs, q, n, h1, h2, h3, r⟩ := S.ex
  exact ⟨⟨gs, cs, q, n, h _ _ h1, h _ _ h2, h _ _ h3, r⟩, S.gc, S.sg, S.sc⟩
theorem Same.new {H : Hp} {p : Addr} {o : HO} (h : H p = none) : Same H (upd H p o) := fun b u e => by rw [upd_ne (ne_of_none e h)]; exact e
theorem Keep.at {S : List Addr} {H H' : Hp} (k : Keep S H H') {b : Addr} {o : HO} (h : H b = some o) (n : b ∉ S) : H' b = some o := k b o h n
theorem Keep.free {S : List Addr} {H H' : Hp} (k : Keep S H H') {b : Addr} (h : H' b = none) (n : b ∉ S) : H b = none := by
  cases q : H b with
  | none => rfl
  | some o => rw [k b o q n] at h; cases h
theorem map_at {ns : List Int} {i : Nat} {x : V} (h : (ns.map V.int)[i]? = some x) : ∃ z, ns[i]? = some z ∧ x = .int z := by
  rw [List.getElem?_map] at h
  cases hn : ns[i]? with
  | none => rw [hn] at h; cases h
  | some z => rw [hn] at h; exact ⟨z, rfl, (Option.some.inj h).symm⟩
/-- one heap lies in another -/
def lies (ns ms : List Int) : Bool := ns.all fun x => decide (ns.count x ≤ ms.count x)
theorem all_take {α : Type} {p : α → Bool} {l : List α} {i : Nat} {x : α} (hx : l[i]? = some x) : (l.take (i + 1)).all p = ((l.take i).all p && p x) := by
  have hi := (List.getElem?_eq_some_iff.mp hx).1
  have ex := (List.getElem?_eq_some_iff.mp hx).2
  rw [List.take_succ_eq_append_getElem hi, List.all_append, ex]
  simp
theorem all_false {α : Type} {p : α → Bool} {l : List α} {x : α} (hx : x ∈ l) (h : p x = false) : l.all p = false := by
  rw [List.all_eq_false]
  exact ⟨x, hx, by simp [h]⟩
theorem StAt.nin3 {H : Hp} {st ga ca : Addr} {N : Nat} (S : StAt H st ga ca N) {p : Addr} (h : H p = none) : p ∉ [st, ga, ca] := by
  obtain ⟨gs, cs, q, n, h1, h2, h3, _⟩ := S.ex
  intro z
  simp only [List.mem_cons, List.not_mem_nil, or_false] at z
  rcases z with rfl | rfl | rfl
  · rw [h1] at h; cases h
  · rw [h2] at h; cases h
  · rw [h3] at h; cases h
theorem nin2 {st ga ca p : Addr} (h : p ∉ [st, ga, ca]) : p ∉ [st, ga] := fun z => h (by
  simp only [List.mem_cons, List.not_mem_nil, or_false] at z ⊢
  rcases z with z | z
  · exact .inl z
  · exact .inr (.inl z))
theorem StAt.upd {H : Hp} {st ga ca : Addr} {N : Nat} {p : Addr} {o : HO} (S : StAt H st ga ca N) (h : p ∉ [st, ga, ca]) : StAt (upd H p o) st ga ca N := by
  obtain ⟨gs, cs, q, n, h1, h2, h3, r⟩ := S.ex
  have n1 : st ≠ p := fun z => h (by simp [z])
  have n2 : ga ≠ p := fun z => h (by simp [z])
  have n3 : ca ≠ p := fun z => h (by simp [z])
  exact ⟨⟨gs, cs, q, n, by rw [upd_ne n1]; exact h1, by rw [upd_ne n2]; exact h2, by rw [upd_ne n3]; exact h3, r⟩, S.gc, S.sg, S.sc⟩
theorem Keep.updN {S : List Addr} {H H' : Hp} {p : Addr} {o : HO} (k : Keep S H H') (h : H p = none) : Keep S H (L2.upd H' p o) := fun b u e n => by
  rw [upd_ne (ne_of_none e h)]
  exact k b u e n
end L2

set_option Elab.async false
set_option linter.all false
set_option maxRecDepth 100000
namespace L2
open PySem PySem.Spec PyProof.Rows

/-! ### == and != of tuples and lists, whatever they hold -/
/-- two values of one kind are compared -/
def EqK (X : Cx) (α : Type) [DecidableEq α] (R : α → V → Hp → Prop) (n : Nat) : Prop :=
  ∀ (pins : List (Addr × Obj)) (σ : St) (H : Hp) (s : Shared) (A : Around) (a b : α) (v w : V) (u u' : Value), Inv X pins σ H s → A.units + n < cLine → R a v H → R b w H → RelV v u → RelV w u' → SeqAt.EqAt A s u u' (decide (a = b))
/-- the values of a tuple, of a list -/
inductive All2 {α : Type} (R : α → V → Hp → Prop) (H : Hp) : List α → List V → Prop
  | nil : All2 R H [] []
  | cons {a : α} {v : V} {l : List α} {xs : List V} : R a v H → All2 R H l xs → All2 R H (a :: l) (v :: xs)
theorem All2.length {α : Type} {R : α → V → Hp → Prop} {H : Hp} : ∀ {l : List α} {xs : List V}, All2 R H l xs → l.length = xs.length
  | _, _, .nil => rfl
  | _, _, .cons _ t => by simp [t.length]
theorem All2.get {α : Type} {R : α → V → Hp → Prop} {H : Hp} : ∀ {l : List α} {xs : List V} {i : Nat} {x : V}, All2 R H l xs → xs[i]? = some x → ∃ a, l[i]? = some a ∧ R a x H
  | _, _, _, _, .nil, e => by simp at e
  | _, _, 0, _, .cons r _, e => by simp at e; subst e; exact ⟨_, rfl, r⟩
  | _, _, i + 1, x, .cons _ t, e => by
    obtain ⟨u, h1, h2⟩ := All2.get (i := i) (x := x) t (by simpa using e)
    exact ⟨u, by simpa using h1, h2⟩
theorem All2.append {α : Type} {R : α → V → Hp → Prop} {H : Hp} : ∀ {l l' : List α} {xs xs' : List V}, All2 R H l xs → All2 R H l' xs' → All2 R H (l ++ l') (xs ++ xs')
  | _, _, _, _, .nil, s => s
  | _, _, _, _, .cons r t, s => .cons r (t.append s)
theorem All2.imp {α : Type} {R : α → V → Hp → Prop} {H H' : Hp} (f : ∀ a v, R a v H → R a v H') : ∀ {l : List α} {xs : List V}, All2 R H l xs → All2 R H' l xs
  | _, _, .nil => .nil
  | _, _, .cons r t => .cons (f _ _ r) (t.imp f)
def RInt : Int → V → Hp → Prop := fun i v _ => v = .int i
theorem all2_ints {H : Hp} : ∀ (ns : List Int), All2 RInt H ns (ns.map V.int)
  | [] => .nil
  | _ :: r => .cons rfl (all2_ints r)
/-- a tuple of such values -/
def RTup (K : PySem.W.Frag) {α : Type} (R : α → V → Hp → Prop) : List α → V → Hp → Prop := fun l v H => ∃ p xs, v = .ref p ∧ SqT K H p xs ∧ All2 R H l xs
theorem all_range_eq {α : Type} [DecidableEq α] {l m : List α} {e : Nat → Bool} (h : ∀ j a b, l[j]? = some a → m[j]? = some b → e j = decide (a = b)) : ((List.range (min l.length m.length)).all e && l.length == m.length) = decide (l = m) := by
  rw [Bool.eq_iff_iff]
  simp only [Bool.and_eq_true, List.all_eq_true, List.mem_range, beq_iff_eq, decide_eq_true_eq]
  constructor
  · rintro ⟨h1, h2⟩
    refine List.ext_getElem h2 fun j j1 j2 => ?_
    have := h1 j (by omega)
    rw [h j _ _ (List.getElem?_eq_getElem j1) (List.getElem?_eq_getElem j2)] at this
    exact of_decide_eq_true this
  · rintro rfl
    refine ⟨fun j hj => ?_, rfl⟩
    have hj' : j < l.length := by omega
    rw [h j _ _ (List.getElem?_eq_getElem hj') (List.getElem?_eq_getElem hj')]
    exact decide_eq_true rfl
section
variable {X : Cx}
theorem eqk_int : EqK X Int RInt 0 := fun pins σ H s A a b v w u u' I hu r1 r2 q1 q2 => by
  unfold RInt at r1 r2
  subst r1 r2
  obtain ⟨t, rfl⟩ := q1
  obtain ⟨t', rfl⟩ := q2
  have := SeqAt.EqAt.int_int (A := A) (s := s) a t b t'
  rwa [show (a == b) = decide (a = b) from rfl] at this
variable {α : Type} [DecidableEq α] {R : α → V → Hp → Prop} {n : Nat}
/-- the items' answers -/
theorem eqk_items (h : EqK X α R n) {pins : List (Addr × Obj)} {σ : St} {H : Hp} {s : Shared} {A : Around} {l m : List α} {xs ys : List V} {us ws : List Value} (I : Inv X pins σ H s) (hu : A.units + (n + 1) < cLine)
    (r1 : All2 R H l xs) (r2 : All2 R H m ys) (q1 : Vals xs us) (q2 : Vals ys ws) :
    ∃ e : Nat → Bool, (∀ j (h1 : j < us.toArray.size) (h2 : j < ws.toArray.size), SeqAt.EqAt A.in1 s us.toArray[j] ws.toArray[j] (e j)) ∧ (∀ j a b, l[j]? = some a → m[j]? = some b → e j = decide (a = b)) := by
  refine ⟨fun j => match l[j]?, m[j]? with | some a, some b => decide (a = b) | _, _ => false, fun j h1 h2 => ?_, fun j a b e1 e2 => by simp only [e1, e2]⟩
  have l1 := q1.length
  have l2 := q2.length
  have l3 := r1.length
  have l4 := r2.length
  simp only [List.size_toArray] at h1 h2
  have hx : xs[j]? = some xs[j] := List.getElem?_eq_getElem (by omega)
  have hy : ys[j]? = some ys[j] := List.getElem?_eq_getElem (by omega)
  obtain ⟨a, ea, ra⟩ := r1.get hx
  obtain ⟨b, eb, rb⟩ := r2.get hy
  obtain ⟨u, eu, ru⟩ := q1.get hx
  obtain ⟨w, ew, rw'⟩ := q2.get hy
  have e1 : us.toArray[j]'(by simpa using h1) = u := by
    have := (List.getElem?_eq_some_iff.mp eu).2
    simpa using this
  have e2 : ws.toArray[j]'(by simpa using h2) = w := by
    have := (List.getElem?_eq_some_iff.mp ew).2
    simpa using this
  rw [e1, e2]
  simp only [ea, eb]
  exact h pins σ H s A.in1 a b _ _ u w I (by show A.units + 1 + n < cLine; omega) ra rb ru rw'
theorem rc_tup (h : EqK X α R n) {pins : List (Addr × Obj)} {σ : St} {H : Hp} {s : Shared} {A : Around} {l m : List α} {p q : Addr} (I : Inv X pins σ H s) (hu : A.units + (n + 1) < cLine) (r1 : RTup X.K R l (.ref p) H) (r2 : RTup X.K R m (.ref q) H) :
    SeqAt.RcAt A s (.ref p) (.ref q) (decide (l = m)) := by
  obtain ⟨_, xs, e1, h1, a1⟩ := r1
  obtain ⟨_, ys, e2, h2, a2⟩ := r2
  cases e1
  cases e2
  obtain ⟨us, v1, t1, z1⟩ := I.tuple h1
  obtain ⟨ws, v2, t2, z2⟩ := I.tuple h2
  obtain ⟨e, he, hd⟩ := eqk_items h I hu a1 a2 v1 v2
  have := SeqAt.RcAt.tuples (e := e) t1 t2 (by omega) he
  rw [List.size_toArray, List.size_toArray, ← v1.length, ← v2.length, ← a1.length, ← a2.length, all_range_eq hd] at this
  exact this
theorem eqk_tup (h : EqK X α R n) (det : ∀ (pins : List (Addr × Obj)) (σ : St) (H : Hp) (s : Shared) (a b : α) (v : V), Inv X pins σ H s → R a v H → R b v H → a = b) : EqK X (List α) (RTup X.K R) (n + 1) := fun pins σ H s A a b v w u u' I hu r1 r2 q1 q2 => by
  obtain ⟨p, xs, rfl, h1, a1⟩ := id r1
  obtain ⟨q, ys, rfl, h2, a2⟩ := id r2
  cases q1
  cases q2
  by_cases hpq : p = q
  · subst hpq
    have e := I.tuple_inj h1 h2
    subst e
    have : a = b := by
      clear r1 r2 h1 h2 hu
      induction a1 generalizing b with
      | nil => cases a2; rfl
      | cons r t ih =>
        cases a2 with
        | cons r' t' => rw [det pins σ H s _ _ _ I r r', ih _ t']
    rw [decide_eq_true this]
    exact SeqAt.EqAt.same _
  · exact SeqAt.EqAt.of_refs hpq (rc_tup h I hu r1 r2)
theorem det_int (pins : List (Addr × Obj)) (σ : St) (H : Hp) (s : Shared) (a b : Int) (v : V) (I : Inv X pins σ H s) (h1 : RInt a v H) (h2 : RInt b v H) : a = b := by
  unfold RInt at h1 h2
  rw [h1] at h2
  cases h2
  rfl
theorem op_neT' (h : EqK X α R n) (hu : X.A.units + (n + 1) < cLine) : OpR X (compareOp .NotEq) (fun x y H Q => ∃ l m, RTup X.K R l x H ∧ RTup X.K R m y H ∧ Q (.bl (!decide (l = m))) H) := by
  intro pins s σ H x y v u Q I rx ry hq
  obtain ⟨l, m, r1, r2, q⟩ := hq
  obtain ⟨p, xs, rfl, h1, a1⟩ := r1
  obtain ⟨p', ys, rfl, h2, a2⟩ := r2
  cases rx
  cases ry
  obtain ⟨us, v1, t1, z1⟩ := I.tuple h1
  obtain ⟨ws, v2, t2, z2⟩ := I.tuple h2
  obtain ⟨e, he, hd⟩ := eqk_items h I hu a1 a2 v1 v2
  have ee := all_range_eq hd
  have this := SeqAt.RcNeAt.tuples (e := e) t1 t2 (by omega) he
  rw [List.size_toArray, List.size_toArray, ← v1.length, ← v2.length, ← a1.length, ← a2.length, ee] at this
  exact this X.prog X.w X.xe _ ⟨.bl _, H, I, rfl, q⟩
end
end L2
namespace L2
open PySem PySem.Spec PyProof.Rows
theorem huR {A : Around} {k n : Nat} {cm : Bool} (hr : Room k A cm) (h : n ≤ 64 := by decide) : A.units + n < cLine := Nat.lt_of_le_of_lt (Nat.add_le_add_left h _) hr.units
end L2
namespace HT
open PySem PySem.Spec PyProof.Rows
section
variable {prog : Program} {w : World} {A : Around} {E : Value → Shared → Prop} {s : Shared}
theorem getItem_tuple_whole {t sl : Addr} {items : Array Value} {vl vu : Value} {lo hi : Option Int} {Q : Value → Shared → Prop} (ht : IsTup s.heap t items) (hs : s.heap.IsSliceOf sl vl vu .none) (pl : IsPart vl lo) (pu : IsPart vu hi)
    (hw : sIx items.size 0 lo = 0 ∧ sIx items.size items.size hi = items.size) (h : Q (.ref t) s) : wpAny (model prog w) A (getItem (.ref t) (.ref sl)) Q E s := by
  obtain ⟨os, hos, hcs, hds⟩ := id hs
  have hTs : s.TypeIs (.ref sl) "slice" := ⟨os, hos, hcs⟩
  unfold getItem
  try with_reducible refine wpAny_holding ?_
  first | refine wpAny_bind (wpAny_pure ?_) | skip
  refine wpAny_bind (wpAny_sequenceKey ht.typeIs (by decide) ?_)
  refine wpAny_bind (wpAny_callSpecial?_slot (name := Str.ofString "__getitem__") ht.typeIs PyProof.Rows.slot_tuple_getitem
    (wpAny_call_entry PyProof.Rows.slot_tuple_getitem ht.typeIs entry_tuple_getitem ?_ (args_tuple_getitem _ _)))
  show wpAny _ _ (Builtin.Tuple.tupleItemsOf (.ref t) >>= _) _ _ s
  refine wpAny_bind (tupleItemsOf_ ht ?_)
  refine wpAny_bind (wpAny_typeOf hTs ?_)
  rw [if_pos (by decide)]
  refine wpAny_bind (sliceApplied_gen hs pl pu ?_)
  have hyes : (((sIx items.size 0 lo : Nat) : Int) == 0 && (1 : Int) == 1 && (sIx items.size items.size hi - sIx items.size 0 lo) == items.size) = true := by
    rw [hw.1, hw.2]; simp
  show wpAny _ _ (if (((sIx items.size 0 lo : Nat) : Int) == 0 && (1 : Int) == 1 && (sIx items.size items.size hi - sIx items.size 0 lo) == items.size) = true then _ else _) _ _ s
  rw [if_pos hyes]
  refine wpAny_bind ?_
  unfold Builtin.Tuple.tupleIsExact
  refine wpAny_bind (wpAny_typeOf ht.typeIs (wpAny_pure ?_))
  rw [if_pos (by decide)]
  first
    | exact wpAny_bind (wpAny_rule (wpAny_bind (wpAny_pure (wpAny_pure ⟨_, rfl, wpAny_pure h⟩))))
    | exact wpAny_bind (wpAny_rule (wpAny_pure ⟨_, rfl, wpAny_pure h⟩))
end
end HT
namespace L2
open PySem PySem.Spec PyProof.Rows
section
variable {X : Cx}
theorem sl_tupW : SlR X (fun x lo hi H Q => ∃ a xs, x = .ref a ∧ SqT X.K H a xs ∧ (HT.sIx xs.length 0 lo = 0 ∧ HT.sIx xs.length xs.length hi = xs.length) ∧ Q (.ref a) H) := by
  intro pins s σ H x v vl vu lo hi sl Q I rx hs pl pu h
  obtain ⟨a, xs, rfl, hx, hw, q⟩ := h
  cases rx
  obtain ⟨its, r, ht, hz⟩ := I.tuple hx
  have hlen : its.toArray.size = xs.length := by rw [List.size_toArray]; exact r.length.symm
  refine ⟨"tuple", _, PyProof.Rows.slot_tuple_getitem.lookup, ht.typeIs, ?_⟩
  exact HT.getItem_tuple_whole ht hs pl pu (by rw [hlen]; exact hw) ⟨.ref a, H, I, rfl, q⟩
/-- t[lo:hi], the whole one or a new one -/
def rSlTA (K : PySem.W.Frag) : V → Option Int → Option Int → Hp → VK → Prop := fun x lo hi H Q => (∃ a xs, x = .ref a ∧ SqT K H a xs ∧ (HT.sIx xs.length 0 lo = 0 ∧ HT.sIx xs.length xs.length hi = xs.length) ∧ Q (.ref a) H) ∨ rSlT K x lo hi H Q
theorem sl_tupA : SlR X (rSlTA X.K) := sl_tupW.or sl_tup
end
end L2

set_option Elab.async false
set_option linter.all false
set_option maxRecDepth 100000
namespace HT
open PySem PySem.Spec PyProof.Rows
def lexGt : List Int → List Int → Bool
  | [], [] => false
  | [], _ :: _ => false
  | _ :: _, [] => true
  | x :: xs, y :: ys => if x = y then lexGt xs ys else decide (y < x)
theorem lexGt_cons (x y : Int) (xs ys : List Int) : lexGt (x :: xs) (y :: ys) = if x = y then lexGt xs ys else decide (y < x) := rfl
section
open PySem.SeqAt
open PySem.AutoSeq1 (wpAny_loadPart')
open PySem.MeetsSeq PySem.MeetsSeq2 PySem.MeetsSeq3
end

section
variable {prog : Program} {w : World} {A : Around} {E : Value → Shared → Prop} {s : Shared}

end
end HT
namespace L2
open PySem PySem.Spec PyProof.Rows
section
variable {X : Cx}
/-! ### texts -/
/-! ### a loop over a text's signs -/
end
end L2

set_option Elab.async false
set_option linter.all false
set_option maxRecDepth 100000
namespace L2
open PySem PySem.Spec PyProof.Rows
section
variable {X : Cx} {tg : Expr}
end
section
variable {X : Cx}
/-- all(list of truths) -/
theorem call_all_bools (hc : X.calm = true) : CallR X (.builtin "all") (fun xs H Q => ∃ (a : Addr) (bs : List Bool), xs = [.ref a] ∧ SqL X.K H a (bs.map V.bl) ∧ Q (.bl (bs.all id)) H) := by
  intro pins s σ H xs us Q I r h
  obtain ⟨a, bs, rfl, hq, q⟩ := h
  obtain ⟨u, rfl, ru⟩ := vals1 r
  cases ru
  have hh : X.A.in1.handled = none := I.ok.hd hc
  obtain ⟨its, r', pl, hz⟩ := I.list hq
  have hl := r'.length
  rw [List.length_map] at hl
  have hlt : a < s.heap.objs.size := by obtain ⟨_, e, _⟩ := pl.isList; exact Heap.lt_size e
  refine call_all_walk (wpAny_pyIter_list pl.isList ⟨_, _, _, _, _, _, fun i => bs.getD i false, rfl, Walks.list (A := X.A.in1) hh _ a (Nat.ne_of_lt hlt) its.toArray, ⟨⟨_, Heap.get?_push_size _ rfl, rfl, rfl⟩, pl.isList.push _⟩, ?_, fun h' tk hk => ?_⟩)
  · intro i v s' Q' E' hv hQ
    have hv' : its[i]? = some v := by simpa using hv
    have hi : i < bs.length := by have := (List.getElem?_eq_some_iff.mp hv').1; omega
    have hx : (bs.map V.bl)[i]? = some (V.bl (bs.getD i false)) := by simp [hi]
    obtain ⟨u, hu, ru⟩ := r'.get hx
    rw [hv'] at hu
    cases hu
    cases ru
    exact wpAny_truthy_bool hQ
  · have e : (List.range its.toArray.size).all (fun i => bs.getD i false) = bs.all id := by
      rw [List.size_toArray, ← hl, Bool.eq_iff_iff]
      simp only [List.all_eq_true, List.mem_range, id]
      constructor
      · intro h b hb
        obtain ⟨i, hi, rfl⟩ := List.mem_iff_getElem.mp hb
        have := h i hi
        simpa [hi] using this
      · intro h i hi
        have := h bs[i] (List.getElem_mem hi)
        simpa [hi] using this
    rw [e]
    exact ⟨.bl _, H, I.kept fun b o e => hk b o (by simpa using Nat.ne_of_lt (Heap.lt_size e)) (Heap.get?_push_of_some _ e), rfl, q⟩
end
end L2

set_option Elab.async false
set_option linter.all false
set_option maxRecDepth 100000
namespace L2
open PySem PySem.Spec PyProof.Rows PySem.NumText PySem.Calls
/-! ### numbers written -/
/-! ### joined and split by one sign -/
end L2

set_option Elab.async false
set_option linter.all false
set_option maxRecDepth 100000
namespace L2
open PySem PySem.Spec PyProof.Rows PySem.NumText
end L2

set_option Elab.async false
set_option linter.all false
set_option maxRecDepth 100000
namespace L2
open PySem PySem.Spec PyProof.Rows

/-! ### the stations of a flight, with the exception's own dict kept in sight -/
theorem mapF_dict (f : Array Value → Array Value) (o : Obj) : (Obj.mapFields f o).dict = o.dict := by
  obtain ⟨c, d, dat, sl⟩ := o
  cases dat <;> rfl
/-- noted: its record, where it flies -/
def TrD (h base : Heap) (e : Addr) (C : Value) (dd : Option Addr) (fl : Value) : Prop :=
  ∃ oe vs T oT ts, h.get? e = some oe ∧ (oe.cls = C ∧ oe.dict = dd) ∧ oe.data = .fields vs ∧ vs[1]? = some (.ref T) ∧
    base.get? T = none ∧ T ≠ e ∧ h.get? T = some oT ∧ oT.data = .fields ts ∧ ts[3]? = some fl
def FlyD (base : Heap) (l : List Env) (e : Addr) (C : Value) (dd : Option Addr) (h : Heap) : Prop := base.StaysIn h ∧ base.get? e = none ∧ h.FunFrames base l ∧ TrD h base e C dd .none
def HeldD (base : Heap) (l : List Env) (e : Addr) (C : Value) (dd : Option Addr) (L : Addr) (h : Heap) : Prop := base.StaysIn h ∧ base.get? e = none ∧ h.FunFrames base l ∧ TrD h base e C dd (rawInt L)
/-- what is no record stays but for its slots -/
def UpS (h h' : Heap) : Prop := ∀ b o, h.get? b = some o → (∀ vs, o.data ≠ .fields vs) → ∃ sl, h'.get? b = some { o with slots := sl }
theorem UpS.same (h : Heap) : UpS h h := fun _ o q _ => ⟨o.slots, q⟩
theorem UpS.trans {h1 h2 h3 : Heap} (x : UpS h1 h2) (y : UpS h2 h3) : UpS h1 h3 := fun b o q n => by
  obtain ⟨sl, q2⟩ := x b o q n
  obtain ⟨sl2, q3⟩ := y b { o with slots := sl } q2 n
  exact ⟨sl2, q3⟩
section
variable {M : Model} {A : Around} {E : Value → Shared → Prop} {s : Shared} {base : Heap} {env : Env} {outer : List Env} {L e : Addr} {C : Value} {dd : Option Addr} {Q : Unit → Shared → Prop}
/-- a record's field set: all else stays -/
theorem upd_away {h : Heap} {T : Addr} {oT : Obj} {ts : Array Value} (hT : h.get? T = some oT) (hd : oT.data = .fields ts) (f : Array Value → Array Value) :
    (∀ b, b ≠ T → (h.update T (Obj.mapFields f)).get? b = h.get? b) ∧ (∀ b o, h.get? b = some o → (∀ vs, o.data ≠ .fields vs) → (h.update T (Obj.mapFields f)).get? b = some o) ∧ (h.update T (Obj.mapFields f)).get? T = some (Obj.mapFields f oT) := by
  have far : ∀ b, b ≠ T → (h.update T (Obj.mapFields f)).get? b = h.get? b := fun b n => Heap.get?_update_other _ _ (Ne.symm n)
  refine ⟨far, fun b o q n => ?_, Heap.get?_update_self _ hT (Obj.isFreed_of_fields (Obj.data_mapFields hd _))⟩
  refine (far b fun z => ?_).trans q
  subst z
  rw [hT] at q
  cases q
  exact n ts hd
/-- flight set -/
theorem st_flight {l : List Env} {fl : Value} (f : Option Addr) (k1 : base.StaysIn s.heap) (k2 : s.heap.FunFrames base l) (k3 : TrD s.heap base e C dd fl)
    (q : ∀ h', base.StaysIn h' → h'.FunFrames base l → TrD h' base e C dd (f.elim Value.none fun f => rawInt f) → UpS s.heap h' → Q () { s with heap := h' }) : wpAny M A (setFlight (.ref e) f) Q E s := by
  obtain ⟨oe, vs, T, oT, ts, g1, g2, g3, g4, g5, g6, g7, g8, g9⟩ := k3
  have z3 : 3 < ts.size := (Array.getElem?_eq_some_iff.mp g9).1
  obtain ⟨far, non, own⟩ := upd_away g7 g8 (·.setIfInBounds 3 (f.elim Value.none fun f => rawInt f))
  unfold setFlight
  refine wpAny_bind (wpAny_field g1 g3 g4 ?_)
  rw [if_pos (by simp)]
  refine wpAny_setField g7 g8 z3 (q _ ?_ ?_ ?_ fun b o q n => ⟨o.slots, non b o q n⟩)
  · intro b o qb
    refine (far b fun z => ?_).trans (k1 b o qb)
    rw [z, g5] at qb
    cases qb
  · exact k2.of_keeps fun b o qb n => ⟨o, non b o qb n, rfl⟩
  · exact ⟨oe, vs, T, _, _, (far e (Ne.symm g6)).trans g1, g2, g3, g4, g5, g6, own, Obj.data_mapFields g8 _, by simp [z3]⟩
/-- a new record in front -/
theorem st_entry {oe : Obj} {vs : Array Value} {head : Value} {more : Bool} (fr : A.frames = some (env :: outer)) (k2 : s.heap.FunFrames base (env :: outer)) (hL : env.frame = some L) (g1 : s.heap.get? e = some oe) (k1 : base.StaysIn s.heap) (ne : base.get? e = none)
    (g3 : oe.data = .fields vs) (z1 : 1 < vs.size) (q : ∀ h', base.StaysIn h' → h'.FunFrames base (env :: outer) → TrD h' base e oe.cls oe.dict (rawInt L) → UpS s.heap h' → Q () { s with heap := h' }) :
    wpAny M A (do
      let a ← frameOf env
      let pl ← entryPlaceOf L more
      let b ← EntryCells.newEntry head a .none (rawInt L) .none pl
      setField (.ref e) 1 b) Q E s := by
  have nf : e ∉ (env :: outer).filterMap (·.frame) := fun z => by
    obtain ⟨_, o, ho, n⟩ := k2.mem z
    rw [g1] at ho
    cases ho
    exact n vs g3
  refine wpAny_bind (wpAny_frameOf_fun fr k2 hL fun h1 x1 => ?_)
  refine wpAny_bind (wpAny_entryPlaceOf fun pl hpl => ?_)
  unfold EntryCells.newEntry newFields
  refine wpAny_bind (wpAny_newObj_type ?_ (hpl.sizeOk5 _ _ _ _ _))
  have e1 : h1.get? e = some oe := by rw [x1.2.1 e nf]; exact g1
  have b1 : base.StaysIn h1 := fun b o qb => by
    rw [x1.2.1 b fun z => by rw [(k2.mem z).1] at qb; cases qb]
    exact k1 b o qb
  generalize hR : ({ cls := .type "traceback", dict := none, data := .fields ([head, .ref L, .none, rawInt L, .none] ++ (if pl.isEmpty then List.replicate 6 Value.none else pl)).toArray } : Obj) = R
  have dR : R.data = .fields ([head, .ref L, .none, rawInt L, .none] ++ (if pl.isEmpty then List.replicate 6 Value.none else pl)).toArray := by rw [← hR]
  have fR : R.isFreed = false := Obj.isFreed_of_fields dR
  have e2 : (h1.push R).get? e = some oe := Heap.get?_push_of_some _ e1
  refine wpAny_setField e2 g3 z1 ?_
  have nT : h1.objs.size ≠ e := Nat.ne_of_gt (Heap.lt_size e1)
  obtain ⟨far, non, own⟩ := upd_away e2 g3 (·.setIfInBounds 1 (Value.ref h1.objs.size))
  have keep : ∀ b o, b ≠ e → h1.get? b = some o → ((h1.push R).update e (Obj.mapFields (·.setIfInBounds 1 (Value.ref h1.objs.size)))).get? b = some o := fun b o n qb => by
    rw [far b n]
    exact Heap.get?_push_of_some _ qb
  have ne' : ∀ b o, s.heap.get? b = some o → (∀ vs, o.data ≠ .fields vs) → b ≠ e := fun b o qb n z => by
    rw [z, g1] at qb
    cases qb
    exact n vs g3
  refine q _ ?_ ?_ ?_ ?_
  · exact fun b o qb => keep b o (fun z => by rw [z, ne] at qb; cases qb) (b1 b o qb)
  · refine k2.of_keeps fun b o qb n => ?_
    obtain ⟨sl, y⟩ := x1.2.2 b o qb
    exact ⟨_, keep b _ (ne' b o qb n) y, rfl⟩
  · refine ⟨_, _, h1.objs.size, R, _, own, ⟨Obj.cls_mapFields _ _, mapF_dict _ _⟩, Obj.data_mapFields g3 _, by simp [z1], b1.fresh, nT, ?_, dR, ?_⟩
    · rw [far _ nT]
      exact Heap.get?_push_size h1 fR
    · simp
  · intro b o qb n
    obtain ⟨sl, y⟩ := x1.2.2 b o qb
    exact ⟨sl, keep b _ (ne' b o qb n) y⟩
/-- noted here: one that flies -/
theorem st_note (fr : A.frames = some (env :: outer)) (hL : env.frame = some L) (x : FlyD base (env :: outer) e C dd s.heap) (q : ∀ h', HeldD base (env :: outer) e C dd L h' → UpS s.heap h' → Q () { s with heap := h' }) : wpAny M A (noteFrame (.ref e) env) Q E s := by
  obtain ⟨k1, ne, k2, oe, vs, T, oT, ts, g1, ⟨rfl, rfl⟩, g3, g4, g5, g6, g7, g8, g9⟩ := x
  obtain ⟨far, non, own⟩ := upd_away g7 g8 (·.setIfInBounds 3 Value.none)
  unfold noteFrame
  simp only [hL]
  refine wpAny_bind (wpAny_field g1 g3 g4 ?_)
  rw [if_pos (by simp)]
  refine wpAny_bind (wpAny_field g7 g8 g9 ?_)
  rw [if_neg (by simp [rawInt])]
  refine wpAny_bind (wpAny_setField g7 g8 (Array.getElem?_eq_some_iff.mp g9).1 ?_)
  refine st_entry fr (k2.of_keeps fun b o qb n => ⟨o, non b o qb n, rfl⟩) hL ((far e (Ne.symm g6)).trans g1) (fun b o qb => ?_) ne g3 (Array.getElem?_eq_some_iff.mp g4).1 fun h' y1 y2 y3 y4 => q h' ⟨y1, ne, y2, y3⟩ fun b o qb n => y4 b o (non b o qb n) n
  refine (far b fun z => ?_).trans (k1 b o qb)
  rw [z, g5] at qb
  cases qb
/-- .. and one that is noted here already -/
theorem st_again {fl : Value} (hL : env.frame = some L) (x : TrD s.heap base e C dd (rawInt L)) (q : Q () s) : wpAny M A (noteFrame (.ref e) env) Q E s := by
  obtain ⟨oe, vs, T, oT, ts, g1, g2, g3, g4, g5, g6, g7, g8, g9⟩ := x
  unfold noteFrame
  simp only [hL]
  refine wpAny_bind (wpAny_field g1 g3 g4 ?_)
  rw [if_pos (by simp)]
  refine wpAny_bind (wpAny_field g7 g8 g9 ?_)
  rw [if_pos (by simp)]
  exact wpAny_pure q
/-- .. and one just made -/
theorem st_first {oe : Obj} {vs : Array Value} (fr : A.frames = some (env :: outer)) (k2 : s.heap.FunFrames base (env :: outer)) (hL : env.frame = some L) (g1 : s.heap.get? e = some oe) (k1 : base.StaysIn s.heap) (ne : base.get? e = none)
    (g3 : oe.data = .fields vs) (g4 : vs[1]? = some .none) (q : ∀ h', HeldD base (env :: outer) e oe.cls oe.dict L h' → UpS s.heap h' → Q () { s with heap := h' }) : wpAny M A (noteFrame (.ref e) env) Q E s := by
  unfold noteFrame
  simp only [hL]
  refine wpAny_bind (wpAny_field g1 g3 g4 ?_)
  rw [if_neg (by decide)]
  exact st_entry fr k2 hL g1 k1 ne g3 (Array.getElem?_eq_some_iff.mp g4).1 fun h' y1 y2 y3 y4 => q h' ⟨y1, ne, y2, y3⟩ y4
end
/-! ### exceptions: how one lies behind a call, and within a body -/
/-- B: all that stays as it is while the exception flies (all but the frames, the exception and its records) -/
structure Cov (s₀ : Heap) (H₀ : Hp) (fr ex : List Addr) (H' : Hp) (B : Heap) : Prop where
  trk : ∀ b u, H' b = some u → ∃ o, B.get? b = some o
  old : ∀ b o, s₀.get? b = some o → H₀ b = none → b ∉ fr → b ∉ ex → B.get? b = some o
  all : ∀ b o, s₀.get? b = some o → b ∉ fr → b ∉ ex → ∃ o', B.get? b = some o'
def CX1 (P : Program) (w : World) : CXT := fun outer H s E ev s' => ∃ (e : Addr) (C : Value) (dd : Option Addr) (H' : Hp), ev = .ref e ∧ E C dd H' ∧ s'.os = s.os ∧ AllBare s'.gens ∧ Un (frs outer) [] H H' s.heap s'.heap ∧ HOk P w H' s'.heap ∧ H' e = none ∧
  ∃ B, FlyD B outer e C dd s'.heap ∧ Cov s.heap H (frs outer) [] H' B
/-- within a body: just made, come from a callee, or noted here -/
inductive ExcSt (B : Heap) (l : List Env) (L e : Addr) (C : Value) (dd : Option Addr) (h : Heap) : Prop where
  | made (oe : Obj) (vs : Array Value) : B.StaysIn h → h.FunFrames B l → B.get? e = none → h.get? e = some oe → oe.cls = C → oe.dict = dd → oe.data = .fields vs → vs[1]? = some .none → ExcSt B l L e C dd h
  | fly : FlyD B l e C dd h → ExcSt B l L e C dd h
  | held : HeldD B l e C dd L h → ExcSt B l L e C dd h
theorem ExcSt.stays {B : Heap} {l : List Env} {L e : Addr} {C : Value} {dd : Option Addr} {h : Heap} (x : ExcSt B l L e C dd h) : B.StaysIn h := by
  cases x with
  | made oe vs a b c => exact a
  | fly a => exact a.1
  | held a => exact a.1
theorem ExcSt.frames {B : Heap} {l : List Env} {L e : Addr} {C : Value} {dd : Option Addr} {h : Heap} (x : ExcSt B l L e C dd h) : h.FunFrames B l := by
  cases x with
  | made oe vs a b c => exact b
  | fly a => exact a.2.2.1
  | held a => exact a.2.2.1
structure ExcAt (X : Cx) (H' : Hp) (e : Addr) (C : Value) (dd : Option Addr) (s' : Shared) : Prop where
  os : s'.os = X.s₀.os
  bare : AllBare s'.gens
  un : Un X.fs X.ex X.H₀ H' X.s₀.heap s'.heap
  hok : HOk X.prog X.w H' s'.heap
  fe : H' e = none
  st : ∃ B, Cov X.s₀.heap X.H₀ (frs X.stack) X.ex H' B ∧ ExcSt B X.stack X.env.locals e C dd s'.heap
/-- the heap turns while the exception flies -/
theorem Cov.turn {P : Program} {w : World} {s₀ h h' : Heap} {H₀ H' : Hp} {fr fs ex : List Addr} {B : Heap} (c : Cov s₀ H₀ fr ex H' B) (hs : ∀ b ∈ fs, b ∈ fr) (hnf : ∀ b ∈ fr, ∃ o, h.get? b = some o ∧ ∀ vs, o.data ≠ .fields vs) (b1 : B.StaysIn h) (b2 : B.StaysIn h')
    (up : ∀ b o, h.get? b = some o → (∀ vs, o.data ≠ .fields vs) → ∃ sl, h'.get? b = some { o with slots := sl }) (un : Un fs ex H₀ H' s₀ h) (hok : HOk P w H' h)
    (hfs : ∀ b o, s₀.get? b = some o → b ∈ fr → b ∈ fs) : Un fs ex H₀ H' s₀ h' ∧ HOk P w H' h' := by
  refine ⟨⟨fun b o q n hb hx => ?_, fun b o q n hb hx => ?_, un.free, fun b o q hx => ?_, un.tups, un.frzs, un.tbls⟩, fun b u e => ?_⟩
  · by_cases hf : b ∈ fr
    · exact absurd (hfs b o q hf) hb
    · exact b2 b o (c.old b o q n hf hx)
  · obtain ⟨sl, e1⟩ := un.slot b o q n hb hx
    obtain ⟨o1, e2, nf⟩ := hnf b (hs b hb)
    rw [e1] at e2
    cases e2
    obtain ⟨sl', e3⟩ := up b _ e1 nf
    exact ⟨sl', e3⟩
  · by_cases hf : b ∈ fr
    · obtain ⟨o1, e2, nf⟩ := hnf b hf
      obtain ⟨sl', e3⟩ := up b _ e2 nf
      exact ⟨_, e3⟩
    · obtain ⟨o', e⟩ := c.all b o q hf hx
      exact ⟨o', b2 b o' e⟩
  · refine (hok b u e).stay (fun d v hd q => ?_) (fun _ q => q) fun _ _ q => q
    have hd' : ∃ u', H' d = some u' := by
      rcases hd with rfl | hd
      · exact ⟨u, e⟩
      · exact ⟨_, hd⟩
    obtain ⟨u', hu'⟩ := hd'
    obtain ⟨o, ho⟩ := c.trk d u' hu'
    have := b1 d o ho
    rw [q] at this
    cases this
    exact b2 d v ho
theorem frames_nf {B h : Heap} {l : List Env} (x : h.FunFrames B l) : ∀ b ∈ frs l, ∃ o, h.get? b = some o ∧ ∀ vs, o.data ≠ .fields vs := fun b hb => by
  obtain ⟨_, o, ho, hnf⟩ := x.mem hb
  exact ⟨o, ho, hnf⟩
/-- what is wanted of an exception that leaves a body -/
def XE (X : Cx) (E : XK) : Value → Shared → Prop := fun ev s' => ∃ (e : Addr) (C : Value) (dd : Option Addr) (H' : Hp), ev = .ref e ∧ E C dd H' ∧ ExcAt X H' e C dd s'
section
variable {X : Cx} {outer : List Env}
/-- a body's own frame is the top one -/
structure Own (X : Cx) : Prop where
  ok : X.Ok
  top : X.stack = X.env :: X.outer
  fr : X.env.frame = some X.env.locals
theorem Own.sub (o : Own X) : ∀ b ∈ X.fs, b ∈ frs X.stack := fun b hb => by
  rw [o.top]; unfold frs; rw [List.filterMap_cons, o.fr]; exact List.mem_cons_of_mem _ hb
theorem Own.old (o : Own X) : ∀ b ob, X.s₀.heap.get? b = some ob → b ∈ frs X.stack → b ∈ X.fs := fun b ob q hb => by
  rw [o.top] at hb
  unfold frs at hb
  rw [List.filterMap_cons, o.fr] at hb
  rcases List.mem_cons.mp hb with rfl | hb
  · exact absurd (Nat.lt_of_lt_of_le (Heap.lt_size q) o.ok.above) (Nat.lt_irrefl _)
  · exact hb
/-- noted here -/
theorem ExcAt.note {M : Model} {E' : Value → Shared → Prop} {H' : Hp} {e : Addr} {C : Value} {dd : Option Addr} {s' : Shared} {Q : Unit → Shared → Prop} (o : Own X) (x : ExcAt X H' e C dd s')
    (h : ∀ s'', ExcAt X H' e C dd s'' → (∃ B, HeldD B X.stack e C dd X.env.locals s''.heap ∧ Cov X.s₀.heap X.H₀ (frs X.stack) X.ex H' B) → Q () s'') : wpAny M X.A (noteFrame (.ref e) X.env) Q E' s' := by
  obtain ⟨B, c, st⟩ := x.st
  have fin : ∀ {h' : Heap}, HeldD B X.stack e C dd X.env.locals h' → UpS s'.heap h' → Q () { s' with heap := h' } := fun {h'} hh up => by
    obtain ⟨u, k⟩ := c.turn o.sub (frames_nf st.frames) st.stays hh.1 up x.un x.hok o.old
    exact h _ ⟨x.os, x.bare, u, k, x.fe, B, c, .held hh⟩ ⟨B, hh, c⟩
  have hfr : X.A.frames = some (X.env :: X.outer) := by rw [← o.top]; exact o.ok.frames
  cases st with
  | made oe vs b1 b2 b3 he hc hdd hd h1 =>
    subst hc hdd
    rw [o.top] at b2
    exact st_first hfr b2 o.fr he b1 b3 hd h1 fun h' hh up => fin (by rw [o.top]; exact hh) up
  | fly hf =>
    rw [o.top] at hf
    exact st_note hfr o.fr hf fun h' hh up => fin (by rw [o.top]; exact hh) up
  | held hh =>
    exact st_again (fl := .none) o.fr hh.2.2.2 (fin hh (UpS.same _))
/-- the exception leaves the body -/
theorem ExcAt.leave {M : Model} {E' : Value → Shared → Prop} {H' : Hp} {e : Addr} {C : Value} {dd : Option Addr} {s' : Shared} {E : XK} (o : Own X) (hex : X.ex = []) (x : ExcAt X H' e C dd s') (hE : E C dd H') :
    wpAny M X.A (leaving X.env (.ref e)) (fun _ s'' => CX1 X.prog X.w X.outer X.H₀ X.s₀ E (.ref e) s'') E' s' := by
  unfold leaving
  refine wpAny_bind (x.note o fun s2 x2 ⟨B, ⟨f1, f2, f3, f4⟩, c⟩ => ?_)
  refine st_flight none f1 f3 f4 fun h' k1 k2 k3 up => ?_
  obtain ⟨u, k⟩ := c.turn o.sub (frames_nf f3) f1 k1 up x2.un x2.hok o.old
  rw [hex] at u c
  rw [o.top] at k2
  obtain ⟨_, _, k2⟩ := k2
  exact ⟨e, C, dd, H', rfl, hE, x2.os, x2.bare, u, k, x2.fe, B, ⟨k1, f2, k2, k3⟩, c.trk, fun b ob q n hb hx => c.old b ob q n (fun z => hb (o.old b ob q z)) hx, fun b ob q hb hx => c.all b ob q (fun z => hb (o.old b ob q z)) hx⟩
/-- an exception of a callee, in the caller's body -/
theorem ExcAt.come {pins : List (Addr × Obj)} {σ : St} {H : Hp} {s : Shared} {E : XK} {ev : Value} {s' : Shared} (o : Own X) (I : Inv X pins σ H s) (h : CX1 X.prog X.w X.stack H s E ev s') :
    ∃ (e : Addr) (C : Value) (dd : Option Addr) (H' : Hp), ev = .ref e ∧ E C dd H' ∧ ExcAt X H' e C dd s' := by
  obtain ⟨e, C, dd, H', rfl, hE, hos, hb, un, hok, fe, B, hf, c⟩ := h
  have neL : ∀ b ob, X.s₀.heap.get? b = some ob → b ≠ X.env.locals := fun b ob q => Nat.ne_of_lt (Nat.lt_of_lt_of_le (Heap.lt_size q) I.ok.above)
  refine ⟨e, C, dd, H', rfl, hE, hos.trans I.os, hb, ⟨fun b ob q n hb hx => ?_, fun b ob q n hb hx => ?_, fun b ob q n hx => ?_, fun b ob q hx => ?_, fun b xs q => un.tups b xs (I.base.tups b xs q), fun b ob u q => un.frzs b ob u (I.base.frzs b ob u q), fun b ps q => ?_⟩, hok, fe, B, ⟨c.trk, fun b ob q n hb hx => ?_, fun b ob q hb hx => ?_⟩, .fly hf⟩
  · refine un.keep b ob (I.base.keep b ob q n hb hx) (I.base.free b ob q n hx) (fun z => ?_) (by simp)
    exact hb (o.old b ob q z)
  · obtain ⟨sl, e1⟩ := I.base.slot b ob q n hb hx
    obtain ⟨sl', e2⟩ := un.any e1 (I.base.free b ob q n hx) (by simp)
    exact ⟨sl', e2⟩
  · obtain ⟨o', e1⟩ := I.base.there b ob q hx
    exact un.free b o' e1 (I.base.free b ob q n hx) (by simp)
  · obtain ⟨o', e1⟩ := I.base.there b ob q hx
    exact un.there b o' e1 (by simp)
  · obtain ⟨m1, e1⟩ := I.base.tbls b ps q
    obtain ⟨m2, e2⟩ := un.tbls b _ e1
    exact ⟨m1 ++ m2, by rw [e2, Array.append_assoc]⟩
  · exact c.old b ob (I.base.keep b ob q n (fun z => hb (o.sub b z)) hx) (I.base.free b ob q n hx) hb (by simp)
  · obtain ⟨o', e1⟩ := I.base.there b ob q hx
    exact c.all b o' e1 hb (by simp)
end
end L2

set_option Elab.async false
set_option linter.all false
set_option maxRecDepth 100000
namespace L2
open PySem PySem.Spec PyProof.Rows

theorem PSs.wished {X : Cx} {E : Value → Shared → Prop} {st : List Stmt} {t : TS} (h : PSs (X.wish E) st t) (hE : X.Ok → ∀ ev s', E ev s' → X.xe ev s') : PSs X st t := fun pins s σ H D I hw =>
  wpAny_mono (h pins s σ H D (I.wish E) hw) (fun f s' q => q.unwish) fun ev s' q => hE I.ok ev s' q
section
variable {P : Program} {w : World} {K : PySem.W.Frag} {mg : Str → Option Value} {base : Heap}
/-- a def's body and what may leave it: E of every exception's class and heap -/
theorem Fun.okE {x qual : Str} {st : Stmt} {f : Addr} {fd : FuncData} {N ps : List Str} {k : Nat} {sp : Sp} {cm : Bool} (F : Fun K x qual st f fd) (S : FnScope N ps (defScope st)) (len : ∀ vs H Q E, sp vs H Q E → vs.length = ps.length)
    (hbody : ∀ (cdv : Value) (A : Around) (outer : List Env) (s : Shared) (H : Hp) (vs : List V) (Q : VK) (E : XK), Room k (A.deeper (envOfC qual (defScope st) s.heap.objs.size f cdv)) cm → sp vs H Q E →
      ∃ t, PSs ((cxOf (CX1 P w) P w K mg base N qual (defScope st) f cdv A outer s H E cm).wish (XE (cxOf (CX1 P w) P w K mg base N qual (defScope st) f cdv A outer s H E cm) E)) (defBody st) t ∧ t { nx := fun _ H' => Q .non H', rt := Q } (start N vs) H) : FnOk P w K mg base (CX1 P w) (k + 1) f fd ps sp cm := by
  obtain ⟨oc, od, kV, doc, pm, an, cdv, ct, osl, rfl, lk, hcd⟩ := F.ex
  refine fn_of lk hcd S len fun A outer s H vs Q E hr hsp => ?_
  obtain ⟨t, h, q⟩ := hbody cdv A outer s H vs Q E hr hsp
  refine ⟨t, h.wished fun ok ev s' hx => ?_, q⟩
  obtain ⟨e, C, dd, H', rfl, hE, x⟩ := hx
  exact ExcAt.leave (X := cxOf (CX1 P w) P w K mg base N qual (defScope st) f cdv A outer s H E cm) ⟨ok, rfl, rfl⟩ rfl x hE
end
/-- what a callee raises reaches this body's wish -/
theorem pass1 {X : Cx} {E E' : XK} (top : X.stack = X.env :: X.outer) (fr : X.env.frame = some X.env.locals) (h : ∀ C dd H', E' C dd H' → E C dd H') : Passes (CX1 X.prog X.w) (X.wish (XE X E)) E' := fun pins σ H s e s' I hx => by
  obtain ⟨e, C, dd, H', rfl, hE, x⟩ := ExcAt.come (X := X) ⟨I.unwish.ok, top, fr⟩ I.unwish hx
  exact ⟨e, C, dd, H', rfl, h C dd H' hE, x⟩
/-! ### raise -/
theorem ObjOk.some {P : Program} {w : World} {H : Hp} {h : Heap} {a : Addr} {o : HO} (x : ObjOk P w H h a o) : ∃ ob, h.get? a = some ob := by
  induction o with
  | lst xs => obtain ⟨_, _, _, _, e⟩ := x; exact ⟨_, e⟩
  | tup xs => obtain ⟨_, _, _, ⟨ob, e, _⟩, _⟩ := x; exact ⟨_, e⟩
  | dK kvs => obtain ⟨_, _, _, _, o, _, _, e, _⟩ := x; exact ⟨_, e⟩
  | dT kvs => obtain ⟨_, _, _, _, o, _, _, e, _⟩ := x; exact ⟨_, e⟩
  | set S n => obtain ⟨ob, _, _, _, e, _⟩ := x; exact ⟨_, e⟩
  | ins C dx fs => obtain ⟨_, _, _, e, _⟩ := x; exact ⟨_, e⟩
  | own y => exact x
  | xd fs => obtain ⟨_, ⟨ob, _, _, e, _⟩, _⟩ := x; exact ⟨_, e⟩
  | rng lo hi => obtain ⟨_, _, _, e⟩ := x; exact ⟨_, e⟩
  | frz ob u _ => exact ⟨_, x.1⟩
  | tbl ps => exact ⟨_, x⟩
  | met f y => exact ⟨_, x⟩
  | ext φ => exact x.2.1
/-- an exception just made -/
theorem ExcAt.made {X : Cx} {pins : List (Addr × Obj)} {σ : St} {H : Hp} {s : Shared} {h' : Heap} {e : Addr} {C : Value} {args : List Value} (I : Inv X pins σ H s) (m : Heap.MadeExcOf s.heap h' e C args) : ExcAt X H e C none { s with heap := h' } := by
  obtain ⟨t, he, htn, ht⟩ := m.there
  have k : ∀ b ob, s.heap.get? b = some ob → h'.get? b = some ob := m.keeps
  have hnone : H e = none := by
    cases q : H e with
    | none => rfl
    | some u =>
      obtain ⟨ob, e1⟩ := (I.hok e u q).some
      rw [m.new] at e1
      cases e1
  have sub : ∀ b, b ∉ frs X.stack → b ∉ X.fs := fun b hb z => by
    rcases I.ok.stk with e | ⟨e, hf⟩
    · rw [e] at hb; exact hb z
    · rw [e] at hb
      unfold frs at hb
      rw [List.filterMap_cons, hf] at hb
      exact hb (List.mem_cons_of_mem _ z)
  refine ⟨I.os, I.bare, I.base.trans (Un.kept k), I.hok.kept k, hnone, PySem.W.hideAll s.heap (frs X.stack), ⟨fun b u q => ?_, fun b ob q n hb hx => ?_, fun b ob q hb hx => ?_⟩, ?_⟩
  · obtain ⟨ob, e1⟩ := (I.hok b u q).some
    exact ⟨ob, PySem.W.hideAll_get _ e1 fun z => by rw [I.stkFree b z] at q; cases q⟩
  · exact PySem.W.hideAll_get _ (I.base.keep b ob q n (sub b hb) hx) hb
  · obtain ⟨o', e1⟩ := I.base.there b ob q hx
    exact ⟨o', PySem.W.hideAll_get _ e1 hb⟩
  · refine .made _ _ (fun b ob q => k b ob (PySem.W.of_hideAll _ q)) ?_ ?_ he rfl rfl rfl rfl
    · refine (PySem.W.funFrames_hide I.stack fun env hm a ha => List.mem_filterMap.mpr ⟨env, hm, ha⟩).of_keeps fun b ob q _ => ⟨ob, k b ob q, rfl⟩
    · cases q : (PySem.W.hideAll s.heap (frs X.stack)).get? e with
      | none => rfl
      | some ob => have := PySem.W.of_hideAll _ q; rw [m.new] at this; cases this
/-- an own exception class beneath ValueError, without an __init__ along the way -/
def bmV : List Value := [.type "ValueError", .type "Exception", .type "BaseException", .type "object"]
structure ExcC (K : PySem.W.Frag) (C : Addr) : Prop where
  inn : PySem.W.excIn K C bmV "ValueError.__new__" = true
  kp : PySem.W.keepIn K (.ref C) = true
theorem ExcC.obj {K : PySem.W.Frag} {C : Addr} {h : Heap} (c : ExcC K C) (X : K.In h) : ∃ (bm : List Value) (N : Addr) (nm q : Str) (bs : List Value) (hdct : Bool) (sn : List Str) (sub : List Value) (ab : Bool) (col : Option Bool) (dd : Option Addr) (k0 k1 k2 k3 k5 : Option Value) (mN : Str → Option Value),
    h.get? C = some (excClassObj nm q C N bs bm hdct sn sub ab col dd k0 k1 k2 k3 k5 "ValueError.__new__") ∧ h.Ns N mN ∧ mN "__init__" = none ∧ OwnTail h bmV bm ∧ K.lookup C = some (excClassObj nm q C N bs bm hdct sn sub ab col dd k0 k1 k2 k3 k5 "ValueError.__new__") := by
  have q := c.inn
  unfold PySem.W.excIn at q
  split at q
  · rename_i dd cd sl ho
    split at q
    · rename_i C' bm k0 k1 k2 k3 n k5 hm hs
      simp only [Bool.and_eq_true, beq_iff_eq, Bool.not_eq_true'] at q
      obtain ⟨⟨⟨⟨⟨rfl, rfl⟩, hdel⟩, ht⟩, hok⟩, hni⟩ := q
      obtain ⟨nm, bs, mro, ns, qn, hd, sn, sub, ab, col, del⟩ := cd
      dsimp only at hm hdel hok hni
      subst hm hdel
      have hsl : sl = #[k0, k1, k2, k3, some (.builtin "ValueError.__new__"), k5] := by
        obtain ⟨l⟩ := sl
        simp only at hs
        rw [hs]
      subst hsl
      exact ⟨bm, ns, nm, qn, bs, hd, sn, sub, ab, col, dd, k0, k1, k2, k3, k5, _, X _ _ ho, .of_isNs (PySem.W.isNs_of_in X hok), PySem.W.nsMap_none_of_in X hok hni, PySem.W.tail_of_in X ht, ho⟩
    · cases q
  · cases q
/-- raise C(args) -/
def tRaise (C : Addr) (E : XK) (ta : TA) : TS := fun _ σ H => ta σ H fun vs H1 => vs.length ≤ sizeLine ∧ E (.ref C) none H1
theorem ps_raise {X : Cx} {E : XK} {C : Addr} {x : Str} {a : Expr} {args : List Expr} {np cpos pos : Pos} {ta : TA} (hc : X.calm = true) (c : ExcC X.K C) (hg : Gl (X.wish (XE X E)) x) (hm : X.mg x = some (.ref C)) (ha : PA (X.wish (XE X E)) (a :: args) ta)
    (hd : (x == ("__debug__" : Str)) = false := by decide) (he : starEach (a :: args) X.env = (false, eval a X.env) :: starEach args X.env := by rfl) (hplain : (backTo cpos (starEach args X.env)).any (·.1) = false := by rfl) :
    PS (X.wish (XE X E)) (.Raise (some (.Call (.Name x np) (a :: args) [] cpos)) none pos) (tRaise C E ta) := by
  intro pins s σ H D I hw
  obtain ⟨bm, N, nm, q, bs, hdct, sn, sub, ab, col, dd, k0, k1, k2, k3, k5, mN, hC, hn, hni, hT, hlk⟩ := c.obj I.ok.mod.kin
  have hpl : (backTo cpos (starEach (a :: args) X.env)).any (·.1) = false := by
    rw [he]
    show (false || (backTo cpos (starEach args X.env)).any (·.1)) = false
    rw [hplain]; rfl
  refine wpAny_Raise_call_subU (C := C) (mN := mN) (nm := nm) (q := q) (N := N) (bs := bs) (hdct := hdct) (sn := sn) (sub := sub) (ab := ab) (col := col) (dd := dd) (k0 := k0) (k1 := k1) (k2 := k2) (k3 := k3) (k5 := k5) (bmB := bmV) PySem.F.excBase_ValueError (by decide) PySem.F.excBase_ValueError (hT.hasType (by decide)) (I.ok.hd hc) hpl hni ?_
  refine ld_glob I hg hm ⟨rfl, ?_⟩ hd
  have hA := ha cpos pins s σ H _ I hw
  rw [show (X.wish (XE X E)).env = X.env from rfl, he] at hA
  rw [he]
  refine Calls.evalArgs_plain (thn hA fun us s1 ⟨vs, H1, I1, r, hl, hE⟩ => ?_)
  have kb : ∀ b ob, X.base.get? b = some ob → s1.heap.get? b = some ob := I1.bk
  exact ⟨rfl, by rw [← r.length]; exact hl, kb _ _ hC, hn.keeps kb, hT.keeps kb, fun h' e m => ⟨e, .ref C, none, H1, rfl, hE, ExcAt.made I1.unwish m⟩⟩
end L2

set_option Elab.async false
set_option linter.all false
set_option maxRecDepth 100000
namespace L2
open PySem PySem.Spec PyProof.Rows

/-! ### an exception that has landed: noted here, its flight ended -/
structure Lnd (X : Cx) (s : Shared) (H H' : Hp) (e : Addr) (C : Value) (dd : Option Addr) (s3 : Shared) : Prop where
  os : s3.os = s.os
  bare : AllBare s3.gens
  un : Un (frs X.stack) [] H H' s.heap s3.heap
  hok : HOk X.prog X.w H' s3.heap
  fe : H' e = none
  st : ∃ B, FlyD B X.stack e C dd s3.heap ∧ Cov s.heap H (frs X.stack) [] H' B
def IsExc (e : Addr) (C : Value) (h : Heap) : Prop := ∃ oe vs, h.get? e = some oe ∧ oe.cls = C ∧ oe.data = .fields vs
section
variable {X : Cx} {pins : List (Addr × Obj)} {σ : St} {H H' : Hp} {s s3 : Shared} {e : Addr} {C : Value} {dd : Option Addr}
theorem Lnd.inv (I : Inv X pins σ H s) (l : Lnd X s H H' e C dd s3) : Inv X pins σ H' s3 := I.call' l.os l.un l.hok l.bare (fun b z => nomatch z)
theorem CX1.lands {M : Model} {E : XK} {E' : Value → Shared → Prop} {ev : Value} {s' : Shared} {Q : Unit → Shared → Prop} (hfr : X.A.frames = some (X.env :: X.outer)) (top : X.stack = X.env :: X.outer) (fr : X.env.frame = some X.env.locals) (h : CX1 X.prog X.w X.stack H s E ev s')
    (hQ : ∀ e C dd H' s3, ev = .ref e → E C dd H' → Lnd X s H H' e C dd s3 → Q () s3) : wpAny M X.A (noteFrame ev X.env) (fun _ s2 => wpAny M X.A (setFlight ev none) Q E' s2) E' s' := by
  obtain ⟨e, C, dd, H', rfl, hE, hos, hb, un, hok, fe, B, hf, c⟩ := h
  have hf' := hf
  rw [top] at hf
  refine st_note hfr fr hf fun h2 hh up => ?_
  obtain ⟨f1, f2, f3, f4⟩ := hh
  refine st_flight none f1 f3 f4 fun h3 k1 k2 k3 up3 => ?_
  obtain ⟨u, k⟩ := c.turn (P := X.prog) (w := X.w) (fs := frs X.stack) (fun _ z => z) (frames_nf hf'.2.2.1) hf.1 k1 (up.trans up3) un hok (fun _ _ _ z => z)
  rw [← top] at k2
  exact hQ e C dd H' _ rfl hE ⟨hos, hb, u, k, fe, B, ⟨k1, f2, k2, k3⟩, c⟩
theorem Lnd.again {M : Model} {A : Around} {E' : Value → Shared → Prop} {Q : Unit → Shared → Prop} (l : Lnd X s H H' e C dd s3) (hQ : ∀ s4, Lnd X s H H' e C dd s4 → Q () s4) : wpAny M A (setFlight (.ref e) none) Q E' s3 := by
  obtain ⟨B, ⟨f1, f2, f3, f4⟩, c⟩ := l.st
  refine st_flight none f1 f3 f4 fun h' k1 k2 k3 k4 => ?_
  obtain ⟨u, k⟩ := c.turn (P := X.prog) (w := X.w) (fs := frs X.stack) (fun _ z => z) (frames_nf f3) f1 k1 k4 l.un l.hok (fun _ _ _ z => z)
  exact hQ _ ⟨l.os, l.bare, u, k, l.fe, B, ⟨k1, f2, k2, k3⟩, c⟩
theorem Lnd.obj (l : Lnd X s H H' e C dd s3) : IsExc e C s3.heap := by
  obtain ⟨B, ⟨f1, f2, f3, oe, vs, T, oT, ts, he, hc, hd, _⟩, c⟩ := l.st
  exact ⟨oe, vs, he, hc.1, hd⟩
theorem Lnd.new (l : Lnd X s H H' e C dd s3) : s.heap.get? e = none := by
  obtain ⟨oe, vs, he, hc, hd⟩ := l.obj
  obtain ⟨B, ⟨f1, f2, f3, f4⟩, c⟩ := l.st
  cases q : s.heap.get? e with
  | none => rfl
  | some o =>
    by_cases hm : e ∈ frs X.stack
    · obtain ⟨o1, e1, nf⟩ := frames_nf f3 e hm
      rw [he] at e1; cases e1
      exact absurd hd (nf vs)
    · obtain ⟨o', e'⟩ := c.all e o q hm (by simp)
      rw [f2] at e'; cases e'
/-- .. with its dict -/
def IsExcD (e : Addr) (C : Value) (dd : Option Addr) (h : Heap) : Prop := ∃ oe vs, h.get? e = some oe ∧ oe.cls = C ∧ oe.dict = dd ∧ oe.data = .fields vs
theorem Lnd.objD (l : Lnd X s H H' e C dd s3) : IsExcD e C dd s3.heap := by
  obtain ⟨B, ⟨f1, f2, f3, oe, vs, T, oT, ts, he, hc, hd, _⟩, c⟩ := l.st
  exact ⟨oe, vs, he, hc.1, hc.2, hd⟩
/-- .. and tracked -/
theorem Lnd.track (I : Inv X pins σ H s) (l : Lnd X s H H' e C dd s3) {φ : Heap → Prop} (hφ : φ s3.heap) (mono : ∀ h h', φ h → (∀ o, h.get? e = some o → h'.get? e = some o) → φ h') : Inv X pins σ (upd H' e (.ext φ)) s3 := by
  have hnew := l.new
  have ne : ∀ b u, H b = some u → b ≠ e := fun b u q z => by
    obtain ⟨o, ho⟩ := (I.hok b u q).some
    rw [z, hnew] at ho; cases ho
  have ne' : ∀ b o, s.heap.get? b = some o → b ≠ e := fun b o q z => by rw [z, hnew] at q; cases q
  have hn : ∀ b u, H' b = some u → b ≠ e := fun b u q z => by rw [z, l.fe] at q; cases q
  refine I.call' l.os ⟨l.un.keep, l.un.slot, fun b o q n hx => ?_, l.un.there, fun b xs q => ?_, fun b o u q => ?_, fun b ps q => ?_⟩ (fun b u q => ?_) l.bare (fun b z => nomatch z)
  · rw [upd_ne (ne' b o q)]; exact l.un.free b o q n hx
  · rw [upd_ne (ne b _ q)]; exact l.un.tups b xs q
  · rw [upd_ne (ne b _ q)]; exact l.un.frzs b o u q
  · rw [upd_ne (ne b _ q)]; exact l.un.tbls b ps q
  · by_cases hb : b = e
    · subst hb; rw [upd_same] at q; cases q
      obtain ⟨oe, vs, he, hc, hd⟩ := l.obj
      exact ⟨hφ, ⟨oe, he⟩, mono⟩
    · rw [upd_ne hb] at q
      exact (l.hok b u q).stay (fun _ _ _ q => q) (fun c q => by rw [upd_ne (hn c _ q)]; exact q) fun c xs q => by rw [upd_ne (hn c _ q)]; exact q
theorem Lnd.trackedD (I : Inv X pins σ H s) (l : Lnd X s H H' e C dd s3) : Inv X pins σ (upd H' e (.ext (IsExcD e C dd))) s3 := l.track I l.objD fun h h' ⟨oe, vs, he, hc, h1, hd⟩ k => ⟨oe, vs, k oe he, hc, h1, hd⟩
end

/-! ### within the suite: the exception is marked -/
abbrev Cx.inH (X : Cx) (e : Addr) : Cx := { X with A := X.A.mark (some (.ref e)), calm := false }
section
variable {X : Cx} {pins : List (Addr × Obj)} {σ : St} {H : Hp} {s : Shared} {e : Addr}
theorem Cx.Ok.inH (ok : X.Ok) (hfr : (X.A.mark (some (.ref e))).frames = X.A.frames := by rfl) : (X.inH e).Ok :=
  ⟨ok.mod, ok.kind, ok.glob, ok.blt, ok.above, ok.inj, ok.has, ok.cab, (fun z => nomatch z), hfr.trans ok.frames, ok.stk, ok.exf, ok.bs, ok.bsz, ok.noex, ok.exfs, ok.funs, ok.frf⟩
theorem Inv.inH (I : Inv X pins σ H s) : Inv (X.inH e) pins σ H s := ⟨I.ok.inH, I.os, I.bare, I.base, I.loc, I.cell, I.free, I.freeC, I.pin, I.hok, I.len⟩
theorem Inv.ofH (ok : X.Ok) (I : Inv (X.inH e) pins σ H s) : Inv X pins σ H s := ⟨ok, I.os, I.bare, I.base, I.loc, I.cell, I.free, I.freeC, I.pin, I.hok, I.len⟩
/-- behind the suite the name goes -/
theorem goes {M : Model} {A : Around} {E : Value → Shared → Prop} {i : Nat} {n : Str} {pos : Pos} {Q : Unit → Shared → Prop} (I : Inv X pins σ H s) (hN : X.N.Nodup) (hi : X.N[i]? = some n) (hk : X.env.scope.names.lookup n = some .local)
    (h : ∀ s', Inv X pins (σ.set i none) H s' → Q () s') : wpAny M A (do bindName X.env n .none; unbindBehindTheSuite X.env n pos) Q E s := by
  obtain ⟨m, hn, hl⟩ := id I.loc
  have hcls : (X.env.scope.kind == .class || (X.env.scope.kind == .module && X.env.locals != X.env.globals)) = false := by rw [I.ok.kind]; rfl
  have hiσ : i < σ.length := by rw [I.len]; exact (List.getElem?_eq_some_iff.mp hi).1
  have cne := I.cne
  refine wpAny_nameGoes_keeps hk hn hcls fun h' v hn' hs => ?_
  obtain ⟨oL, _, _, hoL, _⟩ := id hn
  refine h _ ⟨I.ok, I.os, I.bare, ⟨fun b o e n hb hx => ?_, fun b o e n hb hx => ?_, I.base.free, fun b o e hx => ?_, I.base.tups, I.base.frzs, I.base.tbls⟩, ⟨_, hn', fun j y v' e1 e2 e3 => ?_⟩, fun y c e => ?_, I.free, I.freeC, fun p hp => ?_, fun b ob e => ?_, by simpa using I.len⟩
  · exact (hs.2 b (Nat.ne_of_lt (Nat.lt_of_lt_of_le (Heap.lt_size e) I.ok.above))).trans (I.base.keep b o e n hb hx)
  · obtain ⟨sl, e1⟩ := I.base.slot b o e n hb hx
    exact ⟨sl, (hs.2 b (Nat.ne_of_lt (Nat.lt_of_lt_of_le (Heap.lt_size e) I.ok.above))).trans e1⟩
  · obtain ⟨o', e1⟩ := I.base.there b o e hx
    exact ⟨o', (hs.2 b (Nat.ne_of_lt (Nat.lt_of_lt_of_le (Heap.lt_size e) I.ok.above))).trans e1⟩
  · by_cases hj : j = i
    · subst hj
      rw [List.getElem?_set_self hiσ] at e2
      cases e2
    · rw [List.getElem?_set_ne (Ne.symm hj)] at e2
      obtain ⟨u', r', q⟩ := hl j y v' e1 e2 e3
      refine ⟨u', r', ?_⟩
      rcases q with ⟨k, e⟩ | ⟨k, c, e, z⟩
      · refine .inl ⟨k, ?_⟩
        have : y ≠ n := fun e => hj (nodup_ix hN e1 (e ▸ hi))
        simp [this, e]
      · exact .inr ⟨k, c, e, z.sameBut hs (cne y c e)⟩
  · obtain ⟨w', z⟩ := I.cell y c e
    exact ⟨w', z.sameBut hs (cne y c e)⟩
  · obtain ⟨e, n, ne, nf, d⟩ := I.pin p hp
    exact ⟨(hs.2 p.1 ne).trans e, n, ne, nf, d⟩
  · refine (I.hok b ob e).stay (fun c w' hc q => (hs.2 c ?_).trans q) (fun _ q => q) fun _ _ q => q
    rintro rfl
    rcases hc with rfl | hc
    · rw [I.free] at e; cases e
    · rw [I.free] at hc; cases hc
end
end L2

set_option Elab.async false
set_option linter.all false
set_option maxRecDepth 100000
namespace L2
open PySem PySem.Spec PyProof.Rows PySem.W PySem.Calls PySem.Builtin PySem.Builtin.ObjectAttr PySem.Builtin.Getset_descriptor

/-! ### isinstance of an exception: only its class is known -/
def ClsAt (e D : Addr) (h : Heap) : Prop := ∃ oe, h.get? e = some oe ∧ oe.cls = .ref D
theorem ClsAt.looks {M : Model} {e D : Addr} {h : Heap} (p : ClsAt e D h) : Looks M h (typeOf (.ref e)) (.ref D) := by
  obtain ⟨oe, a, b⟩ := p
  exact b ▸ (Looks.ld a).andThen .now
/-- what the fragment says of an own class whose instances have no dict yet -/
structure ClsE (K : Frag) (D : Addr) : Prop where
  ga : findIn K (.ref D) "__getattribute__" = some (some (.builtin "BaseException.__getattribute__"))
  gn : findIn K (.ref D) "__getattr__" = some none
  fd : findIn K (.ref D) "__class__" = some (some (.builtin "object.__class__"))
  sp : specialIn K (.builtin "object.__class__") "__get__" = some (some (.builtin "getset_descriptor.__get__"))
  tk : takesIn K (.builtin "object.__class__") = some true
  ob : mroIn K D (.type "object") = some true
  be : mroIn K D (.type "BaseException") = some true
theorem cls_of_mro {K : Frag} {D : Addr} {v : Value} {b : Bool} (h : mroIn K D v = some b) : (clsIn K D).isSome = true := by
  unfold mroIn at h
  obtain ⟨cd, e, _⟩ := Option.bind_eq_some_iff.mp h
  rw [e]; rfl
theorem ClsE.cl {K : Frag} {D : Addr} (c : ClsE K D) : (clsIn K D).isSome = true := cls_of_mro c.ob
theorem ClsE.find {K : Frag} {D e : Addr} {M : Model} {h : Heap} (c : ClsE K D) (X : K.In h) : Looks M h (find (.ref e) (.ref D) "__class__") (.bind (.builtin "getset_descriptor.__get__") (.builtin "object.__class__")) := by
  have a1 := looks_findIn (M := M) X c.fd
  have a2 : Looks M h (getOf (some (.builtin "object.__class__"))) (some (.builtin "getset_descriptor.__get__")) := looks_specialIn X c.sp
  have a3 := looks_takesIn (M := M) X c.tk
  have a4 : Looks M h (dataDescriptor? (some (.builtin "object.__class__")) (some (.builtin "getset_descriptor.__get__"))) (some (.builtin "getset_descriptor.__get__", .builtin "object.__class__")) := a3.andThen .now
  exact a1.andThen (a2.andThen (a4.andThen (Looks.tag .now)))
theorem ClsE.kit {K : Frag} {D e : Addr} (c : ClsE K D) : KitX K (.ref e) (.ref D) (ClsAt e D) where
  ty := fun _ _ _ p => p.looks
  it := fun _ _ X _ => by
    have z := c.cl
    unfold clsIn at z
    split at z
    · rename_i ho
      intro A' Q' E' s' k q
      unfold isType loadHead
      exact wpAny_bind (wpAny_loadPart (k _ _ (X _ _ ho)) (wpAny_pure q))
    · cases z
  ne := fun h tp dd its n sl X htp => by
    have z := c.cl
    refine Bool.eq_false_iff.mpr fun q => ?_
    obtain rfl : D = tp := Value.ref.inj (beq_iff_eq.mp q)
    unfold clsIn at z
    split at z
    · rename_i ho
      cases (X _ _ ho).symm.trans htp
    · cases z
  ca := fun {prog w A E Q s} X p hq => by
    obtain ⟨hh, g, d, t, os⟩ := s
    have T := p.looks (M := model prog w)
    have G := looks_findIn (M := model prog w) X c.ga
    have N := looks_findIn (M := model prog w) X c.gn
    have F1 := c.find (e := e) (M := model prog w) X
    have O := looks_mroIn (M := model prog w) X c.ob
    unfold getAttr? getAttrBy? getAttrBy
    refine wpAny_bind (wpAny_mkText (wpAny_bind (wpAny_attempt (wpAny_holding (wpAny_bind (T.at (wpAny_bind (G.at ?_))))))))
    have hx2 : (Value.builtin "BaseException.__getattribute__" == Value.builtin "object.__getattribute__") = false := by decide +kernel
    have hx1 : ¬ (onTheHeap (Value.ref D) && Value.builtin "BaseException.__getattribute__" == Value.builtin "object.__getattribute__") = true := by rw [hx2, Bool.and_false]; exact Bool.false_ne_true
    have Bx := looks_mroIn (M := model prog w) X c.be
    dsimp only
    rw [if_neg hx1]
    unfold getAttrByItsOwn hookBefore callGetattribute boundAndCalled
    refine wpAny_bind (N.at ?_)
    refine wpAny_bind (wpAny_attempt (wpAny_holding ?_))
    show wpAny _ _ (bindSpecial (.builtin "BaseException.__getattribute__") (.ref e) >>= _) _ _ _
    refine wpAny_bind (wpAny_of_eq (PySem.F.attrBase_ValueError.ga.bind _) ?_)
    refine wpAny_call (codeAny_call_builtin PySem.F.attrBase_ValueError.ga.plain PySem.F.entry_bexc_ga ?_)
    have hk : builtinKind "BaseException.__getattribute__" = some .slot := by decide +kernel
    have hsplit : splitId "BaseException.__getattribute__" = some ("BaseException", "__getattribute__") := by decide +kernel
    have hag := PySem.F.args_bexc_ga (.ref e) (.str "__class__" t)
    simp only [checkBuiltinCall, hk, hsplit]
    unfold isInstance
    repeat ((fail_if_success (with_reducible show wpAny _ _ (call _ _) _ _ _)); (first | lk | wp_step))
    refine wpAny_call ?_
    refine codeAny_call_builtin KF.slot_gs.plain KF.entry_gs (KF.slot_gs.check _ _ _ _ _ _ _ _ KF.type_class (KF.args_gs _ _ _) ?_)
    unfold Builtin.«getset_descriptor.__get__» descrGet
    rw [dga_obj]
    refine wpAny_bind (wpAny_pure ?_)
    unfold descrGetter descrCheckInstance descrNameAndClass isInstance
    simp only [KF.owner_class]
    repeat lk
    refine ⟨Code.quiet_builtin _ (by decide +kernel), codeAny_builtin KF.entry_class ?_⟩
    unfold Builtin.«object.__class__» shownTypeOf
    repeat lk
    exact hq
/-! ### which classes an except clause takes -/
theorem matches_own {M : Model} {A : Around} {E : Value → Shared → Prop} {nm q nm' q' : Str} {C N S N' : Addr} {bs bm bs' bm' : List Value} {hdct hdct' : Bool} {sn sn' : List Str} {sub sub' : List Value} {ab ab' : Bool} {col col' : Option Bool} {dd dd' : Option Addr} {k0 k1 k2 k3 k5 k0' k1' k2' k3' k5' : Option Value} {newId newId' : String}
    {h : Heap} {g : Array GenState} {d : Drawn} {t : Nat} {os : OsState} {e : Addr} {oe : Obj} {Q : Bool → Shared → Prop}
    (hC : h.get? C = some (excClassObj nm q C N bs bm hdct sn sub ab col dd k0 k1 k2 k3 k5 newId)) (hS : h.get? S = some (excClassObj nm' q' S N' bs' bm' hdct' sn' sub' ab' col' dd' k0' k1' k2' k3' k5' newId'))
    (he : h.get? e = some oe) (hcls : oe.cls = .ref C) (hb : bm'.contains (.type "BaseException") = true) (hm : (Value.ref C :: bm).contains (.ref S) = true)
    (hq : Q true ⟨h, g, d, t, os⟩) : wpAny M A (excMatches (.ref e) (.ref S)) Q E ⟨h, g, d, t, os⟩ := by
  have hB : (Value.ref S :: bm').contains (.type "BaseException") = true := by rw [List.contains_cons, hb, Bool.or_true]
  have f := tc_notTuple
  unfold excMatches
  repeat (first | (with_reducible refine wpAny_loadPart_at he ?_; rw [hcls]) | with_reducible refine wpAny_loadPart_at hS ?_ | (with_reducible refine wpAny_isSubtype_exc hS ?_; rw [hB]) | (with_reducible refine wpAny_isSubtype_exc hC ?_; rw [hm]) | wp_step)
  exact hq
end L2

set_option Elab.async false
set_option linter.all false
set_option maxRecDepth 100000
namespace L2
open PySem PySem.Spec PyProof.Rows PySem.W

/-! ### try: f(..) except S as n: suite -/
abbrev TX := St → Hp → VK → XK → Prop
/-- an expression that may raise: by a call, whose own entry is known -/
def PX (X : Cx) (e : Expr) (t : TX) : Prop := ∀ (pins : List (Addr × Obj)) (s : Shared) (σ : St) (H : Hp) (Q : VK) (E : XK), Inv X pins σ H s → t σ H Q E →
  wpAny (model X.prog X.w) X.A (eval e X.env) (EP X pins σ Q) (fun ev s' => ∃ H1 s1, Inv X pins σ H1 s1 ∧ CX1 X.prog X.w X.stack H1 s1 E ev s') s
def xCall (sp : Sp) (dvs : List V) (t : TA) : TX := fun σ H Q E => t σ H fun vs H1 => sp (vs ++ dvs) H1 Q E
section
variable {X : Cx} {k : Nat} {f : Addr} {fd : FuncData} {ps : List Str} {sp : Sp} {dvs : List V} {ds : List Value} {x : Str} {p pos : Pos} {e : Expr} {es : List Expr} {t : TA} {cm : Bool}
theorem px_call (F : FnOk X.prog X.w X.K X.mg X.base (CX1 X.prog X.w) k f fd ps sp cm) (hr : Room k X.A cm) (hg : Gl X x) (hm : X.mg x = some (.ref f)) (hk : keepIn X.K (.ref f) = true) (hb : Binds X.K fd ps ds) (hd : Vals dvs ds) (ha : PA X.nox (e :: es) t)
    (hdb : (x == ("__debug__" : Str)) = false := by decide) (he : starEach (e :: es) X.env = (false, eval e X.env) :: starEach es X.env := by rfl) (hpl : (backTo pos (starEach es X.env)).any (·.1) = false := by rfl) :
    PX X (.Call (.Name x p) (e :: es) [] pos) (xCall sp dvs t) := by
  intro pins s σ H Q E I h
  refine wpAny_Call_Name_kw (ld_glob I hg hm ?_ hdb)
  have hA := wpAny_mono (ha pos pins s σ H _ (I.wish _) h) (fun us s1 q => q) (E' := fun ev s' => ∃ H1 s1, Inv X pins σ H1 s1 ∧ CX1 X.prog X.w X.stack H1 s1 E ev s') fun _ _ z => False.elim z
  refine callWith_K (h₀ := X.base) I.ok.mod.kin hk (thn hA fun us s1 ⟨vs, H1, I1, r, q⟩ => ⟨I1.kIn, ?_⟩) he hpl
  have I1' := I1.unwish
  have r2 : Vals (vs ++ dvs) (us ++ ds) := r.append hd
  have hl : (us ++ ds).length = ps.length := by rw [← r2.length]; exact F.len _ _ _ _ q
  refine wpAny_call (codeAny_mono (F.run X.A X.stack s1 H1 ⟨us, []⟩ (us ++ ds) (vs ++ dvs) Q E hr I1'.env0 (hb s1 us I1'.kIn hl) r2 q) fun r s' hq => ?_)
  cases r with
  | error e => exact ⟨H1, s1, I1', hq⟩
  | ok fl => cases fl with
    | ret u => exact I1'.after hq
    | _ => exact False.elim hq
end
def IsXC (K : Frag) (c : Addr) (bm : List Value) : Prop := ∃ (nm q : Str) (N : Addr) (bs : List Value) (hdct : Bool) (sn : List Str) (sub : List Value) (ab : Bool) (col : Option Bool) (dd : Option Addr) (k0 k1 k2 k3 k5 : Option Value) (newId : String),
  K.lookup c = some (excClassObj nm q c N bs bm hdct sn sub ab col dd k0 k1 k2 k3 k5 newId)
/-- an except clause of S takes an instance of c -/
structure Takes (K : Frag) (c S : Addr) : Prop where
  ex : ∃ bm bm', IsXC K c bm ∧ IsXC K S bm' ∧ bm'.contains (.type "BaseException") = true ∧ (Value.ref c :: bm).contains (.ref S) = true
end L2

set_option Elab.async false
set_option linter.all false
set_option maxRecDepth 100000
namespace L2
open PySem PySem.Spec PyProof.Rows PySem.W
theorem boot_ValueError : bootBuiltins "ValueError" = some (.type "ValueError") := by first | rfl | decide +kernel | (unfold bootBuiltins; rfl)
/-- a callee that may raise, called where it doesn't -/
theorem pass01 {X : Cx} {P : Program} {w : World} : Passes (CX1 P w) X E0 := fun _ _ _ _ _ _ _ ⟨_, _, _, _, _, h, _⟩ => h.elim
theorem passE {X : Cx} {E : XK} (top : X.stack = X.env :: X.outer := by rfl) (fr : X.env.frame = some X.env.locals := by rfl) : Passes (CX1 X.prog X.w) (X.wish (XE X E)) E := pass1 top fr fun _ _ _ h => h
/-- room within an except suite -/
theorem Room.inH {k : Nat} {A : Around} {cm : Bool} (r : Room k A cm) (e : Addr) : Room k (A.mark (some (.ref e))) false := ⟨(fun z => nomatch z), r.dp, r.un⟩
theorem ExcC.isX {K : Frag} {C : Addr} {h : Heap} (c : ExcC K C) (X : K.In h) : ∃ bm, IsXC K C bm ∧ OwnTail h bmV bm := by
  obtain ⟨bm, N, nm, q, bs, hdct, sn, sub, ab, col, dd, k0, k1, k2, k3, k5, mN, hC, hn, hni, hT, hlk⟩ := c.obj X
  exact ⟨bm, ⟨nm, q, N, bs, hdct, sn, sub, ab, col, dd, k0, k1, k2, k3, k5, _, hlk⟩, hT⟩
end L2

set_option Elab.async false
set_option linter.all false
set_option maxRecDepth 100000
namespace L2
open PySem PySem.Spec PyProof.Rows

/-! ### zip(a, b) walked by a tuple target -/
def itName : Bool → String
  | true => "tuple_iterator"
  | false => "list_iterator"
/-- an iterator over a tuple (k = true) or a list -/
def IterAt (k : Bool) (h : Heap) (it l : Addr) (i : Nat) : Prop := ∃ o, h.get? it = some o ∧ o.cls = .type (itName k) ∧ o.data = .fields #[.ref l, .int i 0]
def SeqIs (k : Bool) (h : Heap) (l : Addr) (items : Array Value) : Prop :=
  match k with
  | true => h.IsTuple l items
  | false => h.IsList l items
theorem IterAt.kept {k : Bool} {h h' : Heap} {it l : Addr} {i : Nat} (x : IterAt k h it l i) (f : ∀ o, h.get? it = some o → h'.get? it = some o) : IterAt k h' it l i :=
  let ⟨o, e, r⟩ := x; ⟨o, f o e, r⟩
theorem IterAt.lt {k : Bool} {h : Heap} {it l : Addr} {i : Nat} (x : IterAt k h it l i) : it < h.objs.size := let ⟨_, e, _⟩ := x; Heap.lt_size e
theorem SeqIs.kept {k : Bool} {h h' : Heap} {l : Addr} {items : Array Value} (x : SeqIs k h l items) (f : ∀ o, h.get? l = some o → h'.get? l = some o) : SeqIs k h' l items := by
  cases k
  · obtain ⟨o, e, r⟩ := x; exact ⟨o, f o e, r⟩
  · obtain ⟨o, e, r⟩ := x; exact ⟨o, f o e, r⟩
theorem SeqIs.lt {k : Bool} {h : Heap} {l : Addr} {items : Array Value} (x : SeqIs k h l items) : l < h.objs.size := by
  cases k
  · obtain ⟨o, e, _⟩ := x; exact Heap.lt_size e
  · obtain ⟨o, e, _⟩ := x; exact Heap.lt_size e
section
variable {prog : Program} {w : World} {A : Around} {E : Value → Shared → Prop} {s : Shared}
theorem nextOf_tup {it l : Addr} {i : Nat} {items : Array Value} {Q : Value → Shared → Prop} (hit : s.heap.IsTupleIter it l i) (ht : s.heap.IsTuple l items)
    (h : match items[i]? with
      | some x => ∀ h', h'.IsTupleIter it l (i + 1) → Heap.SameBut it s.heap h' → Q x { s with heap := h' }
      | none => A.handled = none ∧ ∀ h' e, Heap.ExtBut it s.heap h' → (∃ o, h'.get? e = some o ∧ o.cls = .type "StopIteration") → E (.ref e) { s with heap := h' }) :
    wpAny (model prog w) A (Builtin.SmallTypes.nextOf (.ref it)) Q E s := by
  obtain ⟨oi, e1, c1, d1⟩ := id hit
  obtain ⟨ot, e2, _, m2, d2⟩ := ht
  unfold Builtin.SmallTypes.nextOf
  refine wpAny_bind (wpAny_callSpecial?_slot (name := Str.ofString "__next__") hit.typeIs F.slot_tuple_iterator_next (wpAny_call_entry F.slot_tuple_iterator_next hit.typeIs F.entry_tuple_iterator_next ?_ (F.args_tuple_iterator_next_1 _)))
  show wpAny _ _ (field (.ref it) 0 >>= _) _ _ s
  refine wpAny_bind (wpAny_field e1 d1 (x := .ref l) rfl ?_)
  show wpAny _ _ (if (Value.ref l == Value.none) = true then _ else _) _ _ s
  rw [if_neg (show ¬ ((Value.ref l == Value.none) = true) from Bool.false_ne_true)]
  show wpAny _ _ (field (.ref it) 1 >>= _) _ _ s
  refine wpAny_bind (wpAny_field e1 d1 (x := .int i 0) rfl ?_)
  show wpAny _ _ (seqItems? (.ref l) >>= _) _ _ s
  refine wpAny_bind (wpAny_seqItems e2 d2 ?_)
  cases hx : items[i]? with
  | some x =>
    rw [hx] at h
    simp only [Int.toNat_natCast, hx]
    refine wpAny_bind (wpAny_setField e1 d1 (by simp) (wpAny_pure ⟨x, rfl, wpAny_pure (h _ ?_ (Heap.SameBut.update ..))⟩))
    refine ⟨_, Heap.get?_update_self _ e1 (Obj.isFreed_of_fields (Obj.data_mapFields d1 _)), (Obj.cls_mapFields ..).trans c1, ?_⟩
    rw [Obj.data_mapFields d1]
    simp [rawInt]
  | none =>
    rw [hx] at h
    obtain ⟨hh, h⟩ := h
    simp only [Int.toNat_natCast, hx]
    refine wpAny_bind (wpAny_rule (wpAny_bind (wpAny_setField e1 d1 (by simp) ?_)))
    show wpAny _ _ (newExc (.type "StopIteration") [] >>= _) _ _ _
    refine wpAny_bind ?_
    simp only [newExc, newTuple]
    refine wpAny_bind (wpAny_newObj_type ?_ (by size_fits))
    refine wpAny_bind (m := firstArgMember _ _) (wpAny_of_eq (a := Value.none) (by first | rfl | (simp only [firstArgMember]; rfl)) ?_)
    refine wpAny_newObj_type ?_ (by size_fits)
    simp only [raiseNew]
    refine wpAny_bind (wpAny_handled ?_)
    first | rw [show A.in1.handled = none from hh] | rw [hh]
    exact wpAny_bind (wpAny_pure (wpAny_throw (h _ _ (((Heap.SameBut.update ..).extBut.push _).push _) ⟨_, Heap.get?_push_size _ rfl, rfl⟩)))
/-- the next one of a list's or tuple's iterator -/
theorem nextS {k : Bool} {it l : Addr} {i : Nat} {items : Array Value} {x : Value} {Q : Value → Shared → Prop} (hit : IterAt k s.heap it l i) (hl : SeqIs k s.heap l items) (hx : items[i]? = some x)
    (hQ : ∀ h', IterAt k h' it l (i + 1) → Heap.SameBut it s.heap h' → Q x { s with heap := h' }) : wpAny (model prog w) A (Builtin.SmallTypes.nextOf (.ref it)) Q E s := by
  cases k
  · exact wpAny_nextOf_list_item hit hl hx hQ
  · exact nextOf_tup hit hl (by rw [hx]; exact hQ)
theorem endS {k : Bool} {it l : Addr} {i : Nat} {items : Array Value} {Q : Value → Shared → Prop} (hh : A.handled = none) (hit : IterAt k s.heap it l i) (hl : SeqIs k s.heap l items) (hx : items[i]? = none)
    (hE : ∀ h' e, Heap.ExtBut it s.heap h' → (∃ o, h'.get? e = some o ∧ o.cls = .type "StopIteration") → E (.ref e) { s with heap := h' }) : wpAny (model prog w) A (Builtin.SmallTypes.nextOf (.ref it)) Q E s := by
  cases k
  · exact wpAny_nextOf_list_end hh hit hl hx hE
  · exact nextOf_tup hit hl (by rw [hx]; exact ⟨hh, hE⟩)
end
section
variable {prog : Program} {w : World} {A : Around} {E : Value → Shared → Prop} {s : Shared}
end
end L2

set_option Elab.async false
set_option linter.all false
set_option maxRecDepth 100000
namespace L2
open PySem PySem.Spec PyProof.Rows
section
variable {X : Cx} {pins : List (Addr × Obj)} {σ : St} {H : Hp} {s : Shared} {h' : Heap}
/-- untracked records of ours have turned -/
theorem Inv.turnedL {t' : Nat} {ch : List Addr} (I : Inv X pins σ H s) (hf : ∀ b ∈ ch, FpOk X pins H b) (k : ∀ b o, b ∉ ch → s.heap.get? b = some o → h'.get? b = some o) : Inv X pins σ H { s with heap := h', toks := t' } := by
  have nch : ∀ b u, H b = some u → b ∉ ch := fun b u e z => by rw [(hf b z).1] at e; cases e
  refine I.step (g' := s.gens) (d' := s.drawn) (ch := ch) (fun b hb => ⟨(hf b hb).2.2.2.1, (hf b hb).2.1, (hf b hb).2.2.2.2.1, (hf b hb).2.2.2.2.2⟩) (fun b o _ _ hc e _ => k b o hc e) (fun b o _ _ hc e _ => ⟨o.slots, k b o hc e⟩) (fun _ _ _ _ n => n)
    (fun b o hc e => ⟨o, k b o hc e⟩) (fun _ _ e => e) (fun _ _ _ e => e) (fun b ps e => ⟨#[], by rw [e]; simp⟩) (fun m hm => ?_) (fun b u e => ?_) I.bare
  · obtain ⟨o, es, ep, ho, r⟩ := hm
    exact ⟨o, es, ep, k _ o (fun z => (hf _ z).2.1 rfl) ho, r⟩
  · refine (I.hok b u e).stay (fun c v hc q => k c v ?_ q) (fun _ q => q) fun _ _ q => q
    rcases hc with z | z
    · rw [z]; exact nch b u e
    · exact nch c _ z
/-- .. and a new object is laid and tracked -/
theorem Inv.turnedN {t' : Nat} {ch : List Addr} {T : Addr} {o : HO} (I : Inv X pins σ H s) (hf : ∀ b ∈ ch, FpOk X pins H b) (k : ∀ b o, b ∉ ch → s.heap.get? b = some o → h'.get? b = some o) (hT : s.heap.objs.size ≤ T)
    (new : ObjOk X.prog X.w (upd H T o) h' T o) : Inv X pins σ (upd H T o) { s with heap := h', toks := t' } := by
  have nch : ∀ b u, H b = some u → b ∉ ch := fun b u e z => by rw [(hf b z).1] at e; cases e
  have hn : H T = none := I.hok.fresh hT
  refine I.step (g' := s.gens) (d' := s.drawn) (ch := ch) (fun b hb => ⟨(hf b hb).2.2.2.1, (hf b hb).2.1, (hf b hb).2.2.2.2.1, (hf b hb).2.2.2.2.2⟩) (fun b o _ _ hc e _ => k b o hc e) (fun b o _ _ hc e _ => ⟨o.slots, k b o hc e⟩)
    (fun b u _ e n => by rw [upd_ne (Nat.ne_of_lt (Nat.lt_of_lt_of_le (Heap.lt_size e) hT))]; exact n)
    (fun b o hc e => ⟨o, k b o hc e⟩) (fun b xs e => by rw [upd_ne (ne_of_none e hn)]; exact e) (fun b u xs e => by rw [upd_ne (ne_of_none e hn)]; exact e) (fun b ps e => ⟨#[], by rw [upd_ne (ne_of_none e hn), e]; simp⟩) (fun m hm => ?_) (fun b u e => ?_) I.bare
  · obtain ⟨o, es, ep, ho, r⟩ := hm
    exact ⟨o, es, ep, k _ o (fun z => (hf _ z).2.1 rfl) ho, r⟩
  · by_cases hb : b = T
    · subst hb; rw [upd_same] at e; cases e; exact new
    · rw [upd_ne hb] at e
      refine (I.hok b u e).stay (fun c v hc q => k c v ?_ q) (fun c q => by rw [upd_ne (ne_of_none q hn)]; exact q) fun c xs q => by rw [upd_ne (ne_of_none q hn)]; exact q
      rcases hc with z | z
      · rw [z]; exact nch b u e
      · exact nch c _ z
end
/-- a list or a tuple -/
def Sq (k : Bool) (K : PySem.W.Frag) (H : Hp) (a : Addr) (xs : List V) : Prop :=
  match k with
  | true => SqT K H a xs
  | false => SqL K H a xs
theorem Inv.sq {X : Cx} {pins : List (Addr × Obj)} {σ : St} {H : Hp} {s : Shared} {k : Bool} {a : Addr} {xs : List V} (I : Inv X pins σ H s) (h : Sq k X.K H a xs) : ∃ its : List Value, Vals xs its ∧ SeqIs k s.heap a its.toArray ∧ xs.length ≤ sizeLine := by
  cases k
  · obtain ⟨its, r, p, z⟩ := I.list h
    exact ⟨its, r, p.isList, z⟩
  · exact I.tuple h
theorem Inv.sq_inj {X : Cx} {pins : List (Addr × Obj)} {σ : St} {H : Hp} {s : Shared} {k : Bool} {a : Addr} {xs ys : List V} (I : Inv X pins σ H s) (h : Sq k X.K H a xs) (h' : Sq k X.K H a ys) : xs = ys := by
  cases k
  · exact I.list_inj h h'
  · exact I.tuple_inj h h'
theorem pair_ok {P : Program} {w : World} {H : Hp} {h : Heap} {T : Addr} {x y : V} {u v : Value} (r1 : RelV x u) (r2 : RelV y v) (e : IsPair h T u v) : ObjOk P w H h T (.tup [x, y]) := by
  refine ⟨by show 2 ≤ sizeLine; decide, [u, v], .cons r1 (.cons r2 .nil), ⟨_, e, rfl, _, rfl⟩, fun o q => ?_⟩
  rw [e] at q
  cases q
  rfl
section
variable {X : Cx} {elts : List Expr} {x1 : Nat} {tpos : Pos}
end
end L2

set_option Elab.async false
set_option linter.all false
set_option maxRecDepth 100000
namespace L2
open PySem PySem.Spec PyProof.Rows
/-! ### zip in a comprehension, in a loop -/
/-! ### max and min of ints, with a default or without -/
section
variable {prog : Program} {w : World} {A : Around} {E : Value → Shared → Prop} {s : Shared}
theorem call_tree_kw {id : String} {b : Builtin} {args : List Value} {kw : List (Str × Value)} {Q : Value → Shared → Prop} (hk : builtinKind id = none) (hp : plainId id = true) (hb : entryFor table id = some b) (ha : argsOk id ⟨args, kw⟩)
    (hc : wpAny (model prog w) A.in1 (b ⟨args, kw⟩) (fun fin s' => match fin with
      | .done f => (match (Except.ok f : Result) with | .ok (.ret v) => Q v s' | .ok _ => False | .error e => E e s')
      | .again c' => c'.quiet = true ∧ codeAny (model prog w) A c' (fun r s' => match r with | .ok (.ret v) => Q v s' | .ok _ => False | .error e => E e s') s') E s) : wpAny (model prog w) A (call (.builtin id) args kw) Q E s := by
  refine wpAny_call (codeAny_call_builtin hp hb ?_)
  simp only [checkBuiltinCall, hk]
  cases hsig : Manifest.signature? id with
  | none => exact wpAny_pure hc
  | some sig =>
    have ha' : Bind.checkArgs id sig ⟨args, kw⟩ = pure () := by simpa only [argsOk, hsig] using ha
    simp only [ha']
    exact wpAny_pure hc
end
theorem best_ge {val : Nat → Int} : ∀ n j : Nat, j ≤ n → val (argBest (fun i j => decide (val i < val j)) n) ≤ val j
  | 0, j, h => by
    have : j = 0 := by omega
    subst this
    exact Int.le_refl _
  | n + 1, j, h => by
    unfold argBest
    by_cases c : val (n + 1) < val (argBest (fun i j => decide (val i < val j)) n)
    · simp only [decide_eq_true c, if_true]
      by_cases e : j = n + 1
      · rw [e]; exact Int.le_refl _
      · have := best_ge (val := val) n j (by omega); omega
    · simp only [decide_eq_false c, Bool.false_eq_true, if_false]
      by_cases e : j = n + 1
      · rw [e]; omega
      · exact best_ge n j (by omega)
theorem best_lt (bt : Nat → Nat → Bool) : ∀ n : Nat, argBest bt n ≤ n
  | 0 => Nat.le_refl _
  | n + 1 => by
    unfold argBest
    split
    · exact Nat.le_refl _
    · exact Nat.le_trans (best_lt bt n) (Nat.le_succ n)

section
variable {prog : Program} {w : World} {A : Around} {R : Result → Shared → Prop} {I : Addr} {fp wr : List Addr} {n : Nat} {P : Nat → Value → Prop} {St : Nat → Heap → Prop}
end
section
variable {prog : Program} {w : World} {A : Around} {E : Value → Shared → Prop} {s : Shared}
end
section
variable {X : Cx}
end

section
variable {prog : Program} {w : World} {A : Around} {R : Result → Shared → Prop} {I : Addr} {fp wr : List Addr} {n : Nat} {P : Nat → Value → Prop} {St : Nat → Heap → Prop}
theorem args_min_default (a v : Value) : argsOk "min" ⟨[a], [(Str.ofString "default", v)]⟩ := by unfold argsOk; kernel_rfl
theorem min_loopK {kw : List (Str × Value)} (W : Walks prog w A.in1 I fp wr n P St) (bt : Nat → Nat → Bool) (hc : CmpOf prog w A.in1 .Lt P bt) (S : Addr) (hSf : S ∉ fp) : ∀ (k j : Nat) (s : Shared) (vb : Value) (c : Nat), n - (j + 1) = k → j + 1 ≤ n → St (j + 1) s.heap → P (argBest bt j) vb →
    s.heap.get? S = some { cls := .type "list", dict := none, data := .seq #[vb, vb] c, slots := #[] } →
    (∀ v h' tk, P (argBest bt (n - 1)) v → (∀ b o, b ∉ wr → b ≠ S → s.heap.get? b = some o → h'.get? b = some o) → R (.ok (.ret v)) { s with heap := h', toks := tk }) →
    codeAny (model prog w) A (.builtin "min.loop" ⟨[.ref I, .none, .ref S], kw⟩) R s := by
  have hSw : S ∉ wr := fun h => hSf (W.sub _ h)
  have nm : (toString "min" ++ toString ".loop" : String) = "min.loop" := by decide
  intro k
  induction k with
  | zero =>
    intro j s vb c hk hj st hP hS hR
    have hn : j + 1 = n := by omega
    refine codeAny_builtin F.entry_min_loop ?_
    rw [Around.under_plainId F.plain_min_loop _]
    show wpAny _ A.in1 (seqItems? (.ref S) >>= _) _ _ s
    refine wpAny_bind (wpAny_seqItems hS rfl ?_)
    show wpAny _ A.in1 (tryCatch (pyNext (.ref I)) _ >>= _) _ _ s
    refine wpAny_bind (wpAny_tryCatch (W.done s _ _ (hn ▸ st) fun h' tk kk => ?_))
    have hS' := kk S _ hSw hS
    show wpAny _ A.in1 (updateSeq S (fun _ => #[]) >>= _) _ _ _
    refine wpAny_bind (wpAny_updateSeq hS' rfl (wpAny_bind (wpAny_letGo (wpAny_pure ?_))))
    exact hR vb _ tk (by rw [← hn]; exact hP) fun b o n1 n2 e => (Heap.get?_update_other _ _ (Ne.symm n2)).trans (kk b o n1 e)
  | succ k ih =>
    intro j s vb c hk hj st hP hS hR
    have hlt : j + 1 < n := by omega
    refine codeAny_builtin F.entry_min_loop ?_
    rw [Around.under_plainId F.plain_min_loop _]
    show wpAny _ A.in1 (seqItems? (.ref S) >>= _) _ _ s
    refine wpAny_bind (wpAny_seqItems hS rfl ?_)
    show wpAny _ A.in1 (tryCatch (pyNext (.ref I)) _ >>= _) _ _ s
    refine wpAny_bind (wpAny_tryCatch (W.item (j + 1) s _ _ hlt st fun v h' tk hPv st' kk => ?_))
    have hS' := kk S _ hSw hS
    show wpAny _ A.in1 (tryCatch (holding [v, v] (richCompare .Lt v vb >>= _)) _ >>= _) _ _ _
    refine wpAny_bind (wpAny_tryCatch (wpAny_holding (wpAny_bind (hc (j + 1) (argBest bt j) v vb _ _ _ hPv hP ?_))))
    refine wpAny_bind (wpAny_holding (wpAny_truthy_bool ?_))
    refine wpAny_bind (wpAny_letGo (wpAny_pure ?_))
    cases hb : bt (j + 1) (argBest bt j) with
    | true =>
      simp only [if_true]
      refine wpAny_bind (wpAny_updateSeq hS' rfl (wpAny_bind (wpAny_letGo ?_)))
      rw [nm]
      refine wpAny_pure ⟨plainId_quiet F.plain_min_loop _, ih (j + 1) _ v _ (by omega) hlt (W.frame _ _ _ st' fun b q o e => ?_) (by simp only [argBest, hb, if_true]; exact hPv) (Heap.get?_update_self _ hS' rfl) fun v2 h2 t2 p2 k2 => ?_⟩
      · exact (Heap.get?_update_other _ _ (fun h : S = b => hSf (by rw [h]; exact q))).trans e
      · exact hR v2 h2 t2 p2 fun b o n1 n2 e => k2 b o n1 n2 ((Heap.get?_update_other _ _ (Ne.symm n2)).trans (kk b o n1 e))
    | false =>
      simp only [Bool.false_eq_true, if_false]
      refine wpAny_bind (wpAny_letGo ?_)
      rw [nm]
      refine wpAny_pure ⟨plainId_quiet F.plain_min_loop _, ih (j + 1) _ vb c (by omega) hlt st' (by simp only [argBest, hb, Bool.false_eq_true, if_false]; exact hP) hS' fun v2 h2 t2 p2 k2 => ?_⟩
      exact hR v2 h2 t2 p2 fun b o n1 n2 e => k2 b o n1 n2 (kk b o n1 e)
/-- from an empty list on -/
theorem min_loop0 {d : Value} {s : Shared} {c : Nat} (W : Walks prog w A.in1 I fp wr n P St) (bt : Nat → Nat → Bool) (hc : CmpOf prog w A.in1 .Lt P bt) (S : Addr) (hSf : S ∉ fp) (st : St 0 s.heap)
    (hS : s.heap.get? S = some { cls := .type "list", dict := none, data := .seq #[] c, slots := #[] })
    (hR : ∀ v h' tk, (0 < n → P (argBest bt (n - 1)) v) → (n = 0 → v = d) → (∀ b o, b ∉ wr → b ≠ S → s.heap.get? b = some o → h'.get? b = some o) → R (.ok (.ret v)) { s with heap := h', toks := tk }) :
    codeAny (model prog w) A (.builtin "min.loop" ⟨[.ref I, .none, .ref S], [(Str.ofString "default", d)]⟩) R s := by
  have hSw : S ∉ wr := fun h => hSf (W.sub _ h)
  have nm : (toString "min" ++ toString ".loop" : String) = "min.loop" := by decide
  refine codeAny_builtin F.entry_min_loop ?_
  rw [Around.under_plainId F.plain_min_loop _]
  show wpAny _ A.in1 (seqItems? (.ref S) >>= _) _ _ s
  refine wpAny_bind (wpAny_seqItems hS rfl ?_)
  show wpAny _ A.in1 (tryCatch (pyNext (.ref I)) _ >>= _) _ _ s
  by_cases h0 : n = 0
  · refine wpAny_bind (wpAny_tryCatch (W.done s _ _ (h0 ▸ st) fun h' tk kk => ?_))
    show wpAny _ A.in1 (rule _ >>= _) _ _ _
    refine wpAny_bind (wpAny_rule (wpAny_pure ?_))
    exact hR d h' tk (fun z => absurd h0 (Nat.ne_of_gt z)) (fun _ => rfl) fun b o n1 _ e => kk b o n1 e
  · have hn : 0 < n := Nat.pos_of_ne_zero h0
    refine wpAny_bind (wpAny_tryCatch (W.item 0 s _ _ hn st fun v h' tk hPv st' kk => ?_))
    have hS' := kk S _ hSw hS
    show wpAny _ A.in1 (updateSeq S (fun _ => #[v, v]) >>= _) _ _ _
    refine wpAny_bind (wpAny_updateSeq hS' rfl ?_)
    rw [nm]
    refine wpAny_pure ⟨plainId_quiet F.plain_min_loop _, min_loopK W bt hc S hSf _ 0 _ v _ rfl hn (W.frame _ _ _ st' fun b q o e => ?_) hPv (Heap.get?_update_self _ hS' rfl) fun v2 h2 t2 p2 k2 => ?_⟩
    · exact (Heap.get?_update_other _ _ (fun h : S = b => hSf (by rw [h]; exact q))).trans e
    · exact hR v2 h2 t2 (fun _ => p2) (fun z => absurd z h0) fun b o n1 n2 e => k2 b o n1 n2 ((Heap.get?_update_other _ _ (Ne.symm n2)).trans (kk b o n1 e))
end
section
variable {prog : Program} {w : World} {A : Around} {E : Value → Shared → Prop} {s : Shared}
theorem call_min_default {x d : Value} {Q : Value → Shared → Prop}
    (h : wpAny (model prog w) A.in1 (pyIter x) (fun it s2 => ∃ I fp wr n P St bt, it = .ref I ∧ Walks prog w A.in1 I fp wr n P St ∧ St 0 s2.heap ∧ (∀ b ∈ fp, b < s2.heap.objs.size) ∧ CmpOf prog w A.in1 .Lt P bt ∧
      ∀ v h' tk, (0 < n → P (argBest bt (n - 1)) v) → (n = 0 → v = d) → (∀ b o, b ∉ wr → s2.heap.get? b = some o → h'.get? b = some o) → Q v { s2 with heap := h', toks := tk }) E s) :
    wpAny (model prog w) A (call (.builtin "min") [x] [(Str.ofString "default", d)]) Q E s := by
  have nm : (toString "min" ++ toString ".loop" : String) = "min.loop" := by decide
  refine call_tree_kw F.kind_min F.plain_min F.entry_min (args_min_default _ _) ?_
  show wpAny _ A.in1 (Builtin.Builtins.bindParams "min" ["key", "default"] 0 ⟨[], [(Str.ofString "default", d)]⟩ >>= _) _ _ s
  refine wpAny_bind (wpAny_of_eq (show Builtin.Builtins.bindParams "min" ["key", "default"] 0 ⟨[], [(Str.ofString "default", d)]⟩ = pure [none, some d] from rfl) ?_)
  refine wpAny_bind (wpAny_pure ?_)
  refine wpAny_bind (wpAny_mono h (fun it s2 h2 => ?_) fun _ _ e => e)
  obtain ⟨I, fp, wr, n, P, St, bt, rfl, W, st, hfp, hc, hQ⟩ := h2
  refine wpAny_bind (wpAny_newObj_type ?_)
  have hSf : s2.heap.objs.size ∉ fp := fun hm => Nat.lt_irrefl _ (hfp _ hm)
  rw [nm]
  refine wpAny_pure ⟨plainId_quiet F.plain_min_loop _, min_loop0 W bt hc s2.heap.objs.size hSf (W.frame _ _ _ st fun b _ o e => Heap.get?_push_of_some _ e) (Heap.get?_push_size _ rfl) fun v h' tk p1 p2 kk => ?_⟩
  exact hQ v h' tk p1 p2 fun b o n1 e => kk b o n1 (Nat.ne_of_lt (Heap.lt_size e)) (Heap.get?_push_of_some _ e)
end
section
variable {X : Cx}
def Ismin (m : Int) (ns : List Int) : Prop := m ∈ ns ∧ ∀ x ∈ ns, m ≤ x
theorem ismin_of {ns : List Int} (hn : 0 < ns.length) : Ismin (ns.getD (argBest (fun i j => decide (ns.getD i 0 < ns.getD j 0)) (ns.length - 1)) 0) ns := by
  have hb := best_lt (fun i j => decide (ns.getD i 0 < ns.getD j 0)) (ns.length - 1)
  have at' : ∀ j, j < ns.length → ns.getD j 0 = ns[j]! := fun j h => by simp [h]
  refine ⟨?_, fun x hx => ?_⟩
  · have hl : argBest (fun i j => decide (ns.getD i 0 < ns.getD j 0)) (ns.length - 1) < ns.length := by omega
    generalize argBest (fun i j => decide (ns.getD i 0 < ns.getD j 0)) (ns.length - 1) = k at hl
    have : ns.getD k 0 = ns[k] := by simp [hl]
    rw [this]
    exact List.getElem_mem hl
  · obtain ⟨j, hj, rfl⟩ := List.mem_iff_getElem.mp hx
    have h1 := best_ge (val := fun i => ns.getD i 0) (ns.length - 1) j (by omega)
    have h2 : ns.getD j 0 = ns[j] := by simp [hj]
    rw [← h2]
    exact h1
/-- the iterator of a list or tuple of ints, walked -/
theorem min_walkI {pins : List (Addr × Obj)} {σ : St} {H : Hp} {s : Shared} {k : Bool} {a : Addr} {ns : List Int} {E : Value → Shared → Prop} {d : Value} {Q : Value → Shared → Prop} (hc : X.calm = true) (I : Inv X pins σ H s) (hq : Sq k X.K H a (ns.map V.int))
    (h : ∀ h' tk v, (∀ b o, s.heap.get? b = some o → h'.get? b = some o) → (0 < ns.length → ∃ m t, v = .int m t ∧ Ismin m ns) → (ns.length = 0 → v = d) → Q v { s with heap := h', toks := tk }) :
    wpAny (model X.prog X.w) X.A (call (.builtin "min") [.ref a] [(Str.ofString "default", d)]) Q E s := by
  have hh : X.A.in1.handled = none := I.ok.hd hc
  obtain ⟨its, rv, p, hz⟩ := I.sq hq
  have hl := rv.length
  rw [List.length_map] at hl
  have hlt := p.lt
  have fin : ∀ (h' : Heap) (tk : Nat) (v : Value), (∀ b o, s.heap.get? b = some o → h'.get? b = some o) → (0 < its.toArray.size → its.toArray[argBest (fun i j => decide (ns.getD i 0 < ns.getD j 0)) (its.toArray.size - 1)]? = some v) → (its.toArray.size = 0 → v = d) → Q v { s with heap := h', toks := tk } := fun h' tk v kk p1 p2 => by
    rw [List.size_toArray, ← hl] at p1 p2
    refine h h' tk v kk (fun hn => ?_) p2
    obtain ⟨t, e⟩ := vals_int_at rv _ v (p1 hn)
    exact ⟨_, t, e, ismin_of hn⟩
  have apart : ∀ b ∈ [s.heap.objs.size, a], b < s.heap.objs.size + 1 := fun b hb => by
    rcases List.mem_cons.mp hb with rfl | hb
    · exact Nat.lt_succ_self _
    · rcases List.mem_cons.mp hb with rfl | hb
      · exact Nat.lt_succ_of_lt hlt
      · cases hb
  cases k
  · refine call_min_default (wpAny_pyIter_list p ⟨_, _, _, _, _, _, _, rfl, Walks.list (A := X.A.in1) hh _ a (Nat.ne_of_lt hlt) its.toArray, ⟨⟨_, Heap.get?_push_size _ rfl, rfl, rfl⟩, Heap.IsList.push p _⟩, fun b hb => ?_, CmpOf.ints_lt (fun i => ns.getD i 0) (vals_int_at rv), fun v h' tk p1 p2 kk => ?_⟩)
    · show b < (s.heap.push _).objs.size
      rw [Heap.size_push]
      exact apart b hb
    · exact fin h' tk v (fun b o e => kk b o (by simpa using Nat.ne_of_lt (Heap.lt_size e)) (Heap.get?_push_of_some _ e)) p1 p2
  · refine call_min_default (wpAny_pyIter_tuple p ⟨_, _, _, _, _, _, _, rfl, Walks.tuple (A := X.A.in1) hh _ a (Nat.ne_of_lt hlt) its.toArray, ⟨⟨_, Heap.get?_push_size _ rfl, rfl, rfl⟩, Heap.IsTuple.push p _⟩, fun b hb => ?_, CmpOf.ints_lt (fun i => ns.getD i 0) (vals_int_at rv), fun v h' tk p1 p2 kk => ?_⟩)
    · show b < (s.heap.push _).objs.size
      rw [Heap.size_push]
      exact apart b hb
    · exact fin h' tk v (fun b o e => kk b o (by simpa using Nat.ne_of_lt (Heap.lt_size e)) (Heap.get?_push_of_some _ e)) p1 p2
/-- min(e, default=d), e a list or tuple of ints -/
def rminD (K : PySem.W.Frag) (k : Bool) (x d : V) (H : Hp) (Q : VK) : Prop := ∃ a ns, x = .ref a ∧ Sq k K H a (ns.map V.int) ∧ ∀ v, ((ns = [] ∧ v = d) ∨ ∃ m, v = .int m ∧ Ismin m ns) → Q v H
def tminD (K : PySem.W.Frag) (k : Bool) (te td : TE) : TE := fun σ H Q => te σ H fun x H1 => td σ H1 fun d H2 => rminD K k x d H2 Q
theorem pe_minD (k : Bool) {e dE : Expr} {te td : TE} {p kp pos : Pos} (hc : X.calm = true) (hg : Gl X "min") (hm : X.mg "min" = none) (he : PE X e te) (hd : PE X dE td)
    (hse : starEach [e] X.env = [(false, eval e X.env)] := by rfl) : PE X (.Call (.Name "min" p) [e] [⟨some "default", dE, kp⟩] pos) (tminD X.K k te td) := by
  intro pins s σ H Q I h
  refine wpAny_Call_Name_kw (ld_blt I hg hm boot_min ?_ (by decide) (by decide))
  refine callWith_kw (thn (pa_cons he pa_nil hse pos pins s σ H (fun vs H1 => match vs with | [x] => td σ H1 fun d H2 => rminD X.K k x d H2 Q | _ => False) I h) fun us s1 ⟨vs, H1, I1, r1, q1⟩ => ?_) (by rw [hse]; rfl) (by rw [hse]; rfl)
  match vs, r1, q1 with
  | [x], r1, q =>
    obtain ⟨u, rfl, ru⟩ := vals1 r1
    refine kws_cons (thn (hd pins s1 σ H1 _ I1 q) fun dv s2 ⟨d, H2, I2, r2, q2⟩ => kws_nil ?_)
    obtain ⟨a, ns, rfl, hq, q3⟩ := q2
    cases ru
    show wpAny _ _ (call (.builtin "min") [.ref a] [(Str.ofString "default", dv)]) _ _ _
    refine min_walkI hc I2 hq fun h' tk v kk p1 p2 => ?_
    by_cases hn : 0 < ns.length
    · obtain ⟨m, t, rfl, hm⟩ := p1 hn
      exact ⟨.int m, H2, I2.kept kk, ⟨t, rfl⟩, q3 _ (.inr ⟨m, rfl, hm⟩)⟩
    · have e0 : ns.length = 0 := by omega
      rw [p2 e0]
      exact ⟨d, H2, I2.kept kk, r2, q3 _ (.inl ⟨List.length_eq_zero_iff.mp e0, rfl⟩)⟩
end
end L2

set_option Elab.async false
set_option linter.all false
set_option maxRecDepth 100000
namespace L2
open PySem PySem.Spec PyProof.Rows
/-! ### a tuple times an int of two at least -/
/-- a tuple as a comprehension's target -/
theorem pg_tupC {X : Cx} {scope : Scope} {N : List Str} {C : Addr} {s : Shared} {H : Hp} {ex : List Addr} {es : List Expr} {k : Nat} {t : TGs} {pos : Pos} (n : Nat) (hc : X.calm = true) (h : PGs (cxC X scope N C s H ex) es t)
    (hn : (assignEach es (cxC X scope N C s H ex).env).length = n) (hst : (assignEach es (cxC X scope N C s H ex).env).findIdx? (·.1) = none) : PG (cxC X scope N C s H ex) (.Tuple es k pos) (gTup X.K n t) := pg_tup hc h hn hst
end L2

set_option Elab.async false
set_option linter.all false
set_option maxRecDepth 100000
namespace L2
open PySem PySem.Spec PyProof.Rows

/-! ### lists of pairs as tables -/
section
variable {κ : Type} [DecidableEq κ]
end


/-! ### a tracked dict, its keys ints and texts or tuples of these -/
section
variable {P : Program} {w : World} {H : Hp} {h : Heap} {a : Addr}
end

section
variable {X : Cx} {pins : List (Addr × Obj)} {σ : St} {H : Hp} {s : Shared} {a : Addr} {y v : V} {u r : Value} {o : Option V} {A : Around} {E : Value → Shared → Prop}

end

section
variable {X : Cx} {pins : List (Addr × Obj)} {σ : St} {H : Hp} {s : Shared} {a : Addr} {kvs : List (Key × V)} {k : Key} {u : Value} {A : Around} {E : Value → Shared → Prop}
end


/-! ### readings and rules -/
section
variable {X : Cx} {o i e value : Expr} {pos pos' tpos : Pos} {td ty tv : TE}
end


/-! ### displays -/
section
variable {X : Cx} {pos : Pos}
end

/-! ### methods -/
section
variable {X : Cx} {pins : List (Addr × Obj)} {σ : St} {H : Hp} {s : Shared} {a : Addr} {y d : V} {u r : Value} {o : Option V} {A : Around} {E : Value → Shared → Prop}
end

section
variable {X : Cx} {o e f : Expr} {apos cpos : Pos} {td ty tx : TE}
end

/-! ### dict(d): a copy -/
section
variable {X : Cx} {pins : List (Addr × Obj)} {σ : St} {H : Hp} {s : Shared} {a : Addr} {kvs : List (Key × V)} {A : Around} {E : Value → Shared → Prop}
end


section
variable {X : Cx} {pins : List (Addr × Obj)} {σ : St} {H : Hp} {s : Shared} {a : Addr} {y : V} {u : Value} {A : Around} {E : Value → Shared → Prop}
end
end L2
namespace L2
open PySem PySem.Spec PyProof.Rows
/-! ### a dict's pairs: keys that differ -/
section
variable {κ : Type} [DecidableEq κ]
end
end L2

set_option Elab.async false
set_option linter.all false
set_option maxRecDepth 100000
namespace L2
open PySem PySem.Spec PyProof.Rows
/-! ### sorted(d, reverse=b), d a dict whose keys are ints -/
section
variable {prog : Program} {w : World} {A : Around} {E : Value → Shared → Prop} {s : Shared}
end
section
variable {X : Cx}
end
end L2

set_option Elab.async false
set_option linter.all false
set_option maxRecDepth 100000
namespace L2
open PySem PySem.Spec PyProof.Rows
section
variable {X : Cx}
/-- t + u, whatever they hold -/
def rCatA (K : PySem.W.Frag) : R2 := fun x y H Q => ∃ a b xs ys, x = .ref a ∧ y = .ref b ∧ SqT K H a xs ∧ SqT K H b ys ∧ xs.length + ys.length ≤ sizeLine ∧
  (xs = [] → Q (.ref b) H) ∧ (xs ≠ [] → ys = [] → Q (.ref a) H) ∧ (xs ≠ [] → ys ≠ [] → ∀ p, H p = none → Q (.ref p) (upd H p (.tup (xs ++ ys))))
theorem op_catA : OpR X (binaryOp .Add) (rCatA X.K) := by
  intro pins s σ H x y v u Q I rx ry h
  obtain ⟨a, b, xs, ys, rfl, rfl, ha, hb, hz, q0, q1, q2⟩ := h
  by_cases hx : xs = []
  · cases rx
    cases ry
    obtain ⟨its, r1, p1, _⟩ := I.tuple ha
    obtain ⟨its2, r2, p2, _⟩ := I.tuple hb
    obtain ⟨⟨cls, dd, data, sl⟩, ho, hc, n, hd⟩ := id p1
    obtain ⟨⟨cls2, dd2, data2, sl2⟩, ho2, hc2, n2, hd2⟩ := id p2
    simp only at hc hd hc2 hd2
    subst hc hd hc2 hd2
    have e0 : its.toArray.isEmpty = true := by
      have := r1.nil_iff.mpr hx
      simp [this]
    exact concat_meets ⟨_, ho, rfl⟩ ⟨_, ho2, rfl⟩ noFill_tuple_add seq_tuple_add PySem.F.slot_tuple_add PySem.F.entry_tuple_add (PySem.F.args_tuple_add_2 _ _)
      (tuple_addW0 a b its.toArray its2.toArray n n2 dd dd2 sl sl2 e0) ⟨ho, ho2, ⟨.ref b, H, I, rfl, q0 hx⟩⟩
  · exact op_catT pins s σ H (.ref a) (.ref b) v u Q I rx ry ⟨a, b, xs, ys, rfl, rfl, ha, hb, hx, hz, q1 hx, q2 hx⟩
end
end L2

set_option Elab.async false
set_option linter.all false
namespace L2
/-! ### heaps turned about -/
def cntG (ns : List Int) (k : Int) : Nat := (ns.filter fun x => decide (k ≤ x)).length
def turn (ns : List Int) : List Int := (List.range (ns.headD 0).toNat).map fun (k : Nat) => ((cntG ns ((k : Int) + 1) : Nat) : Int)
end L2

set_option Elab.async false
set_option linter.all false
namespace L2
open PySem PySem.Spec PyProof.Rows
/-! ### tuples stay; lists of tuples of ints -/
def Tups (H H' : Hp) : Prop := ∀ b xs, H b = some (.tup xs) → H' b = some (.tup xs)
theorem Tups.trans {H H1 H2 : Hp} (a : Tups H H1) (b : Tups H1 H2) : Tups H H2 := fun c xs h => b c xs (a c xs h)
theorem Same.tups {H H' : Hp} (h : Same H H') : Tups H H' := fun b xs e => h b _ e
theorem Keep.tups {H H' : Hp} {st ga ca : Addr} {N : Nat} (K : Keep [st, ga] H H') (S : StAt H st ga ca N) : Tups H H' := fun b xs e => K b _ e (fun z => by
  obtain ⟨gs, cs, q, n, h1, h2, _⟩ := S.ex
  simp only [List.mem_cons, List.not_mem_nil, or_false] at z
  rcases z with rfl | rfl
  · rw [h1] at e; cases e
  · rw [h2] at e; cases e)
theorem Tups.set {H : Hp} {l : Addr} {xs : List V} {o : HO} (h : H l = some (.lst xs)) : Tups H (upd H l o) := fun b ys e => by
  rw [upd_ne (ne_of e h (by intro z; cases z))]; exact e
def Tup1 (hs : List Int) (v : V) (H : Hp) : Prop := ∃ q, v = .ref q ∧ H q = some (.tup (hs.map V.int))
theorem Tup1.mv {H H' : Hp} {hs : List Int} {v : V} (t : Tups H H') (h : Tup1 hs v H) : Tup1 hs v H' := let ⟨q, e, h⟩ := h; ⟨q, e, t _ _ h⟩
theorem All2.mv {H H' : Hp} {ls : List (List Int)} {xs : List V} (t : Tups H H') (h : All2 Tup1 H ls xs) : All2 Tup1 H' ls xs := h.imp fun _ _ z => z.mv t
theorem All2.at {α : Type} {R : α → V → Hp → Prop} {H : Hp} : ∀ {l : List α} {xs : List V} {i : Nat} {a : α}, All2 R H l xs → l[i]? = some a → ∃ x, xs[i]? = some x ∧ R a x H
  | _, _, _, _, .nil, e => by simp at e
  | _, _, 0, _, .cons r _, e => by simp at e; subst e; exact ⟨_, rfl, r⟩
  | _, _, i + 1, a, .cons _ t, e => by
    obtain ⟨u, h1, h2⟩ := All2.at (i := i) (a := a) t (by simpa using e)
    exact ⟨u, by simpa using h1, h2⟩
theorem All2.snoc {α : Type} {R : α → V → Hp → Prop} {H : Hp} {l : List α} {xs : List V} {a : α} {x : V} (h : All2 R H l xs) (r : R a x H) : All2 R H (l ++ [a]) (xs ++ [x]) := h.append (.cons r .nil)
theorem All2.take {α : Type} {R : α → V → Hp → Prop} {H : Hp} : ∀ {l : List α} {xs : List V} (n : Nat), All2 R H l xs → All2 R H (l.take n) (xs.take n)
  | _, _, 0, _ => .nil
  | _, _, _ + 1, .nil => .nil
  | _, _, n + 1, .cons r t => .cons r (t.take n)
/-! ### joined heaps -/
/-! ### choices -/
end L2

set_option Elab.async false
set_option linter.all false
namespace L2
open PySem PySem.Spec PyProof.Rows
/-! ### rules within a comprehension: the fragment by its own name -/
section
variable {X : Cx}
theorem OpR.kk {f : Value → Value → Sem Value} (K0 : PySem.W.Frag) (r : PySem.W.Frag → R2) (ho : OpR X f (r X.K)) (h : X.K = K0) : OpR X f (r K0) := by subst h; exact ho
theorem IxR.kk (K0 : PySem.W.Frag) (r : PySem.W.Frag → R2) (ho : IxR X (r X.K)) (h : X.K = K0) : IxR X (r K0) := by subst h; exact ho
theorem MtR.kk {id : String} (K0 : PySem.W.Frag) (r : PySem.W.Frag → V → List V → Hp → VK → Prop) (ho : MtR X id (r X.K)) (h : X.K = K0) : MtR X id (r K0) := by subst h; exact ho
theorem op_catAK (K0 : PySem.W.Frag) (h : X.K = K0) : OpR X (binaryOp .Add) (rCatA K0) := OpR.kk K0 rCatA op_catA h
theorem ix_listK (K0 : PySem.W.Frag) (h : X.K = K0) : IxR X (rIxL K0) := IxR.kk K0 rIxL ix_list h
theorem mt_countTK (K0 : PySem.W.Frag) (h : X.K = K0) : MtR X "tuple.count" (rCount K0 SqT) := MtR.kk K0 (fun K => rCount K SqT) mt_countT h
variable {o e : Expr} {es : List Expr} {to : TE} {t : TA} {name : Str} {apos cpos : Pos} {T id : String} {r : V → List V → Hp → VK → Prop}
theorem pe_bmK (K0 : PySem.W.Frag) (h : X.K = K0) (pa : PlainAttrs T) (slot : Slot T name id) (hty : typeOf (.builtin id) = pure (.type "method_descriptor")) (hm : MtR X id r) (ho : PE X o to) (ha : PA X (e :: es) t)
    (hbase : attributeBase o name X.env (eval o X.env) = eval o X.env := by rfl)
    (hfew : ((backTo cpos (starEach (e :: es) X.env)).all (fun x => !x.1) && (backToKw cpos (keywordEach [] X.env)).all (fun x => x.1.isSome) && decide ((e :: es).length + ([] : List Keyword).length + (if ([] : List Keyword).isEmpty then 0 else 1) < 30)) = true := by rfl)
    (hline : (apos.endLine == cpos.line) = true := by rfl) (hs : starEach (e :: es) X.env = (false, eval e X.env) :: starEach es X.env := by rfl) (hplain : (backTo cpos (starEach es X.env)).any (·.1) = false := by rfl) : PE X (.Call (.Attribute o name apos) (e :: es) [] cpos) (tBM K0 T r to t) := by
  subst h
  exact pe_bm pa slot hty hm ho ha hbase hfew hline hs hplain
theorem pt_truthK {a : Expr} {ta : TE} (K0 : PySem.W.Frag) (h : X.K = K0) (ha : PE X a ta) (he : ∀ whole, isTrue a X.env whole = (do let v ← whole; standAt a.pos; holding [v] (truthy v))) : PT X a (fun σ H Q => ta σ H fun x H' => ∃ k, TruV K0 x H' k ∧ Q k H') := by
  subst h
  exact pt_truth ha he
end
end L2

set_option Elab.async false
set_option linter.all false
namespace L2
open PySem PySem.Spec PyProof.Rows
/-- a heap of a rule -/
structure GoodH (n : Nat) (h : List Int) : Prop where
  ln : h.length ≤ n
  bd : ∀ x ∈ h, 1 ≤ x ∧ x ≤ 10 ^ 60
  pw : h.Pairwise (· ≥ ·)
theorem GoodH.mono {n m : Nat} {h : List Int} (g : GoodH n h) (hm : n ≤ m) : GoodH m h := ⟨Nat.le_trans g.ln hm, g.bd, g.pw⟩
/-- the rule so far -/
structure RB (H0 H : Hp) (st ga ca l : Addr) (N i : Nat) (rule : List (List Int)) (xs : List V) : Prop where
  li : H l = some (.lst xs)
  h2 : All2 Tup1 H rule xs
  nw : H0 l = none
  ni : l ∉ [st, ga, ca]
  ln : rule.length = i
  gd : ∀ h ∈ rule, GoodH (4 + i) h
  sa : StAt H st ga ca N
  kp : Keep [st, ga] H0 H
theorem RB.drawn {H0 H H2 : Hp} {st ga ca l : Addr} {N M i : Nat} {rule : List (List Int)} {xs : List V} (R : RB H0 H st ga ca l N i rule xs) (S2 : StAt H2 st ga ca M) (K2 : Keep [st, ga] H H2) : RB H0 H2 st ga ca l M i rule xs :=
  ⟨K2.at R.li (nin2 R.ni), R.h2.mv (K2.tups R.sa), R.nw, R.ni, R.ln, R.gd, S2, R.kp.trans K2⟩
theorem RB.same {H0 H H2 : Hp} {st ga ca l : Addr} {N i : Nat} {rule : List (List Int)} {xs : List V} (R : RB H0 H st ga ca l N i rule xs) (s : Same H H2) : RB H0 H2 st ga ca l N i rule xs :=
  R.drawn (R.sa.same s) s.keep
theorem RB.mono {H0 H : Hp} {st ga ca l : Addr} {N M i : Nat} {rule : List (List Int)} {xs : List V} (R : RB H0 H st ga ca l N i rule xs) (h : N ≤ M) : RB H0 H st ga ca l M i rule xs :=
  ⟨R.li, R.h2, R.nw, R.ni, R.ln, R.gd, R.sa.mono h, R.kp⟩
theorem RB.push {H0 H : Hp} {st ga ca l : Addr} {N i : Nat} {rule : List (List Int)} {xs : List V} {q : Addr} {hs : List Int} (R : RB H0 H st ga ca l N i rule xs) (hq : H q = some (.tup (hs.map V.int))) (g : GoodH (4 + (i + 1)) hs) :
    RB H0 (upd H l (.lst (xs ++ [.ref q]))) st ga ca l N (i + 1) (rule ++ [hs]) (xs ++ [.ref q]) := by
  have t : Tups H (upd H l (.lst (xs ++ [.ref q]))) := Tups.set R.li
  refine ⟨upd_same, (R.h2.mv t).snoc ⟨q, rfl, t _ _ hq⟩, R.nw, R.ni, by simp [R.ln], fun h hh => ?_, R.sa.upd R.ni, R.kp.updN R.nw⟩
  rcases List.mem_append.mp hh with hh | hh
  · exact (R.gd h hh).mono (by omega)
  · have : h = hs := by simpa using hh
    rw [this]; exact g
/-- one part ahead of a parting -/
theorem cat_front {K : PySem.W.Frag} {H : Hp} {q : Addr} {hs : List Int} {z : Int} {t : Addr} {Q : V → Hp → Prop} (hq : H q = some (.tup (hs.map V.int))) (ht : H t = some (.tup [V.int z])) (hl : hs.length ≤ 100)
    (k : ∀ (v : V) (H' : Hp), Tup1 (z :: hs) v H' → Same H H' → Q v H') : rCatA K (.ref t) (.ref q) H Q := by
  refine ⟨t, q, _, _, rfl, rfl, SqT.of ht, SqT.of hq, ?_, (fun e => by cases e), fun _ e => ?_, fun _ _ p hp => ?_⟩
  · rw [List.length_map]
    exact Nat.le_trans (m := 101) (by simp; omega) (by decide)
  · have : hs = [] := List.map_eq_nil_iff.mp e
    subst this
    exact k _ _ ⟨t, rfl, ht⟩ (fun _ _ h => h)
  · exact k _ _ ⟨p, rfl, by rw [upd_same]; rfl⟩ (Same.new hp)
/-- a filter, one by one -/
theorem filter_take {α : Type} (p : α → Bool) {l : List α} {i : Nat} {x : α} (h : l[i]? = some x) : (l.take (i + 1)).filter p = (l.take i).filter p ++ if p x = true then [x] else [] := by
  obtain ⟨hi, e⟩ := List.getElem?_eq_some_iff.mp h
  rw [List.take_succ_eq_append_getElem hi, List.filter_append, e]
  by_cases c : p x = true
  · rw [List.filter_cons, if_pos c, if_pos c]; rfl
  · rw [List.filter_cons, if_neg c, if_neg c]; rfl
/-- a rule at its place -/
structure RuleAt (H : Hp) (p : Addr) (rs : List V) (rule : List (List Int)) : Prop where
  at_ : H p = some (.tup rs)
  h2 : All2 Tup1 H rule rs
  ln : rule.length ≤ 6
  gd : ∀ h ∈ rule, GoodH 10 h
theorem RuleAt.mv {H H' : Hp} {p : Addr} {rs : List V} {rule : List (List Int)} (h : RuleAt H p rs rule) (t : Tups H H') : RuleAt H' p rs rule := ⟨t _ _ h.at_, h.h2.mv t, h.ln, h.gd⟩
theorem RuleAt.small {H : Hp} {p : Addr} {rs : List V} {rule : List (List Int)} (h : RuleAt H p rs rule) : ∀ x ∈ rule, x.length ≤ 1000 := fun x hx => Nat.le_trans (h.gd x hx).ln (by decide)
/-- r[:n] -/
theorem slice_rule {K : PySem.W.Frag} {H : Hp} {p : Addr} {rs : List V} {rule : List (List Int)} {n : Nat} {Q : VK} (h : RuleAt H p rs rule) (k : ∀ q rs' rule' H', RuleAt H' q rs' rule' → Same H H' → Q (.ref q) H') : rSlTA K (.ref p) none (some (n : Int)) H Q := by
  by_cases hle : rs.length ≤ n
  · refine .inl ⟨p, rs, rfl, SqT.of h.at_, ⟨rfl, ?_⟩, k p rs rule H h fun _ _ z => z⟩
    rw [HT.sIx_nat]
    omega
  · refine .inr ⟨p, rs, rfl, SqT.of h.at_, ?_, fun q hq => k q (rs.take n) (rule.take n) _ ⟨?_, ?_, ?_, ?_⟩ (Same.new hq)⟩
    · rintro ⟨_, z⟩
      rw [HT.sIx_nat] at z
      omega
    · rw [upd_same]
      unfold cutV
      rw [HT.sIx_nat, HT.sIx_none, List.drop_zero, Nat.sub_zero, Nat.min_eq_left (by omega)]
    · exact (h.h2.take n).mv (Same.new hq).tups
    · rw [List.length_take]
      exact Nat.le_trans (Nat.min_le_right _ _) h.ln
    · exact fun x hx => h.gd x (List.mem_of_mem_take hx)
end L2

set_option Elab.async false
set_option linter.all false
set_option maxRecDepth 100000
namespace L2
open PySem PySem.Spec PyProof.Rows
open AutoSeq1 (wpAny_loadPart')
/-! ### enumerate(a), a a list or a tuple, walked by a tuple target -/
theorem drawsS {prog : Program} {w : World} {A : Around} (hh : A.handled = none) (k : Bool) (it l : Addr) (hne : l ≠ it) (items : Array Value) :
    Draws prog w A it [it, l] items.size (fun i v => items[i]? = some v) (fun i h => IterAt k h it l i ∧ SeqIs k h l items) where
  live := fun _ _ st => let ⟨o, ho, _⟩ := st.1; ⟨o, ho⟩
  frame := fun _ _ _ st hk => ⟨st.1.kept fun o e => hk it (by simp) o e, st.2.kept fun o e => hk l (by simp) o e⟩
  item := fun i s Q E hi st hQ => nextS st.1 st.2 (x := items[i]) (by simp [hi]) fun h' a b => hQ _ h' s.toks (by simp [hi]) ⟨a, st.2.kept fun o e => b.extBut _ _ hne e⟩ b
  done := fun s Q E st hE => endS hh st.1 st.2 (by simp) hE
def eH1 (k : Bool) (h : Heap) (l : Addr) : Heap := h.push { cls := .type (itName k), data := .fields #[.ref l, .int 0 0] }
def eH2 (k : Bool) (h : Heap) (l : Addr) : Heap := (eH1 k h l).push { cls := .type "enumerate", data := .fields #[.none, .bool false, .ref h.objs.size, rawInt 0, .none, .none] }
set_option maxHeartbeats 1000000 in
theorem enum_tup_meets (l : Addr) (items : Array Value) (n : Nat) (dct : Option Addr) (sl : Array (Option Value)) :
    Meets (Builtin.«enumerate.__new__» ⟨[.type "enumerate", .ref l], []⟩) (fun _ R s => s.heap.get? l = some { cls := .type "tuple", dict := dct, data := .seq items n, slots := sl } ∧ R (.ok (.ret (.ref (eH1 true s.heap l).objs.size))) { s with heap := eH2 true s.heap l }) :=
  .of_wp fun prog w A R s h => by
    obtain ⟨hp, g, d, tk, os⟩ := s
    obtain ⟨hl, h⟩ := h
    have hsub := sub_enumerate
    have hL : Heap.IsTuple (Shared.heap ⟨hp, g, d, tk, os⟩) l items := ⟨_, hl, rfl, n, rfl⟩
    wp_walk using wpAny_loadPart' hl
    refine wpAny_stack_any fun st => wpAny_pure ?_
    split
    · rename_i c _ _ _ _ _
      cases (c == Value.type "enumerate")
      all_goals (wp_walk using wpAny_loadPart' hl, wpAny_pyIter_tuple hL; exact ⟨_, rfl, h⟩)
    · wp_walk using wpAny_loadPart' hl, wpAny_pyIter_tuple hL
      exact ⟨_, rfl, h⟩
section
variable {prog : Program} {w : World} {A : Around} {E : Value → Shared → Prop} {s : Shared}
theorem call_enumS {k : Bool} {l : Addr} {items : Array Value} {Q : Value → Shared → Prop} (hL : SeqIs k s.heap l items)
    (h : ∀ h', IsEnum h' (s.heap.objs.size + 1) s.heap.objs.size 0 .none → IterAt k h' s.heap.objs.size l 0 → (∀ b o, s.heap.get? b = some o → h'.get? b = some o) → Q (.ref (s.heap.objs.size + 1)) { s with heap := h' }) :
    wpAny (model prog w) A (call (.type "enumerate") [.ref l]) Q E s := by
  cases k
  · exact call_enumerate_list hL fun h' a b _ c => h h' a b c
  · obtain ⟨⟨c, dct, dt, sl⟩, hl, hc, n, hd⟩ := hL
    replace hc : c = .type "tuple" := hc
    replace hd : dt = .seq items n := hd
    subst hc hd
    refine callType_new F.called_enumerate (by decide) (F.typeCall_enumerate_1 _) (F.newCall_enumerate_1 _) (fun obj => F.args_object_init_2 obj _) F.entry_enumerate_new (enum_tup_meets l items n dct sl) ⟨hl, ?_⟩
    have n1 : (eH1 true s.heap l).objs.size = s.heap.objs.size + 1 := Heap.size_push ..
    have f2 : (eH2 true s.heap l).get? (eH1 true s.heap l).objs.size = some _ := Heap.get?_push_size _ rfl
    have f1 : (eH2 true s.heap l).get? s.heap.objs.size = some _ := Heap.get?_push_of_some _ (Heap.get?_push_size _ rfl)
    show _ ∧ _
    rw [n1] at f2 ⊢
    exact ⟨⟨_, f2, rfl⟩, h _ f2 ⟨_, f1, rfl, rfl⟩ fun b o e => Heap.get?_push_of_some _ (Heap.get?_push_of_some _ e)⟩
end
def Ite (K : PySem.W.Frag) (k : Bool) (a : Addr) : It :=
  ⟨fun i H => ∃ xs x, Sq k K H a xs ∧ xs[i]? = some x,
   fun i H v H' => ∃ T x, H T = none ∧ v = .ref T ∧ H' = upd H T (.tup [.int i, x]) ∧ ∀ xs, Sq k K H a xs → xs[i]? = some x,
   fun i H => ∃ xs, Sq k K H a xs ∧ xs.length = i⟩
theorem turn_enum {P : Program} {w : World} {K : PySem.W.Frag} {elts : List Expr} {x1 : Nat} {pos : Pos} (k : Bool) (a e it : Addr) (hei : e ≠ it) (hai : a ≠ it) (hae : a ≠ e) :
    Turn P w K (.Tuple elts x1 pos) (Ite K k a) [e, it] e (fun i h => (∃ old, IsEnum h e it i old) ∧ IterAt k h it a i) where
  mem := by simp
  obj := fun i h st c hc => by
    obtain ⟨⟨old, g0⟩, ⟨o1, e1, _, d1⟩⟩ := st
    simp only [List.mem_cons, List.not_mem_nil, or_false] at hc
    rcases hc with rfl | rfl
    · exact ⟨_, g0, fun v q => by cases q⟩
    · exact ⟨_, e1, fun v q => by rw [d1] at q; cases q⟩
  keep := fun i h h' st f => by
    obtain ⟨⟨old, g0⟩, g1⟩ := st
    exact ⟨⟨old, f e (by simp) _ g0⟩, g1.kept (f it (by simp))⟩
  item := by
    intro X hP hw hK hc i pins s σ H E I hf st hg
    subst hP hw hK
    obtain ⟨xs, x, hq, hx⟩ := hg
    obtain ⟨us, rv, p, _⟩ := I.sq hq
    obtain ⟨u, hu, ru⟩ := rv.get hx
    obtain ⟨⟨old, g0⟩, g1⟩ := st
    have hlt : i < us.toArray.size := by
      have := (List.getElem?_eq_some_iff.mp hu).1
      simpa using this
    have hh : X.A.in1.handled = none := I.ok.hd hc
    refine wpAny_pyNext_enum_itemD (drawsS hh k it a hai us.toArray) g0 ⟨g1, p⟩ hlt hei (by simp [hei, Ne.symm hae]) fun y h' tk hy ho hst hT _ kk => ⟨_, rfl, ?_⟩
    have ey : y = u := by
      have : us.toArray[i]? = some u := by simpa using hu
      rw [this] at hy
      exact (Option.some.inj hy).symm
    subst ey
    refine wpAny_letOwnedTupleGo_enum (s := { s with heap := h', toks := tk + 1 }) ho fun h2 he2 sb => ?_
    have up : ∀ c o, c ≠ e → h'.get? c = some o → h2.get? c = some o := fun c o n q => (sb.2 c n).trans q
    have lt : e < s.heap.objs.size := Heap.lt_size g0
    have tp : IsPair h2 s.heap.objs.size (.int i tk) y := up _ _ (Nat.ne_of_gt lt) hT
    have I1 : Inv X pins σ (upd H s.heap.objs.size (.tup [.int i, x])) { s with heap := h2, toks := tk + 1 } := I.turnedN (t' := tk + 1) (ch := [e, it]) hf (fun c o n q => up c o (fun z => n (by simp [z])) (kk c o (fun z => n (by simp [z])) (fun z => n (by simp [z])) q)) (Nat.le_refl _) (pair_ok ⟨tk, rfl⟩ ru tp)
    refine ⟨.ref s.heap.objs.size, _, I1, rfl, ⟨_, x, I.hok.fresh (Nat.le_refl _), rfl, rfl, fun xs' h => by rw [I.sq_inj h hq]; exact hx⟩, ⟨⟨y, by simpa using he2⟩, hst.1.kept fun o q => up _ _ (Ne.symm hei) q⟩, fun c hc => ?_⟩
    have hlt2 : c < s.heap.objs.size := by
      simp only [List.mem_cons, List.not_mem_nil, or_false] at hc
      rcases hc with rfl | rfl
      · exact lt
      · exact g1.lt
    rw [upd_ne (Nat.ne_of_lt hlt2)]
    exact (hf c hc).1
  done := by
    intro X hP hw hK hc i pins s σ H E I hf st hg
    subst hP hw hK
    obtain ⟨xs, hq, hl⟩ := hg
    obtain ⟨us, rv, p, _⟩ := I.sq hq
    obtain ⟨⟨old, g0⟩, g1⟩ := st
    have hh : X.A.in1.handled = none := I.ok.hd hc
    have e1 : i = us.toArray.size := by
      have := rv.length
      rw [← hl, this]; simp
    rw [e1] at g1
    exact wpAny_pyNext_enum_endD (drawsS hh k it a hai us.toArray) g0 ⟨g1, p⟩ fun h' kk => ⟨rfl, I.turnedL (t' := s.toks) (ch := [e, it]) hf fun c o n q => kk c o (fun z => n (by simp [z])) q⟩
  self := fun _ _ _ _ _ st h => by
    obtain ⟨⟨old, g0⟩, _⟩ := st
    exact wpAny_pyIter_enum g0 h
section
variable {X : Cx} {elts : List Expr} {x1 : Nat} {tpos : Pos}
def iEnum (K : PySem.W.Frag) (k : Bool) (ta : TA) : TI := fun σ H R => ta σ H fun vs H1 => ∃ a, vs = [.ref a] ∧ (∃ xs, Sq k K H1 a xs) ∧ R (Ite K k a) H1
theorem pi_enum (k : Bool) {a : Expr} {ta : TA} {p pos : Pos} (hg : Gl X "enumerate") (hm : X.mg "enumerate" = none) (ha : PA X [a] ta) (hs : starEach [a] X.env = [(false, eval a X.env)] := by rfl) : PI X (.Tuple elts x1 tpos) (.Call (.Name "enumerate" p) [a] [] pos) (iEnum X.K k ta) := by
  intro pins s σ H R I h
  refine Call_ (ld_blt I hg hm boot_enumerate (PyProof.Rows.callWith_type1 (thn (ha pos pins s σ H _ I h) fun us s1 ⟨vs, H1, I1, r1, q1⟩ => ?_) hs rfl))
  obtain ⟨a, e, ⟨xs, hq⟩, q⟩ := q1
  subst e
  cases r1 with
  | cons r rr =>
    cases rr
    cases r
    obtain ⟨us, rv, p, _⟩ := I1.sq hq
    have hlt := p.lt
    refine call_enumS p fun h' g0 g1 kk => ?_
    have I2 : Inv X pins σ H1 { s1 with heap := h' } := I1.kept (t' := s1.toks) kk
    refine wpAny_pyIter_enum (s := { s1 with heap := h' }) g0 ⟨_, [s1.heap.objs.size + 1, s1.heap.objs.size], _, _, H1, rfl, I2, turn_enum k a _ _ (Nat.succ_ne_self _) (Nat.ne_of_lt hlt) (Nat.ne_of_lt (Nat.lt_succ_of_lt hlt)), ⟨⟨_, g0⟩, g1⟩, fun c hc => ?_, q⟩
    have hle : s1.heap.objs.size ≤ c := by
      have hc' : c = s1.heap.objs.size + 1 ∨ c = s1.heap.objs.size := by simpa using hc
      rcases hc' with e | e <;> rw [e] <;> first | exact Nat.le_refl _ | exact Nat.le_add_right _ _
    exact I1.fpOk hle (I1.hok.fresh hle)
end
theorem comp_enum {K : PySem.W.Frag} {k : Bool} {a : Addr} {xs : List V} {g : TG} {tf : TT} {te : TE} {σ : St} {H : Hp} {Q : VK} (Pv : Nat → List V → St → Hp → Prop) (h0 : Pv 0 [] σ H)
    (hl : ∀ i zs σ H, i ≤ xs.length → Pv i zs σ H → Sq k K H a xs ∧ zs.length ≤ sizeLine)
    (hs : ∀ i x zs σ H T, xs[i]? = some x → Pv i zs σ H → H T = none → g (.ref T) σ (upd H T (.tup [.int i, x])) fun σ2 H2 => tf σ2 H2 fun b H3 => if b = true then te σ2 H3 fun v H4 => Pv (i + 1) (zs ++ [v]) σ2 H4 else Pv (i + 1) zs σ2 H3)
    (hd : ∀ zs σ H, Pv xs.length zs σ H → ∀ p, H p = none → Q (.ref p) (upd H p (.lst zs))) : tCompK g tf te σ (Ite K k a) H Q := by
  refine ⟨fun i m zs σ H => m = xs.length - i ∧ i ≤ xs.length ∧ Pv i zs σ H, ⟨_, (Nat.sub_zero _).symm, Nat.zero_le _, h0⟩, ?_⟩
  rintro i m zs σ H ⟨rfl, hi, p⟩
  obtain ⟨q1, hz⟩ := hl i zs σ H hi p
  by_cases hlt : i < xs.length
  · refine .inr ⟨⟨xs, xs[i], q1, by simp [hlt]⟩, hz, Pv (i + 1), fun ys' σ' H' p' => ⟨xs.length - (i + 1), by omega, rfl, hlt, p'⟩, fun x H' y => ?_⟩
    obtain ⟨T, u, hT, rfl, rfl, e1⟩ := y
    exact hs i u zs σ H T (e1 xs q1) p hT
  · have e : i = xs.length := by omega
    rw [e] at p
    exact .inl ⟨⟨xs, q1, e.symm⟩, hz, hd zs σ H p⟩
end L2

set_option Elab.async false
set_option linter.all false
set_option maxRecDepth 100000
namespace L2
open PySem PySem.Spec PyProof.Rows PySem.W
/-! ### try: f(..) except S: suite, without a name -/
/-! ### f'text{e}', e an int -/
def tFs (x : Str) (te : TE) : TE := fun σ H Q => te σ H fun v H1 => ∃ i, v = .int i ∧ i.natAbs.log2 < 1920 ∧ (x ++ (toString i : Str)).length ≤ sizeLine ∧ Q (.str (x ++ toString i)) H1
theorem empty_cat (x : Str) : Str.empty ++ x = x := by
  show (⟨#[] ++ x.cps⟩ : Str) = x
  simp
theorem pe_fstr {X : Cx} {x : Str} {j : Nat} {e : Expr} {te : TE} {p1 p2 pos : Pos} (hx : x.length ≤ sizeLine) (he : PE X e te) (hs : evalEach [] X.env = [] := by rfl) : PE X (.JoinedStr [.Constant (.str x) j p1, .FormattedValue e (-1) none p2] pos) (tFs x te) := by
  intro pins s σ H Q I h
  refine JoinedStr_many (joinParts_cons (Calls.Constant_str ?_))
  show (Str.empty ++ x).length ≤ sizeLine ∧ _
  rw [empty_cat, hs]
  obtain I1 := I.tok (s.toks + 1)
  refine ⟨hx, joinParts_cons (FormattedValue_plain (thn (he pins _ σ H _ I1 h) fun v s1 ⟨y, H1, I2, r, q⟩ => ?_))⟩
  obtain ⟨i, rfl, hd, hl, q⟩ := q
  obtain ⟨t, rfl⟩ := r
  refine formatField_int_small hd ?_
  exact ⟨hl, joinParts_nil ⟨.str _, H1, (I2.tok _).tok _, ⟨_, rfl⟩, q⟩ hl⟩
end L2

set_option Elab.async false
set_option linter.all false
set_option maxRecDepth 100000
namespace L2
open PySem PySem.Spec PyProof.Rows
/-! ### range(n, 0, -1) -/
/-- n, n - 1, .. 1 -/
def Itd (n : Nat) : It := ⟨fun i _ => i < n, fun i H x H' => H' = H ∧ x = .int ((n : Int) - i), fun i _ => n ≤ i⟩
theorem turn_down {P : Program} {w : World} {K : PySem.W.Frag} {tg : Expr} (it : Addr) (n : Nat) : Turn P w K tg (Itd n) [it] it (fun i h => IsRangeIter h it ((n : Int) + (i : Nat) * (-1)) ((n : Int) - (i : Nat)) (-1)) where
  mem := by simp
  obj := fun i h st b hb => by
    have e : b = it := by simpa using hb
    subst e
    exact ⟨_, st, fun v z => by
      have z' : Data.fields _ = Data.cell v := z
      cases z'⟩
  keep := fun i h h' st k => k it (by simp) _ st
  item := by
    intro X hP hw hK hc i pins s σ H E I hf st hg
    subst hP hw hK
    obtain ⟨f0, f1, f2, f3, f4, f5⟩ := hf it (by simp)
    have W := Walks.range (prog := X.prog) (w := X.w) (I.ok.hd hc) it (n : Int) (-1) n
    refine W.item i s _ _ hg st fun v h' tk hv st' kk => ?_
    obtain ⟨t, rfl⟩ := hv
    have I1 : Inv X pins σ H { s with heap := h', toks := tk } := I.turned (fun b o hb e => kk b o (by simpa using hb) e) f0 f1 f3 f4 f5
    refine ⟨_, rfl, go_of (s := { s with heap := h', toks := tk }) (n := "range_iterator") st' rfl rfl (by decide) ⟨.int ((n : Int) - i), H, I1, ⟨t, ?_⟩, ⟨rfl, rfl⟩, st', fun b hb => (hf b hb).1⟩⟩
    have : (n : Int) + (i : Int) * (-1) = (n : Int) - i := by omega
    rw [this]
  done := by
    intro X hP hw hK hc i pins s σ H E I hf st hg
    subst hP hw hK
    obtain ⟨f0, f1, f2, f3, f4, f5⟩ := hf it (by simp)
    exact wpAny_pyNext_range_end (I.ok.hd hc) st (by have : n ≤ i := hg; omega) fun h' eb => ⟨rfl, I.turned (t' := s.toks) (fun b o hb e => eb b o hb e) f0 f1 f3 f4 f5⟩
  self := fun _ _ _ _ _ st h => wpAny_pyIter_rangeiter st h
section
variable {X : Cx} {tg : Expr}
theorem size_down (n : Nat) : Builtin.Range.rangeSize (n : Int) 0 (-1) = (n : Int) := by
  unfold Builtin.Range.rangeSize
  rw [if_neg (by decide)]
  have e : ((-(-1 : Int))) = 1 := by decide
  split
  · rw [e, Int.ediv_one]; omega
  · omega
theorem small_down {n : Nat} (h : n ≤ 100000) : Builtin.Range.small (n : Int) 0 (-1) = true := by
  unfold Builtin.Range.small
  rw [size_down]
  simp only [Builtin.Range.rangeFitsLong, Bool.and_eq_true, Bool.or_eq_true, decide_eq_true_eq, beq_iff_eq, show ¬ ((-1 : Int) > 0) by decide, if_false]
  omega
def iDown (ta : TA) : TI := fun σ H R => ta σ H fun vs H1 => ∃ n : Nat, vs = [.int n, .int 0, .int (-1)] ∧ n ≤ 100000 ∧ R (Itd n) H1
theorem pi_down {a b c : Expr} {ta : TA} {p pos : Pos} (hg : Gl X "range") (hm : X.mg "range" = none) (ha : PA X [a, b, c] ta) (hs : starEach [a, b, c] X.env = (false, eval a X.env) :: starEach [b, c] X.env := by rfl) (hs2 : (backTo pos (starEach [b, c] X.env)).any (·.1) = false := by rfl) :
    PI X tg (.Call (.Name "range" p) [a, b, c] [] pos) (iDown ta) := by
  intro pins s σ H R I h
  refine Call_ (ld_blt I hg hm boot_range (PyProof.Rows.callWith_type1 (thn (ha pos pins s σ H _ I h) fun us s1 ⟨vs, H1, I1, r1, q1⟩ => ?_) hs hs2))
  obtain ⟨n, e, hn, q⟩ := q1
  subst e
  cases r1 with
  | cons r rr =>
    cases rr with
    | cons r' rr =>
      cases rr with
      | cons r'' rr =>
        cases rr
        obtain ⟨t, rfl⟩ := r
        obtain ⟨t', rfl⟩ := r'
        obtain ⟨t'', rfl⟩ := r''
        refine call_range_3 (by decide) ?_ (.inl (PyProof.noPylong_small (by decide)))
        refine wpAny_pyIter_range (s := { s1 with heap := s1.heap.push { cls := .type "range", data := .fields #[.int n t, .int 0 t', .int (-1) t''] } }) (Heap.get?_push_size _ rfl) (small_down hn) ?_
        have I2 : Inv X pins σ H1 { s1 with heap := s1.heap.push { cls := .type "range", data := .fields #[.int n t, .int 0 t', .int (-1) t''] } } := I1.kept (t' := s1.toks) fun b o e => Heap.get?_push_of_some _ e
        refine ⟨_, [(s1.heap.push { cls := .type "range", data := .fields #[.int n t, .int 0 t', .int (-1) t''] }).objs.size], _, _, H1, rfl, I2.kept (t' := s1.toks) fun b o e => Heap.get?_push_of_some _ e, turn_down _ n, ?_, fun b hb => ?_, q⟩
        · show IsRangeIter _ _ ((n : Int) + ((0 : Nat) : Int) * (-1)) ((n : Int) - ((0 : Nat) : Int)) (-1)
          have e1 : (n : Int) + ((0 : Nat) : Int) * (-1) = n := by simp
          have e2 : (n : Int) - ((0 : Nat) : Int) = Builtin.Range.rangeSize (n : Int) 0 (-1) := by rw [size_down]; simp
          rw [e1, e2]
          exact Heap.get?_push_size _ rfl
        · have e : b = (s1.heap.push { cls := .type "range", data := .fields #[.int n t, .int 0 t', .int (-1) t''] }).objs.size := by simpa using hb
          subst e
          exact I2.fpOk (Nat.le_refl _) (I2.hok.fresh (Nat.le_refl _))
end
theorem for_down {n : Nat} {g : TG} {tb : TS} {D : Ends} {σ : St} {H : Hp} (Pv : Nat → St → Hp → Prop) (h0 : Pv 0 σ H)
    (hs : ∀ i σ H, i < n → Pv i σ H → g (.int ((n : Int) - i)) σ H fun σ2 H2 => tb { D with nx := Pv (i + 1), ct := Pv (i + 1), bk := D.nx } σ2 H2) (hd : ∀ σ H, Pv n σ H → D.nx σ H) :
    ∃ W : Nat → Nat → St → Hp → Prop, (∃ m, W 0 m σ H) ∧ ∀ i m σ H, W i m σ H →
      ((Itd n).stop i H ∧ D.nx σ H) ∨ ((Itd n).go i H ∧ ∃ N : St → Hp → Prop, (∀ σ' H', N σ' H' → ∃ m', m' < m ∧ W (i + 1) m' σ' H') ∧ ∀ x H', (Itd n).yld i H x H' → g x σ H' fun σ2 H2 => tb { D with nx := N, ct := N, bk := D.nx } σ2 H2) := by
  refine ⟨fun i m σ H => m = n - i ∧ i ≤ n ∧ Pv i σ H, ⟨n, by simp, Nat.zero_le _, h0⟩, ?_⟩
  rintro i m σ H ⟨rfl, hi, p⟩
  by_cases hlt : i < n
  · refine .inr ⟨hlt, Pv (i + 1), fun σ' H' p' => ⟨n - (i + 1), by omega, rfl, hlt, p'⟩, fun x H' y => ?_⟩
    obtain ⟨e, y⟩ := y
    subst e y
    exact hs i σ _ hlt p
  · have e : i = n := by omega
    subst e
    exact .inl ⟨Nat.le_refl _, hd σ H p⟩
/-- a def of which nothing is asked -/
theorem FnOk.none {P : Program} {w : World} {K : PySem.W.Frag} {mg : Str → Option Value} {base : Heap} {CX : CXT} {k : Nat} {f : Addr} {fd : FuncData} {ps : List Str} {sp : Sp} {cm : Bool} (h : ∀ vs H Q E, ¬ sp vs H Q E) : FnOk P w K mg base CX k f fd ps sp cm :=
  ⟨fun vs H Q E z => absurd z (h vs H Q E), fun A outer s H args us vs Q E hr he hb hv hs => absurd hs (h _ _ _ _)⟩
end L2

set_option Elab.async false
set_option linter.all false
namespace L2
open PySem PySem.Spec PyProof.Rows
/-! ### partings, what lies in a heap -/
/-- f: more than n -/
def partF : Nat → Nat → Nat → List (List Int)
  | 0, _, _ => []
  | f + 1, n, g => if n = 0 then [[]] else (List.range (min n g)).flatMap fun i => (partF f (n - (min n g - i)) (min n g - i)).map (((min n g - i : Nat) : Int) :: ·)
/-- the first i of them -/
def partP (f n k i : Nat) : List (List Int) := (List.range i).flatMap fun i => (partF f (n - (k - i)) (k - i)).map (((k - i : Nat) : Int) :: ·)
theorem partF_succ (f n g : Nat) : partF (f + 1) n g = if n = 0 then [[]] else partP f n (min n g) (min n g) := rfl
theorem partP_succ (f n k i : Nat) : partP f n k (i + 1) = partP f n k i ++ (partF f (n - (k - i)) (k - i)).map (((k - i : Nat) : Int) :: ·) := by
  unfold partP
  rw [List.range_succ, List.flatMap_append]
  simp
theorem partP_len {f : Nat} (ih : ∀ n g, (partF f n g).length ≤ 2 ^ n) {n k : Nat} (hk : k ≤ n) : ∀ i, i ≤ k → (partP f n k i).length ≤ 2 ^ (n - k + i)
  | 0, _ => by simp [partP]
  | i + 1, hi => by
    have h1 := partP_len ih hk i (by omega)
    rw [partP_succ, List.length_append, List.length_map]
    have h2 := ih (n - (k - i)) (k - i)
    have e : n - (k - i) = n - k + i := by omega
    rw [e] at h2
    have e2 : n - k + (i + 1) = (n - k + i) + 1 := by omega
    rw [e2, Nat.pow_succ]
    rw [e]
    omega
theorem partF_len : ∀ f n g, (partF f n g).length ≤ 2 ^ n
  | 0, n, g => Nat.zero_le _
  | f + 1, n, g => by
    rw [partF_succ]
    split
    · rename_i h; rw [h]; exact Nat.le_refl _
    · have := partP_len (partF_len f) (n := n) (k := min n g) (Nat.min_le_left _ _) (min n g) (Nat.le_refl _)
      have e : n - min n g + min n g = n := by omega
      rw [e] at this
      exact this
theorem partF_mem : ∀ f n g, ∀ h ∈ partF f n g, h.length ≤ n
  | 0, n, g, h, hh => nomatch hh
  | f + 1, n, g, h, hh => by
    rw [partF_succ] at hh
    split at hh
    · have : h = [] := by simpa using hh
      rw [this]; exact Nat.zero_le _
    · unfold partP at hh
      obtain ⟨i, hi, hh⟩ := List.mem_flatMap.mp hh
      rw [List.mem_range] at hi
      obtain ⟨r, hr, rfl⟩ := List.mem_map.mp hh
      have := partF_mem f _ _ r hr
      rw [List.length_cons]
      omega
def idxP (rule : List (List Int)) (hs : List Int) (i : Nat) : List Int := ((List.range i).filter fun i => lies (rule.getD i []) hs).map fun (k : Nat) => (k : Int)
def idxG (rule : List (List Int)) (hs : List Int) : List Int := idxP rule hs rule.length
theorem idxP_succ (rule : List (List Int)) (hs : List Int) (i : Nat) : idxP rule hs (i + 1) = idxP rule hs i ++ if lies (rule.getD i []) hs = true then [(i : Int)] else [] := by
  unfold idxP
  rw [List.range_succ, List.filter_append, List.map_append]
  by_cases h : lies (rule.getD i []) hs = true
  · rw [List.filter_cons, if_pos h, if_pos h]; rfl
  · rw [List.filter_cons, if_neg h, if_neg h]; rfl
theorem idxP_len (rule : List (List Int)) (hs : List Int) (i : Nat) : (idxP rule hs i).length ≤ i := by
  unfold idxP
  rw [List.length_map]
  exact Nat.le_trans (List.length_filter_le _ _) (by simp)
theorem idxP_lt {rule : List (List Int)} {hs : List Int} {i : Nat} {x : Int} (h : x ∈ idxP rule hs i) : 0 ≤ x ∧ x < i ∧ lies (rule.getD x.toNat []) hs = true := by
  unfold idxP at h
  obtain ⟨k, hk, rfl⟩ := List.mem_map.mp h
  obtain ⟨h1, h2⟩ := List.mem_filter.mp hk
  rw [List.mem_range] at h1
  refine ⟨by omega, by omega, ?_⟩
  simpa using h2
/-- the least number of a heap that lies in it -/
def firstG (rule : List (List Int)) (hs : List Int) : Option Int := (idxG rule hs).head?
def optV : Option Int → V
  | none => .non
  | some i => .int i
theorem idxP_head (rule : List (List Int)) (hs : List Int) : ∀ i m, Ismin m (idxP rule hs i) → (idxP rule hs i).head? = some m
  | 0, m, h => nomatch h.1
  | i + 1, m, h => by
    rw [idxP_succ] at h ⊢
    cases e : idxP rule hs i with
    | nil =>
      rw [e] at h
      by_cases c : lies (rule.getD i []) hs = true
      · rw [if_pos c] at h ⊢
        have : m = (i : Int) := by simpa using h.1
        rw [this]; rfl
      · rw [if_neg c] at h
        exact nomatch h.1
    | cons y ys =>
      have ih := idxP_head rule hs i
      rw [e] at ih h
      show some y = some m
      have hy : y ∈ idxP rule hs i := by rw [e]; simp
      have hmem : m ∈ y :: ys := by
        rcases List.mem_append.mp h.1 with z | z
        · exact z
        · by_cases c : lies (rule.getD i []) hs = true
          · rw [if_pos c] at z
            have e1 : m = (i : Int) := by simpa using z
            have := h.2 y (by simp)
            have := (idxP_lt hy).2.1
            omega
          · rw [if_neg c] at z
            exact nomatch z
      exact ih m ⟨hmem, fun x hx => h.2 x (by rcases List.mem_cons.mp hx with z | z <;> simp [z])⟩
theorem first_none {rule : List (List Int)} {hs : List Int} (h : idxP rule hs rule.length = []) : firstG rule hs = none := by unfold firstG idxG; rw [h]; rfl
theorem first_some {rule : List (List Int)} {hs : List Int} {i : Nat} (h : idxP rule hs i = []) (hi : i < rule.length) (c : lies (rule.getD i []) hs = true) : firstG rule hs = some (i : Int) := by
  have step : ∀ d, (idxP rule hs (i + 1 + d)).head? = some (i : Int) := by
    intro d
    induction d with
    | zero => rw [Nat.add_zero, idxP_succ, h, if_pos c]; rfl
    | succ d ih =>
      rw [← Nat.add_assoc, idxP_succ]
      cases e : idxP rule hs (i + 1 + d) with
      | nil => rw [e] at ih; cases ih
      | cons y ys => rw [e] at ih; exact ih
  have := step (rule.length - (i + 1))
  rw [show i + 1 + (rule.length - (i + 1)) = rule.length by omega] at this
  exact this
/-- the partings that keep a rule -/
def keptG (rule : List (List Int)) (n : Nat) : List (List Int) := (partF 26 n n).filter fun h => (firstG rule h).isNone
theorem pow24 {n : Nat} (h : n ≤ 24) : 2 ^ n ≤ sizeLine := Nat.le_trans (Nat.pow_le_pow_right (by decide) h) (by decide)
theorem optV_none (o : Option Int) : decide (optV o = V.non) = o.isNone := by
  cases o with
  | none => rfl
  | some i => exact decide_eq_false (by intro z; cases z)
end L2

set_option Elab.async false
set_option linter.all false
namespace L2
open PySem PySem.Spec PyProof.Rows
/-! ### pairs of a heap and a choice -/
end L2

set_option Elab.async false
set_option linter.all false
namespace L2
open PySem PySem.Spec PyProof.Rows
/-! ### coins -/
def coinSt (L : List Int) (part at_ : Nat) : List Int := L.set at_ (L.getD at_ 0 + L.getD (at_ - part) 0)
def coinIn (L : List Int) (part : Nat) : Nat → List Int
  | 0 => L
  | i + 1 => coinSt (coinIn L part i) part (part + i)
def coinOut (n : Nat) : Nat → List Int
  | 0 => 1 :: List.replicate n 0
  | k + 1 => coinIn (coinOut n k) (k + 1) (n - k)
/-- falling, the next one less -/
def fallB : List Int → Bool
  | [] => true
  | [_] => true
  | x :: y :: r => decide (y ≤ x) && fallB (y :: r)
def lexB : List (List Int) → Bool
  | [] => true
  | [_] => true
  | x :: y :: r => HT.lexGt x y && lexB (y :: r)
def part12 (n : Nat) : Bool := ((partF 26 n n).length : Int) == (coinOut n n).getD n 0 && (partF 26 n n).all (fun h => h.sum == (n : Int) && h.all (fun x => decide (1 ≤ x)) && fallB h) && lexB (partF 26 n n)
theorem p12_0 : part12 0 = true := by decide +kernel
theorem p12_1 : part12 1 = true := by decide +kernel
theorem p12_2 : part12 2 = true := by decide +kernel
theorem p12_3 : part12 3 = true := by decide +kernel
theorem p12_4 : part12 4 = true := by decide +kernel
theorem p12_5 : part12 5 = true := by decide +kernel
theorem p12_6 : part12 6 = true := by decide +kernel
theorem p12_7 : part12 7 = true := by decide +kernel
theorem p12_8 : part12 8 = true := by decide +kernel
theorem p12_9 : part12 9 = true := by decide +kernel
theorem p12_10 : part12 10 = true := by decide +kernel
theorem p12_11 : part12 11 = true := by decide +kernel
theorem p12_12 : part12 12 = true := by decide +kernel
theorem p12_13 : part12 13 = true := by decide +kernel
theorem p12_14 : part12 14 = true := by decide +kernel
theorem p12_15 : part12 15 = true := by decide +kernel
theorem p12_16 : part12 16 = true := by decide +kernel
theorem p12_17 : part12 17 = true := by decide +kernel
theorem p12_18 : part12 18 = true := by decide +kernel
theorem p12_19 : part12 19 = true := by decide +kernel
theorem p12_20 : part12 20 = true := by decide +kernel
theorem p12_21 : part12 21 = true := by decide +kernel
theorem p12_22 : part12 22 = true := by decide +kernel
theorem p12_23 : part12 23 = true := by decide +kernel
theorem p12_24 : part12 24 = true := by decide +kernel
theorem part12_all : ∀ n, n < 25 → part12 n = true
  | 0, _ => p12_0
  | 1, _ => p12_1
  | 2, _ => p12_2
  | 3, _ => p12_3
  | 4, _ => p12_4
  | 5, _ => p12_5
  | 6, _ => p12_6
  | 7, _ => p12_7
  | 8, _ => p12_8
  | 9, _ => p12_9
  | 10, _ => p12_10
  | 11, _ => p12_11
  | 12, _ => p12_12
  | 13, _ => p12_13
  | 14, _ => p12_14
  | 15, _ => p12_15
  | 16, _ => p12_16
  | 17, _ => p12_17
  | 18, _ => p12_18
  | 19, _ => p12_19
  | 20, _ => p12_20
  | 21, _ => p12_21
  | 22, _ => p12_22
  | 23, _ => p12_23
  | 24, _ => p12_24
  | n + 25, h => absurd h (by omega)
end L2

set_option Elab.async false
set_option linter.all false
set_option maxRecDepth 100000
namespace L2
open PySem PySem.Spec PyProof.Rows
/-! ### xs.insert(i, e), i a place there or behind the last one -/
/-! ### slices of tuples of ints from 1 on -/
end L2

set_option Elab.async false
set_option linter.all false
set_option maxRecDepth 100000
namespace L2
open PySem PySem.Spec PyProof.Rows
/-! ### ways by the rule of the left over ones: the last one first -/
/-! ### coins, once more -/
end L2

set_option Elab.async false
set_option linter.all false
namespace L2
open PySem PySem.Spec PyProof.Rows
/-! ### pairs and partners -/
/-! ### a heap in which all heaps of a rule lie -/
end L2

set_option Elab.async false
set_option linter.all false
namespace L2
open PySem PySem.Spec PyProof.Rows
/-! ### sorted(t), t a tuple of ints -/
section
variable {prog : Program} {w : World} {A : Around} {E : Value → Shared → Prop} {s : Shared}
end
/-- int(b), b a bool -/
theorem call_int_bl {X : Cx} : CallR X (.type "int") (fun xs H Q => ∃ (b : Bool), xs = [.bl b] ∧ Q (.int (if b then 1 else 0)) H) := by
  intro pins s σ H xs us Q I r h
  obtain ⟨b, rfl, q⟩ := h
  obtain ⟨u, rfl, rx⟩ := vals1 r
  cases rx
  exact call_int_bool ⟨.int _, H, I.tok _, ⟨_, rfl⟩, q⟩
end L2

set_option Elab.async false
set_option linter.all false
namespace L2
open PySem PySem.Spec PyProof.Rows
end L2

set_option Elab.async false
set_option linter.all false
namespace L2
open PySem PySem.Spec PyProof.Rows PySem.W
end L2

set_option Elab.async false
set_option linter.all false
set_option maxRecDepth 100000
namespace L2
open PySem PySem.Spec PyProof.Rows
/-! ### range(hi, hi - n, -1) -/
section
variable {X : Cx} {tg : Expr}
end
end L2

set_option Elab.async false
set_option linter.all false
set_option maxRecDepth 100000
namespace L2
end L2

set_option Elab.async false
set_option linter.all false
set_option maxRecDepth 100000
namespace L2
open PySem PySem.Spec PyProof.Rows PySem.W
/-! ### try: f(..) except S as n: suite else: other -/
end L2

set_option Elab.async false
set_option linter.all false
set_option maxRecDepth 100000
namespace L2
def sumN : Nat → (Nat → Int) → Int
  | 0, _ => 0
  | n + 1, f => sumN n f + f n
end L2

set_option Elab.async false
set_option linter.all false
set_option maxRecDepth 100000
namespace L2
open PySem PySem.Spec PyProof.Rows
/-! ### set(t) of ints, and its length -/
section
variable {X : Cx}
end
end L2

set_option Elab.async false
set_option linter.all false
set_option maxRecDepth 100000
namespace L2
open PySem PySem.Spec PyProof.Rows
/-! ### products of great ints -/
section
variable {X : Cx}
end
/-! ### for k, x in enumerate(xs) -/
/-! ### xs[::-1] -/
section
variable {X : Cx} {e st : Expr} {te : TE} {ts : TO} {p2 pos : Pos}
end
/-! ### trailing noughts dropped -/
/-! ### products of polynomials -/
end L2

set_option Elab.async false
set_option linter.all false
set_option maxRecDepth 100000
namespace L2
open PySem PySem.Spec PyProof.Rows
section
variable {X : Cx} {tg l : Expr} {t1 t2 : TI}
end
/-! ### how many unlike ones -/
/-! ### tuples within tuples, the same -/
end L2

set_option Elab.async false
set_option linter.all false
set_option maxRecDepth 100000
namespace L2
open PySem PySem.Spec PyProof.Rows
/-! ### tuple(range(hi, lo, -1)) -/
section
variable {prog : Program} {w : World} {A : Around} {E : Value → Shared → Prop} {s : Shared}
end
section
variable {X : Cx}
end
end L2

set_option Elab.async false
set_option linter.all false
set_option maxRecDepth 100000
namespace L2
open PySem PySem.Spec PyProof.Rows
/-! ### hi, hi - 1, .. -/
/-! ### the left one of a number -/
end L2

set_option Elab.async false
set_option linter.all false
set_option maxRecDepth 100000
namespace L2
open PySem PySem.Spec PyProof.Rows
/-! ### strict heaps with a slope of run -/
/-! ### the slope, known by its parts -/
/-! ### shifted -/
end L2

set_option Elab.async false
set_option linter.all false
set_option maxRecDepth 100000
namespace L2
open PySem PySem.Spec PyProof.Rows
/-! ### slices -/
section
variable {X : Cx}
end
end L2

set_option Elab.async false
set_option linter.all false
set_option maxRecDepth 100000
set_option exponentiation.threshold 200000
namespace L2
open PySem PySem.Spec PyProof.Rows
/-! ### products of ints of up to 100000 bits -/
section
variable {X : Cx}
end
/-! ### heads of a fraction -/
def hdL (T B : Nat → Int) : Nat → List Int
  | 0 => []
  | n + 1 => hdL T B n ++ [T n - sumN n fun i => B (i + 1) * (hdL T B n).getD (n - (i + 1)) 0]
def hd (T B : Nat → Int) (n : Nat) : Int := (hdL T B (n + 1)).getD n 0
end L2

set_option Elab.async false
set_option linter.all false
set_option maxRecDepth 100000
namespace L2
open PySem PySem.Spec PyProof.Rows PySem.W
/-! ### two except clauses, both with the name -/
theorem matches_b {M : Model} {A : Around} {E : Value → Shared → Prop} {nm q nm' q' : Str} {C N S N' : Addr} {bs bm bs' bm' : List Value} {hdct hdct' : Bool} {sn sn' : List Str} {sub sub' : List Value} {ab ab' : Bool} {col col' : Option Bool} {dd dd' : Option Addr} {k0 k1 k2 k3 k5 k0' k1' k2' k3' k5' : Option Value} {newId newId' : String}
    {h : Heap} {g : Array GenState} {d : Drawn} {t : Nat} {os : OsState} {e : Addr} {oe : Obj} {Q : Bool → Shared → Prop}
    (hC : h.get? C = some (excClassObj nm q C N bs bm hdct sn sub ab col dd k0 k1 k2 k3 k5 newId)) (hS : h.get? S = some (excClassObj nm' q' S N' bs' bm' hdct' sn' sub' ab' col' dd' k0' k1' k2' k3' k5' newId'))
    (he : h.get? e = some oe) (hcls : oe.cls = .ref C) (hb : bm'.contains (.type "BaseException") = true) (hm : (Value.ref C :: bm).contains (.ref S) = false)
    (hq : Q false ⟨h, g, d, t, os⟩) : wpAny M A (excMatches (.ref e) (.ref S)) Q E ⟨h, g, d, t, os⟩ := by
  have hB : (Value.ref S :: bm').contains (.type "BaseException") = true := by rw [List.contains_cons, hb, Bool.or_true]
  have f := tc_notTuple
  unfold excMatches
  repeat (first | (with_reducible refine wpAny_loadPart_at he ?_; rw [hcls]) | with_reducible refine wpAny_loadPart_at hS ?_ | (with_reducible refine wpAny_isSubtype_exc hS ?_; rw [hB]) | (with_reducible refine wpAny_isSubtype_exc hC ?_; rw [hm]) | wp_step)
  exact hq
structure TakesNot (K : Frag) (c S : Addr) : Prop where
  ex : ∃ bm bm', IsXC K c bm ∧ IsXC K S bm' ∧ bm'.contains (.type "BaseException") = true ∧ (Value.ref c :: bm).contains (.ref S) = false
end L2

set_option Elab.async false
set_option linter.all false
set_option maxRecDepth 100000
namespace L2
open PySem PySem.Spec PyProof.Rows
/-! ### a tuple times one -/
/-! ### stores -/
end L2

set_option Elab.async false
set_option linter.all false
set_option maxRecDepth 100000
namespace L2
open PySem PySem.Spec PyProof.Rows
end L2

set_option Elab.async false
set_option linter.all false
set_option maxRecDepth 100000
namespace L2
open PySem PySem.Spec PyProof.Rows
/-! ### x not in a list of tuples of ints -/
section
variable {X : Cx}
end
/-! ### partings into unlike parts -/
end L2

set_option Elab.async false
set_option linter.all false
set_option maxRecDepth 100000
namespace L2
open PySem PySem.Spec PyProof.Rows
/-! ### dict(t) of a tuple of pairs -/
section
variable {prog : Program} {w : World} {A : Around} {R : Result → Shared → Prop} {I : Addr} {fp wr : List Addr} {G : Array GenState → Array GenState → Prop} {n : Nat} {P : Nat → Value → Prop} {St : Nat → Shared → Prop} {K : Type} [DecidableEq K] {knd : KeyKind prog w K}
end
section
variable {X : Cx}
end
end L2

set_option Elab.async false
set_option linter.all false
set_option maxRecDepth 100000
namespace L2
open PySem PySem.Spec PyProof.Rows
section
variable {X : Cx}
end
/-! ### a store as a table -/
/-! ### products without trimming -/
end L2

set_option Elab.async false
set_option linter.all false
set_option maxRecDepth 100000
namespace L2
/-! ### the order of the rows does not count -/
end L2

set_option Elab.async false
set_option linter.all false
set_option maxRecDepth 100000
namespace L2
/-! ### how many partings a store makes -/
end L2

set_option Elab.async false
set_option linter.all false
set_option maxRecDepth 100000
namespace L2
/-! ### partings in which a heap lies -/
def sC (c : Nat → Nat) : Nat → Nat
  | 0 => 0
  | g + 1 => sC c g + c (g + 1) * (g + 1)
/-! ### signs over all choices -/
end L2

set_option Elab.async false
set_option linter.all false
set_option maxRecDepth 100000
namespace L2
/-! ### parts that may stand less often -/
theorem perm_sum {a b : List Int} (h : a.Perm b) : a.sum = b.sum := by
  induction h with
  | nil => rfl
  | cons x _ ih => rw [List.sum_cons, List.sum_cons, ih]
  | swap x y l => simp only [List.sum_cons]; omega
  | trans _ _ i1 i2 => rw [i1, i2]
end L2

set_option Elab.async false
set_option linter.all false
set_option maxRecDepth 100000
namespace L2
open PySem PySem.Spec PyProof.Rows
/-! ### a dict of unlike parts -/
section
variable {X : Cx}
end
/-! ### the limited coins, step by step -/
end L2

set_option Elab.async false
set_option linter.all false
set_option maxRecDepth 100000
namespace L2
open PySem PySem.Spec PyProof.Rows
open PySem.Builtin.Str (occurrences subAt)
/-! ### texts of one sign -/
section
variable {X : Cx}
end
/-! ### rows of dots -/
end L2

set_option Elab.async false
set_option linter.all false
set_option maxRecDepth 100000
namespace L2
open PySem PySem.Spec PyProof.Rows
/-! ### a comprehension that an exception may leave -/
section
variable {X : Cx}
end
section
variable {X : Cx} {scope : Scope} {ls : List Str} {fr : List (Str × Nat)}
end
/-! ### names within such a block -/
end L2

set_option Elab.async false
set_option linter.all false
set_option maxRecDepth 100000
namespace L2
open PySem PySem.Spec PyProof.Rows
/-! ### lanes and rows of levels -/
/-! ### a comprehension that makes one thing of each -/
theorem iteT' {b : Bool} {p q : Prop} (h : b = true) (hp : p) : if b = true then p else q := by rw [if_pos h]; exact hp
end L2

set_option Elab.async false
set_option linter.all false
set_option maxRecDepth 100000
namespace L2
open PySem PySem.Spec PyProof.Rows PySem.NumText
/-! ### a text read as a heap -/
/-! ### the ten figures -/
section
variable {X : Cx}
end
/-! ### words, weighed -/
def weight (ys : List Str) : Nat := (ys.map (·.length)).sum + ys.length
/-! ### long displays: a wrapped PA, whose type is no arrow -/
section
variable {X : Cx} {e : Expr} {es : List Expr} {te : TE} {t : TA}
end
end L2

set_option Elab.async false
set_option linter.all false
set_option maxRecDepth 100000
namespace L2
open PySem PySem.Spec PyProof.Rows
open PySem.StrLaws (At ChainG partsFrom)
open PySem.Builtin.Str (occurrences subAt)
/-! ### a text of heaps, by strokes -/
/-! ### replace, of two written signs -/
section
variable {X : Cx} {e a b : Expr} {es : List Expr} {te ta tb : TE} {t : TA} {pos : Pos}
end
/-! ### a text read as a rule -/
/-! ### texts of which the length alone is asked -/
end L2

set_option Elab.async false
set_option linter.all false
set_option maxRecDepth 100000
namespace L2
open PySem PySem.Spec PyProof.Rows
/-! ### for k, v in d.items(): the dict stands still from then on -/
section
variable {X : Cx} {elts : List Expr} {x1 : Nat} {tpos : Pos}
end
end L2

set_option Elab.async false
set_option linter.all false
set_option maxRecDepth 100000
namespace L2
open PySem PySem.Spec PyProof.Rows
/-! ### rules that match -/
/-! ### the rules of lanes -/
end L2

set_option Elab.async false
set_option linter.all false
set_option maxRecDepth 100000
namespace L2
open PySem PySem.Spec PyProof.Rows
/-! ### a comprehension within a comprehension -/
section
variable {X : Cx} {scope1 scope : Scope} {N1 N : List Str} {C1 C : Addr} {s1 s : Shared} {H1 H : Hp} {ex1 ex : List Addr}
end
end L2

set_option Elab.async false
set_option linter.all false
set_option maxRecDepth 100000
namespace L2
open PySem PySem.Spec PyProof.Rows
/-! ### a dict that counts -/
/-! ### heaps that change by freezing alone -/
end L2

set_option Elab.async false
set_option linter.all false
set_option maxRecDepth 100000
namespace L2
open PySem PySem.Spec PyProof.Rows
/-! ### lanes of which all but the first two are of one number -/
end L2

set_option Elab.async false
set_option linter.all false
set_option maxRecDepth 100000
namespace L2
open PySem PySem.Spec PyProof.Rows

/-! ### sorting long lists: galloping -/
section
variable {prog : Program} {w : World} {A : Around} {E : Value → Shared → Prop} {s : Shared}

end
end L2

set_option Elab.async false
set_option linter.all false
set_option maxRecDepth 100000
namespace L2
open PySem PySem.Spec PyProof.Rows

/-! ### merging -/
section
variable {prog : Program} {w : World} {A : Around} {E : Value → Shared → Prop} {s : Shared}
end
end L2

set_option Elab.async false
set_option linter.all false
set_option maxRecDepth 100000
namespace L2
open PySem PySem.Spec PyProof.Rows

/-! ### merging from above -/
section
variable {prog : Program} {w : World} {A : Around} {E : Value → Shared → Prop} {s : Shared}
end
end L2

set_option Elab.async false
set_option linter.all false
set_option maxRecDepth 100000
namespace L2
open PySem PySem.Spec PyProof.Rows

/-! ### one merge of two runs -/
structure SB (a₀ : Array Keyed) (st : SortSt) : Prop where
  perm : (arrOf st).Perm a₀
  kind : kindOf st = oneType'
  failed : failedOf st = none
section
variable {prog : Program} {w : World} {A : Around} {E : Value → Shared → Prop} {s : Shared} {a₀ : Array Keyed}
end
end L2

set_option Elab.async false
set_option linter.all false
set_option maxRecDepth 100000
namespace L2
open PySem PySem.Spec PyProof.Rows

/-! ### runs counted and made -/
section
variable {prog : Program} {w : World} {A : Around} {E : Value → Shared → Prop} {s : Shared} {a₀ : Array Keyed}
end
end L2

set_option Elab.async false
set_option linter.all false
set_option maxRecDepth 100000
namespace L2
open PySem PySem.Spec PyProof.Rows

/-! ### all runs -/
section
variable {prog : Program} {w : World} {A : Around} {E : Value → Shared → Prop} {s : Shared} {a₀ : Array Keyed}
end
end L2

set_option Elab.async false
set_option linter.all false
set_option maxRecDepth 100000
namespace L2
open PySem PySem.Spec PyProof.Rows

/-! ### sorted(..) of ints, however many -/
section
variable {prog : Program} {w : World} {A : Around} {E : Value → Shared → Prop} {s : Shared}
end
section
variable {X : Cx}
end
end L2

set_option Elab.async false
set_option linter.all false
set_option maxRecDepth 100000
namespace L2
open PySem PySem.Spec PyProof.Rows
/-! ### `for`, comprehensions over a list or a tuple alike -/
/-! ### told and due, the same -/
/-! ### tuples: slices, sums -/
end L2

set_option Elab.async false
set_option linter.all false
set_option maxRecDepth 100000
namespace L2
open PySem PySem.Spec PyProof.Rows
/-! ### the least counts -/
/-! ### sorted(x), x a list of ints -/
section
variable {prog : Program} {w : World} {A : Around} {E : Value → Shared → Prop} {s : Shared}
end
end L2

set_option Elab.async false
set_option linter.all false
set_option maxRecDepth 100000
namespace L2
open PySem PySem.Spec PyProof.Rows
/-! ### rules made of columns -/
/-! ### a lane, with its second level in other parts or not -/
structure LD where
  L : Nat
  R : Nat
  m : Nat
  k : Nat
  sp : Bool
  lev : List Nat
structure LD.Ok (d : LD) : Prop where
  l1 : 1 ≤ d.L
  l8 : d.L ≤ 8
  r1 : 1 ≤ d.R
  r8 : d.R ≤ 8
  m8 : d.m ≤ 8
  k8 : d.k ≤ 8
  eq : d.L * d.m = d.R * d.k
  dv : d.sp = true → d.R * (d.L / d.R) = d.L ∧ d.R < d.L
  lv : ∀ v ∈ d.lev, v ≤ 2
def LD.at (d : LD) (j : Nat) : Nat := d.lev.getD j 0
/-! ### the first choice of which something is true -/
/-! ### lists of truths -/
end L2

set_option Elab.async false
set_option linter.all false
set_option maxRecDepth 100000
namespace L2
open PySem PySem.Spec PyProof.Rows
/-! ### list.remove, list.index of ints -/
/-! ### one heap taken out of another -/
end L2

set_option Elab.async false
set_option linter.all false
set_option maxRecDepth 100000
namespace L2
open PySem PySem.Spec PyProof.Rows
/-! ### places, two rules side by side -/
/-! ### the object that holds both -/
end L2

set_option Elab.async false
set_option linter.all false
set_option maxRecDepth 100000
namespace HT
open PySem PySem.Spec PyProof.Rows
section
variable {prog : Program} {w : World} {A : Around} {E : Value → Shared → Prop} {s : Shared}
end
end HT
namespace L2
open PySem PySem.Spec PyProof.Rows
section
variable {X : Cx} {e st : Expr} {te : TE} {ts : TO} {p2 pos : Pos}
end
end L2

set_option Elab.async false
set_option linter.all false
set_option maxRecDepth 100000
namespace L2
open PySem PySem.Spec PyProof.Rows
/-! ### list.index of a tuple of ints -/
theorem ints_inj : ∀ {b c : List Int}, b.map V.int = c.map V.int → b = c
  | [], [], _ => rfl
  | [], _ :: _, e => by cases e
  | _ :: _, [], e => by cases e
  | x :: r, y :: r', e => by
    have e' := List.cons.inj e
    rw [ints_inj e'.2]
    congr 1
    exact V.int.inj e'.1
def rIndexT : V → List V → Hp → VK → Prop := fun x vs H Q => ∃ (p q : Addr) (a : List Int) (l : List (List Int)) (xs : List V) (j : Nat), x = .ref p ∧ vs = [.ref q] ∧ H q = some (.tup (a.map V.int)) ∧ H p = some (.lst xs) ∧ All2 Tup1 H l xs ∧ l[j]? = some a ∧ (∀ i, i < j → l[i]? ≠ some a) ∧ Q (.int j) H
open Classical in
theorem mt_indexT {X : Cx} (hu : X.A.units + 8 < cLine) : MtR X "list.index" rIndexT := by
  intro pins s σ H x vs v us Q I rx rv h
  obtain ⟨p, q, a, l, xs, j, rfl, rfl, hq, hp, all, h1, h2, k⟩ := h
  cases rx
  obtain ⟨u, rfl, ru⟩ := rv.one
  cases ru
  obtain ⟨zz, its, n, r, hl, e⟩ := I.lstM hp
  have eqk : EqK X (List Int) (RTup X.K RInt) 1 := eqk_tup (n := 0) eqk_int det_int
  have l1 := all.length
  have hj : j < l.length := (List.getElem?_eq_some_iff.mp h1).1
  have at_ : ∀ i (hi : i < its.length), ∃ b q', l[i]? = some b ∧ xs[i]? = some (.ref q') ∧ its[i] = Value.ref q' ∧ H q' = some (.tup (b.map V.int)) := fun i hi => by
    have hx : xs[i]? = some xs[i] := List.getElem?_eq_getElem (by omega)
    obtain ⟨b', hb', q', ez, hq'⟩ := all.get hx
    obtain ⟨w', hw', rz⟩ := r.get hx
    rw [List.getElem?_eq_getElem hi] at hw'
    rw [ez] at rz hx
    exact ⟨b', q', hb', hx, (Option.some.inj hw').trans rz, hq'⟩
  have val : ∀ i (hi : i < its.length) b, l[i]? = some b → (decide (∃ q', its[i] = Value.ref q' ∧ H q' = some (.tup (a.map V.int)))) = decide (b = a) := fun i hi b hb => by
    obtain ⟨b', q', c1, c2, c3, c4⟩ := at_ i hi
    rw [hb] at c1
    cases c1
    rw [c3, Bool.eq_iff_iff, decide_eq_true_eq, decide_eq_true_eq]
    constructor
    · rintro ⟨q2, e, h⟩
      cases e
      rw [c4] at h
      exact ints_inj (by injection h with h; injection h)
    · rintro rfl
      exact ⟨q', rfl, c4⟩
  have hsm : (j : Int) < 2 ^ 63 - 1 := by
    have : j < 2 ^ 62 := Nat.lt_of_lt_of_le (show j < xs.length by omega) (Nat.le_trans zz (by rw [sizeLine_eq]; decide))
    omega
  refine call_meets PySem.F.slot_list_index ⟨_, e, rfl⟩ PySem.F.entry_list_index (PySem.F.args_list_index_2 _ _)
    (SeqAt.list_indexAt p its.toArray n _ _ (.ref q) (fun w => decide (∃ q', w = Value.ref q' ∧ H q' = some (.tup (a.map V.int)))) j (by simp; omega) hsm ?_ ?_) ⟨e, ?_, ?_⟩
  · rw [show its.toArray[j]'(by simp; omega) = its[j]'(by omega) by simp, val j (by omega) a h1]
    simp
  · intro m hm hlt
    rw [show its.toArray[m] = its[m]'(by simpa using hm) by simp, val m (by simpa using hm) (l[m]'(by omega)) (List.getElem?_eq_getElem _)]
    refine decide_eq_false fun z => h2 m hlt ?_
    rw [List.getElem?_eq_getElem (by omega), z]
  · intro w hw
    obtain ⟨i, hi, rfl⟩ := List.mem_iff_getElem.mp (show w ∈ its by simpa using hw)
    obtain ⟨b', q', c1, c2, c3, c4⟩ := at_ i hi
    rw [val i hi b' c1]
    exact eqk pins σ H s _ b' a (.ref q') (.ref q) its[i] (.ref q) I (by show X.A.units + 1 + 1 < cLine; omega) ⟨q', _, rfl, SqT.of c4, all2_ints _⟩ ⟨q, _, rfl, SqT.of hq, all2_ints _⟩ c3 rfl
  · exact ⟨.int j, H, I.tok _, ⟨_, rfl⟩, k⟩
/-! ### falling lists of heaps -/
theorem lexGt_irr : ∀ x : List Int, HT.lexGt x x = false
  | [] => rfl
  | x :: r => by rw [HT.lexGt_cons, if_pos rfl]; exact lexGt_irr r
theorem lexGt_trans : ∀ {x y z : List Int}, HT.lexGt x y = true → HT.lexGt y z = true → HT.lexGt x z = true
  | [], [], _, h, _ => by cases h
  | [], _ :: _, _, h, _ => by cases h
  | _ :: _, _, [], _, _ => rfl
  | _ :: _, [], _ :: _, _, h => by cases h
  | a :: x, b :: y, c :: z, h, h' => by
    rw [HT.lexGt_cons] at h h' ⊢
    by_cases e : a = b
    · subst e
      rw [if_pos rfl] at h
      by_cases e' : a = c
      · subst e'
        rw [if_pos rfl] at h' ⊢
        exact lexGt_trans h h'
      · rw [if_neg e'] at h' ⊢
        exact h'
    · rw [if_neg e] at h
      have h1 := of_decide_eq_true h
      by_cases e' : b = c
      · subst e'
        rw [if_neg e]
        exact h
      · rw [if_neg e'] at h'
        have h2 := of_decide_eq_true h'
        rw [if_neg (by omega)]
        exact decide_eq_true (by omega)
theorem lexB_pair : ∀ {l : List (List Int)}, lexB l = true → l.Pairwise fun x y => HT.lexGt x y = true
  | [], _ => .nil
  | [x], _ => by simp
  | x :: y :: r, h => by
    simp only [lexB, Bool.and_eq_true] at h
    have ih := lexB_pair h.2
    refine List.pairwise_cons.mpr ⟨fun z hz => ?_, ih⟩
    rcases List.mem_cons.mp hz with rfl | hz
    · exact h.1
    · exact lexGt_trans h.1 ((List.pairwise_cons.mp ih).1 z hz)
theorem kept_pair (rule : List (List Int)) {m : Nat} (hm : m ≤ 24) : (keptG rule m).Pairwise fun x y => HT.lexGt x y = true := by
  have p12 := part12_all m (by omega)
  unfold part12 at p12
  simp only [Bool.and_eq_true] at p12
  exact (lexB_pair p12.2).sublist List.filter_sublist
theorem kept_is {rule : List (List Int)} {m : Nat} (hm : m ≤ 24) {h : List Int} (hh : h ∈ keptG rule m) : h.sum = (m : Int) ∧ (∀ x ∈ h, 1 ≤ x) ∧ firstG rule h = none := by
  have p12 := part12_all m (by omega)
  unfold part12 at p12
  simp only [Bool.and_eq_true, beq_iff_eq, List.all_eq_true, decide_eq_true_eq] at p12
  obtain ⟨h1, h2⟩ := List.mem_filter.mp hh
  have := p12.1.2 h h1
  exact ⟨this.1.1, this.1.2, by simpa using h2⟩
theorem kept_once {rule : List (List Int)} {m : Nat} (hm : m ≤ 24) {i j : Nat} {x : List Int} (h1 : (keptG rule m)[j]? = some x) (h : i < j) : (keptG rule m)[i]? ≠ some x := fun h2 => by
  obtain ⟨l1, e1⟩ := List.getElem?_eq_some_iff.mp h1
  obtain ⟨l2, e2⟩ := List.getElem?_eq_some_iff.mp h2
  have := List.pairwise_iff_getElem.mp (kept_pair rule hm) i j l2 l1 h
  rw [e1, e2, lexGt_irr] at this
  cases this
/-! ### a comprehension that is true all along -/
/-! ### partings of any number that keep a rule -/
end L2

set_option Elab.async false
set_option linter.all false
set_option maxRecDepth 100000
namespace L2
open PySem PySem.Spec PyProof.Rows PySem.W
/-! ### try: y = f(..) except S as n: suite -/
/-! ### lanes and levels as rows of ints; how many parts -/
end L2

set_option Elab.async false
set_option linter.all false
set_option maxRecDepth 100000
namespace L2
open PySem PySem.Spec PyProof.Rows PySem.W
/-! ### exceptions with attributes: read and set -/
section
variable {prog : Program} {w : World} {A : Around} {E : Value → Shared → Prop} {s : Shared} {K : Frag} {e dx C : Addr} {oe : Obj} {vs : Array Value} {mA : Str → Option Value} {name : Str} {v : Value}
theorem noCls {o : Obj} {vs : Array Value} (h : o.data = .fields vs) : notCls o = true := by
  unfold notCls
  rw [h]
/-- own classes first, then those of ValueError -/
def onlyVE : List Value → Bool
  | .ref _ :: r => onlyVE r
  | l => l == bmV
theorem refuse_VE (self : Value) : ∀ {l : List Value}, onlyVE l = true → refuseLoop self "__setattr__" l = pure ()
  | .ref c :: r, z => by
    rw [refuseLoop_ref]
    exact refuse_VE self z
  | [], z => by cases z
  | .type n :: r, z => by
    have e : Value.type n :: r = bmV := beq_iff_eq.mp z
    rw [e]
    exact PySem.F.store_ValueError.passes self
  | .none :: r, z => by cases z
  | .bool _ :: r, z => by cases z
  | .int _ _ :: r, z => by cases z
  | .float _ _ :: r, z => by cases z
  | .str _ _ :: r, z => by cases z
  | .bytes _ _ :: r, z => by cases z
  | .ellipsis :: r, z => by cases z
  | .notImplemented :: r, z => by cases z
  | .builtin _ :: r, z => by cases z
def overX (K : Frag) (C : Addr) : Bool := (clsIn K C).any fun cd => onlyVE cd.mro
/-- what the fragment says of an own exception class whose instances have attributes -/
structure ClsX (K : Frag) (C : Addr) : Prop where
  ga : findIn K (.ref C) "__getattribute__" = some (some (.builtin "BaseException.__getattribute__"))
  gn : findIn K (.ref C) "__getattr__" = some none
  be : mroIn K C (.type "BaseException") = some true
  hd : hasDictIn K C = true
  ob : mroIn K C (.type "object") = some true
  po : overX K C = true
  sa : findIn K (.ref C) "__setattr__" = some (some (.builtin "object.__setattr__"))
theorem getX {b : Bool} {Q : Value → Shared → Prop} (X : K.In s.heap) (g : s.heap.get? e = some oe) (hc : oe.cls = .ref C) (hda : oe.data = .fields vs) (hdd : oe.dict = some dx) (n : s.heap.Ns1 dx mA) (c : ClsX K C) (hn : NoAttr K C name)
    (hv : mA name = some v) (hv' : handedIn v = true) (h : Q v { s with toks := s.toks + 1 }) : wpAny (model prog w) A (getAttr (.ref e) name b) Q E s := by
  obtain ⟨od, ho, hl⟩ := lookIn_ns n
  have J : InstAt s.heap e oe C (some od) := ⟨g, hc, noCls hda, by rw [hdd]; exact ho⟩
  have hf : findObj K C (some od) name = some (.value v) := findObj_own c.hd hn rfl (by rw [hl, hv])
  obtain ⟨hh, gg, d, t, os⟩ := s
  have T := J.type (M := model prog w)
  have G := looks_findIn (M := model prog w) X c.ga
  have N := looks_findIn (M := model prog w) X c.gn
  have F1 := looks_find (M := model prog w) X J hf
  have Bx := looks_mroIn (M := model prog w) X c.be
  unfold getAttr getAttrBy
  refine wpAny_bind (wpAny_mkText (wpAny_holding (wpAny_bind (T.at (wpAny_bind (G.at ?_))))))
  have hx2 : (Value.builtin "BaseException.__getattribute__" == Value.builtin "object.__getattribute__") = false := by decide +kernel
  have hx1 : ¬ (onTheHeap (Value.ref C) && Value.builtin "BaseException.__getattribute__" == Value.builtin "object.__getattribute__") = true := by rw [hx2, Bool.and_false]; exact Bool.false_ne_true
  dsimp only at G N F1 Bx T ⊢
  rw [if_neg hx1]
  unfold getAttrByItsOwn hookBefore callGetattribute boundAndCalled
  refine wpAny_bind (N.at ?_)
  have hx0 : ¬ (b && onTheHeap (Value.builtin "BaseException.__getattribute__")) = true := by cases b <;> exact Bool.false_ne_true
  rw [if_neg hx0]
  refine wpAny_bind (wpAny_attempt (wpAny_holding ?_))
  refine wpAny_bind (wpAny_of_eq (PySem.F.attrBase_ValueError.ga.bind _) ?_)
  refine wpAny_call (codeAny_call_builtin PySem.F.attrBase_ValueError.ga.plain PySem.F.entry_bexc_ga ?_)
  have hk : builtinKind "BaseException.__getattribute__" = some .slot := by decide +kernel
  have hsplit : splitId "BaseException.__getattribute__" = some ("BaseException", "__getattribute__") := by decide +kernel
  have hag := PySem.F.args_bexc_ga (.ref e) (.str name t)
  simp only [checkBuiltinCall, hk, hsplit]
  unfold isInstance
  repeat (first | lk | wp_step)
  show wpAny _ _ (handedOut v) _ _ _
  rw [handedOut_of hv']
  exact wpAny_pure h
theorem osaX {od : Option Obj} {tk : Tok} {R : Result → Shared → Prop} (X : K.In s.heap) (J : InstAt s.heap e oe C od) (c : ClsX K C) (hn : NoAttr K C name)
    (h : ∀ b, wpAny (model prog w) A.in1 (Builtin.ObjectAttr.storeInOwnDict (.ref e) (.ref C) (.str name tk) name v b)
      (fun fin s' => match fin with | .done f => R (.ok f) s' | .again c' => c'.quiet = true ∧ codeAny (model prog w) A c' R s') (fun e s' => R (.error e) s') s) :
    codeAny (model prog w) A (.call (.builtin "object.__setattr__") ⟨[.ref e, .str name tk, v], []⟩) R s := by
  have SF := PySem.F.store_object
  obtain ⟨cd, hc, ho⟩ := any_some c.po
  have sub : Looks (model prog w) s.heap (isInstance (.ref e) (.type "object")) true := J.type.andThen (looks_mroIn X c.ob)
  have hm : Looks (model prog w) s.heap (mroOf (.ref C)) cd.mro := (looks_clsIn X hc).andThen .now
  refine codeAny_call_builtin SF.slot.plain SF.entry
    (@check_slot (model prog w) _ _ s "object.__setattr__" "object" "__setattr__" (.ref e) [.str name tk, v] [] _ SF.kind SF.split sub
      (SF.args (.ref e) (.str name tk) v) ?_)
  rw [osa_eq, refuse_eq]
  refine wpAny_bind (wpAny_bind (J.type.here (wpAny_bind (hm.here ?_))))
  rw [refuse_VE _ ho]
  refine wpAny_pure (wpAny_bind (J.type.here (wpAny_bind ((looks_findIn X hn).here ?_))))
  have L3 : Looks (model prog w) s.heap (Builtin.ObjectAttr.storeTaker? none) none := .now
  refine wpAny_bind (L3.here ?_)
  exact h _
theorem setX {Q : Unit → Shared → Prop} (X : K.In s.heap) (g : s.heap.get? e = some oe) (hc : oe.cls = .ref C) (hda : oe.data = .fields vs) (hdd : oe.dict = none) (c : ClsX K C) (hn : NoAttr K C name)
    (h : ∀ h' tk, h'.get? e = some { oe with dict := some s.heap.objs.size } → h'.Ns1 s.heap.objs.size (fun y => if y = name then some v else none) → (∀ b o, b ≠ e → s.heap.get? b = some o → h'.get? b = some o) → s.heap.objs.size < h'.objs.size → Q () { s with heap := h', toks := tk }) :
    wpAny (model prog w) A (setAttr (.ref e) name v) Q E s := by
  obtain ⟨oc, od, odt, osl⟩ := oe
  dsimp only at hc hda hdd
  subst hc hda hdd
  have J : InstAt s.heap e ⟨.ref C, none, .fields vs, osl⟩ C none := ⟨g, rfl, rfl, trivial⟩
  refine set_plain X J c.sa (osaX (s := { s with toks := s.toks + 1 }) X J c hn fun b => ?_)
  obtain ⟨cd, hcd, hd'⟩ := any_some c.hd
  refine wpAny_bind (wpAny_pure (wpAny_bind (wpAny_bind (wpAny_loadPart g (wpAny_bind (Looks.here (s := { s with toks := s.toks + 1 }) (looks_clsIn X hcd) ?_))))))
  rw [hd']
  rw [if_neg (by simp)]
  dsimp only
  rw [if_neg (by simp [typeHasDict])]
  refine wpAny_bind (wpAny_alloc' ?_)
  have g1 : (s.heap.push { cls := .type "dict", data := .dict #[] }).get? e = some ⟨.ref C, none, .fields vs, osl⟩ := Heap.get?_push_of_some _ g
  have ne : e ≠ s.heap.objs.size := Nat.ne_of_lt (Heap.lt_size g)
  refine wpAny_bind (wpAny_update' g1 ?_)
  refine wpAny_pure ?_
  have gd : ((s.heap.push { cls := .type "dict", data := .dict #[] }).update e fun o => { cls := o.cls, dict := some s.heap.objs.size, data := o.data, slots := o.slots }).get? s.heap.objs.size = some { cls := .type "dict", data := .dict #[] } := (Heap.get?_update_ne _ _ _ _ ne.symm).trans (Heap.get?_push_at rfl rfl)
  have ge := Heap.get?_update_self (fun o => { cls := o.cls, dict := some s.heap.objs.size, data := o.data, slots := o.slots }) g1 rfl
  have far : ∀ b o, b ≠ e → s.heap.get? b = some o → ((s.heap.push { cls := .type "dict", data := .dict #[] }).update e fun o => { cls := o.cls, dict := some s.heap.objs.size, data := o.data, slots := o.slots }).get? b = some o := fun b o hb q => (Heap.get?_update_ne _ _ _ _ hb).trans (Heap.get?_push_of_some _ q)
  generalize ((s.heap.push { cls := .type "dict", data := .dict #[] }).update e fun o => { cls := o.cls, dict := some s.heap.objs.size, data := o.data, slots := o.slots }) = h2 at gd ge far
  have n0 : h2.Ns s.heap.objs.size (fun _ => none) := ⟨_, #[], _, gd, rfl, fun e he => absurd he (by simp), fun _ => rfl⟩
  show wpAny _ _ (Builtin.ObjectAttr.storeInDict s.heap.objs.size (.str name s.toks) name v) _ _ _
  unfold Builtin.ObjectAttr.storeInDict Builtin.ObjectAttr.newKeyGuard
  refine wpAny_bind (wpAny_pure (wpAny_bind (wpAny_nsSet1 (Heap.Ns1.of_empty n0) fun h' n1 sb => ?_)))
  obtain ⟨oD, esD, epD, hoD, hdD, hcD⟩ := n1.count (Within.cons name v Within.nil)
  refine wpAny_bind (wpAny_lookBehind hoD (by rw [hdD]; exact pastItsLine_dict (Nat.le_trans hcD (by rw [List.length_cons, List.length_nil, sizeLine_eq]; omega))) ?_)
  exact wpAny_pure (h h' _ ((sb.2 e ne).trans ge) n1 (fun b o hb q => (sb.2 b (Nat.ne_of_lt (Heap.lt_size q))).trans (far b o hb q)) (Heap.lt_size hoD))
end
/-! ### .. in the layer -/
/-- an exception just made, not yet noted -/
def ExcM (e C : Addr) (dd : Option Addr) (h : Heap) : Prop := ∃ t sl, h.get? e = some ⟨.ref C, dd, .fields #[.ref t, .none, .none, .none, .bool false, .none], sl⟩
theorem ExcM.ext {e C : Addr} {dd : Option Addr} : ∀ h1 h2 : Heap, ExcM e C dd h1 → (∀ o, h1.get? e = some o → h2.get? e = some o) → ExcM e C dd h2 := fun _ _ ⟨t, sl, g⟩ k => ⟨t, sl, k _ g⟩
section
variable {X : Cx} {pins : List (Addr × Obj)} {σ : St} {H : Hp} {s : Shared} {e C : Addr} {f : Str} {A : Around} {E : Value → Shared → Prop}
/-- a tracked one is written, another is new -/
theorem HOk.addX {P : Program} {w : World} {H : Hp} {h : Heap} {a : Addr} {o : HO} (ok : HOk P w H h) (hn : H a = none) (new : ObjOk P w (upd H a o) h a o) : HOk P w (upd H a o) h := fun b u q => by
  by_cases hb : b = a
  · subst hb; rw [upd_same] at q; cases q; exact new
  · rw [upd_ne hb] at q
    have ne : ∀ c y, H c = some y → c ≠ a := fun c y r z => by rw [z, hn] at r; cases r
    exact (ok b u q).stay (fun _ _ _ r => r) (fun c r => by rw [upd_ne (ne c _ r)]; exact r) fun c xs r => by rw [upd_ne (ne c _ r)]; exact r
theorem setattrX_ok {y : V} {u : Value} {Q : Unit → Shared → Prop} (I : Inv X pins σ H s) (he : H e = some (.ext (ExcM e C none))) (c : ClsX X.K C) (n : NoAttr X.K C f) (ry : RelV y u)
    (h : ∀ dx s', H dx = none → Inv X pins σ (upd (upd H e (.ext (ExcM e C (some dx)))) dx (.xd [(f, y)])) s' → Q () s') : wpAny (model X.prog X.w) A (setAttr (.ref e) f u) Q E s := by
  obtain ⟨t, sl, g⟩ := (show ObjOk X.prog X.w H s.heap e (.ext (ExcM e C none)) from I.hok e _ he).1
  refine setX I.kIn g rfl rfl rfl c n fun h' tk ge n1 far lt => ?_
  have hfr : H s.heap.objs.size = none := I.hok.fresh (Nat.le_refl _)
  have ne : s.heap.objs.size ≠ e := fun z => by rw [z, he] at hfr; cases hfr
  refine h s.heap.objs.size _ hfr (I.un ⟨fun b o q n hb hx => ?_, fun b o q n hb hx => ?_, fun b o q n hx => ?_, fun b o q hx => ?_, fun b xs q => ?_, fun b o w q => ?_, fun b ps q => ?_⟩ ?_)
  · exact far b o (fun z => by rw [z, he] at n; cases n) q
  · exact ⟨o.slots, far b o (fun z => by rw [z, he] at n; cases n) q⟩
  · rw [upd_ne (Nat.ne_of_lt (Heap.lt_size q)), upd_ne (fun z => by rw [z, he] at n; cases n)]
    exact n
  · by_cases hb : b = e
    · subst hb; exact ⟨_, ge⟩
    · exact ⟨o, far b o hb q⟩
  · rw [upd_ne (fun z => by rw [z, hfr] at q; cases q), upd_ne (fun z => by rw [z, he] at q; cases q)]
    exact q
  · rw [upd_ne (fun z => by rw [z, hfr] at q; cases q), upd_ne (fun z => by rw [z, he] at q; cases q)]
    exact q
  · rw [upd_ne (fun z => by rw [z, hfr] at q; cases q), upd_ne (fun z => by rw [z, he] at q; cases q)]
    exact ⟨#[], by rw [Array.append_empty]; exact q⟩
  · have w1 : HOk X.prog X.w (upd H e (.ext (ExcM e C (some s.heap.objs.size)))) h' := I.hok.write (by rw [he]; trivial) (.inl rfl) (fun b o hb q => far b o hb q) ⟨_, ge⟩ ⟨⟨t, sl, ge⟩, ⟨_, ge⟩, ExcM.ext⟩
    refine w1.addX (by rw [upd_ne ne]; exact hfr) ⟨_, n1, fun g => ?_⟩
    by_cases hg : g = f
    · subst hg
      rw [if_pos rfl]
      simp only [List.lookup, beq_self_eq_true]
      exact ry
    · rw [if_neg hg]
      simp [List.lookup, beq_eq_false_iff_ne.mpr hg]
      trivial
end
end L2

set_option Elab.async false
set_option linter.all false
set_option maxRecDepth 100000
namespace L2
open PySem PySem.Spec PyProof.Rows PySem.W
/-! ### C(..) of an own exception class that has an __init__ -/
abbrev newExcO (C t : Addr) : Obj := { cls := .ref C, data := .fields #[.ref t, .none, .none, .none, .bool false, .none] }
abbrev newExcH (h : Heap) (C : Addr) (args : List Value) : Heap := (h.push { cls := .type "tuple", data := .seq args.toArray }).push (newExcO C h.objs.size)
section
variable {prog : Program} {w : World} {A : Around} {E : Value → Shared → Prop} {h : Heap} {g : Array GenState} {d : Drawn} {t : Nat} {os : OsState}
variable {nm q : Str} {C N : Addr} {bs bm bmB bmN : List Value} {hdct : Bool} {sn : List Str} {sub : List Value} {ab : Bool} {col : Option Bool} {dd : Option Addr} {k0 k1 k2 k3 k5 : Option Value} {B Bn newId nid initId inN : String}
theorem typecall_init (Fn : ExcBaseFacts Bn newId inN bmN) (hBn : bmB.contains (.type Bn) = true) (F : ExcBaseFacts B nid initId bmB) (T : OwnTail h bmB bm) {mN : Str → Option Value} {rest : List Value} {fI : Addr} {oI : Obj} {Q : Fin → Shared → Prop}
    (hC : h.get? C = some (excClassObj nm q C N bs bm hdct sn sub ab col dd k0 k1 k2 k3 k5 newId)) (hn : h.Ns N mN) (hi : mN "__init__" = some (.ref fI)) (gI : h.get? fI = some oI) (cI : oI.cls = .type "function")
    (hq : wpAny (model prog w) A (call (.ref fI) (.ref (h.objs.size + 1) :: rest)) (fun r s' => r = .none ∧ Q (.done (.ret (.ref (h.objs.size + 1)))) s') E ⟨newExcH h C rest, g, d, t, os⟩) (hl : rest.length ≤ sizeLine) :
    wpAny (model prog w) A (Builtin.«type.__call__» ⟨.ref C :: rest, []⟩) Q E ⟨h, g, d, t, os⟩ := by
  repeat
    first
    | with_reducible refine wpAny_loadPart_at hC ?_
    | with_reducible refine wpAny_madeBy_exc hC ?_
    | wp_step
  refine codeAny_call_builtin_code (Code.quiet_builtin _ Fn.quiet)
    (wpAny_check_new_subU Fn hBn T hC ?_)
  refine codeAny_exc_new_subU Fn hBn F T hC ?_ hl
  show wpAny _ _ _ _ _ _
  have kp : ∀ b o, h.get? b = some o → (newExcH h C rest).get? b = some o := fun b o z => Heap.get?_push_of_some _ (Heap.get?_push_of_some _ z)
  have hC1 := kp _ _ hC
  have hn1 : (newExcH h C rest).Ns N mN := let ⟨o, es, ep, z, r⟩ := hn; ⟨o, es, ep, kp _ _ z, r⟩
  have ge : (newExcH h C rest).get? (h.objs.size + 1) = some (newExcO C h.objs.size) := by heap_get
  have T1 := T.keeps kp
  have own : (Value.ref C :: bm).contains (.ref C) = true := by simp
  unfold isInstance
  repeat
    first
    | with_reducible refine wpAny_loadPart_at ge ?_
    | (with_reducible refine wpAny_isSubtype_exc hC1 ?_
       rw [own])
    | wp_step
  show wpAny _ _ (typeLookup (.ref C) _) _ _ _
  refine wpAny_typeLookup_tail hC1 hn1 T1 F.mroIs F.init.lookup ?_
  rw [hi]
  refine wpAny_holding (wpAny_bind ?_)
  unfold bindSpecial
  refine wpAny_bind (wpAny_typeOf (T := "function") ⟨_, kp _ _ gI, cI⟩ ?_)
  rw [if_pos (by decide)]
  refine wpAny_pure (wpAny_bind (wpAny_mono hq (fun r s' hr => ?_) fun _ _ z => z))
  obtain ⟨rfl, y⟩ := hr
  wp_walk
  exact y
theorem call_init (Fn : ExcBaseFacts Bn newId inN bmN) (hBn : bmB.contains (.type Bn) = true) (F : ExcBaseFacts B nid initId bmB) (T : OwnTail h bmB bm) {mN : Str → Option Value} {rest : List Value} {fI : Addr} {oI : Obj} {Q : Value → Shared → Prop}
    (hC : h.get? C = some (excClassObj nm q C N bs bm hdct sn sub ab col dd k0 k1 k2 k3 k5 newId)) (hn : h.Ns N mN) (hi : mN "__init__" = some (.ref fI)) (gI : h.get? fI = some oI) (cI : oI.cls = .type "function")
    (hq : wpAny (model prog w) (A.under (.builtin "type.__call__" ⟨.ref C :: rest, []⟩)) (call (.ref fI) (.ref (h.objs.size + 1) :: rest)) (fun r s' => r = .none ∧ Q (.ref (h.objs.size + 1)) s') E ⟨newExcH h C rest, g, d, t, os⟩) (hl : rest.length ≤ sizeLine) :
    wpAny (model prog w) A (call (.ref C) rest) Q E ⟨h, g, d, t, os⟩ := by
  have f1 := tc_lookup
  have f2 := tc_bind (.ref C)
  have hT : (⟨h, g, d, t, os⟩ : Shared).TypeIs (.ref C) "type" := ⟨_, hC, rfl⟩
  refine wpAny_call (codeAny_of_tree ?_)
  show wpAny _ _ (callAny (.ref C) _) _ _ _
  repeat
    any_goals
      first
      | assumption
      | with_reducible refine wpAny_loadPart_at hC ?_
      | wp_step
  refine ⟨rfl, ?_⟩
  exact codeAny_call_builtin_at (Code.quiet_builtin _ (by decide +kernel)) entry_typeCall
    (wpAny_check_type_call_sub hC (typecall_init Fn hBn F T hC hn hi gI cI hq hl))
end
/-! ### raise of an instance -/
section
variable {M : Model} {A : Around} {E : Value → Shared → Prop} {s : Shared} {env : Env} {nm q : Str} {C N : Addr} {bs bm : List Value} {hdct : Bool} {sn : List Str} {sub : List Value} {ab : Bool} {col : Option Bool} {dd : Option Addr} {k0 k1 k2 k3 k5 : Option Value} {newId : String}
theorem raise_ref {x : Sem Value} {Q : Flow → Shared → Prop} (hb : bm.contains (.type "BaseException") = true) (hh : A.handled = none)
    (h : wpAny M A x (fun v s1 => ∃ e dx t sl, v = .ref e ∧ s1.heap.get? C = some (excClassObj nm q C N bs bm hdct sn sub ab col dd k0 k1 k2 k3 k5 newId) ∧
      s1.heap.get? e = some ⟨.ref C, dx, .fields #[.ref t, .none, .none, .none, .bool false, .none], sl⟩ ∧ E (.ref e) s1) E s) : wpAny M A (raiseStmt env (some x) none) Q E s := by
  have hcB : (Value.ref C :: bm).contains (.type "BaseException") = true := by rw [List.contains_cons, hb, Bool.or_true]
  unfold raiseStmt
  refine wpAny_bind (wpAny_mono h (fun v s1 ⟨e, dx, t, sl, ev, hC, ge, hE⟩ => ?_) fun _ _ z => z)
  subst ev
  obtain ⟨hp, g, d, tk, os⟩ := s1
  repeat
    first
    | with_reducible refine wpAny_loadPart_at ge ?_
    | with_reducible refine wpAny_loadPart_at hC ?_
    | (with_reducible refine wpAny_isSubtype_exc hC ?_
       rw [hcB])
    | wp_step
  exact wpAny_raiseNew_none hh hE
end
end L2

set_option Elab.async false
set_option linter.all false
set_option maxRecDepth 100000
namespace L2
open PySem PySem.Spec PyProof.Rows PySem.W
/-! ### own exception classes with an __init__ of their own: raise, catch, read -/
def excInI (K : Frag) (C f : Addr) : Bool :=
  match K.lookup C with
  | some ⟨.type "type", _, .cls cd, sl⟩ =>
    (match cd.mro, sl.toList with
    | .ref D :: bm, [_, _, _, _, some (.builtin n), _] =>
      (D == C && n == "ValueError.__new__" && !cd.hasDel) && (tailIn K bmV bm && nsOkIn K cd.ns && nsIn K cd.ns "__init__" == some (some (.ref f)))
    | _, _ => false)
  | _ => false
theorem nsSome_of {K : Frag} {h : Heap} {N : Addr} {m : Str → Option Value} {x : Str} {v : Value} (X : K.In h) (G : h.Ns N m) (q : nsIn K N x = some (some v)) : m x = some v := by
  obtain ⟨o, es, ep, ho, hd, _, hf⟩ := G
  unfold nsIn at q
  split at q
  · rename_i es' _ _ lk
    have z := X _ _ lk
    rw [ho] at z
    cases z
    cases hd
    split at q
    · rename_i y hy
      cases q
      have := hf x
      unfold nsFind findBy at this
      rw [← Array.find?_toList, hy] at this
      exact this.symm
    · split at q <;> cases q
  · cases q
structure ExcI (K : Frag) (C f : Addr) : Prop where
  inn : excInI K C f = true
  kp : keepIn K (.ref C) = true
  fn : isFn K (.ref f) = true
theorem ExcI.obj {K : Frag} {C f : Addr} {h : Heap} (c : ExcI K C f) (X : K.In h) : ∃ (bm : List Value) (N : Addr) (nm q : Str) (bs : List Value) (hdct : Bool) (sn : List Str) (sub : List Value) (ab : Bool) (col : Option Bool) (dd : Option Addr) (k0 k1 k2 k3 k5 : Option Value) (mN : Str → Option Value),
    h.get? C = some (excClassObj nm q C N bs bm hdct sn sub ab col dd k0 k1 k2 k3 k5 "ValueError.__new__") ∧ h.Ns N mN ∧ mN "__init__" = some (.ref f) ∧ OwnTail h bmV bm ∧ K.lookup C = some (excClassObj nm q C N bs bm hdct sn sub ab col dd k0 k1 k2 k3 k5 "ValueError.__new__") := by
  have q := c.inn
  unfold excInI at q
  split at q
  · rename_i dd cd sl ho
    split at q
    · rename_i D bm k0 k1 k2 k3 n k5 hm hs
      simp only [Bool.and_eq_true, beq_iff_eq, Bool.not_eq_true'] at q
      obtain ⟨⟨⟨rfl, rfl⟩, hdel⟩, ⟨ht, hok⟩, hni⟩ := q
      obtain ⟨nm, bs, mro, ns, qn, hd, sn, sub, ab, col, del⟩ := cd
      dsimp only at hm hdel hok hni
      subst hm hdel
      have hsl : sl = #[k0, k1, k2, k3, some (.builtin "ValueError.__new__"), k5] := by
        obtain ⟨l⟩ := sl
        simp only at hs
        rw [hs]
      subst hsl
      have hN : h.Ns ns (h.nsMap ns) := .of_isNs (isNs_of_in X hok)
      exact ⟨bm, ns, nm, qn, bs, hd, sn, sub, ab, col, dd, k0, k1, k2, k3, k5, _, X _ _ ho, hN, nsSome_of X hN hni, tail_of_in X ht, ho⟩
    · cases q
  · cases q
theorem ExcI.isX {K : Frag} {C f : Addr} {h : Heap} (c : ExcI K C f) (X : K.In h) : ∃ bm, IsXC K C bm ∧ OwnTail h bmV bm := by
  obtain ⟨bm, N, nm, q, bs, hdct, sn, sub, ab, col, dd, k0, k1, k2, k3, k5, mN, hC, hn, hni, hT, hlk⟩ := c.obj X
  exact ⟨bm, ⟨nm, q, N, bs, hdct, sn, sub, ab, col, dd, k0, k1, k2, k3, k5, _, hlk⟩, hT⟩
/-- forgotten -/
def delH (H : Hp) (a : Addr) : Hp := fun b => if b = a then none else H b
theorem del_same {H : Hp} {a : Addr} : delH H a a = none := by unfold delH; rw [if_pos rfl]
theorem del_ne {H : Hp} {a b : Addr} (h : b ≠ a) : delH H a b = H b := by unfold delH; rw [if_neg h]
theorem del_some {H : Hp} {a b : Addr} {o : HO} (h : delH H a b = some o) : b ≠ a ∧ H b = some o := by
  by_cases z : b = a
  · subst z; rw [del_same] at h; cases h
  · rw [del_ne z] at h; exact ⟨z, h⟩
/-- an exception that was made, its __init__ done -/
theorem ExcAt.init {X : Cx} {pins : List (Addr × Obj)} {σ : St} {H : Hp} {s : Shared} {e C : Addr} {dd : Option Addr} (I : Inv X pins σ H s) (he : H e = some (.ext (ExcM e C dd))) (hnew : X.s₀.heap.get? e = none) : ExcAt X (delH H e) e (.ref C) dd s := by
  obtain ⟨t, sl, g⟩ := (show ObjOk X.prog X.w H s.heap e (.ext (ExcM e C dd)) from I.hok e _ he).1
  have nf : e ∉ frs X.stack := fun z => by rw [I.stkFree e z] at he; cases he
  have ne : ∀ b ob, X.s₀.heap.get? b = some ob → b ≠ e := fun b ob q z => by rw [z, hnew] at q; cases q
  have sub : ∀ b, b ∉ frs X.stack → b ∉ X.fs := fun b hb z => by
    rcases I.ok.stk with e | ⟨e, hf⟩
    · rw [e] at hb; exact hb z
    · rw [e] at hb
      unfold frs at hb
      rw [List.filterMap_cons, hf] at hb
      exact hb (List.mem_cons_of_mem _ z)
  have out : ∀ b, b ≠ e → b ∉ frs X.stack → b ∉ e :: frs X.stack := fun b h1 h2 z => (List.mem_cons.mp z).elim h1 h2
  have tr : ∀ b u, X.H₀ b = some u → (∀ φ, u ≠ .ext φ) → H b = some u → delH H e b = some u := fun b u _ hu q => by
    rw [del_ne (fun z => by rw [z, he] at q; cases q; exact hu _ rfl)]
    exact q
  refine ⟨I.os, I.bare, ⟨I.base.keep, I.base.slot, fun b ob q n hx => ?_, I.base.there, fun b xs q => ?_, fun b ob u q => ?_, fun b ps q => ?_⟩, fun b u q => ?_, del_same, hideAll s.heap (e :: frs X.stack), ⟨fun b u q => ?_, fun b ob q n hb hx => ?_, fun b ob q hb hx => ?_⟩, ?_⟩
  · rw [del_ne (ne b ob q)]; exact I.base.free b ob q n hx
  · exact tr b _ q (fun φ z => by cases z) (I.base.tups b xs q)
  · exact tr b _ q (fun φ z => by cases z) (I.base.frzs b ob u q)
  · obtain ⟨more, z⟩ := I.base.tbls b ps q
    refine ⟨more, ?_⟩
    rw [del_ne (fun y => by rw [y, he] at z; cases z)]
    exact z
  · obtain ⟨hb, q'⟩ := del_some q
    refine (I.hok b u q').stay (fun _ _ _ r => r) (fun c r => ?_) fun c xs r => ?_
    · rw [del_ne (fun y => by rw [y, he] at r; cases r)]; exact r
    · rw [del_ne (fun y => by rw [y, he] at r; cases r)]; exact r
  · obtain ⟨hb, q'⟩ := del_some q
    obtain ⟨ob, e1⟩ := (I.hok b u q').some
    exact ⟨ob, hideAll_get _ e1 (out b hb fun z => by rw [I.stkFree b z] at q'; cases q')⟩
  · exact hideAll_get _ (I.base.keep b ob q n (sub b hb) hx) (out b (ne b ob q) hb)
  · obtain ⟨o', e1⟩ := I.base.there b ob q hx
    exact ⟨o', hideAll_get _ e1 (out b (ne b ob q) hb)⟩
  · refine .made _ _ (fun b ob q => of_hideAll _ q) (funFrames_hide I.stack fun env hm a ha => List.mem_cons_of_mem _ (List.mem_filterMap.mpr ⟨env, hm, ha⟩)) (hideAll_none _ (by simp)) g rfl rfl rfl rfl
/-- raise C(args), C with an __init__ -/
def tRaiseI (C : Addr) (sp : Sp) (E : XK) (ta : TA) : TS := fun _ σ H => ta σ H fun vs H1 => vs.length ≤ sizeLine ∧ ∀ e, H1 e = none → sp (.ref e :: vs) (upd H1 e (.ext (ExcM e C none))) (fun v H2 => v = .non ∧ ∃ dd, H2 e = some (.ext (ExcM e C dd)) ∧ E (.ref C) dd (delH H2 e)) E0
theorem ps_raiseI {X : Cx} {E : XK} {C f : Addr} {fd : FuncData} {ps : List Str} {sp : Sp} {cm : Bool} {k : Nat} {x : Str} {a : Expr} {args : List Expr} {np cpos pos : Pos} {ta : TA} (hc : X.calm = true) (c : ExcI X.K C f) (F : FnOk X.prog X.w X.K X.mg X.base CX0 k f fd ps sp cm) (hr : Room (k + 1) X.A cm) (hb : Binds X.K fd ps [])
    (hg : Gl (X.wish (XE X E)) x) (hm : X.mg x = some (.ref C)) (ha : PA (X.wish (XE X E)) (a :: args) ta)
    (hd : (x == ("__debug__" : Str)) = false := by decide) (he : starEach (a :: args) X.env = (false, eval a X.env) :: starEach args X.env := by rfl) (hpl : (backTo cpos (starEach args X.env)).any (·.1) = false := by rfl) :
    PS (X.wish (XE X E)) (.Raise (some (.Call (.Name x np) (a :: args) [] cpos)) none pos) (tRaiseI C sp E ta) := by
  intro pins s σ H D I hw
  obtain ⟨bm, N, nm, q, bs, hdct, sn, sub, ab, col, dd, k0, k1, k2, k3, k5, mN, hC0, hn0, hi0, hT0, hlk⟩ := c.obj I.ok.mod.kin
  rw [arm_exec_Raise]
  refine wpAny_bind (wpAny_standAt (raise_ref (C := C) (nm := nm) (q := q) (N := N) (bs := bs) (bm := bm) (hdct := hdct) (sn := sn) (sub := sub) (ab := ab) (col := col) (dd := dd) (k0 := k0) (k1 := k1) (k2 := k2) (k3 := k3) (k5 := k5) (newId := "ValueError.__new__") (hT0.hasType (by decide)) (I.ok.hd hc) (wpAny_bind (wpAny_mono ?_ (fun v s1 h1 => wpAny_bind (wpAny_standAt (wpAny_pure h1))) fun _ _ z => z))))
  refine wpAny_Call_Name_kw (ld_glob I hg hm ?_ hd)
  refine callWith_K (h₀ := X.base) I.ok.mod.kin c.kp (thn (ha cpos pins s σ H _ I hw) fun us s1 ⟨vs, H1, I1, r, hl, q1⟩ => ⟨I1.kIn, ?_⟩) he hpl
  have kb : ∀ b ob, X.base.get? b = some ob → s1.heap.get? b = some ob := I1.bk
  obtain ⟨h1, g1, d1, t1, os1⟩ := s1
  have fnT : typeIn X.K (.ref f) = some (.type "function") := beq_iff_eq.mp c.fn
  obtain ⟨oI, lI, cI⟩ : ∃ oI, X.K.lookup f = some oI ∧ oI.cls = .type "function" := by
    unfold typeIn at fnT
    exact Option.map_eq_some_iff.mp fnT
  have hfree : H1 (h1.objs.size + 1) = none := I1.hok.fresh (Nat.le_succ _)
  have hq := q1 (h1.objs.size + 1) hfree
  have I2 : Inv (X.wish (XE X E)) pins σ (upd H1 (h1.objs.size + 1) (.ext (ExcM (h1.objs.size + 1) C none))) ⟨newExcH h1 C us, g1, d1, t1, os1⟩ := by
    have ge : (newExcH h1 C us).get? (h1.objs.size + 1) = some (newExcO C h1.objs.size) := by heap_get
    exact I1.laid (t' := t1) (fun b o z => Heap.get?_push_of_some _ (Heap.get?_push_of_some _ z)) (Nat.le_succ _) ⟨⟨_, _, ge⟩, ⟨_, ge⟩, ExcM.ext⟩
  have r2 : Vals (V.ref (h1.objs.size + 1) :: vs) (Value.ref (h1.objs.size + 1) :: us) := .cons rfl r
  have hlen : (Value.ref (h1.objs.size + 1) :: us).length = ps.length := by
    have e := r2.length
    rw [F.len _ _ _ _ hq] at e
    exact e.symm
  refine call_init PySem.F.excBase_ValueError (by decide) PySem.F.excBase_ValueError (hT0.keeps kb) (kb _ _ hC0) (hn0.keeps kb) hi0 (I1.kIn _ _ lI) cI ?_ (by show us.length ≤ sizeLine; rw [← r.length]; exact hl)
  refine wpAny_call (codeAny_mono (F.run _ X.stack _ _ ⟨Value.ref (h1.objs.size + 1) :: us, []⟩ (Value.ref (h1.objs.size + 1) :: us) _ _ E0 (hr.make C us []) (I2.env0.make C us []) ?_ r2 hq) fun r s' hq' => ?_)
  · have z := hb _ (Value.ref (h1.objs.size + 1) :: us) I2.kIn (by rw [List.append_nil]; exact hlen)
    rw [List.append_nil] at z
    exact z
  cases r with
  | error e => exact False.elim hq'
  | ok fl =>
    cases fl with
    | ret u =>
      obtain ⟨v, H', I3, rv, ev, dd', ge, hE⟩ := I2.after hq'
      subst ev
      obtain ⟨t, sl, g⟩ := (show ObjOk X.prog X.w H' s'.heap (h1.objs.size + 1) (.ext (ExcM (h1.objs.size + 1) C dd')) from I3.hok _ _ ge).1
      refine ⟨rv, _, _, t, sl, rfl, I3.bk _ _ hC0, g, _, _, dd', _, rfl, hE, ExcAt.init I3.unwish ge ?_⟩
      exact Heap.get?_none_of_le (Nat.le_trans I1.sz (Nat.le_succ _))
    | next => exact False.elim hq'
    | brk => exact False.elim hq'
    | cont => exact False.elim hq'
/-! ### self.f = v in such an __init__, e.f of one that was caught -/
section
variable {X : Cx} {o e value : Expr} {f : Str} {pos pos' : Pos} {ta tv : TE}
def sFldX (K : Frag) (ta tv : TE) (f : Str) : TS := fun D σ H => tv σ H fun y H1 => ta σ H1 fun x H2 => ∃ e C, x = .ref e ∧ H2 e = some (.ext (ExcM e C none)) ∧ ClsX K C ∧ NoAttr K C f ∧
  ∀ dx, H2 dx = none → D.nx σ (upd (upd H2 e (.ext (ExcM e C (some dx)))) dx (.xd [(f, y)]))
theorem ps_fldX (ha : PE X o ta) (hv : PE X value tv) (hs : swapsWith value (some (.Attribute o f pos')) pos.line X.env = pure false) : PS X (.Assign [.Attribute o f pos'] value pos) (sFldX X.K ta tv f) := by
  intro pins s σ H D I h
  refine plainObj_wpAny_Assign_Attribute (thn (hv pins s σ H _ I h) fun u s1 ⟨y, H1, I1, ry, q⟩ => thn (ha pins s1 σ H1 _ I1 q) fun ov s2 ⟨x, H2, I2, rx, a, C, ex, ea, c, n, q2⟩ => ?_) hs
  subst ex
  obtain rfl : ov = Value.ref a := rx
  exact setattrX_ok I2 ea c n ry fun dx s3 hx I3 => ⟨σ, _, I3, q2 dx hx⟩
def tFldX (K : Frag) (ta : TE) (f : Str) : TE := fun σ H Q => ta σ H fun x H1 => ∃ a C dx fs v, x = .ref a ∧ H1 a = some (.ext (IsExcD a (.ref C) (some dx))) ∧ H1 dx = some (.xd fs) ∧ ClsX K C ∧ NoAttr K C f ∧ fs.lookup f = some v ∧ Q v H1
theorem pe_fldX {K : Frag} (hK : X.K = K) (he : PE X e ta) (hb : attributeBase e f X.env (eval e X.env) = eval e X.env) : PE X (.Attribute e f pos) (tFldX K ta f) := by
  subst hK
  intro pins s σ H Q I h
  refine attr_of hb (thn (he pins s σ H _ I h) fun u s1 ⟨x, H1, I1, rx, a, C, dx, fs, v, ex, ea, ed, c, n, l, q⟩ => ?_)
  subst ex
  obtain rfl : u = Value.ref a := rx
  obtain ⟨oe, vs, g, g1, g2, g3⟩ := (show ObjOk X.prog X.w H1 s1.heap a (.ext (IsExcD a (.ref C) (some dx))) from I1.hok a _ ea).1
  obtain ⟨mA, n1, r⟩ := (show ObjOk X.prog X.w H1 s1.heap dx (.xd fs) from I1.hok dx _ ed)
  obtain ⟨u, hu, ru⟩ := RelO.some_of (v := v) (o := mA f) (by rw [← l]; exact r f)
  exact getX I1.kIn g g1 g3 g2 n1 c n hu (handed_of ru) ⟨v, H1, I1.tok _, ru, q⟩
end
theorem IsExcD.cls {e D : Addr} {dd : Option Addr} {h : Heap} (x : IsExcD e (.ref D) dd h) : ClsAt e D h := let ⟨oe, _, a, b, _, _⟩ := x; ⟨oe, a, b⟩
theorem call_isiXD {X : Cx} {K : Frag} (hK : X.K = K := by rfl) : CallR X (.builtin "isinstance") (fun xs H Q => ∃ e D dd, ∃ (x : V) (c : Value) (b : Bool), xs = [.ref e, x] ∧ (∀ u, RelV x u → u = c) ∧ H e = some (.ext (IsExcD e (.ref D) dd)) ∧ ClsE K D ∧ kitOne K (.ref D) c = some b ∧ Q (.bl b) H) := by
  intro pins s σ H xs us Q I r h
  subst hK
  obtain ⟨e, D, dd, x, c, b, rfl, hx, he, hc, hk, q⟩ := h
  obtain ⟨u, v, rfl, ru, rv⟩ := vals2 r
  obtain rfl : u = Value.ref e := ru
  obtain rfl := hx v rv
  have p : IsExcD e (.ref D) dd s.heap := (show ObjOk X.prog X.w H s.heap e (.ext (IsExcD e (.ref D) dd)) from I.hok e _ he).1
  exact kia_one hc.kit I.kIn p.cls hk (fun z => nomatch z) fun tk => ⟨.bl b, H, I.tok tk, rfl, q⟩
/-! ### try: f(..) except S as n: suite, the exception with its dict -/
/-- what lies there behind a raise with one attribute -/
theorem del_made {H : Hp} {e dx C : Addr} {f : Str} {y : V} {H' : Hp} (he : H e = none) (hd : upd H e (.ext (ExcM e C none)) dx = none) (eH : H' = upd (upd (upd H e (.ext (ExcM e C none))) e (.ext (ExcM e C (some dx)))) dx (.xd [(f, y)])) :
    H' e = some (.ext (ExcM e C (some dx))) ∧ delH H' e dx = some (.xd [(f, y)]) ∧ ∀ b o, H b = some o → delH H' e b = some o := by
  have ne : dx ≠ e := fun z => by rw [z, upd_same] at hd; cases hd
  have hdx : H dx = none := by rw [upd_ne ne] at hd; exact hd
  subst eH
  refine ⟨by rw [upd_ne ne.symm, upd_same], by rw [del_ne ne, upd_same], fun b o q => ?_⟩
  have nb : b ≠ e := fun z => by rw [z, he] at q; cases q
  have nb2 : b ≠ dx := fun z => by rw [z, hdx] at q; cases q
  rw [del_ne nb, upd_ne nb2, upd_ne nb, upd_ne nb]
  exact q
end L2

set_option Elab.async false
set_option linter.all false
set_option maxRecDepth 100000
namespace L2
open PySem PySem.Spec PyProof.Rows PySem.W
/-! ### two except clauses, the exception with its dict -/
theorem Takes.mkG {K : Frag} {c S : Addr} {h : Heap} (hc : ∃ bm, IsXC K c bm ∧ OwnTail h bmV bm) (hS : ∃ bm, IsXC K S bm ∧ OwnTail h bmV bm) (hm : mroIn K c (.ref S) = some true) : Takes K c S := by
  obtain ⟨bm, x, _⟩ := hc
  obtain ⟨bm', x', t'⟩ := hS
  refine ⟨bm, bm', x, x', t'.hasType (by decide), ?_⟩
  obtain ⟨nm, q, N, bs, hdct, sn, sub, ab, col, dd, k0, k1, k2, k3, k5, nid, lc⟩ := x
  unfold mroIn clsIn at hm
  rw [lc] at hm
  simpa using hm
theorem TakesNot.mkG {K : Frag} {c S : Addr} {h : Heap} (hc : ∃ bm, IsXC K c bm ∧ OwnTail h bmV bm) (hS : ∃ bm, IsXC K S bm ∧ OwnTail h bmV bm) (hm : mroIn K c (.ref S) = some false) : TakesNot K c S := by
  obtain ⟨bm, x, _⟩ := hc
  obtain ⟨bm', x', t'⟩ := hS
  refine ⟨bm, bm', x, x', t'.hasType (by decide), ?_⟩
  obtain ⟨nm, q, N, bs, hdct, sn, sub, ab, col, dd, k0, k1, k2, k3, k5, nid, lc⟩ := x
  unfold mroIn clsIn at hm
  rw [lc] at hm
  simpa using hm
def tTry2X (K : Frag) (S1 S2 : Addr) (i : Nat) (tx : TX) (t1 t2 : TS) : TS := fun D σ H => tx σ H (fun _ H1 => D.nx σ H1) (fun C dd H1 => ∃ c, C = .ref c ∧ ((Takes K c S1 ∧ ∀ e, H1 e = none →
  t1 { nx := fun σ' H' => D.nx (σ'.set i none) H', rt := D.rt, bk := fun σ' H' => D.bk (σ'.set i none) H', ct := fun σ' H' => D.ct (σ'.set i none) H' } (σ.set i (some (.ref e))) (upd H1 e (.ext (IsExcD e (.ref c) dd)))) ∨ (TakesNot K c S1 ∧ Takes K c S2 ∧ ∀ e, H1 e = none →
  t2 { nx := fun σ' H' => D.nx (σ'.set i none) H', rt := D.rt, bk := fun σ' H' => D.bk (σ'.set i none) H', ct := fun σ' H' => D.ct (σ'.set i none) H' } (σ.set i (some (.ref e))) (upd H1 e (.ext (IsExcD e (.ref c) dd))))))
theorem ps_try2X {X : Cx} {e : Expr} {S S' n : Str} {Sc Sc' : Addr} {i : Nat} {b0 b1 : Stmt} {body body' : List Stmt} {tx : TX} {t1 t2 : TS} {epos spos spos' hpos hpos' pos : Pos} (top : X.stack = X.env :: X.outer) (fr : X.env.frame = some X.env.locals)
    (hx : PX X e tx) (hg : Gl X S) (hm : X.mg S = some (.ref Sc)) (hg' : Gl X S') (hm' : X.mg S' = some (.ref Sc')) (hs : ∀ a, PSs (X.inH a).nox (b0 :: body) t1) (hs' : ∀ a, PSs (X.inH a).nox (b1 :: body') t2) (hN : X.N.Nodup) (hi : X.N[i]? = some n) (hk : X.env.scope.names.lookup n = some .local)
    (hd : (S == ("__debug__" : Str)) = false := by decide) (hd' : (S' == ("__debug__" : Str)) = false := by decide) (hsw : swapsWith e none epos.line X.env = pure false := by rfl) :
    PS X (.Try [.Expr e epos] [.ExceptHandler (some (.Name S spos)) (some n) (b0 :: body) hpos, .ExceptHandler (some (.Name S' spos')) (some n) (b1 :: body') hpos'] [] [] pos) (tTry2X X.K Sc Sc' i tx t1 t2) := by
  intro pins s σ H D I h
  refine wpAny_Try_except ?_
  have hb := wpAny_Expr_any (Q := fun f s1 => f = .next ∧ ∃ H1, Inv X pins σ H1 s1 ∧ D.nx σ H1) (thn (hx pins s σ H _ _ I h) fun v s1 ⟨x, H1, I1, r, q⟩ => ⟨rfl, H1, I1, q⟩) I.quiet hsw
  refine wpAny_execs_cons (wpAny_mono hb (fun f s1 ⟨hf, H1, I1, q⟩ => ?_) fun ev s' ⟨H1, s1, I1, hc⟩ => ?_)
  · subst hf
    exact wpAny_execs_nil (wpAny_execs_nil ⟨σ, H1, I1, q⟩)
  · refine CX1.lands (by rw [← top]; exact I1.ok.frames) top fr hc fun a C dd0 H' s3 ha hE l => ?_
    subst ha
    obtain ⟨c, rfl, hE⟩ := hE
    have I3 := l.inv I1
    obtain ⟨oe, vs, hoe, hcl, hda⟩ := l.obj
    rcases hE with ⟨⟨bm, bm', ⟨nm, q, N, bs, hdct, sn, sub, ab, col, dd, k0, k1, k2, k3, k5, nid, lc⟩, ⟨nm', q', N', bs', hdct', sn', sub', ab', col', dd', k0', k1', k2', k3', k5', nid', lS⟩, hB, hM⟩, hts⟩ | ⟨⟨bm, bm', ⟨nm, q, N, bs, hdct, sn, sub, ab, col, dd, k0, k1, k2, k3, k5, nid, lc⟩, ⟨nm', q', N', bs', hdct', sn', sub', ab', col', dd', k0', k1', k2', k3', k5', nid', lS⟩, hB, hM⟩, ⟨bx, bx', ⟨ym, y, Y, ys, hyct, yn, ysub, yb, yol, yd, y0, y1, y2, y3, y5, yid, zc⟩, ⟨ym', y', Y', ys', hyct', yn', ysub', yb', yol', yd', y0', y1', y2', y3', y5', yid', zS⟩, yB, yM⟩, hts⟩
    · refine wpAny_handleBy_cons (codeAny_handlers_test ?_) (by intro q; cases q)
      refine ld_glob (X := X.inH a) I3.inH hg hm ?_ hd
      have kC := I3.kIn _ _ lc
      have kS := I3.kIn _ _ lS
      obtain ⟨h3, g3, d3, t3, os3⟩ := s3
      refine matches_own kC kS hoe hcl hB hM ?_
      refine codeAny_handlers_suite_as ?_
      refine l.again fun s4 l4 => ?_
      have I4 := l4.trackedD I1
      refine store_ok (X := X.inH a) (v := .ref a) I4.inH hN hi (.inl hk) rfl (fun s5 I5 => ?_) (.inr hk)
      refine wpAny_mono (hs a pins s5 _ _ _ (I5.wish _) (hts a l4.fe)) (fun f s6 q => ?_) (fun _ _ z => False.elim z)
      cases f with
      | next => obtain ⟨σ', H2, J, q⟩ := q; exact goes (X := X) (J.unwish.ofH I.ok) hN hi hk fun s7 J7 => ⟨_, H2, J7, q⟩
      | brk => obtain ⟨σ', H2, J, q⟩ := q; exact goes (X := X) (J.unwish.ofH I.ok) hN hi hk fun s7 J7 => ⟨_, H2, J7, q⟩
      | cont => obtain ⟨σ', H2, J, q⟩ := q; exact goes (X := X) (J.unwish.ofH I.ok) hN hi hk fun s7 J7 => ⟨_, H2, J7, q⟩
      | ret u => obtain ⟨v, σ', H2, J, r, q⟩ := q; exact goes (X := X) (J.unwish.ofH I.ok) hN hi hk fun s7 J7 => ⟨v, _, H2, J7, r, q⟩
    · refine wpAny_handleBy_cons (codeAny_handlers_test ?_) (by intro q; cases q)
      refine ld_glob (X := X.inH a) I3.inH hg hm ?_ hd
      have kC := I3.kIn _ _ lc
      have kS := I3.kIn _ _ lS
      have kS' := I3.kIn _ _ zS
      have kC' := I3.kIn _ _ zc
      obtain ⟨h3, g3, d3, t3, os3⟩ := s3
      refine matches_b kC kS hoe hcl hB hM ?_
      show wpAny _ _ (handleBy (.ref a) X.env [_]) _ _ _
      refine wpAny_handleBy_cons (codeAny_handlers_test ?_) (by intro q; cases q)
      refine ld_glob (X := X.inH a) I3.inH hg' hm' ?_ hd'
      refine matches_own kC' kS' hoe hcl yB yM ?_
      refine codeAny_handlers_suite_as ?_
      refine l.again fun s4 l4 => ?_
      have I4 := l4.trackedD I1
      refine store_ok (X := X.inH a) (v := .ref a) I4.inH hN hi (.inl hk) rfl (fun s5 I5 => ?_) (.inr hk)
      refine wpAny_mono (hs' a pins s5 _ _ _ (I5.wish _) (hts a l4.fe)) (fun f s6 q => ?_) (fun _ _ z => False.elim z)
      cases f with
      | next => obtain ⟨σ', H2, J, q⟩ := q; exact goes (X := X) (J.unwish.ofH I.ok) hN hi hk fun s7 J7 => ⟨_, H2, J7, q⟩
      | brk => obtain ⟨σ', H2, J, q⟩ := q; exact goes (X := X) (J.unwish.ofH I.ok) hN hi hk fun s7 J7 => ⟨_, H2, J7, q⟩
      | cont => obtain ⟨σ', H2, J, q⟩ := q; exact goes (X := X) (J.unwish.ofH I.ok) hN hi hk fun s7 J7 => ⟨_, H2, J7, q⟩
      | ret u => obtain ⟨v, σ', H2, J, r, q⟩ := q; exact goes (X := X) (J.unwish.ofH I.ok) hN hi hk fun s7 J7 => ⟨v, _, H2, J7, r, q⟩
end L2

set_option maxHeartbeats 4000000
namespace My
open PySem PySem.Spec PyProof.Rows L2
def top (i : Nat) : Stmt := PySem.Challenge.pw_shutpairs_k15_places_among_the_kept.main.body.getD i (.Pass ⟨0, 0, 0, 0⟩)
abbrev s_refuse_beyond : Stmt := top 23
abbrev s_sum_of : Stmt := top 25
abbrev s_often : Stmt := top 26
abbrev s_lies_in : Stmt := top 27
abbrev s_all_in : Stmt := top 29
abbrev s_first_in : Stmt := top 30
abbrev s_NotKept___init__ : Stmt := inClass (top 7) 0
abbrev s_refuse_unkept : Stmt := top 32
abbrev s_keeps : Stmt := top 31
abbrev s_partings_to : Stmt := top 35
abbrev s_partings_of : Stmt := top 36
abbrev s_kept_of : Stmt := top 37
abbrev s_place_of : Stmt := top 38
abbrev s_told_at : Stmt := top 39
abbrev s__law_start : Stmt := top 41
abbrev s__law_mix : Stmt := top 43
abbrev s__law_draw : Stmt := top 42
abbrev s__law_lies : Stmt := top 45
abbrev s__law_first : Stmt := top 46
abbrev s__law_heap : Stmt := top 44
abbrev s__law_some_rule : Stmt := top 47
abbrev s__law_whole : Stmt := top 48
abbrev s__law_row : Stmt := top 49
abbrev s__law_partings : Stmt := top 50
abbrev s__law_kept : Stmt := top 51
abbrev s__law_one_class : Stmt := top 52
abbrev s__law_shut : Stmt := top 53
abbrev s__law_nowhere : Stmt := top 54
abbrev s__law_great : Stmt := top 55
abbrev s_law : Stmt := top 56
set_option genInjectivity false in
structure Adr where
  a_refuse_beyond : Addr
  fd_refuse_beyond : FuncData
  a_sum_of : Addr
  fd_sum_of : FuncData
  a_often : Addr
  fd_often : FuncData
  a_lies_in : Addr
  fd_lies_in : FuncData
  a_all_in : Addr
  fd_all_in : FuncData
  a_first_in : Addr
  fd_first_in : FuncData
  a_NotKept___init__ : Addr
  fd_NotKept___init__ : FuncData
  a_refuse_unkept : Addr
  fd_refuse_unkept : FuncData
  a_keeps : Addr
  fd_keeps : FuncData
  a_partings_to : Addr
  fd_partings_to : FuncData
  a_partings_of : Addr
  fd_partings_of : FuncData
  a_kept_of : Addr
  fd_kept_of : FuncData
  a_place_of : Addr
  fd_place_of : FuncData
  a_told_at : Addr
  fd_told_at : FuncData
  a__law_start : Addr
  fd__law_start : FuncData
  a__law_mix : Addr
  fd__law_mix : FuncData
  a__law_draw : Addr
  fd__law_draw : FuncData
  a__law_lies : Addr
  fd__law_lies : FuncData
  a__law_first : Addr
  fd__law_first : FuncData
  a__law_heap : Addr
  fd__law_heap : FuncData
  a__law_some_rule : Addr
  fd__law_some_rule : FuncData
  a__law_whole : Addr
  fd__law_whole : FuncData
  a__law_row : Addr
  fd__law_row : FuncData
  a__law_partings : Addr
  fd__law_partings : FuncData
  a__law_kept : Addr
  fd__law_kept : FuncData
  a__law_one_class : Addr
  fd__law_one_class : FuncData
  a__law_shut : Addr
  fd__law_shut : FuncData
  a__law_nowhere : Addr
  fd__law_nowhere : FuncData
  a__law_great : Addr
  fd__law_great : FuncData
  a_law : Addr
  fd_law : FuncData
  c_ShutError : Addr
  c_NoHeap : Addr
  c_NotIn : Addr
  c_NoText : Addr
  c_NoRule : Addr
  c_NoSum : Addr
  c_NotKept : Addr
  c_NoPlace : Addr
  c_NoPair : Addr
  c_NotSoMany : Addr
  c_Unmatched : Addr
  c_NotPaired : Addr
  c_TooLong : Addr
  c_NotStrict : Addr
  c_LeftOver : Addr
  c_NoBottom : Addr
  c_NoLanes : Addr
  c_TooGreat : Addr
  c_NoLine : Addr
  c_NoName : Addr
  c_NothingLeft : Addr
set_option genInjectivity false in
structure Txt (K : PySem.W.Frag) (mg : Str → Option Value) (A : Adr) : Prop where
  F_refuse_beyond : Fun K "refuse_beyond" "refuse_beyond" s_refuse_beyond A.a_refuse_beyond A.fd_refuse_beyond
  b_refuse_beyond : Binds K A.fd_refuse_beyond ["n", "most"] []
  g_refuse_beyond : mg "refuse_beyond" = some (.ref A.a_refuse_beyond)
  F_sum_of : Fun K "sum_of" "sum_of" s_sum_of A.a_sum_of A.fd_sum_of
  b_sum_of : Binds K A.fd_sum_of ["heap"] []
  g_sum_of : mg "sum_of" = some (.ref A.a_sum_of)
  F_often : Fun K "often" "often" s_often A.a_often A.fd_often
  b_often : Binds K A.fd_often ["heap", "part"] []
  g_often : mg "often" = some (.ref A.a_often)
  F_lies_in : Fun K "lies_in" "lies_in" s_lies_in A.a_lies_in A.fd_lies_in
  b_lies_in : Binds K A.fd_lies_in ["one", "other"] []
  g_lies_in : mg "lies_in" = some (.ref A.a_lies_in)
  F_all_in : Fun K "all_in" "all_in" s_all_in A.a_all_in A.fd_all_in
  b_all_in : Binds K A.fd_all_in ["rule", "heap"] []
  g_all_in : mg "all_in" = some (.ref A.a_all_in)
  F_first_in : Fun K "first_in" "first_in" s_first_in A.a_first_in A.fd_first_in
  b_first_in : Binds K A.fd_first_in ["rule", "heap"] []
  g_first_in : mg "first_in" = some (.ref A.a_first_in)
  F_NotKept___init__ : Fun K "__init__" "NotKept.__init__" s_NotKept___init__ A.a_NotKept___init__ A.fd_NotKept___init__
  b_NotKept___init__ : Binds K A.fd_NotKept___init__ ["self", "number"] []
  F_refuse_unkept : Fun K "refuse_unkept" "refuse_unkept" s_refuse_unkept A.a_refuse_unkept A.fd_refuse_unkept
  b_refuse_unkept : Binds K A.fd_refuse_unkept ["rule", "heap"] []
  g_refuse_unkept : mg "refuse_unkept" = some (.ref A.a_refuse_unkept)
  F_keeps : Fun K "keeps" "keeps" s_keeps A.a_keeps A.fd_keeps
  b_keeps : Binds K A.fd_keeps ["rule", "heap"] []
  g_keeps : mg "keeps" = some (.ref A.a_keeps)
  F_partings_to : Fun K "partings_to" "partings_to" s_partings_to A.a_partings_to A.fd_partings_to
  b_partings_to : Binds K A.fd_partings_to ["n", "greatest"] []
  g_partings_to : mg "partings_to" = some (.ref A.a_partings_to)
  F_partings_of : Fun K "partings_of" "partings_of" s_partings_of A.a_partings_of A.fd_partings_of
  b_partings_of : Binds K A.fd_partings_of ["n"] []
  g_partings_of : mg "partings_of" = some (.ref A.a_partings_of)
  F_kept_of : Fun K "kept_of" "kept_of" s_kept_of A.a_kept_of A.fd_kept_of
  b_kept_of : Binds K A.fd_kept_of ["rule", "n"] []
  g_kept_of : mg "kept_of" = some (.ref A.a_kept_of)
  F_place_of : Fun K "place_of" "place_of" s_place_of A.a_place_of A.fd_place_of
  b_place_of : Binds K A.fd_place_of ["rule", "heap"] []
  g_place_of : mg "place_of" = some (.ref A.a_place_of)
  F_told_at : Fun K "told_at" "told_at" s_told_at A.a_told_at A.fd_told_at
  b_told_at : Binds K A.fd_told_at ["rule", "n", "place"] []
  g_told_at : mg "told_at" = some (.ref A.a_told_at)
  F__law_start : Fun K "_law_start" "_law_start" s__law_start A.a__law_start A.fd__law_start
  b__law_start : Binds K A.fd__law_start ["_law_script"] []
  g__law_start : mg "_law_start" = some (.ref A.a__law_start)
  F__law_mix : Fun K "_law_mix" "_law_mix" s__law_mix A.a__law_mix A.fd__law_mix
  b__law_mix : Binds K A.fd__law_mix ["_law_state"] []
  g__law_mix : mg "_law_mix" = some (.ref A.a__law_mix)
  F__law_draw : Fun K "_law_draw" "_law_draw" s__law_draw A.a__law_draw A.fd__law_draw
  b__law_draw : Binds K A.fd__law_draw ["_law_state", "_law_many"] []
  g__law_draw : mg "_law_draw" = some (.ref A.a__law_draw)
  F__law_lies : Fun K "_law_lies" "_law_lies" s__law_lies A.a__law_lies A.fd__law_lies
  b__law_lies : Binds K A.fd__law_lies ["_law_one", "_law_other"] []
  g__law_lies : mg "_law_lies" = some (.ref A.a__law_lies)
  F__law_first : Fun K "_law_first" "_law_first" s__law_first A.a__law_first A.fd__law_first
  b__law_first : Binds K A.fd__law_first ["_law_rule", "_law_heap_here"] []
  g__law_first : mg "_law_first" = some (.ref A.a__law_first)
  F__law_heap : Fun K "_law_heap" "_law_heap" s__law_heap A.a__law_heap A.fd__law_heap
  b__law_heap : Binds K A.fd__law_heap ["_law_state", "_law_size", "_law_top"] []
  g__law_heap : mg "_law_heap" = some (.ref A.a__law_heap)
  F__law_some_rule : Fun K "_law_some_rule" "_law_some_rule" s__law_some_rule A.a__law_some_rule A.fd__law_some_rule
  b__law_some_rule : Binds K A.fd__law_some_rule ["_law_state"] []
  g__law_some_rule : mg "_law_some_rule" = some (.ref A.a__law_some_rule)
  F__law_whole : Fun K "_law_whole" "_law_whole" s__law_whole A.a__law_whole A.fd__law_whole
  b__law_whole : Binds K A.fd__law_whole ["_law_found"] []
  g__law_whole : mg "_law_whole" = some (.ref A.a__law_whole)
  F__law_row : Fun K "_law_row" "_law_row" s__law_row A.a__law_row A.fd__law_row
  b__law_row : Binds K A.fd__law_row ["_law_found"] []
  g__law_row : mg "_law_row" = some (.ref A.a__law_row)
  F__law_partings : Fun K "_law_partings" "_law_partings" s__law_partings A.a__law_partings A.fd__law_partings
  b__law_partings : Binds K A.fd__law_partings ["_law_n", "_law_top"] []
  g__law_partings : mg "_law_partings" = some (.ref A.a__law_partings)
  F__law_kept : Fun K "_law_kept" "_law_kept" s__law_kept A.a__law_kept A.fd__law_kept
  b__law_kept : Binds K A.fd__law_kept ["_law_rule", "_law_n"] []
  g__law_kept : mg "_law_kept" = some (.ref A.a__law_kept)
  F__law_one_class : Fun K "_law_one_class" "_law_one_class" s__law_one_class A.a__law_one_class A.fd__law_one_class
  b__law_one_class : Binds K A.fd__law_one_class ["_law_error"] []
  g__law_one_class : mg "_law_one_class" = some (.ref A.a__law_one_class)
  F__law_shut : Fun K "_law_shut" "_law_shut" s__law_shut A.a__law_shut A.fd__law_shut
  b__law_shut : Binds K A.fd__law_shut ["_law_rule", "_law_heap_here"] []
  g__law_shut : mg "_law_shut" = some (.ref A.a__law_shut)
  F__law_nowhere : Fun K "_law_nowhere" "_law_nowhere" s__law_nowhere A.a__law_nowhere A.fd__law_nowhere
  b__law_nowhere : Binds K A.fd__law_nowhere ["_law_rule", "_law_n", "_law_place"] []
  g__law_nowhere : mg "_law_nowhere" = some (.ref A.a__law_nowhere)
  F__law_great : Fun K "_law_great" "_law_great" s__law_great A.a__law_great A.fd__law_great
  b__law_great : Binds K A.fd__law_great ["_law_state"] []
  g__law_great : mg "_law_great" = some (.ref A.a__law_great)
  F_law : Fun K "law" "law" s_law A.a_law A.fd_law
  b_law : Binds K A.fd_law ["_law_script"] []
  g_law : mg "law" = some (.ref A.a_law)
  b_ValueError : mg "ValueError" = none
  b_all : mg "all" = none
  b_bool : mg "bool" = none
  b_enumerate : mg "enumerate" = none
  b_int : mg "int" = none
  b_isinstance : mg "isinstance" = none
  b_len : mg "len" = none
  b_min : mg "min" = none
  b_range : mg "range" = none
  b_sorted : mg "sorted" = none
  b_sum : mg "sum" = none
  b_tuple : mg "tuple" = none
  v_MOST_LISTED : ∃ t, mg "MOST_LISTED" = some (.int 24 t)
  kin : ∃ h, K.In h
  g_ShutError : mg "ShutError" = some (.ref A.c_ShutError)
  g_NoHeap : mg "NoHeap" = some (.ref A.c_NoHeap)
  g_NotIn : mg "NotIn" = some (.ref A.c_NotIn)
  g_NoText : mg "NoText" = some (.ref A.c_NoText)
  g_NoRule : mg "NoRule" = some (.ref A.c_NoRule)
  g_NoSum : mg "NoSum" = some (.ref A.c_NoSum)
  g_NotKept : mg "NotKept" = some (.ref A.c_NotKept)
  g_NoPlace : mg "NoPlace" = some (.ref A.c_NoPlace)
  g_NoPair : mg "NoPair" = some (.ref A.c_NoPair)
  g_NotSoMany : mg "NotSoMany" = some (.ref A.c_NotSoMany)
  g_Unmatched : mg "Unmatched" = some (.ref A.c_Unmatched)
  g_NotPaired : mg "NotPaired" = some (.ref A.c_NotPaired)
  g_TooLong : mg "TooLong" = some (.ref A.c_TooLong)
  g_NotStrict : mg "NotStrict" = some (.ref A.c_NotStrict)
  g_LeftOver : mg "LeftOver" = some (.ref A.c_LeftOver)
  g_NoBottom : mg "NoBottom" = some (.ref A.c_NoBottom)
  g_NoLanes : mg "NoLanes" = some (.ref A.c_NoLanes)
  g_TooGreat : mg "TooGreat" = some (.ref A.c_TooGreat)
  g_NoLine : mg "NoLine" = some (.ref A.c_NoLine)
  g_NoName : mg "NoName" = some (.ref A.c_NoName)
  g_NothingLeft : mg "NothingLeft" = some (.ref A.c_NothingLeft)
  x_NoPlace : ExcC K A.c_NoPlace
  x_NoSum : ExcC K A.c_NoSum
  e_NoSum : ClsE K A.c_NoSum
  t_NoSum_NoSum : PySem.W.mroIn K A.c_NoSum (.ref A.c_NoSum) = some true
  n_NoSum_NotKept : PySem.W.mroIn K A.c_NoSum (.ref A.c_NotKept) = some false
  n_NoSum_NoPlace : PySem.W.mroIn K A.c_NoSum (.ref A.c_NoPlace) = some false
  i_NoSum_LeftOver : PySem.W.kitOne K (.ref A.c_NoSum) (.ref A.c_LeftOver) = some false
  i_NoSum_NoBottom : PySem.W.kitOne K (.ref A.c_NoSum) (.ref A.c_NoBottom) = some false
  i_NoSum_NoHeap : PySem.W.kitOne K (.ref A.c_NoSum) (.ref A.c_NoHeap) = some false
  i_NoSum_NoLanes : PySem.W.kitOne K (.ref A.c_NoSum) (.ref A.c_NoLanes) = some false
  i_NoSum_NoLine : PySem.W.kitOne K (.ref A.c_NoSum) (.ref A.c_NoLine) = some false
  i_NoSum_NoName : PySem.W.kitOne K (.ref A.c_NoSum) (.ref A.c_NoName) = some false
  i_NoSum_NoPair : PySem.W.kitOne K (.ref A.c_NoSum) (.ref A.c_NoPair) = some false
  i_NoSum_NoPlace : PySem.W.kitOne K (.ref A.c_NoSum) (.ref A.c_NoPlace) = some false
  i_NoSum_NoRule : PySem.W.kitOne K (.ref A.c_NoSum) (.ref A.c_NoRule) = some false
  i_NoSum_NoSum : PySem.W.kitOne K (.ref A.c_NoSum) (.ref A.c_NoSum) = some true
  i_NoSum_NoText : PySem.W.kitOne K (.ref A.c_NoSum) (.ref A.c_NoText) = some false
  i_NoSum_NotIn : PySem.W.kitOne K (.ref A.c_NoSum) (.ref A.c_NotIn) = some false
  i_NoSum_NotKept : PySem.W.kitOne K (.ref A.c_NoSum) (.ref A.c_NotKept) = some false
  i_NoSum_NotPaired : PySem.W.kitOne K (.ref A.c_NoSum) (.ref A.c_NotPaired) = some false
  i_NoSum_NotSoMany : PySem.W.kitOne K (.ref A.c_NoSum) (.ref A.c_NotSoMany) = some false
  i_NoSum_NotStrict : PySem.W.kitOne K (.ref A.c_NoSum) (.ref A.c_NotStrict) = some false
  i_NoSum_NothingLeft : PySem.W.kitOne K (.ref A.c_NoSum) (.ref A.c_NothingLeft) = some false
  i_NoSum_ShutError : PySem.W.kitOne K (.ref A.c_NoSum) (.ref A.c_ShutError) = some true
  i_NoSum_TooGreat : PySem.W.kitOne K (.ref A.c_NoSum) (.ref A.c_TooGreat) = some false
  i_NoSum_TooLong : PySem.W.kitOne K (.ref A.c_NoSum) (.ref A.c_TooLong) = some false
  i_NoSum_Unmatched : PySem.W.kitOne K (.ref A.c_NoSum) (.ref A.c_Unmatched) = some false
  i_NoSum_ValueError : PySem.W.kitOne K (.ref A.c_NoSum) (.type "ValueError") = some true
  e_NotKept : ClsE K A.c_NotKept
  t_NotKept_NotKept : PySem.W.mroIn K A.c_NotKept (.ref A.c_NotKept) = some true
  n_NotKept_NoSum : PySem.W.mroIn K A.c_NotKept (.ref A.c_NoSum) = some false
  n_NotKept_NoPlace : PySem.W.mroIn K A.c_NotKept (.ref A.c_NoPlace) = some false
  i_NotKept_LeftOver : PySem.W.kitOne K (.ref A.c_NotKept) (.ref A.c_LeftOver) = some false
  i_NotKept_NoBottom : PySem.W.kitOne K (.ref A.c_NotKept) (.ref A.c_NoBottom) = some false
  i_NotKept_NoHeap : PySem.W.kitOne K (.ref A.c_NotKept) (.ref A.c_NoHeap) = some false
  i_NotKept_NoLanes : PySem.W.kitOne K (.ref A.c_NotKept) (.ref A.c_NoLanes) = some false
  i_NotKept_NoLine : PySem.W.kitOne K (.ref A.c_NotKept) (.ref A.c_NoLine) = some false
  i_NotKept_NoName : PySem.W.kitOne K (.ref A.c_NotKept) (.ref A.c_NoName) = some false
  i_NotKept_NoPair : PySem.W.kitOne K (.ref A.c_NotKept) (.ref A.c_NoPair) = some false
  i_NotKept_NoPlace : PySem.W.kitOne K (.ref A.c_NotKept) (.ref A.c_NoPlace) = some false
  i_NotKept_NoRule : PySem.W.kitOne K (.ref A.c_NotKept) (.ref A.c_NoRule) = some false
  i_NotKept_NoSum : PySem.W.kitOne K (.ref A.c_NotKept) (.ref A.c_NoSum) = some false
  i_NotKept_NoText : PySem.W.kitOne K (.ref A.c_NotKept) (.ref A.c_NoText) = some false
  i_NotKept_NotIn : PySem.W.kitOne K (.ref A.c_NotKept) (.ref A.c_NotIn) = some false
  i_NotKept_NotKept : PySem.W.kitOne K (.ref A.c_NotKept) (.ref A.c_NotKept) = some true
  i_NotKept_NotPaired : PySem.W.kitOne K (.ref A.c_NotKept) (.ref A.c_NotPaired) = some false
  i_NotKept_NotSoMany : PySem.W.kitOne K (.ref A.c_NotKept) (.ref A.c_NotSoMany) = some false
  i_NotKept_NotStrict : PySem.W.kitOne K (.ref A.c_NotKept) (.ref A.c_NotStrict) = some false
  i_NotKept_NothingLeft : PySem.W.kitOne K (.ref A.c_NotKept) (.ref A.c_NothingLeft) = some false
  i_NotKept_ShutError : PySem.W.kitOne K (.ref A.c_NotKept) (.ref A.c_ShutError) = some true
  i_NotKept_TooGreat : PySem.W.kitOne K (.ref A.c_NotKept) (.ref A.c_TooGreat) = some false
  i_NotKept_TooLong : PySem.W.kitOne K (.ref A.c_NotKept) (.ref A.c_TooLong) = some false
  i_NotKept_Unmatched : PySem.W.kitOne K (.ref A.c_NotKept) (.ref A.c_Unmatched) = some false
  i_NotKept_ValueError : PySem.W.kitOne K (.ref A.c_NotKept) (.type "ValueError") = some true
  e_NoPlace : ClsE K A.c_NoPlace
  t_NoPlace_NoPlace : PySem.W.mroIn K A.c_NoPlace (.ref A.c_NoPlace) = some true
  n_NoPlace_NoSum : PySem.W.mroIn K A.c_NoPlace (.ref A.c_NoSum) = some false
  n_NoPlace_NotKept : PySem.W.mroIn K A.c_NoPlace (.ref A.c_NotKept) = some false
  i_NoPlace_LeftOver : PySem.W.kitOne K (.ref A.c_NoPlace) (.ref A.c_LeftOver) = some false
  i_NoPlace_NoBottom : PySem.W.kitOne K (.ref A.c_NoPlace) (.ref A.c_NoBottom) = some false
  i_NoPlace_NoHeap : PySem.W.kitOne K (.ref A.c_NoPlace) (.ref A.c_NoHeap) = some false
  i_NoPlace_NoLanes : PySem.W.kitOne K (.ref A.c_NoPlace) (.ref A.c_NoLanes) = some false
  i_NoPlace_NoLine : PySem.W.kitOne K (.ref A.c_NoPlace) (.ref A.c_NoLine) = some false
  i_NoPlace_NoName : PySem.W.kitOne K (.ref A.c_NoPlace) (.ref A.c_NoName) = some false
  i_NoPlace_NoPair : PySem.W.kitOne K (.ref A.c_NoPlace) (.ref A.c_NoPair) = some false
  i_NoPlace_NoPlace : PySem.W.kitOne K (.ref A.c_NoPlace) (.ref A.c_NoPlace) = some true
  i_NoPlace_NoRule : PySem.W.kitOne K (.ref A.c_NoPlace) (.ref A.c_NoRule) = some false
  i_NoPlace_NoSum : PySem.W.kitOne K (.ref A.c_NoPlace) (.ref A.c_NoSum) = some false
  i_NoPlace_NoText : PySem.W.kitOne K (.ref A.c_NoPlace) (.ref A.c_NoText) = some false
  i_NoPlace_NotIn : PySem.W.kitOne K (.ref A.c_NoPlace) (.ref A.c_NotIn) = some false
  i_NoPlace_NotKept : PySem.W.kitOne K (.ref A.c_NoPlace) (.ref A.c_NotKept) = some false
  i_NoPlace_NotPaired : PySem.W.kitOne K (.ref A.c_NoPlace) (.ref A.c_NotPaired) = some false
  i_NoPlace_NotSoMany : PySem.W.kitOne K (.ref A.c_NoPlace) (.ref A.c_NotSoMany) = some false
  i_NoPlace_NotStrict : PySem.W.kitOne K (.ref A.c_NoPlace) (.ref A.c_NotStrict) = some false
  i_NoPlace_NothingLeft : PySem.W.kitOne K (.ref A.c_NoPlace) (.ref A.c_NothingLeft) = some false
  i_NoPlace_ShutError : PySem.W.kitOne K (.ref A.c_NoPlace) (.ref A.c_ShutError) = some true
  i_NoPlace_TooGreat : PySem.W.kitOne K (.ref A.c_NoPlace) (.ref A.c_TooGreat) = some false
  i_NoPlace_TooLong : PySem.W.kitOne K (.ref A.c_NoPlace) (.ref A.c_TooLong) = some false
  i_NoPlace_Unmatched : PySem.W.kitOne K (.ref A.c_NoPlace) (.ref A.c_Unmatched) = some false
  i_NoPlace_ValueError : PySem.W.kitOne K (.ref A.c_NoPlace) (.type "ValueError") = some true
  xi_NotKept : ExcI K A.c_NotKept A.a_NotKept___init__
  cx_NotKept : ClsX K A.c_NotKept
  na_NotKept_number : NoAttr K A.c_NotKept "number"
section
variable {P : Program} {w : World} {K : PySem.W.Frag} {mg : Str → Option Value} {base : Heap} {A : Adr}
def n_refuse_beyond : List Str := ["n", "most"]
theorem sc_refuse_beyond : FnScope n_refuse_beyond ["n", "most"] (defScope s_refuse_beyond) := ⟨rfl, rfl, rfl, by decide +kernel, rfl, by decide +kernel, by decide +kernel⟩
def sp_refuse (A : Adr) : Sp := fun vs H Q E => ∃ (n m : Int), vs = [.int n, .int m] ∧ (0 ≤ m ∧ m ≤ 400) ∧ ((0 ≤ n ∧ n ≤ m ∧ Q .non H) ∨ ((n < 0 ∨ m < n) ∧ E (.ref A.c_NoSum) none H))
theorem num_len : ∀ k : Nat, k ≤ 400 → (PySem.Str.ofString "the number is not one from 0 to " ++ (toString ((k : Nat) : Int) : Str)).length ≤ 100 := by decide +kernel
theorem num_log : ∀ k : Nat, k ≤ 400 → k.log2 < 1920 := by decide +kernel
theorem ok_refuse_beyond (T : Txt K mg A) : FnOk P w K mg base (CX1 P w) 1 A.a_refuse_beyond A.fd_refuse_beyond ["n", "most"] (sp_refuse A) := by
  refine T.F_refuse_beyond.okE sc_refuse_beyond (fun vs H Q E h => ?_) (fun cdv Ar outer s H vs Q E hr h => ?_)
  · obtain ⟨n, m, rfl, hm, h⟩ := h
    rfl
  · obtain ⟨n, m, rfl, hm, h⟩ := h
    refine ⟨_, (pss_one (ps_if (PW.pt (pw_or (pt_cmpR op_lt (pv 0) pe_int (nomark _)) (pw_or1 (pt_cmpR op_gt (pv 0) (pv 1) (nomark _)))))
          (pss_one (ps_raise rfl T.x_NoSum rfl T.g_NoSum (pa_cons (pe_fstr (by decide +kernel) (pv 1)) pa_nil))) pss_nil)), ?_⟩
    have raise : (n < 0 ∨ m < n) → E (.ref A.c_NoSum) none H := fun hb => by
      rcases h with ⟨h1, h2, _⟩ | ⟨_, hE⟩
      · omega
      · exact hE
    obtain ⟨j, rfl⟩ : ∃ j : Nat, m = (j : Int) := ⟨m.toNat, by omega⟩
    have fin : (n < 0 ∨ (j : Int) < n) → ∃ i, V.int (j : Int) = V.int i ∧ i.natAbs.log2 < 1920 ∧ (PySem.Str.ofString "the number is not one from 0 to " ++ (toString i : Str)).length ≤ sizeLine ∧ [V.str (PySem.Str.ofString "the number is not one from 0 to " ++ (toString i : Str))].length ≤ sizeLine ∧ E (.ref A.c_NoSum) none H := fun hb =>
      ⟨(j : Int), rfl, by rw [Int.natAbs_natCast]; exact num_log j (by omega), Nat.le_trans (num_len j (by omega)) (by decide), by show 1 ≤ sizeLine; decide, raise hb⟩
    refine ⟨_, rfl, _, _, rfl, rfl, _, rfl, ?_⟩
    refine ite2 (fun hc => ?_) (fun hc => ?_)
    · exact iteT ⟨_, rfl, fin (.inl (of_decide_eq_true hc))⟩
    · refine ⟨_, rfl, _, rfl, _, _, rfl, rfl, _, rfl, ?_⟩
      refine ite2 (fun hc2 => ⟨_, rfl, fin (.inr (of_decide_eq_true hc2))⟩) (fun hc2 => ?_)
      rcases h with ⟨_, _, q⟩ | ⟨hb, _⟩
      · exact q
      · have c1 : ¬ n < 0 := fun z => hc (decide_eq_true z)
        have c2 : ¬ (j : Int) < n := fun z => hc2 (decide_eq_true z)
        omega
def n_sum_of : List Str := ["heap"]
theorem sc_sum_of : FnScope n_sum_of ["heap"] (defScope s_sum_of) := ⟨rfl, rfl, rfl, by decide +kernel, rfl, by decide +kernel, by decide +kernel⟩
def sp_sum_of (K : PySem.W.Frag) : Sp := fun vs H Q _ => ∃ (a : Addr) (ns : List Int), vs = [.ref a] ∧ SqT K H a (ns.map V.int) ∧ Q (.int ns.sum) H
theorem ok_sum_of (T : Txt K mg A) : FnOk P w K mg base CX0 1 A.a_sum_of A.fd_sum_of ["heap"] (sp_sum_of K) := by
  refine T.F_sum_of.ok sc_sum_of (fun vs H Q E h => ?_) (fun cdv Ar outer s H vs Q E hr h => ?_)
  · obtain ⟨a, ns, rfl, hS, k⟩ := h
    rfl
  · obtain ⟨a, ns, rfl, hS, k⟩ := h
    refine ⟨_, (pss_one (ps_ret (pe_callB (call_sum_ints rfl) rfl T.b_sum boot_sum (pa_cons (pv 0) pa_nil)))), ?_⟩
    exact ⟨_, rfl, a, ns, rfl, .inr hS, k⟩
def n_often : List Str := ["heap", "part"]
theorem sc_often : FnScope n_often ["heap", "part"] (defScope s_often) := ⟨rfl, rfl, rfl, by decide +kernel, rfl, by decide +kernel, by decide +kernel⟩
def sp_often (K : PySem.W.Frag) : Sp := fun vs H Q _ => ∃ (a : Addr) (ns : List Int) (y : Int), vs = [.ref a, .int y] ∧ H a = some (.tup (ns.map V.int)) ∧ Q (.int (ns.count y : Nat)) H
theorem ok_often (T : Txt K mg A) : FnOk P w K mg base CX0 1 A.a_often A.fd_often ["heap", "part"] (sp_often K) := by
  refine T.F_often.ok sc_often (fun vs H Q E h => ?_) (fun cdv Ar outer s H vs Q E hr h => ?_)
  · obtain ⟨a, ns, y, rfl, hS, k⟩ := h
    rfl
  · obtain ⟨a, ns, y, rfl, hS, k⟩ := h
    refine ⟨_, (pss_one (ps_ret (pe_bm PySem.F.plainAttrs_tuple PySem.F.slot_tuple_count PySem.F.type_tuple_count mt_countT (pv 0) (pa_cons (pv 1) pa_nil)))), ?_⟩
    exact ⟨_, rfl, .inr (.inl ⟨rfl, .inr ⟨_, hS⟩⟩), _, rfl, a, _, _, rfl, rfl, SqT.of hS, rfl, flat_ints _, by rw [cntV_ints]; exact k⟩
def n_lies_in : List Str := ["one", "other", "part"]
theorem sc_lies_in : FnScope n_lies_in ["one", "other"] (defScope s_lies_in) := ⟨rfl, rfl, rfl, by decide +kernel, rfl, by decide +kernel, by decide +kernel⟩
def sp_lies_in : Sp := fun vs H Q _ => ∃ (a b : Addr) (ns ms : List Int), vs = [.ref a, .ref b] ∧ H a = some (.tup (ns.map V.int)) ∧ H b = some (.tup (ms.map V.int)) ∧ Q (.bl (lies ns ms)) H
theorem ok_lies_in (T : Txt K mg A) : FnOk P w K mg base CX0 2 A.a_lies_in A.fd_lies_in ["one", "other"] sp_lies_in := by
  refine T.F_lies_in.ok sc_lies_in (fun vs H Q E h => ?_) (fun cdv Ar outer s H vs Q E hr h => ?_)
  · obtain ⟨a, b, ns, ms, rfl, ha, hb, k⟩ := h
    rfl
  · obtain ⟨a, b, ns, ms, rfl, ha, hb, k⟩ := h
    refine ⟨_, (pss_cons (ps_for PassesOwn.never rfl (pi_tup (pv 0)) (pg_name (i := 2) sc_lies_in.nd rfl (by first | exact Or.inl rfl | exact Or.inr rfl))
          (pss_one (ps_if (pt_cmpR op_lt (pe_call (ok_often T) (hr.mono (by decide)) rfl T.g_often T.F_often.kp T.b_often .nil pass0 (pa_cons (pv 1) (pa_cons (pv 2) pa_nil))) (pe_call (ok_often T) (hr.mono (by decide)) rfl T.g_often T.F_often.kp T.b_often .nil pass0 (pa_cons (pv 0) (pa_cons (pv 2) pa_nil))) (nomark _))
          (pss_one (ps_ret pe_bl)) pss_nil)))
        (pss_one (ps_ret pe_bl))), ?_⟩
    refine ⟨_, rfl, a, rfl, ⟨_, SqT.of ha⟩, for_tup (xs := ns.map V.int) (fun i σ' H' => H' = H ∧ (∃ v, σ' = [some (.ref a), some (.ref b), v]) ∧ (ns.take i).all (fun x => decide (ns.count x ≤ ms.count x)) = true) ⟨rfl, ⟨_, rfl⟩, rfl⟩ ?_ ?_ ?_⟩
    · rintro i σ' H' _ ⟨rfl, _⟩
      exact SqT.of ha
    · rintro i x σ' H' hx ⟨rfl, ⟨v, rfl⟩, hall⟩
      obtain ⟨z, hz, rfl⟩ := map_at hx
      refine ⟨_, rfl, _, rfl, b, ms, z, rfl, hb, ?_⟩
      refine ⟨_, rfl, _, rfl, a, ns, z, rfl, ha, ?_⟩
      refine ⟨_, _, rfl, rfl, _, rfl, ?_⟩
      refine ite2 (fun hlt => ?_) (fun hlt => ⟨rfl, ⟨_, rfl⟩, ?_⟩)
      · have h1 : lies ns ms = false := all_false (List.mem_of_getElem? hz) (by
          have := of_decide_eq_true hlt
          exact decide_eq_false (by omega))
        rw [h1] at k
        exact k
      · rw [all_take hz, hall, Bool.true_and]
        refine decide_eq_true ?_
        have : ¬ ((ms.count z : Nat) : Int) < ((ns.count z : Nat) : Int) := fun q => hlt (decide_eq_true q)
        omega
    · rintro σ' H' ⟨rfl, _, hall⟩
      rw [List.length_map, List.take_length] at hall
      have h1 : lies ns ms = true := hall
      rw [h1] at k
      exact k
def n_all_in : List Str := ["rule", "heap"]
theorem sc_all_in : FnScope n_all_in ["rule", "heap"] (defScope s_all_in) := ⟨rfl, rfl, rfl, by decide +kernel, rfl, by decide +kernel, by decide +kernel⟩
def sp_all_in : Sp := fun vs H Q _ => ∃ (p q : Addr) (rs : List V) (rule : List (List Int)) (hs : List Int), vs = [.ref p, .ref q] ∧ H p = some (.tup rs) ∧ All2 Tup1 H rule rs ∧ H q = some (.tup (hs.map V.int)) ∧ rule.length ≤ 60 ∧
  ∀ (l : Addr) (H' : Hp), H' l = some (.lst ((idxG rule hs).map V.int)) → Same H H' → H l = none → Q (.ref l) H'
theorem ok_all_in (T : Txt K mg A) : FnOk P w K mg base CX0 3 A.a_all_in A.fd_all_in ["rule", "heap"] sp_all_in := by
  refine T.F_all_in.ok sc_all_in (fun vs H Q E h => ?_) (fun cdv Ar outer s H vs Q E hr h => ?_)
  · obtain ⟨p, q, rs, rule, hs, rfl, hp, h2, hq, hln, k⟩ := h
    rfl
  · obtain ⟨p, q, rs, rule, hs, rfl, hp, h2, hq, hln, k⟩ := h
    refine ⟨_, (pss_one (ps_ret (pe_comp (ls := ["number", "shut"]) (fr := [("heap", 1)]) (cs_of (defScope s_all_in) n_all_in rfl rfl (by decide +kernel)) rfl (pi_enum true rfl T.b_enumerate (pa_cons (pv 0) pa_nil)) (fun _ _ _ _ => pg_tupC 2 rfl (pgs_cons (pgc (ls := ["number", "shut"]) (fr := [("heap", 1)]) 0 (by decide +kernel) rfl rfl) (pgs_cons (pgc (ls := ["number", "shut"]) (fr := [("heap", 1)]) 1 (by decide +kernel) rfl rfl) pgs_nil)) rfl rfl) (fun _ _ _ _ => pf_one (pt_truthK K rfl (pe_call (ok_lies_in T) (hr.mono (by decide)) (glc (defScope s_all_in)) T.g_lies_in T.F_lies_in.kp T.b_lies_in .nil pass0 (pa_cons (pvc (defScope s_all_in) 1) (pa_cons (pvc (defScope s_all_in) 2) pa_nil))) (fun _ => rfl))) (fun _ _ _ _ => (pvc (defScope s_all_in) 0))))), ?_⟩
    refine ⟨_, rfl, p, rfl, ⟨_, SqT.of hp⟩, comp_enum (k := true) (xs := rs) (fun i zs σ' H' => Same H H' ∧ (∃ v w, σ' = [v, w, some (.ref q)]) ∧ zs = (idxP rule hs i).map V.int) ⟨fun _ _ h => h, ⟨_, _, rfl⟩, rfl⟩ ?_ ?_ ?_⟩
    · rintro i zs σ' H' hi ⟨s, _, rfl⟩
      refine ⟨SqT.of (s _ _ hp), ?_⟩
      rw [List.length_map]
      have h1 := idxP_len rule hs i
      have h2 := h2.length
      exact small64 (by omega)
    · rintro i x zs σ' H' T' hx ⟨s, ⟨v, w', rfl⟩, rfl⟩ hT
      obtain ⟨hs1, hh1, q1, rfl, hq1⟩ := h2.get hx
      have hi := (List.getElem?_eq_some_iff.mp hh1).1
      have e1 : rule.getD i [] = hs1 := by simp [hh1]
      refine ⟨T', _, rfl, SqT.of upd_same, rfl, _, _, rfl, _, _, rfl, rfl, ?_⟩
      have sn := s.trans (Same.new (o := .tup [.int i, .ref q1]) hT)
      refine ⟨_, rfl, _, rfl, q1, q, hs1, hs, rfl, sn _ _ hq1, sn _ _ hq, ?_⟩
      refine ⟨_, rfl, ?_⟩
      refine ite2 (fun hc => ⟨_, rfl, sn, ⟨_, _, rfl⟩, ?_⟩) (fun hc => ⟨sn, ⟨_, _, rfl⟩, ?_⟩)
      · rw [idxP_succ, e1, if_pos hc, List.map_append]
        rfl
      · rw [idxP_succ, e1, if_neg hc, List.append_nil]
    · rintro zs σ' H' ⟨s, _, rfl⟩ l hl
      rw [← h2.length]
      exact k l _ upd_same (s.trans (Same.new hl)) (s.free hl)
def n_first_in : List Str := ["rule", "heap"]
theorem sc_first_in : FnScope n_first_in ["rule", "heap"] (defScope s_first_in) := ⟨rfl, rfl, rfl, by decide +kernel, rfl, by decide +kernel, by decide +kernel⟩
def sp_first_in : Sp := fun vs H Q _ => ∃ (p q : Addr) (rs : List V) (rule : List (List Int)) (hs : List Int), vs = [.ref p, .ref q] ∧ H p = some (.tup rs) ∧ All2 Tup1 H rule rs ∧ H q = some (.tup (hs.map V.int)) ∧ rule.length ≤ 60 ∧
  ∀ (H' : Hp), Same H H' → Q (optV (firstG rule hs)) H'
theorem ok_first_in (T : Txt K mg A) : FnOk P w K mg base CX0 4 A.a_first_in A.fd_first_in ["rule", "heap"] sp_first_in := by
  refine T.F_first_in.ok sc_first_in (fun vs H Q E h => ?_) (fun cdv Ar outer s H vs Q E hr h => ?_)
  · obtain ⟨p, q, rs, rule, hs, rfl, hp, h2, hq, hln, k⟩ := h
    rfl
  · obtain ⟨p, q, rs, rule, hs, rfl, hp, h2, hq, hln, k⟩ := h
    refine ⟨_, (pss_one (ps_ret (pe_minD false rfl rfl T.b_min (pe_call (ok_all_in T) (hr.mono (by decide)) rfl T.g_all_in T.F_all_in.kp T.b_all_in .nil pass0 (pa_cons (pv 0) (pa_cons (pv 1) pa_nil))) pe_non))), ?_⟩
    refine ⟨_, rfl, _, rfl, p, q, rs, rule, hs, rfl, hp, h2, hq, hln, fun l H' hl s nl => ?_⟩
    refine ⟨l, idxG rule hs, rfl, SqL.of hl, fun v hv => ?_⟩
    rcases hv with ⟨e, rfl⟩ | ⟨m, rfl, hm⟩
    · have := k H' s
      rw [first_none e] at this
      exact this
    · have e : firstG rule hs = some m := idxP_head rule hs rule.length m hm
      have := k H' s
      rw [e] at this
      exact this
def n_NotKept___init__ : List Str := ["self", "number"]
theorem sc_NotKept___init__ : FnScope n_NotKept___init__ ["self", "number"] (defScope s_NotKept___init__) := ⟨rfl, rfl, rfl, by decide +kernel, rfl, by decide +kernel, by decide +kernel⟩
def sp_NotKept (A : Adr) : Sp := fun vs H Q _ => ∃ (e : Addr) (v : V), vs = [.ref e, v] ∧ H e = some (.ext (ExcM e A.c_NotKept none)) ∧ ∀ (dx : Addr) (H' : Hp), H dx = none → H' = upd (upd H e (.ext (ExcM e A.c_NotKept (some dx)))) dx (.xd [("number", v)]) → Q .non H'
theorem ok_NotKept___init__ (T : Txt K mg A) : FnOk P w K mg base CX0 1 A.a_NotKept___init__ A.fd_NotKept___init__ ["self", "number"] (sp_NotKept A) := by
  refine T.F_NotKept___init__.ok sc_NotKept___init__ (fun vs H Q E h => ?_) (fun cdv Ar outer s H vs Q E hr h => ?_)
  · obtain ⟨e, v, rfl, he, k⟩ := h
    rfl
  · obtain ⟨e, v, rfl, he, k⟩ := h
    refine ⟨_, (pss_one (ps_fldX (pv 0) (pv 1) rfl)), ?_⟩
    exact ⟨_, rfl, _, rfl, e, A.c_NotKept, rfl, he, T.cx_NotKept, T.na_NotKept_number, fun dx hdx => k dx _ hdx rfl⟩
def n_refuse_unkept : List Str := ["rule", "heap", "number"]
theorem sc_refuse_unkept : FnScope n_refuse_unkept ["rule", "heap"] (defScope s_refuse_unkept) := ⟨rfl, rfl, rfl, by decide +kernel, rfl, by decide +kernel, by decide +kernel⟩
def sp_unkept (A : Adr) : Sp := fun vs H Q E => ∃ (p q : Addr) (rs : List V) (rule : List (List Int)) (hs : List Int), vs = [.ref p, .ref q] ∧ H p = some (.tup rs) ∧ All2 Tup1 H rule rs ∧ H q = some (.tup (hs.map V.int)) ∧ rule.length ≤ 60 ∧
  ((firstG rule hs = none ∧ ∀ (H' : Hp), Same H H' → Q .non H') ∨ (∃ z, firstG rule hs = some z ∧ ∀ (dx : Addr) (H' : Hp), H' dx = some (.xd [("number", .int z)]) → Same H H' → E (.ref A.c_NotKept) (some dx) H'))
theorem ok_refuse_unkept (T : Txt K mg A) : FnOk P w K mg base (CX1 P w) 5 A.a_refuse_unkept A.fd_refuse_unkept ["rule", "heap"] (sp_unkept A) := by
  refine T.F_refuse_unkept.okE sc_refuse_unkept (fun vs H Q E h => ?_) (fun cdv Ar outer s H vs Q E hr h => ?_)
  · obtain ⟨p, q, rs, rule, hs, rfl, hp, h2, hq, hln, h⟩ := h
    rfl
  · obtain ⟨p, q, rs, rule, hs, rfl, hp, h2, hq, hln, h⟩ := h
    refine ⟨_, (pss_cons (ps_set (i := 2) sc_refuse_unkept.nd rfl (by first | exact Or.inl rfl | exact Or.inr rfl) (pe_call (ok_first_in T) (hr.mono (by decide)) rfl T.g_first_in T.F_first_in.kp T.b_first_in .nil pass0 (pa_cons (pv 0) (pa_cons (pv 1) pa_nil))))
        (pss_one (ps_if (pt_cmpR op_notN (pv 2) pe_non (nomark _))
          (pss_one (ps_raiseI rfl T.xi_NotKept (ok_NotKept___init__ T) (hr.mono (by decide)) T.b_NotKept___init__ rfl T.g_NotKept (pa_cons (pv 2) pa_nil))) pss_nil))), ?_⟩
    refine ⟨_, rfl, _, rfl, p, q, rs, rule, hs, rfl, hp, h2, hq, hln, fun H1 s1 => ?_⟩
    rcases h with ⟨h0, k⟩ | ⟨z, h0, k⟩
    · rw [h0]
      exact ⟨_, rfl, rfl, _, rfl, iteF (k H1 s1)⟩
    · rw [h0]
      refine ⟨_, rfl, rfl, _, rfl, iteT ⟨_, rfl, by show 1 ≤ sizeLine; decide, fun e he => ⟨e, _, rfl, upd_same, fun dx H' hdx eH => ?_⟩⟩⟩
      obtain ⟨d1, d2, d3⟩ := del_made he hdx eH
      exact ⟨rfl, some dx, d1, k dx _ d2 (s1.trans d3)⟩
def n_keeps : List Str := ["rule", "heap"]
theorem sc_keeps : FnScope n_keeps ["rule", "heap"] (defScope s_keeps) := ⟨rfl, rfl, rfl, by decide +kernel, rfl, by decide +kernel, by decide +kernel⟩
def sp_keeps : Sp := fun vs H Q _ => ∃ (p q : Addr) (rs : List V) (rule : List (List Int)) (hs : List Int), vs = [.ref p, .ref q] ∧ H p = some (.tup rs) ∧ All2 Tup1 H rule rs ∧ H q = some (.tup (hs.map V.int)) ∧ rule.length ≤ 60 ∧
  ∀ (H' : Hp), Same H H' → Q (.bl (firstG rule hs).isNone) H'
theorem ok_keeps (T : Txt K mg A) : FnOk P w K mg base CX0 5 A.a_keeps A.fd_keeps ["rule", "heap"] sp_keeps := by
  refine T.F_keeps.ok sc_keeps (fun vs H Q E h => ?_) (fun cdv Ar outer s H vs Q E hr h => ?_)
  · obtain ⟨p, q, rs, rule, hs, rfl, hp, h2, hq, hln, k⟩ := h
    rfl
  · obtain ⟨p, q, rs, rule, hs, rfl, hp, h2, hq, hln, k⟩ := h
    refine ⟨_, (pss_one (ps_ret (pe_cmpR op_isN (pe_call (ok_first_in T) (hr.mono (by decide)) rfl T.g_first_in T.F_first_in.kp T.b_first_in .nil pass0 (pa_cons (pv 0) (pa_cons (pv 1) pa_nil))) pe_non (nomark _)))), ?_⟩
    refine ⟨_, rfl, _, rfl, p, q, rs, rule, hs, rfl, hp, h2, hq, hln, fun H' s => ⟨rfl, ?_⟩⟩
    rw [optV_none]
    exact k H' s
def n_partings_to : List Str := ["n", "greatest", "partings", "part"]
theorem sc_partings_to : FnScope n_partings_to ["n", "greatest"] (defScope s_partings_to) := ⟨rfl, rfl, rfl, by decide +kernel, rfl, by decide +kernel, by decide +kernel⟩
def sp_parts (n : Nat) : Sp := fun vs H Q _ => ∃ (m g : Nat), m < n ∧ vs = [.int m, .int g] ∧ m ≤ 24 ∧ g ≤ 1000 ∧
  ∀ (l : Addr) (xs : List V) (H' : Hp), H' l = some (.lst xs) → All2 Tup1 H' (partF n m g) xs → Same H H' → H l = none → Q (.ref l) H'
theorem okr_partings_to (T : Txt K mg A) : ∀ n : Nat, FnOk P w K mg base CX0 n A.a_partings_to A.fd_partings_to ["n", "greatest"] (sp_parts n)
  | 0 => FnOk.none (fun _ _ _ _ ⟨_, _, h, _⟩ => absurd h (Nat.not_lt_zero _))
  | n + 1 => by
    have ih := okr_partings_to T n
    refine T.F_partings_to.ok sc_partings_to (fun vs H Q E h => ?_) (fun cdv Ar outer s H vs Q E hr h => ?_)
    · obtain ⟨m, g, hm, rfl, hm24, hg, k⟩ := h
      rfl
    · obtain ⟨m, g, hm, rfl, hm24, hg, k⟩ := h
      refine ⟨_, (pss_cons (ps_if (pt_cmpR op_eq (pv 0) pe_int (nomark _))
            (pss_one (ps_ret (pe_lst (pa_cons (pe_tup pa_nil) pa_nil)))) pss_nil)
          (pss_cons (ps_set (i := 2) sc_partings_to.nd rfl (by first | exact Or.inl rfl | exact Or.inr rfl) (pe_lst pa_nil))
          (pss_cons (ps_for PassesOwn.never rfl (pi_down rfl T.b_range (pa_cons (pe_callB (call_min2 rfl) rfl T.b_min boot_min (pa_cons (pv 0) (pa_cons (pv 1) pa_nil))) (pa_cons pe_int (pa_cons (pe_un un_neg pe_int) pa_nil)))) (pg_name (i := 3) sc_partings_to.nd rfl (by first | exact Or.inl rfl | exact Or.inr rfl))
            (pss_one (ps_expr (pe_bm PySem.F.plainAttrs_list PySem.F.slot_list_extend PySem.F.type_list_extend mt_extend (pv 2) (pa_cons (pe_comp (ls := ["rest"]) (fr := [("part", 3)]) (cs_of (defScope s_partings_to) n_partings_to rfl rfl (by decide +kernel)) rfl (pi_list (pe_call ih hr rfl T.g_partings_to T.F_partings_to.kp T.b_partings_to .nil pass0 (pa_cons (pe_op op_sub (pv 0) (pv 3 (hv := Or.inr (Or.inl rfl)))) (pa_cons (pv 3 (hv := Or.inr (Or.inl rfl))) pa_nil)))) (fun _ _ _ _ => pgc 0 (by decide +kernel) rfl rfl) (fun _ _ _ _ => pf_nil) (fun _ _ _ _ => (pe_op (op_catAK K rfl) (pe_tup (pa_cons (pvc (defScope s_partings_to) 1) pa_nil)) (pvc (defScope s_partings_to) 0)))) pa_nil)))))
          (pss_one (ps_ret (pv 2)))))), ?_⟩
      dsimp only [tNext]
      refine seqJoin (fun σ' H' => m ≠ 0 ∧ H' = H ∧ σ' = [some (.int m), some (.int g), none, none]) (fun nx hnx => ?_) ?_
      · refine ⟨_, rfl, rfl, _, rfl, ?_⟩
        refine ite2 (fun h0 => ?_) (fun h0 => hnx _ _ ⟨fun z => h0 (by rw [z]; rfl), rfl, rfl⟩)
        have e0 : m = 0 := by
          have := of_decide_eq_true h0
          injection this with this
          omega
        refine ⟨by show 0 ≤ sizeLine; decide, fun e he => ⟨by show 1 ≤ sizeLine; decide, fun l hl => ?_⟩⟩
        refine k l [.ref e] _ upd_same ?_ ((Same.new he).trans (Same.new hl)) ((Same.new he).free hl)
        rw [partF_succ, if_pos e0]
        exact .cons ⟨e, rfl, Same.new hl _ _ upd_same⟩ .nil
      rintro σ1 H1 ⟨m0, rfl, rfl⟩
      refine ⟨by show 0 ≤ sizeLine; decide, fun l hl => ?_⟩
      have hmin : (if (g : Int) < (m : Int) then (g : Int) else (m : Int)) = ((min m g : Nat) : Int) := by split <;> omega
      refine ⟨_, rfl, _, rfl, _, _, rfl, _, rfl, min m g, ?_, by omega, for_down (n := min m g) (fun i σ' H' => Same H1 H' ∧ i ≤ min m g ∧ ∃ xs v, σ' = [some (.int m), some (.int g), some (.ref l), v] ∧ H' l = some (.lst xs) ∧ All2 Tup1 H' (partP n m (min m g) i) xs) ⟨Same.new hl, Nat.zero_le _, [], _, rfl, upd_same, .nil⟩ ?_ ?_⟩
      · show [V.int (if (g : Int) < (m : Int) then (g : Int) else (m : Int)), V.int 0, V.int (-1)] = _
        rw [hmin]
      · rintro i σ' H' hi ⟨s, _, xs, v, rfl, gl, h2⟩
        have ep : ((min m g : Nat) : Int) - (i : Int) = ((min m g - i : Nat) : Int) := by omega
        have em : (m : Int) - ((min m g - i : Nat) : Int) = ((m - (min m g - i) : Nat) : Int) := by omega
        have hlx : xs.length ≤ 2 ^ (m - min m g + i) := by
          rw [← h2.length]
          exact partP_len (partF_len n) (Nat.min_le_left _ _) i (by omega)
        rw [ep]
        refine ⟨_, rfl, .inl ⟨rfl, _, SqL.of gl⟩, _, rfl, _, rfl, _, _, rfl, rfl, _, rfl, m - (min m g - i), min m g - i, by omega, ?_, by omega, by omega, fun l2 xs2 H2 gl2 h3 s2 nl2 => ?_⟩
        · show [V.int ((m : Int) - ((min m g - i : Nat) : Int)), V.int ((min m g - i : Nat) : Int)] = _
          rw [em]
        have hlx2 : xs2.length ≤ 2 ^ (m - min m g + i) := by
          rw [← h3.length]
          have e1 : m - (min m g - i) = m - min m g + i := by omega
          exact Nat.le_trans (partF_len n (m - (min m g - i)) (min m g - i)) (by rw [e1]; exact Nat.le_refl _)
        have hpw : 2 ^ (m - min m g + i) + 2 ^ (m - min m g + i) ≤ sizeLine := by
          have : 2 ^ (m - min m g + i) + 2 ^ (m - min m g + i) = 2 ^ (m - min m g + i + 1) := by rw [Nat.pow_succ]; omega
          rw [this]
          exact pow24 (by omega)
        refine ⟨l2, rfl, ⟨_, SqL.of gl2⟩, comp_list (xs := xs2) (fun j ys σ' H3 => Same H2 H3 ∧ (∃ v, σ' = [v, some (.int ((min m g - i : Nat) : Int))]) ∧ All2 Tup1 H3 (((partF n (m - (min m g - i)) (min m g - i)).take j).map (((min m g - i : Nat) : Int) :: ·)) ys) ⟨fun _ _ h => h, ⟨_, rfl⟩, .nil⟩ ?_ ?_ ?_⟩
        · rintro j ys σ' H3 hj ⟨s3, _, h4⟩
          refine ⟨SqL.of (s3 _ _ gl2), ?_⟩
          rw [← h4.length, List.length_map, List.length_take]
          omega
        · rintro j x ys σ' H3 hx ⟨s3, ⟨v, rfl⟩, h4⟩
          obtain ⟨hs, hhs, q, rfl, hq⟩ := h3.get hx
          have hj := (List.getElem?_eq_some_iff.mp hhs).1
          have eh := (List.getElem?_eq_some_iff.mp hhs).2
          refine ⟨_, rfl, by show 1 ≤ sizeLine; decide, fun t ht => ⟨_, rfl, ?_⟩⟩
          have hl1 : hs.length ≤ 100 := by
            have := partF_mem _ _ _ hs (List.mem_of_getElem? hhs)
            omega
          refine cat_front (Same.new ht _ _ (s3 _ _ hq)) upd_same hl1 fun v H4 hv s4 => ?_
          have sn := (Same.new (o := .tup [V.int ((min m g - i : Nat) : Int)]) ht).trans s4
          refine ⟨s3.trans sn, ⟨_, rfl⟩, ?_⟩
          rw [List.take_succ_eq_append_getElem hj, List.map_append, eh]
          exact (h4.mv sn.tups).snoc hv
        · rintro ys σ' H3 ⟨s3, _, h4⟩ l3 hl3
          have et : (partF n (m - (min m g - i)) (min m g - i)).take xs2.length = partF n (m - (min m g - i)) (min m g - i) := by rw [← h3.length, List.take_length]
          rw [et] at h4
          have hly : ys.length = xs2.length := by rw [← h4.length, List.length_map, h3.length]
          have sn := s2.trans (s3.trans (Same.new (o := .lst ys) hl3))
          refine ⟨l, l3, xs, ys, rfl, rfl, sn _ _ gl, upd_same, by omega, ?_⟩
          have tn : Tups H' (upd (upd H3 l3 (.lst ys)) l (.lst (xs ++ ys))) := sn.tups.trans (Tups.set (sn _ _ gl))
          have tn3 : Tups H3 (upd (upd H3 l3 (.lst ys)) l (.lst (xs ++ ys))) := (Same.new hl3).tups.trans (Tups.set (sn _ _ gl))
          refine ⟨fun b o e => ?_, by omega, xs ++ ys, _, rfl, upd_same, ?_⟩
          · rw [upd_ne (ne_of_none e hl)]
            exact sn _ _ (s _ _ e)
          · rw [partP_succ]
            exact (h2.mv tn).append (h4.mv tn3)
      · rintro σ' H' ⟨s, _, xs, v, rfl, gl, h2⟩
        refine ⟨_, rfl, k l xs H' gl ?_ s hl⟩
        rw [partF_succ, if_neg m0]
        exact h2
theorem ok_partings_to (T : Txt K mg A) : FnOk P w K mg base CX0 26 A.a_partings_to A.fd_partings_to ["n", "greatest"] (sp_parts 26) := okr_partings_to T 26
def n_partings_of : List Str := ["n"]
theorem sc_partings_of : FnScope n_partings_of ["n"] (defScope s_partings_of) := ⟨rfl, rfl, rfl, by decide +kernel, rfl, by decide +kernel, by decide +kernel⟩
def sp_partings_of (A : Adr) : Sp := fun vs H Q E => ∃ (n : Int), vs = [.int n] ∧ ((∃ m : Nat, n = m ∧ m ≤ 24 ∧ ∀ (l : Addr) (xs : List V) (H' : Hp), H' l = some (.lst xs) → All2 Tup1 H' (partF 26 m m) xs → Same H H' → H l = none → Q (.ref l) H') ∨ ((n < 0 ∨ 24 < n) ∧ E (.ref A.c_NoSum) none H))
theorem ok_partings_of (T : Txt K mg A) : FnOk P w K mg base (CX1 P w) 27 A.a_partings_of A.fd_partings_of ["n"] (sp_partings_of A) := by
  refine T.F_partings_of.okE sc_partings_of (fun vs H Q E h => ?_) (fun cdv Ar outer s H vs Q E hr h => ?_)
  · obtain ⟨n, rfl, h⟩ := h
    rfl
  · obtain ⟨n, rfl, h⟩ := h
    refine ⟨_, (pss_cons (ps_expr (pe_call (ok_refuse_beyond T) (hr.mono (by decide)) rfl T.g_refuse_beyond T.F_refuse_beyond.kp T.b_refuse_beyond .nil passE (pa_cons (pv 0) (pa_cons (pe_glob (v := .int 24) rfl T.v_MOST_LISTED.choose_spec ⟨_, rfl⟩) pa_nil))))
        (pss_one (ps_ret (pe_call (ok_partings_to T) (hr.mono (by decide)) rfl T.g_partings_to T.F_partings_to.kp T.b_partings_to .nil pass0 (pa_cons (pv 0) (pa_cons (pv 0) pa_nil)))))), ?_⟩
    rcases h with ⟨m, rfl, hm, k⟩ | ⟨hb, hE⟩
    · refine ⟨_, rfl, (m : Int), 24, rfl, ⟨by decide, by decide⟩, .inl ⟨by omega, by omega, ?_⟩⟩
      exact ⟨_, rfl, _, rfl, m, m, by omega, rfl, hm, by omega, k⟩
    · exact ⟨_, rfl, n, 24, rfl, ⟨by decide, by decide⟩, .inr ⟨hb, hE⟩⟩
def n_kept_of : List Str := ["rule", "n"]
theorem sc_kept_of : FnScope n_kept_of ["rule", "n"] (defScope s_kept_of) := ⟨rfl, rfl, rfl, by decide +kernel, rfl, by decide +kernel, by decide +kernel⟩
def sp_kept_of (A : Adr) : Sp := fun vs H Q E => ∃ (p : Addr) (rs : List V) (rule : List (List Int)) (n : Int), vs = [.ref p, .int n] ∧ H p = some (.tup rs) ∧ All2 Tup1 H rule rs ∧ rule.length ≤ 60 ∧
  ((∃ m : Nat, n = m ∧ m ≤ 24 ∧ ∀ (l : Addr) (xs : List V) (H' : Hp), H' l = some (.lst xs) → All2 Tup1 H' (keptG rule m) xs → Same H H' → H l = none → Q (.ref l) H') ∨ ((n < 0 ∨ 24 < n) ∧ E (.ref A.c_NoSum) none H))
theorem ok_kept_of (T : Txt K mg A) : FnOk P w K mg base (CX1 P w) 28 A.a_kept_of A.fd_kept_of ["rule", "n"] (sp_kept_of A) := by
  refine T.F_kept_of.okE sc_kept_of (fun vs H Q E h => ?_) (fun cdv Ar outer s H vs Q E hr h => ?_)
  · obtain ⟨p, rs, rule, n, rfl, hp, h2, hln, h⟩ := h
    rfl
  · obtain ⟨p, rs, rule, n, rfl, hp, h2, hln, h⟩ := h
    refine ⟨_, (pss_one (ps_ret (pe_comp (ls := ["heap"]) (fr := [("rule", 0)]) (cs_of (defScope s_kept_of) n_kept_of rfl rfl (by decide +kernel)) rfl (pi_list (pe_call (ok_partings_of T) (hr.mono (by decide)) rfl T.g_partings_of T.F_partings_of.kp T.b_partings_of .nil passE (pa_cons (pv 1) pa_nil))) (fun _ _ _ _ => pgc 0 (by decide +kernel) rfl rfl) (fun _ _ _ _ => pf_one (pt_truthK K rfl (pe_call (ok_keeps T) (hr.mono (by decide)) (glc (defScope s_kept_of)) T.g_keeps T.F_keeps.kp T.b_keeps .nil pass0 (pa_cons (pvc (defScope s_kept_of) 1) (pa_cons (pvc (defScope s_kept_of) 0) pa_nil))) (fun _ => rfl))) (fun _ _ _ _ => (pvc (defScope s_kept_of) 0))))), ?_⟩
    rcases h with ⟨m, rfl, hm, k⟩ | ⟨hb, hE⟩
    · refine ⟨_, rfl, (m : Int), rfl, .inl ⟨m, rfl, hm, fun l xs H1 gl h1 s1 nl => ?_⟩⟩
      have hlx : xs.length ≤ sizeLine := by rw [← h1.length]; exact Nat.le_trans (partF_len _ _ _) (pow24 hm)
      refine ⟨l, rfl, ⟨_, SqL.of gl⟩, comp_list (xs := xs) (fun i ys σ' H' => Same H1 H' ∧ (∃ v, σ' = [v, some (.ref p)]) ∧ ys.length ≤ i ∧ All2 Tup1 H' (((partF 26 m m).take i).filter fun h => (firstG rule h).isNone) ys) ⟨fun _ _ h => h, ⟨_, rfl⟩, Nat.le_refl _, .nil⟩ ?_ ?_ ?_⟩
      · rintro i ys σ' H' hi ⟨s, _, hy, _⟩
        exact ⟨SqL.of (s _ _ gl), by omega⟩
      · rintro i x ys σ' H' hx ⟨s, ⟨v, rfl⟩, hy, h3⟩
        obtain ⟨hs, hhs, q, rfl, hq⟩ := h1.get hx
        have sn := s1.trans s
        refine ⟨_, rfl, _, rfl, p, q, rs, rule, hs, rfl, sn _ _ hp, h2.mv sn.tups, s _ _ hq, hln, fun H2 s2 => ⟨_, rfl, ?_⟩⟩
        refine ite2 (fun hc => ⟨_, rfl, s.trans s2, ⟨_, rfl⟩, by simp; omega, ?_⟩) (fun hc => ⟨s.trans s2, ⟨_, rfl⟩, by omega, ?_⟩)
        · rw [filter_take _ hhs, if_pos hc]
          exact (h3.mv s2.tups).snoc ⟨q, rfl, s2 _ _ (s _ _ hq)⟩
        · rw [filter_take _ hhs, if_neg hc, List.append_nil]
          exact h3.mv s2.tups
      · rintro ys σ' H' ⟨s, _, hy, h3⟩ l2 hl2
        rw [← h1.length, List.take_length] at h3
        have sn := s1.trans (s.trans (Same.new (o := .lst ys) hl2))
        exact k l2 ys _ upd_same (h3.mv (Same.new hl2).tups) sn ((s1.trans s).free hl2)
    · exact ⟨_, rfl, n, rfl, .inr ⟨hb, hE⟩⟩
def n_place_of : List Str := ["rule", "heap"]
theorem sc_place_of : FnScope n_place_of ["rule", "heap"] (defScope s_place_of) := ⟨rfl, rfl, rfl, by decide +kernel, rfl, by decide +kernel, by decide +kernel⟩
def sp_place_of (A : Adr) : Sp := fun vs H Q E => ∃ (p q : Addr) (rs : List V) (rule : List (List Int)) (hs : List Int), vs = [.ref p, .ref q] ∧ H p = some (.tup rs) ∧ All2 Tup1 H rule rs ∧ H q = some (.tup (hs.map V.int)) ∧ rule.length ≤ 60 ∧
  (((hs.sum < 0 ∨ 24 < hs.sum) ∧ E (.ref A.c_NoSum) none H) ∨ (∃ m : Nat, hs.sum = (m : Int) ∧ m ≤ 24 ∧ ((∃ z, firstG rule hs = some z ∧ ∀ (dx : Addr) (H' : Hp), H' dx = some (.xd [("number", .int z)]) → Same H H' → E (.ref A.c_NotKept) (some dx) H') ∨
    (∃ j : Nat, firstG rule hs = none ∧ (keptG rule m)[j]? = some hs ∧ (∀ i, i < j → (keptG rule m)[i]? ≠ some hs) ∧ ∀ (H' : Hp), Same H H' → Q (.int (j : Int)) H'))))
theorem ok_place_of (T : Txt K mg A) : FnOk P w K mg base (CX1 P w) 29 A.a_place_of A.fd_place_of ["rule", "heap"] (sp_place_of A) := by
  refine T.F_place_of.okE sc_place_of (fun vs H Q E h => ?_) (fun cdv Ar outer s H vs Q E hr h => ?_)
  · obtain ⟨p, q, rs, rule, hs, rfl, hp, h2, hq, hln, h⟩ := h
    rfl
  · obtain ⟨p, q, rs, rule, hs, rfl, hp, h2, hq, hln, h⟩ := h
    refine ⟨_, (pss_cons (ps_expr (pe_call (ok_refuse_beyond T) (hr.mono (by decide)) rfl T.g_refuse_beyond T.F_refuse_beyond.kp T.b_refuse_beyond .nil passE (pa_cons (pe_call (ok_sum_of T) (hr.mono (by decide)) rfl T.g_sum_of T.F_sum_of.kp T.b_sum_of .nil pass0 (pa_cons (pv 1) pa_nil)) (pa_cons (pe_glob (v := .int 24) rfl T.v_MOST_LISTED.choose_spec ⟨_, rfl⟩) pa_nil))))
        (pss_cons (ps_expr (pe_call (ok_refuse_unkept T) (hr.mono (by decide)) rfl T.g_refuse_unkept T.F_refuse_unkept.kp T.b_refuse_unkept .nil passE (pa_cons (pv 0) (pa_cons (pv 1) pa_nil))))
        (pss_one (ps_ret (pe_bm PySem.F.plainAttrs_list PySem.F.slot_list_index PySem.F.type_list_index (mt_indexT (huR hr)) (pe_call (ok_kept_of T) (hr.mono (by decide)) rfl T.g_kept_of T.F_kept_of.kp T.b_kept_of .nil passE (pa_cons (pv 0) (pa_cons (pe_call (ok_sum_of T) (hr.mono (by decide)) rfl T.g_sum_of T.F_sum_of.kp T.b_sum_of .nil pass0 (pa_cons (pv 1) pa_nil)) pa_nil))) (pa_cons (pv 1) pa_nil)))))), ?_⟩
    rcases h with ⟨hb, hE⟩ | ⟨m, hs0, hm, h⟩
    · exact ⟨_, rfl, q, hs, rfl, SqT.of hq, hs.sum, 24, rfl, ⟨by decide, by decide⟩, .inr ⟨hb, hE⟩⟩
    refine ⟨_, rfl, q, hs, rfl, SqT.of hq, hs.sum, 24, rfl, ⟨by decide, by decide⟩, .inl ⟨by omega, by omega, ?_⟩⟩
    rcases h with ⟨z, h0, k⟩ | ⟨j, h0, hj, hj2, k⟩
    · exact ⟨_, rfl, _, rfl, p, q, rs, rule, hs, rfl, hp, h2, hq, hln, .inr ⟨z, h0, k⟩⟩
    refine ⟨_, rfl, _, rfl, p, q, rs, rule, hs, rfl, hp, h2, hq, hln, .inl ⟨h0, fun H1 s1 => ?_⟩⟩
    refine ⟨_, rfl, _, rfl, q, hs, rfl, SqT.of (s1 _ _ hq), p, rs, rule, hs.sum, rfl, s1 _ _ hp, h2.mv s1.tups, hln, .inl ⟨m, hs0, hm, fun l xs H2 gl h4 s2 nl => ?_⟩⟩
    exact ⟨.inl ⟨rfl, _, SqL.of gl⟩, _, rfl, l, q, hs, keptG rule m, xs, j, rfl, rfl, s2 _ _ (s1 _ _ hq), gl, h4, hj, hj2, k H2 (s1.trans s2)⟩
def n_told_at : List Str := ["rule", "n", "place", "heaps"]
theorem sc_told_at : FnScope n_told_at ["rule", "n", "place"] (defScope s_told_at) := ⟨rfl, rfl, rfl, by decide +kernel, rfl, by decide +kernel, by decide +kernel⟩
def sp_told_at (A : Adr) : Sp := fun vs H Q E => ∃ (p : Addr) (rs : List V) (rule : List (List Int)) (n pl : Int), vs = [.ref p, .int n, .int pl] ∧ H p = some (.tup rs) ∧ All2 Tup1 H rule rs ∧ rule.length ≤ 60 ∧
  (((n < 0 ∨ 24 < n) ∧ E (.ref A.c_NoSum) none H) ∨ (∃ m : Nat, n = (m : Int) ∧ m ≤ 24 ∧ (((pl < 0 ∨ ((keptG rule m).length : Int) ≤ pl) ∧ ∀ H', Same H H' → E (.ref A.c_NoPlace) none H') ∨
    (∃ (j : Nat) (hs : List Int), pl = (j : Int) ∧ (keptG rule m)[j]? = some hs ∧ ∀ (q : Addr) (H' : Hp), H' q = some (.tup (hs.map V.int)) → Same H H' → Q (.ref q) H'))))
theorem ok_told_at (T : Txt K mg A) : FnOk P w K mg base (CX1 P w) 29 A.a_told_at A.fd_told_at ["rule", "n", "place"] (sp_told_at A) := by
  refine T.F_told_at.okE sc_told_at (fun vs H Q E h => ?_) (fun cdv Ar outer s H vs Q E hr h => ?_)
  · obtain ⟨p, rs, rule, n, pl, rfl, hp, h2, hln, h⟩ := h
    rfl
  · obtain ⟨p, rs, rule, n, pl, rfl, hp, h2, hln, h⟩ := h
    refine ⟨_, (pss_cons (ps_set (i := 3) sc_told_at.nd rfl (by first | exact Or.inl rfl | exact Or.inr rfl) (pe_call (ok_kept_of T) (hr.mono (by decide)) rfl T.g_kept_of T.F_kept_of.kp T.b_kept_of .nil passE (pa_cons (pv 0) (pa_cons (pv 1) pa_nil))))
        (pss_cons (ps_if (PW.pt (pw_or (pt_cmpR op_lt (pv 2) pe_int (nomark _)) (pw_or1 (pt_cmpR op_ge (pv 2) (pe_callB call_len_seq rfl T.b_len PySem.boot_len (pa_cons (pv 3) pa_nil)) (nomark _)))))
          (pss_one (ps_raise rfl T.x_NoPlace rfl T.g_NoPlace (pa_cons pe_str pa_nil))) pss_nil)
        (pss_one (ps_ret (pe_ix ix_list (pv 3) (pv 2) (fun _ _ => rfl)))))), ?_⟩
    rcases h with ⟨hb, hE⟩ | ⟨m, rfl, hm, h⟩
    · exact ⟨_, rfl, _, rfl, p, rs, rule, n, rfl, hp, h2, hln, .inr ⟨hb, hE⟩⟩
    refine ⟨_, rfl, _, rfl, p, rs, rule, (m : Int), rfl, hp, h2, hln, .inl ⟨m, rfl, hm, fun l xs H1 gl h1 s1 nl => ?_⟩⟩
    have lx := h1.length
    have no : ∀ H', Same H H' → (pl < 0 ∨ ((keptG rule m).length : Int) ≤ pl) → E (.ref A.c_NoPlace) none H' := fun H' s' hb => by
      rcases h with ⟨_, hE⟩ | ⟨j, hs, rfl, hj, _⟩
      · exact hE H' s'
      · have := (List.getElem?_eq_some_iff.mp hj).1
        omega
    refine ⟨_, rfl, _, _, rfl, rfl, _, rfl, ?_⟩
    refine ite2 (fun hc => iteT ⟨by show 1 ≤ sizeLine; decide, no _ s1 (.inl (of_decide_eq_true hc))⟩) (fun hc => ?_)
    refine ⟨_, rfl, _, rfl, l, _, rfl, .inl (SqL.of gl), _, _, rfl, rfl, _, rfl, ?_⟩
    refine ite2 (fun hc2 => ⟨by show 1 ≤ sizeLine; decide, no _ s1 (.inr (by have := of_decide_eq_true hc2; omega))⟩) (fun hc2 => ?_)
    rcases h with ⟨hb, _⟩ | ⟨j, hs, rfl, hj, k⟩
    · have c1 : ¬ pl < 0 := fun z => hc (decide_eq_true z)
      have c2 : ¬ (xs.length : Int) ≤ pl := fun z => hc2 (decide_eq_true z)
      omega
    have hjl : j < xs.length := by rw [← h1.length]; exact (List.getElem?_eq_some_iff.mp hj).1
    obtain ⟨x, hx⟩ : ∃ x, xs[j]? = some x := ⟨_, List.getElem?_eq_getElem hjl⟩
    obtain ⟨hs', hhs, q, rfl, hq⟩ := h1.get hx
    rw [hj] at hhs
    cases hhs
    exact ⟨_, rfl, _, rfl, l, _, _, _, rfl, rfl, SqL.of gl, atI_nat hx, k q H1 hq s1⟩
def n__law_start : List Str := ["_law_script", "_law_great_here"]
theorem sc__law_start : FnScope n__law_start ["_law_script"] (defScope s__law_start) := ⟨rfl, rfl, rfl, by decide +kernel, rfl, by decide +kernel, by decide +kernel⟩
def sp_start (K : PySem.W.Frag) : Sp := fun vs H Q _ => ∃ (a : Addr) (ns : List Int), vs = [.ref a] ∧ SqL K H a (ns.map V.int) ∧ ns.length ≤ 63 ∧
  ∀ (st ga ca : Addr) (H' : Hp), StAt H' st ga ca 0 → H st = none → H ga = none → H ca = none → Same H H' → Q (.ref st) H'
theorem ok__law_start (T : Txt K mg A) : FnOk P w K mg base CX0 1 A.a__law_start A.fd__law_start ["_law_script"] (sp_start K) := by
  refine T.F__law_start.ok sc__law_start (fun vs H Q E h => ?_) (fun cdv Ar outer s H vs Q E hr h => ?_)
  · obtain ⟨a, ns, rfl, hS, hl, k⟩ := h
    rfl
  · obtain ⟨a, ns, rfl, hS, hl, k⟩ := h
    refine ⟨_, (pss_cons (ps_comp (i := 1) (ls := ["_law_cell"]) (fr := []) (cs_of (defScope s__law_start) n__law_start rfl rfl (by decide +kernel)) rfl (pi_list (pv 0)) (fun _ _ _ _ => pgc 0 (by decide +kernel) rfl rfl) (fun _ _ _ _ => pf_one (pt_cmpR op_ge (pvc (defScope s__law_start) 0) (pe_op op_pow pe_int pe_int) (nomark _))) (fun _ _ _ _ => (pvc (defScope s__law_start) 0)) sc__law_start.nd rfl rfl rfl)
        (pss_one (ps_ret (pe_lst (pa_cons (pv 1) (pa_cons pe_int (pa_cons (pe_comp (ls := ["_law_cell"]) (fr := []) (cs_of (defScope s__law_start) n__law_start rfl rfl (by decide +kernel)) rfl (pi_list (pv 0)) (fun _ _ _ _ => pgc 0 (by decide +kernel) rfl rfl) (fun _ _ _ _ => pf_nil) (fun _ _ _ _ => (pe_op op_mod (pvc (defScope s__law_start) 0) pe_int))) (pa_cons pe_int pa_nil)))))))), ?_⟩
    refine ⟨_, rfl, a, rfl, ⟨_, hS⟩, comp_list (xs := ns.map V.int) (fun i ys σ' H' => H' = H ∧ (∃ v, σ' = [v]) ∧ ∃ gs : List Int, ys = gs.map V.int ∧ gs.length ≤ i ∧ ∀ x ∈ gs, 0 < x) ⟨rfl, ⟨_, rfl⟩, [], rfl, Nat.zero_le _, fun _ hx => nomatch hx⟩ ?_ ?_ ?_⟩
    · rintro i ys σ' H' hi ⟨rfl, _, gs, rfl, hg, _⟩
      refine ⟨hS, ?_⟩
      rw [List.length_map] at hi ⊢
      exact Nat.le_trans (Nat.le_trans hg (Nat.le_trans hi hl)) (by decide)
    · rintro i x ys σ' H' hx ⟨rfl, ⟨v, rfl⟩, gs, rfl, hg, hp⟩
      rw [List.getElem?_map] at hx
      cases hn : ns[i]? with
      | none => rw [hn] at hx; cases hx
      | some z =>
        rw [hn] at hx
        cases hx
        refine ⟨_, rfl, _, _, rfl, rfl, ⟨by decide, by decide, by decide⟩, _, _, rfl, rfl, _, rfl, ?_⟩
        refine ite2 (fun hz => ⟨_, rfl, rfl, ⟨_, rfl⟩, gs ++ [z], by simp, by simp; exact hg, fun y hy => ?_⟩) (fun hz => ⟨rfl, ⟨_, rfl⟩, gs, rfl, Nat.le_succ_of_le hg, hp⟩)
        rcases List.mem_append.mp hy with hy | hy
        · exact hp y hy
        · have : y = z := by simpa using hy
          subst this
          exact Int.lt_of_lt_of_le (by decide) (of_decide_eq_true hz)
    · rintro ys σ' H' ⟨rfl, _, gs, rfl, hg, hp⟩ g0 hg0
      rw [List.length_map] at hg
      have s1 : Same H' (upd H' g0 (.lst (gs.map V.int))) := Same.new hg0
      refine ⟨_, rfl, _, rfl, a, rfl, ⟨_, s1.seq hS⟩, comp_list (xs := ns.map V.int) (fun i ys σ' H2 => H2 = upd H' g0 (.lst (gs.map V.int)) ∧ (∃ v, σ' = [v]) ∧ ∃ cs : List Int, ys = cs.map V.int ∧ cs.length = i) ⟨rfl, ⟨_, rfl⟩, [], rfl, rfl⟩ ?_ ?_ ?_⟩
      · rintro i ys σ' H2 hi ⟨rfl, _, cs, rfl, hc⟩
        refine ⟨s1.seq hS, ?_⟩
        rw [List.length_map] at hi ⊢
        exact Nat.le_trans (Nat.le_trans (Nat.le_of_eq hc) (Nat.le_trans hi hl)) (by decide)
      · rintro i x ys σ' H2 hx ⟨rfl, ⟨v, rfl⟩, cs, rfl, hc⟩
        rw [List.getElem?_map] at hx
        cases hn : ns[i]? with
        | none => rw [hn] at hx; cases hx
        | some z =>
          rw [hn] at hx
          cases hx
          refine ⟨_, rfl, _, _, rfl, rfl, (by show (0 : Int) < 2147483629; decide), rfl, ⟨_, rfl⟩, cs ++ [z % 2147483629], by simp, by simp [hc]⟩
      · rintro ys σ' H2 ⟨rfl, _, cs, rfl, hc⟩ c0 hc0
        refine ⟨by show 4 ≤ sizeLine; decide, fun st hst => ?_⟩
        have n1 : g0 ≠ c0 := fun z => by rw [← z, upd_same] at hc0; cases hc0
        have n2 : st ≠ c0 := fun z => by rw [z, upd_same] at hst; cases hst
        have hst1 : upd H' g0 (.lst (gs.map V.int)) st = none := by rw [upd_ne n2] at hst; exact hst
        have n3 : st ≠ g0 := fun z => by rw [z, upd_same] at hst1; cases hst1
        refine k st g0 c0 _ ⟨⟨gs, cs, 0, 0, upd_same, ?_, ?_, Nat.le_trans hg hl, hp, Int.le_refl _, Int.le_refl _, Int.le_refl _⟩, n1, n3, n2⟩ ?_ hg0 ?_ (s1.trans ((Same.new hc0).trans (Same.new hst)))
        · rw [upd_ne n3.symm, upd_ne n1, upd_same]
        · rw [upd_ne n2.symm, upd_same]
        · rw [upd_ne n3] at hst1; exact hst1
        · rw [upd_ne n1.symm] at hc0; exact hc0
def n__law_mix : List Str := ["_law_state", "_law_count", "_law_cell", "_law_stirred"]
theorem sc__law_mix : FnScope n__law_mix ["_law_state"] (defScope s__law_mix) := ⟨rfl, rfl, rfl, by decide +kernel, rfl, by decide +kernel, by decide +kernel⟩
def sp_mix : Sp := fun vs H Q _ => ∃ (st ga ca : Addr) (N : Nat), vs = [.ref st] ∧ StAt H st ga ca N ∧ N ≤ 10 ^ 9 ∧
  ∀ (r : Int) (H' : Hp), 0 ≤ r → StAt H' st ga ca (N + 1) → Keep [st, ga] H H' → Q (.int r) H'
theorem ok__law_mix (T : Txt K mg A) : FnOk P w K mg base CX0 1 A.a__law_mix A.fd__law_mix ["_law_state"] sp_mix := by
  refine T.F__law_mix.ok sc__law_mix (fun vs H Q E h => ?_) (fun cdv Ar outer s H vs Q E hr h => ?_)
  · obtain ⟨st, ga, ca, N, rfl, S, hN, k⟩ := h
    rfl
  · obtain ⟨st, ga, ca, N, rfl, S, hN, k⟩ := h
    refine ⟨_, (pss_cons (ps_augS (pv 0) pe_int get_list pe_int ip_add set_list)
        (pss_cons (ps_set (i := 1) sc__law_mix.nd rfl (by first | exact Or.inl rfl | exact Or.inr rfl) (pe_ix ix_list (pv 0) pe_int (fun _ _ => rfl)))
        (pss_cons (ps_set (i := 2) sc__law_mix.nd rfl (by first | exact Or.inl rfl | exact Or.inr rfl) pe_int)
        (pss_cons (ps_if (pt_truth (pe_ix ix_list (pv 0) pe_int (fun _ _ => rfl)) (fun _ => rfl))
          (pss_one (ps_set (i := 2) sc__law_mix.nd rfl (by first | exact Or.inl rfl | exact Or.inr rfl) (pe_ix ix_list (pe_ix ix_list (pv 0) pe_int (fun _ _ => rfl)) (pe_op op_mod (pv 1) (pe_callB call_len_seq rfl T.b_len PySem.boot_len (pa_cons (pe_ix ix_list (pv 0) pe_int (fun _ _ => rfl)) pa_nil))) (fun _ _ => rfl)))) pss_nil)
        (pss_cons (ps_set (i := 3) sc__law_mix.nd rfl (by first | exact Or.inl rfl | exact Or.inr rfl) (pe_op op_mod (pe_op op_mul (pe_op op_add (pe_op op_add (pe_op op_add (pv 2) (pe_op op_mul (pe_op op_mul pe_int (pv 1)) (pv 1))) (pe_op op_mul pe_int (pv 1))) pe_int) pe_int) pe_int))
        (pss_one (ps_ret (pe_op op_mod (pe_op op_mul (pe_op op_add (pe_op op_add (pv 3) (pe_op op_mul pe_int (pv 1))) pe_int) pe_int) pe_int)))))))), ?_⟩
    obtain ⟨⟨gs, cs, q, n, h1, h2, h3, h4, h5, h6, h7, h8⟩, gc, sg, sc⟩ := S
    have hn : -(2 ^ 64) < n + 1 ∧ n + 1 < 2 ^ 64 := by omega
    refine ⟨_, rfl, st, _, 3, _, rfl, rfl, SqL.of h1, by decide, rfl, _, _, rfl, rfl, st, _, 3, 3, rfl, rfl, h1, rfl, ?_⟩
    have e1 : upd H st (.lst ([V.ref ga, V.int q, V.ref ca, V.int n].set 3 (V.int (n + 1)))) st = some (.lst [.ref ga, .int q, .ref ca, .int (n + 1)]) := upd_same
    refine ⟨_, rfl, st, _, 3, _, rfl, rfl, SqL.of e1, rfl, ?_⟩
    refine ⟨_, rfl, st, _, 2, _, rfl, rfl, SqL.of e1, rfl, ?_⟩
    have e3 : upd H st (.lst ([V.ref ga, V.int q, V.ref ca, V.int n].set 3 (V.int (n + 1)))) ca = some (.lst (cs.map V.int)) := by rw [upd_ne sc.symm]; exact h3
    have e2 : upd H st (.lst ([V.ref ga, V.int q, V.ref ca, V.int n].set 3 (V.int (n + 1)))) ga = some (.lst (gs.map V.int)) := by rw [upd_ne sg.symm]; exact h2
    refine ⟨_, Or.inl ⟨_, SqL.of e3, rfl⟩, ?_⟩
    have fin : ∀ (c : Int), (tSeq (tAsg (tOp (rI (fun _ j => 0 < j) fun i j => V.int (i % j)) (tOp (rI CMul fun i j => V.int (i * j)) (tOp (rI0 fun i j => V.int (i + j)) (tOp (rI0 fun i j => V.int (i + j)) (tOp (rI0 fun i j => V.int (i + j)) (tVar 2) (tOp (rI CMul fun i j => V.int (i * j)) (tOp (rI CMul fun i j => V.int (i * j)) (tC (V.int 7)) (tVar 1)) (tVar 1))) (tOp (rI CMul fun i j => V.int (i * j)) (tC (V.int 13)) (tVar 1))) (tC (V.int 5))) (tC (V.int 1220703125))) (tC (V.int 2147483647))) (gName 3))
        (tRet (tOp (rI (fun _ j => 0 < j) fun i j => V.int (i % j)) (tOp (rI CMul fun i j => V.int (i * j)) (tOp (rI0 fun i j => V.int (i + j)) (tOp (rI0 fun i j => V.int (i + j)) (tVar 3) (tOp (rI CMul fun i j => V.int (i * j)) (tC (V.int 17)) (tVar 1))) (tC (V.int 3))) (tC (V.int 39373))) (tC (V.int 1000000007)))))
        { nx := fun _ H' => Q .non H', rt := Q } [some (.ref st), some (.int (n + 1)), some (.int c), none] (upd H st (.lst ([V.ref ga, V.int q, V.ref ca, V.int n].set 3 (V.int (n + 1))))) := fun c => by
      refine ⟨_, rfl, _, rfl, _, _, rfl, rfl, .inl (by decide), _, rfl, _, _, rfl, rfl, .inr hn, _, _, rfl, rfl, _, rfl, _, _, rfl, rfl, .inl (by decide), _, _, rfl, rfl, _, _, rfl, rfl, _, _, rfl, rfl, .inr (by decide), _, _, rfl, rfl, (by show (0 : Int) < 2147483647; decide), ?_⟩
      refine ⟨_, rfl, _, rfl, _, _, rfl, rfl, .inl (by decide), _, _, rfl, rfl, _, _, rfl, rfl, _, _, rfl, rfl, .inr (by decide), _, _, rfl, rfl, (by show (0 : Int) < 1000000007; decide), ?_⟩
      exact k _ _ (Int.emod_nonneg _ (by decide)) ⟨⟨gs, cs, q, n + 1, e1, e2, e3, h4, h5, h6, by omega, by omega⟩, gc, sg, sc⟩ (Keep.set (by simp))
    cases hc : cs with
    | nil =>
      refine iteF ?_
      exact fin 5
    | cons c0 cr =>
      refine iteT ?_
      rw [hc] at e3
      refine ⟨_, rfl, st, _, 2, _, rfl, rfl, SqL.of e1, rfl, _, rfl, _, rfl, st, _, 2, _, rfl, rfl, SqL.of e1, rfl, ca, _, rfl, .inl (SqL.of e3), _, _, rfl, rfl, ?_, ?_⟩
      · rw [List.length_map]; simp only [List.length_cons]; omega
      · have hpos : (0 : Int) < ((c0 :: cr).length : Int) := by simp only [List.length_cons]; omega
        rw [List.length_map]
        have hm0 := Int.emod_nonneg (n + 1) (Int.ne_of_gt hpos)
        have hm1 := Int.emod_lt_of_pos (n + 1) hpos
        obtain ⟨j, hj⟩ : ∃ j : Nat, (n + 1) % ((c0 :: cr).length : Int) = (j : Int) := ⟨((n + 1) % ((c0 :: cr).length : Int)).toNat, by omega⟩
        have hjl : j < (c0 :: cr).length := by omega
        refine ⟨ca, _, _, _, rfl, rfl, SqL.of e3, by rw [hj]; exact atI_nat (v := V.int ((c0 :: cr)[j])) (by rw [List.getElem?_map, List.getElem?_eq_getElem hjl]; rfl), ?_⟩
        exact fin _
def n__law_draw : List Str := ["_law_state", "_law_many", "_law_told", "_law_size"]
theorem sc__law_draw : FnScope n__law_draw ["_law_state", "_law_many"] (defScope s__law_draw) := ⟨rfl, rfl, rfl, by decide +kernel, rfl, by decide +kernel, by decide +kernel⟩
/-- a draw: any number from 0 on below many; what it may change is the state's own -/
def sp_draw : Sp := fun vs H Q _ => ∃ (st ga ca : Addr) (N : Nat) (m : Int), vs = [.ref st, .int m] ∧ StAt H st ga ca N ∧ N ≤ 10 ^ 8 ∧ 0 < m ∧ m ≤ 10 ^ 60 ∧
  ∀ (r : Int) (H' : Hp), 0 ≤ r → r < m → StAt H' st ga ca (N + 7) → Keep [st, ga] H H' → Q (.int r) H'
theorem ok__law_draw (T : Txt K mg A) : FnOk P w K mg base CX0 2 A.a__law_draw A.fd__law_draw ["_law_state", "_law_many"] sp_draw := by
  refine T.F__law_draw.ok sc__law_draw (fun vs H Q E h => ?_) (fun cdv Ar outer s H vs Q E hr h => ?_)
  · obtain ⟨st, ga, ca, N, m, rfl, S, hN, hm0, hm1, k⟩ := h
    rfl
  · obtain ⟨st, ga, ca, N, m, rfl, S, hN, hm0, hm1, k⟩ := h
    refine ⟨_, (pss_cons (ps_if (PW.pt (pw_and (pt_cmpR op_eq (pe_ix ix_list (pv 0) pe_int (fun _ _ => rfl)) pe_int (nomark _)) (pw_and1 (pt_truth (pe_ix ix_list (pv 0) pe_int (fun _ _ => rfl)) (fun _ => rfl)))))
          (pss_one (ps_asg (pe_bm PySem.F.plainAttrs_list PySem.F.slot_list_pop PySem.F.type_list_pop mt_popAt (pe_ix ix_list (pv 0) pe_int (fun _ _ => rfl)) (pa_cons pe_int pa_nil)) (pg_sub (pv 0) pe_int set_list))) pss_nil)
        (pss_cons (ps_if (pt_cmpR op_gt (pe_ix ix_list (pv 0) pe_int (fun _ _ => rfl)) pe_int (nomark _))
          (pss_cons (ps_set (i := 2) sc__law_draw.nd rfl (by first | exact Or.inl rfl | exact Or.inr rfl) (pe_op op_mod (pe_ix ix_list (pv 0) pe_int (fun _ _ => rfl)) (pv 1)))
        (pss_cons (ps_asg (pe_op op_fdivB (pe_ix ix_list (pv 0) pe_int (fun _ _ => rfl)) (pv 1)) (pg_sub (pv 0) pe_int set_list))
        (pss_one (ps_ret (pv 2))))) pss_nil)
        (pss_cons (ps_set (i := 2) sc__law_draw.nd rfl (by first | exact Or.inl rfl | exact Or.inr rfl) pe_int)
        (pss_cons (ps_set (i := 3) sc__law_draw.nd rfl (by first | exact Or.inl rfl | exact Or.inr rfl) pe_int)
        (pss_cons (ps_while PassesOwn.never (pt_cmpR op_lt (pv 3) (pv 1) (nomark _))
          (pss_cons (ps_set (i := 2) sc__law_draw.nd rfl (by first | exact Or.inl rfl | exact Or.inr rfl) (pe_op op_add (pe_op op_mul (pv 2) pe_int) (pe_call (ok__law_mix T) (hr.mono (by decide)) rfl T.g__law_mix T.F__law_mix.kp T.b__law_mix .nil pass0 (pa_cons (pv 0) pa_nil))))
        (pss_one (ps_set (i := 3) sc__law_draw.nd rfl (by first | exact Or.inl rfl | exact Or.inr rfl) (pe_op op_mul (pv 3) pe_int)))))
        (pss_one (ps_ret (pe_op op_mod (pv 2) (pv 1))))))))), ?_⟩
    obtain ⟨⟨gs, cs, q, n, h1, h2, h3, h4, h5, h6, h7, h8⟩, gc, sg, sc⟩ := S
    have hb : ∀ (g : List Int) (x : Int) (H' : Hp), H' = upd (upd H ga (.lst (g.map V.int))) st (.lst [.ref ga, .int x, .ref ca, .int n]) → H' st = some (.lst [.ref ga, .int x, .ref ca, .int n]) ∧ H' ga = some (.lst (g.map V.int)) ∧ H' ca = some (.lst (cs.map V.int)) ∧ Keep [st, ga] H H' := fun g x H' e => by
      subst e
      refine ⟨upd_same, by rw [upd_ne sg.symm, upd_same], by rw [upd_ne sc.symm, upd_ne gc.symm]; exact h3, fun b o e hn => ?_⟩
      have n1 : b ≠ st := fun z => hn (by simp [z])
      have n2 : b ≠ ga := fun z => hn (by simp [z])
      rw [upd_ne n1, upd_ne n2]
      exact e
    refine seqJoin (fun σ' H' => σ' = [some (.ref st), some (.int m), none, none] ∧ ∃ (g : List Int) (x : Int), H' st = some (.lst [.ref ga, .int x, .ref ca, .int n]) ∧ H' ga = some (.lst (g.map V.int)) ∧ H' ca = some (.lst (cs.map V.int)) ∧ Keep [st, ga] H H' ∧ g.length ≤ 63 ∧ (∀ x ∈ g, 0 < x) ∧ 0 ≤ x) (fun nx hnx => ?_) ?_
    · have skip : nx [some (.ref st), some (.int m), none, none] H := hnx _ _ ⟨rfl, gs, q, h1, h2, h3, Keep.refl _ _, h4, h5, h6⟩
      refine ⟨_, rfl, st, _, 1, _, rfl, rfl, SqL.of h1, rfl, rfl, _, rfl, ?_⟩
      refine ite2 (fun hq => ?_) (fun hq => iteF skip)
      have hq0 : q = 0 := by simpa using hq
      subst hq0
      refine ⟨_, rfl, st, _, 0, _, rfl, rfl, SqL.of h1, rfl, _, .inl ⟨_, SqL.of h2, rfl⟩, ?_⟩
      cases gs with
      | nil => exact iteF skip
      | cons g0 gr =>
        refine iteT ?_
        have eg : upd H ga (.lst ((V.int g0 :: gr.map V.int).eraseIdx 0)) st = some (.lst [.ref ga, .int 0, .ref ca, .int n]) := by rw [upd_ne sg]; exact h1
        refine ⟨_, rfl, st, _, 0, _, rfl, rfl, SqL.of h1, rfl, .inl ⟨rfl, _, SqL.of h2⟩, ga, _, 0, 0, V.int g0, rfl, rfl, h2, by decide, by decide, (by simp [seqIndex?]), rfl, ?_⟩
        refine ⟨_, rfl, st, _, 1, 1, rfl, rfl, eg, rfl, ?_⟩
        obtain ⟨b1, b2, b3, b4⟩ := hb gr g0 _ rfl
        exact hnx _ _ ⟨rfl, gr, g0, b1, b2, b3, b4, by simp only [List.length_cons] at h4; omega, fun y hy => h5 y (List.mem_cons_of_mem _ hy), Int.le_of_lt (h5 g0 List.mem_cons_self)⟩
    · rintro σ1 H1 ⟨rfl, g, x, c1, c2, c3, c4, c5, c6, c7⟩
      refine ⟨_, rfl, st, _, 1, _, rfl, rfl, SqL.of c1, rfl, _, _, rfl, rfl, _, rfl, ?_⟩
      refine ite2 (fun hx => ?_) (fun hx => ?_)
      · refine ⟨_, rfl, st, _, 1, _, rfl, rfl, SqL.of c1, rfl, _, rfl, _, _, rfl, rfl, hm0, ?_⟩
        refine ⟨_, rfl, st, _, 1, _, rfl, rfl, SqL.of c1, rfl, _, rfl, _, _, rfl, rfl, ⟨hm0, Int.le_trans hm1 (by decide)⟩, ?_⟩
        refine ⟨_, rfl, st, _, 1, 1, rfl, rfl, c1, rfl, ?_⟩
        refine ⟨_, rfl, k _ _ (Int.emod_nonneg _ (Int.ne_of_gt hm0)) (Int.emod_lt_of_pos _ hm0) ⟨⟨g, cs, x / m, n, upd_same, by rw [upd_ne sg.symm]; exact c2, by rw [upd_ne sc.symm]; exact c3, c5, c6, Int.ediv_nonneg c7 (Int.le_of_lt hm0), h7, by omega⟩, gc, sg, sc⟩ (c4.trans (Keep.set (by simp)))⟩
      · refine ⟨fun mm σ2 H2 => ∃ (j : Nat) (told : Int), j ≤ 7 ∧ mm = 7 - j ∧ σ2 = [some (.ref st), some (.int m), some (.int told), some (.int (1000000007 ^ j))] ∧ StAt H2 st ga ca (N + j) ∧ Keep [st, ga] H H2,
          ⟨7, 0, 0, by decide, rfl, rfl, ⟨⟨g, cs, x, n, c1, c2, c3, c5, c6, c7, h7, by omega⟩, gc, sg, sc⟩, c4⟩, ?_⟩
        rintro mm σ2 H2 ⟨j, told, hj, rfl, rfl, S2, k2⟩
        refine ⟨_, rfl, _, rfl, _, _, rfl, rfl, _, rfl, ?_⟩
        refine ite2 (fun hlt => ?_) (fun hlt => ?_)
        · have hlt' : (1000000007 : Int) ^ j < m := of_decide_eq_true hlt
          have hj6 : j < 7 := by
            rcases Nat.lt_or_ge j 7 with z | z
            · exact z
            · have e7 : j = 7 := by omega
              subst e7
              exact absurd (Int.lt_of_lt_of_le hlt' hm1) (by decide)
          refine ⟨fun σ3 H3 => ∃ (told : Int), σ3 = [some (.ref st), some (.int m), some (.int told), some (.int (1000000007 ^ (j + 1)))] ∧ StAt H3 st ga ca (N + (j + 1)) ∧ Keep [st, ga] H H3, fun σ3 H3 ⟨td, e3, S3, k3⟩ => ⟨7 - (j + 1), by omega, j + 1, td, hj6, rfl, e3, S3, k3⟩, ?_⟩
          refine ⟨_, rfl, _, _, rfl, rfl, .inr (by decide), _, rfl, st, ga, ca, N + j, rfl, S2, by omega, fun r H3 hr0 S3 k3 => ?_⟩
          refine ⟨_, _, rfl, rfl, ?_⟩
          refine ⟨_, rfl, _, _, rfl, rfl, .inr (by decide), ?_⟩
          refine ⟨told * 1000000007 + r, ?_, S3, k2.trans k3⟩
          show [some (V.ref st), some (V.int m), some (V.int _), some (V.int (1000000007 ^ j * 1000000007))] = _
          rw [← Int.pow_succ]
        · refine ⟨_, rfl, _, rfl, _, _, rfl, rfl, hm0, ?_⟩
          exact k _ _ (Int.emod_nonneg _ (Int.ne_of_gt hm0)) (Int.emod_lt_of_pos _ hm0) (S2.mono (by omega)) k2
def n__law_lies : List Str := ["_law_one", "_law_other"]
theorem sc__law_lies : FnScope n__law_lies ["_law_one", "_law_other"] (defScope s__law_lies) := ⟨rfl, rfl, rfl, by decide +kernel, rfl, by decide +kernel, by decide +kernel⟩
def sp_llies : Sp := fun vs H Q _ => ∃ (a b : Addr) (ns ms : List Int), vs = [.ref a, .ref b] ∧ H a = some (.tup (ns.map V.int)) ∧ H b = some (.tup (ms.map V.int)) ∧ ns.length ≤ 10000 ∧ ∀ H', Same H H' → Q (.bl (lies ns ms)) H'
theorem ok__law_lies (T : Txt K mg A) : FnOk P w K mg base CX0 1 A.a__law_lies A.fd__law_lies ["_law_one", "_law_other"] sp_llies := by
  refine T.F__law_lies.ok sc__law_lies (fun vs H Q E h => ?_) (fun cdv Ar outer s H vs Q E hr h => ?_)
  · obtain ⟨a, b, ns, ms, rfl, ha, hb, hln, k⟩ := h
    rfl
  · obtain ⟨a, b, ns, ms, rfl, ha, hb, hln, k⟩ := h
    refine ⟨_, (pss_one (ps_ret (pe_callB (call_all_bools rfl) rfl T.b_all boot_all (pa_cons (pe_comp (ls := ["_law_part"]) (fr := [("_law_one", 0), ("_law_other", 1)]) (cs_of (defScope s__law_lies) n__law_lies rfl rfl (by decide +kernel)) rfl (pi_tup (pv 0 (hv := Or.inr (Or.inl rfl)))) (fun _ _ _ _ => pgc 0 (by decide +kernel) rfl rfl) (fun _ _ _ _ => pf_nil) (fun _ _ _ _ => (pe_cmpR op_le (pe_bmK K rfl PySem.F.plainAttrs_tuple PySem.F.slot_tuple_count PySem.F.type_tuple_count (mt_countTK K rfl) (pvc (defScope s__law_lies) 1) (pa_cons (pvc (defScope s__law_lies) 0) pa_nil)) (pe_bmK K rfl PySem.F.plainAttrs_tuple PySem.F.slot_tuple_count PySem.F.type_tuple_count (mt_countTK K rfl) (pvc (defScope s__law_lies) 2) (pa_cons (pvc (defScope s__law_lies) 0) pa_nil)) (nomark _)))) pa_nil)))), ?_⟩
    refine ⟨_, rfl, a, rfl, ⟨_, SqT.of ha⟩, comp_tup (xs := ns.map V.int) (fun i ys σ' H' => H' = H ∧ (∃ v, σ' = [v, some (.ref a), some (.ref b)]) ∧ ys = ((ns.take i).map fun x => decide (ns.count x ≤ ms.count x)).map V.bl) ⟨rfl, ⟨_, rfl⟩, rfl⟩ ?_ ?_ ?_⟩
    · rintro i ys σ' H' hi ⟨rfl, _, rfl⟩
      refine ⟨SqT.of ha, ?_⟩
      rw [List.length_map, List.length_map, List.length_take]
      exact Nat.le_trans (m := 10000) (by omega) (by decide)
    · rintro i x ys σ' H' hx ⟨rfl, ⟨v, rfl⟩, rfl⟩
      obtain ⟨z, hz, rfl⟩ := map_at hx
      have hi := (List.getElem?_eq_some_iff.mp hz).1
      have ez := (List.getElem?_eq_some_iff.mp hz).2
      refine ⟨_, rfl, .inr (.inl ⟨rfl, .inr ⟨_, ha⟩⟩), _, rfl, a, _, _, rfl, rfl, SqT.of ha, rfl, flat_ints _, ?_⟩
      refine ⟨_, rfl, .inr (.inl ⟨rfl, .inr ⟨_, hb⟩⟩), _, rfl, b, _, _, rfl, rfl, SqT.of hb, rfl, flat_ints _, ?_⟩
      refine ⟨_, _, rfl, rfl, rfl, ⟨_, rfl⟩, ?_⟩
      rw [List.take_succ_eq_append_getElem hi, List.map_append, List.map_append, ez]
      show _ ++ [V.bl (decide (((cntV (V.int z) (ns.map V.int) : Nat) : Int) ≤ ((cntV (V.int z) (ms.map V.int) : Nat) : Int)))] = _
      rw [cntV_ints, cntV_ints]
      have e : decide (((ns.count z : Nat) : Int) ≤ ((ms.count z : Nat) : Int)) = decide (ns.count z ≤ ms.count z) := by
        rw [decide_eq_decide]; omega
      rw [e]
      rfl
    · rintro ys σ' H' ⟨rfl, _, rfl⟩ l hl
      rw [List.length_map, List.take_length]
      refine ⟨l, _, rfl, SqL.of upd_same, ?_⟩
      have e : (ns.map fun x => decide (ns.count x ≤ ms.count x)).all id = lies ns ms := by
        unfold lies
        rw [List.all_map]
        rfl
      rw [e]
      exact k _ (Same.new hl)
def n__law_first : List Str := ["_law_rule", "_law_heap_here", "_law_number"]
theorem sc__law_first : FnScope n__law_first ["_law_rule", "_law_heap_here"] (defScope s__law_first) := ⟨rfl, rfl, rfl, by decide +kernel, rfl, by decide +kernel, by decide +kernel⟩
def sp_lfirst : Sp := fun vs H Q _ => ∃ (p q : Addr) (rs : List V) (rule : List (List Int)) (hs : List Int), vs = [.ref p, .ref q] ∧ H p = some (.tup rs) ∧ All2 Tup1 H rule rs ∧ H q = some (.tup (hs.map V.int)) ∧ rule.length ≤ 60 ∧ (∀ h ∈ rule, h.length ≤ 1000) ∧
  ∀ (H' : Hp), Same H H' → Q (optV (firstG rule hs)) H'
theorem ok__law_first (T : Txt K mg A) : FnOk P w K mg base CX0 2 A.a__law_first A.fd__law_first ["_law_rule", "_law_heap_here"] sp_lfirst := by
  refine T.F__law_first.ok sc__law_first (fun vs H Q E h => ?_) (fun cdv Ar outer s H vs Q E hr h => ?_)
  · obtain ⟨p, q, rs, rule, hs, rfl, hp, h2, hq, hln, hlr, k⟩ := h
    rfl
  · obtain ⟨p, q, rs, rule, hs, rfl, hp, h2, hq, hln, hlr, k⟩ := h
    refine ⟨_, (pss_cons (ps_for PassesOwn.never rfl (pi_range1 rfl T.b_range (pa_cons (pe_callB call_len_seq rfl T.b_len PySem.boot_len (pa_cons (pv 0) pa_nil)) pa_nil)) (pg_name (i := 2) sc__law_first.nd rfl (by first | exact Or.inl rfl | exact Or.inr rfl))
          (pss_one (ps_if (pt_truth (pe_call (ok__law_lies T) (hr.mono (by decide)) rfl T.g__law_lies T.F__law_lies.kp T.b__law_lies .nil pass0 (pa_cons (pe_ix ix_tup (pv 0) (pv 2) (fun _ _ => rfl)) (pa_cons (pv 1) pa_nil))) (fun _ => rfl))
          (pss_one (ps_ret (pv 2))) pss_nil)))
        (pss_one (ps_ret pe_non))), ?_⟩
    have hrl := h2.length
    refine ⟨_, rfl, p, _, rfl, .inr (SqT.of hp), _, rfl, by omega, by omega, for_range (n := rs.length) (fun i σ' H' => Same H H' ∧ (∃ v, σ' = [some (.ref p), some (.ref q), v]) ∧ idxP rule hs i = []) ⟨fun _ _ h => h, ⟨_, rfl⟩, rfl⟩ ?_ ?_⟩
    · rintro i σ' H' hi ⟨s, ⟨v, rfl⟩, h0⟩
      have hir : i < rule.length := by omega
      obtain ⟨x, hx, q1, rfl, hq1⟩ := h2.at (List.getElem?_eq_getElem hir)
      have e1 : rule.getD i [] = rule[i] := by simp [hir]
      refine ⟨_, rfl, _, rfl, p, _, _, _, rfl, rfl, SqT.of (s _ _ hp), by rw [Int.zero_add]; exact atI_nat hx, ?_⟩
      refine ⟨_, rfl, q1, q, rule[i], hs, rfl, s _ _ hq1, s _ _ hq, Nat.le_trans (hlr _ (List.getElem_mem hir)) (by decide), fun H2 s2 => ⟨_, rfl, ?_⟩⟩
      have s3 := s.trans s2
      refine ite2 (fun hc => ?_) (fun hc => ⟨s3, ⟨_, rfl⟩, ?_⟩)
      · refine ⟨_, rfl, ?_⟩
        have := k H2 s3
        rw [first_some h0 hir (by rw [e1]; exact hc)] at this
        rw [Int.zero_add]
        exact this
      · rw [idxP_succ, e1, if_neg hc, h0]
        rfl
    · rintro σ' H' ⟨s, _, h0⟩
      rw [← hrl] at h0
      have := k H' s
      rw [first_none h0] at this
      exact this
def n__law_heap : List Str := ["_law_state", "_law_size", "_law_top", "_law_parts"]
theorem sc__law_heap : FnScope n__law_heap ["_law_state", "_law_size", "_law_top"] (defScope s__law_heap) := ⟨rfl, rfl, rfl, by decide +kernel, rfl, by decide +kernel, by decide +kernel⟩
def sp_heap : Sp := fun vs H Q _ => ∃ (st ga ca : Addr) (N : Nat) (size topp : Int), vs = [.ref st, .int size, .int topp] ∧ StAt H st ga ca N ∧ N ≤ 10 ^ 7 ∧ 0 ≤ size ∧ size ≤ 60 ∧ 0 < topp ∧ topp ≤ 10 ^ 60 ∧
  ∀ (p : Addr) (ns : List Int) (H' : Hp), (ns.length : Int) ≤ size → (∀ x ∈ ns, 1 ≤ x ∧ x ≤ topp) → ns.Pairwise (· ≥ ·) → H' p = some (.tup (ns.map V.int)) → H p = none → StAt H' st ga ca (N + 434) → Keep [st, ga] H H' → Q (.ref p) H'
theorem ok__law_heap (T : Txt K mg A) : FnOk P w K mg base CX0 3 A.a__law_heap A.fd__law_heap ["_law_state", "_law_size", "_law_top"] sp_heap := by
  refine T.F__law_heap.ok sc__law_heap (fun vs H Q E h => ?_) (fun cdv Ar outer s H vs Q E hr h => ?_)
  · obtain ⟨st, ga, ca, N, size, topp, rfl, S, hN, h0, h1, t0, t1, k⟩ := h
    rfl
  · obtain ⟨st, ga, ca, N, size, topp, rfl, S, hN, h0, h1, t0, t1, k⟩ := h
    refine ⟨_, (pss_cons (ps_comp (i := 3) (ls := ["_law_k"]) (fr := [("_law_state", 0), ("_law_top", 2)]) (cs_of (defScope s__law_heap) n__law_heap rfl rfl (by decide +kernel)) rfl (pi_range1 rfl T.b_range (pa_cons (pe_call (ok__law_draw T) (hr.mono (by decide)) rfl T.g__law_draw T.F__law_draw.kp T.b__law_draw .nil pass0 (pa_cons (pv 0 (hv := Or.inr (Or.inl rfl))) (pa_cons (pe_op op_add (pv 1) pe_int) pa_nil))) pa_nil)) (fun _ _ _ _ => pgc 0 (by decide +kernel) rfl rfl) (fun _ _ _ _ => pf_nil) (fun _ _ _ _ => (pe_op op_add pe_int (pe_call (ok__law_draw T) (hr.mono (by decide)) (glc (defScope s__law_heap)) T.g__law_draw T.F__law_draw.kp T.b__law_draw .nil pass0 (pa_cons (pvc (defScope s__law_heap) 1) (pa_cons (pvc (defScope s__law_heap) 2) pa_nil))))) sc__law_heap.nd rfl rfl rfl)
        (pss_one (ps_ret (pe_callTy call_tuple_of rfl T.b_tuple boot_tuple (pa_cons (pe_sortR rfl T.b_sorted (pv 3)) pa_nil))))), ?_⟩
    refine ⟨_, rfl, _, rfl, _, _, rfl, rfl, st, ga, ca, N, size + 1, rfl, S, by omega, by omega, Int.le_trans (show size + 1 ≤ 61 by omega) (by decide), fun many H2 m0 m1 S2 K2' => ?_⟩
    refine ⟨_, rfl, by omega, by omega, comp_range (fun i ys σ' H' => (∃ v, σ' = [v, some (.ref st), some (.int topp)]) ∧ ∃ ns : List Int, ys = ns.map V.int ∧ ns.length = i ∧ (∀ x ∈ ns, 1 ≤ x ∧ x ≤ topp) ∧ StAt H' st ga ca (N + 7 + 7 * i) ∧ Keep [st, ga] H H')
      ⟨⟨_, rfl⟩, [], rfl, rfl, (fun _ hx => nomatch hx), S2, K2'⟩ ?_ ?_ ?_⟩
    · rintro i ys σ' H' hi ⟨_, ns, rfl, hl, _⟩
      rw [List.length_map, hl]
      exact small64 (by omega)
    · rintro i ys σ' H' hi ⟨⟨v, rfl⟩, ns, rfl, hl, hb, S', K'⟩
      refine ⟨_, rfl, _, rfl, st, ga, ca, N + 7 + 7 * i, topp, rfl, S', by omega, t0, t1, fun r H3 h0 h1 S3 K3 => ?_⟩
      refine ⟨_, _, rfl, rfl, ⟨_, rfl⟩, ns ++ [1 + r], by simp, by simp [hl], fun x hx => ?_, S3.mono (by omega), K'.trans K3⟩
      rcases List.mem_append.mp hx with hx | hx
      · exact hb x hx
      · have : x = 1 + r := by simpa using hx
        omega
    · rintro ys σ' H' ⟨_, ns, rfl, hl, hb, S', K'⟩ p3 hp3
      refine ⟨_, rfl, p3, ns, rfl, .inl (SqL.of upd_same), by omega, fun ns' p4 hperm hord hp4 => ?_⟩
      refine ⟨p4, _, rfl, .inl ⟨SqL.of upd_same, fun p5 hp5 => ?_⟩⟩
      have s3 : Same H' (upd (upd (upd H' p3 (.lst (ns.map V.int))) p4 (.lst (ns'.map V.int))) p5 (.tup (ns'.map V.int))) := (Same.new hp3).trans ((Same.new hp4).trans (Same.new hp5))
      have S5 := S'.same s3
      have n5 : H' p5 = none := ((Same.new hp3).trans (Same.new hp4)).free hp5
      refine k p5 ns' _ (by rw [hperm.length_eq]; omega) (fun x hx => hb x (hperm.mem_iff.mp hx)) hord upd_same (K'.free n5 (S'.nin n5)) (S5.mono (by omega)) (K'.trans s3.keep)
def n__law_some_rule : List Str := ["_law_state", "_law_rule", "_law_k", "_law_heap_here"]
theorem sc__law_some_rule : FnScope n__law_some_rule ["_law_state"] (defScope s__law_some_rule) := ⟨rfl, rfl, rfl, by decide +kernel, rfl, by decide +kernel, by decide +kernel⟩
def sp_some_rule : Sp := fun vs H Q _ => ∃ (st ga ca : Addr) (N : Nat), vs = [.ref st] ∧ StAt H st ga ca N ∧ N ≤ 10 ^ 6 ∧
  ∀ (p : Addr) (rs : List V) (rule : List (List Int)) (H' : Hp), H' p = some (.tup rs) → All2 Tup1 H' rule rs → rule.length ≤ 6 → (∀ h ∈ rule, GoodH 10 h) → StAt H' st ga ca (N + 4000) → Keep [st, ga] H H' → H p = none → Q (.ref p) H'
theorem ok__law_some_rule (T : Txt K mg A) : FnOk P w K mg base CX0 4 A.a__law_some_rule A.fd__law_some_rule ["_law_state"] sp_some_rule := by
  refine T.F__law_some_rule.ok sc__law_some_rule (fun vs H Q E h => ?_) (fun cdv Ar outer s H vs Q E hr h => ?_)
  · obtain ⟨st, ga, ca, N, rfl, S, hN, k⟩ := h
    rfl
  · obtain ⟨st, ga, ca, N, rfl, S, hN, k⟩ := h
    refine ⟨_, (pss_cons (ps_set (i := 1) sc__law_some_rule.nd rfl (by first | exact Or.inl rfl | exact Or.inr rfl) (pe_lst pa_nil))
        (pss_cons (ps_for PassesOwn.never rfl (pi_range1 rfl T.b_range (pa_cons (pe_call (ok__law_draw T) (hr.mono (by decide)) rfl T.g__law_draw T.F__law_draw.kp T.b__law_draw .nil pass0 (pa_cons (pv 0) (pa_cons pe_int pa_nil))) pa_nil)) (pg_name (i := 2) sc__law_some_rule.nd rfl (by first | exact Or.inl rfl | exact Or.inr rfl))
          (pss_cons (ps_set (i := 3) sc__law_some_rule.nd rfl (by first | exact Or.inl rfl | exact Or.inr rfl) (pe_call (ok__law_heap T) (hr.mono (by decide)) rfl T.g__law_heap T.F__law_heap.kp T.b__law_heap .nil pass0 (pa_cons (pv 0) (pa_cons pe_int (pa_cons pe_int pa_nil)))))
        (pss_cons (ps_if (PW.pt (pw_and (pt_not (pt_truth (pv 3) (fun _ => rfl))) (pw_and1 (pt_cmpR op_gt (pe_call (ok__law_draw T) (hr.mono (by decide)) rfl T.g__law_draw T.F__law_draw.kp T.b__law_draw .nil pass0 (pa_cons (pv 0) (pa_cons pe_int pa_nil))) pe_int (nomark _)))))
          (pss_one (ps_set (i := 3) sc__law_some_rule.nd rfl (by first | exact Or.inl rfl | exact Or.inr rfl) (pe_tup (pa_cons (pe_op op_add pe_int (pe_call (ok__law_draw T) (hr.mono (by decide)) rfl T.g__law_draw T.F__law_draw.kp T.b__law_draw .nil pass0 (pa_cons (pv 0) (pa_cons pe_int pa_nil)))) pa_nil)))) pss_nil)
        (pss_cons (ps_if (PW.pt (pw_and (pt_truth (pv 1) (fun _ => rfl)) (pw_and1 (pt_cmpR op_eq (pe_call (ok__law_draw T) (hr.mono (by decide)) rfl T.g__law_draw T.F__law_draw.kp T.b__law_draw .nil pass0 (pa_cons (pv 0) (pa_cons pe_int pa_nil))) pe_int (nomark _)))))
          (pss_one (ps_set (i := 3) sc__law_some_rule.nd rfl (by first | exact Or.inl rfl | exact Or.inr rfl) (pe_ix ix_list (pv 1) (pe_call (ok__law_draw T) (hr.mono (by decide)) rfl T.g__law_draw T.F__law_draw.kp T.b__law_draw .nil pass0 (pa_cons (pv 0) (pa_cons (pe_callB call_len_seq rfl T.b_len PySem.boot_len (pa_cons (pv 1) pa_nil)) pa_nil))) (fun _ _ => rfl)))) pss_nil)
        (pss_cons (ps_if (pt_cmpR op_eq (pe_call (ok__law_draw T) (hr.mono (by decide)) rfl T.g__law_draw T.F__law_draw.kp T.b__law_draw .nil pass0 (pa_cons (pv 0) (pa_cons pe_int pa_nil))) pe_int (nomark _))
          (pss_one (ps_set (i := 3) sc__law_some_rule.nd rfl (by first | exact Or.inl rfl | exact Or.inr rfl) (pe_op op_catA (pe_tup (pa_cons (pe_op op_add (pe_op op_pow pe_int pe_int) (pe_call (ok__law_draw T) (hr.mono (by decide)) rfl T.g__law_draw T.F__law_draw.kp T.b__law_draw .nil pass0 (pa_cons (pv 0) (pa_cons (pe_op op_sub (pe_op op_pow pe_int pe_int) (pe_op op_pow pe_int pe_int)) pa_nil)))) pa_nil)) (pv 3)))) pss_nil)
        (pss_one (ps_expr (pe_bm PySem.F.plainAttrs_list PySem.F.slot_list_append PySem.F.type_list_append mt_append (pv 1) (pa_cons (pe_callTy call_tuple_of rfl T.b_tuple boot_tuple (pa_cons (pe_sortR rfl T.b_sorted (pv 3)) pa_nil)) pa_nil)))))))))
        (pss_one (ps_ret (pe_callTy call_tuple_of rfl T.b_tuple boot_tuple (pa_cons (pv 1) pa_nil)))))), ?_⟩
    refine ⟨by show 0 ≤ sizeLine; decide, fun l hl => ?_⟩
    have R0 : RB H (upd H l (.lst [])) st ga ca l N 0 [] [] := ⟨upd_same, .nil, hl, S.nin3 hl, rfl, (fun _ h => nomatch h), S.upd (S.nin3 hl), Keep.new hl⟩
    refine ⟨_, rfl, st, ga, ca, N, 7, rfl, R0.sa, by omega, by decide, by decide, fun m H1 m0 m1 S1 K1 => ?_⟩
    refine ⟨_, rfl, by omega, by omega, for_range (n := m.toNat) (fun i σ' H' => i ≤ 6 ∧ (∃ v w, σ' = [some (.ref st), some (.ref l), v, w]) ∧ ∃ rule xs, RB H H' st ga ca l (N + 7 + 600 * i) i rule xs) ⟨Nat.zero_le _, ⟨_, _, rfl⟩, [], [], R0.drawn S1 K1⟩ ?_ ?_⟩
    · rintro i σ' H' hi ⟨hi6, ⟨v, w', rfl⟩, rule, xs, R⟩
      refine ⟨_, rfl, st, ga, ca, N + 7 + 600 * i, 4, 6, rfl, R.sa, by omega, by decide, by decide, by decide, by decide, fun q hs H2 hl2 hb2 pw2 hq hqn S2 K2 => ?_⟩
      have R2 := R.drawn S2 K2
      dsimp only [tNext, gName]
      refine seqJoin (fun σ' H' => ∃ (q : Addr) (hs : List Int), σ' = [some (.ref st), some (.ref l), some (.int (0 + (i : Int))), some (.ref q)] ∧ H' q = some (.tup (hs.map V.int)) ∧ GoodH 4 hs ∧ RB H H' st ga ca l (N + 7 + 600 * i + 450) i rule xs) (fun nx hnx => ?_) ?_
      · have gh : GoodH 4 hs := ⟨by omega, fun x hx => ⟨(hb2 x hx).1, Int.le_trans (hb2 x hx).2 (by decide)⟩, pw2⟩
        refine ⟨_, rfl, _, .inr (.inl ⟨_, SqT.of hq, rfl⟩), ?_⟩
        refine ite2 (fun he => ?_) (fun he => iteF (hnx _ _ ⟨q, hs, rfl, hq, gh, R2.mono (by omega)⟩))
        refine ⟨_, rfl, st, ga, ca, _, 4, rfl, R2.sa, by omega, by decide, by decide, fun r H3 r0 r1 S3 K3 => ?_⟩
        have R3 := R2.drawn S3 K3
        have hq3 := K3.tups R2.sa _ _ hq
        refine ⟨_, _, rfl, rfl, _, rfl, ?_⟩
        refine ite2 (fun _ => ?_) (fun _ => hnx _ _ ⟨q, hs, rfl, hq3, gh, R3.mono (by omega)⟩)
        refine ⟨_, rfl, st, ga, ca, _, 6, rfl, R3.sa, by omega, by decide, by decide, fun r2 H4 r20 r21 S4 K4 => ?_⟩
        refine ⟨_, _, rfl, rfl, by show 1 ≤ sizeLine; decide, fun t ht => ?_⟩
        exact hnx _ _ ⟨t, [1 + r2], rfl, upd_same, ⟨by simp, fun x hx => by
          have : x = 1 + r2 := by simpa using hx
          exact ⟨by omega, Int.le_trans (show x ≤ 10 by omega) (by decide)⟩, List.pairwise_singleton _ _⟩, ((R3.drawn S4 K4).same (Same.new ht)).mono (by omega)⟩
      clear hq hqn R2 hl2 hb2 pw2
      rintro σ1 H3 ⟨q, hs, rfl, hq, gh, R3⟩
      refine seqJoin (fun σ' H' => ∃ (q : Addr) (hs : List Int), σ' = [some (.ref st), some (.ref l), some (.int (0 + (i : Int))), some (.ref q)] ∧ H' q = some (.tup (hs.map V.int)) ∧ GoodH (4 + i) hs ∧ RB H H' st ga ca l (N + 7 + 600 * i + 470) i rule xs) (fun nx hnx => ?_) ?_
      · refine ⟨_, rfl, _, .inl ⟨_, SqL.of R3.li, rfl⟩, ?_⟩
        refine ite2 (fun he => ?_) (fun he => iteF (hnx _ _ ⟨q, hs, rfl, hq, gh.mono (by omega), R3.mono (by omega)⟩))
        have hpos : 0 < i := by
          rw [← R3.ln, R3.h2.length]
          cases xs with
          | nil => cases he
          | cons y ys => simp
        refine ⟨_, rfl, st, ga, ca, _, 5, rfl, R3.sa, by omega, by decide, by decide, fun r H4 r0 r1 S4 K4 => ?_⟩
        have R4 := R3.drawn S4 K4
        have hq4 := K4.tups R3.sa _ _ hq
        refine ⟨rfl, _, rfl, ?_⟩
        refine ite2 (fun _ => ?_) (fun _ => hnx _ _ ⟨q, hs, rfl, hq4, gh.mono (by omega), R4.mono (by omega)⟩)
        have hlx : xs.length = i := by rw [← R3.h2.length]; exact R3.ln
        refine ⟨_, rfl, _, rfl, _, rfl, l, _, rfl, .inl (SqL.of R4.li), ?_⟩
        refine ⟨st, ga, ca, _, (xs.length : Int), rfl, R4.sa, by omega, by omega, Int.le_trans (show (xs.length : Int) ≤ 6 by omega) (by decide), fun j H5 j0 j1 S5 K5 => ?_⟩
        have R5 := R4.drawn S5 K5
        obtain ⟨n, rfl⟩ : ∃ n : Nat, j = (n : Int) := ⟨j.toNat, by omega⟩
        have hn : n < xs.length := by omega
        obtain ⟨hs5, hh5, q5, e5, g5⟩ := R5.h2.get (List.getElem?_eq_getElem hn)
        refine ⟨l, _, _, _, rfl, rfl, SqL.of R5.li, atI_nat (List.getElem?_eq_getElem hn), ?_⟩
        rw [e5]
        exact hnx _ _ ⟨q5, hs5, rfl, g5, R5.gd hs5 (List.mem_of_getElem? hh5), R5.mono (by omega)⟩
      clear hq gh R3
      rintro σ1 H4 ⟨q, hs, rfl, hq, gh, R4⟩
      refine seqJoin (fun σ' H' => ∃ (q : Addr) (hs : List Int), σ' = [some (.ref st), some (.ref l), some (.int (0 + (i : Int))), some (.ref q)] ∧ H' q = some (.tup (hs.map V.int)) ∧ hs.length ≤ 4 + (i + 1) ∧ (∀ x ∈ hs, 1 ≤ x ∧ x ≤ 10 ^ 60) ∧ RB H H' st ga ca l (N + 7 + 600 * i + 500) i rule xs) (fun nx hnx => ?_) ?_
      · refine ⟨_, rfl, st, ga, ca, _, 16, rfl, R4.sa, by omega, by decide, by decide, fun r H5 r0 r1 S5 K5 => ?_⟩
        have R5 := R4.drawn S5 K5
        have hq5 := K5.tups R4.sa _ _ hq
        have ghl := gh.ln
        refine ⟨rfl, _, rfl, ?_⟩
        refine ite2 (fun _ => ?_) (fun _ => hnx _ _ ⟨q, hs, rfl, hq5, by omega, gh.bd, R5.mono (by omega)⟩)
        refine ⟨_, _, rfl, rfl, ⟨by decide, by decide, by decide⟩, _, rfl, _, _, rfl, rfl, ⟨by decide, by decide, by decide⟩, _, _, rfl, rfl, ⟨by decide, by decide, by decide⟩, _, _, rfl, rfl, ?_⟩
        refine ⟨st, ga, ca, _, 10 ^ 60 - 10 ^ 41, rfl, R5.sa, by omega, by decide, by decide, fun r2 H6 r20 r21 S6 K6 => ?_⟩
        have R6 := R5.drawn S6 K6
        have hq6 := K6.tups R5.sa _ _ hq5
        refine ⟨_, _, rfl, rfl, by show 1 ≤ sizeLine; decide, fun t ht => ?_⟩
        refine ⟨_, rfl, t, q, _, _, rfl, rfl, SqT.of upd_same, SqT.of (Same.new ht _ _ hq6), ?_, (fun e => by cases e), fun _ e => ?_, fun _ _ t2 ht2 => ?_⟩
        · rw [List.length_map]
          exact Nat.le_trans (m := 20) (by simp; omega) (by decide)
        · have e0 : hs = [] := List.map_eq_nil_iff.mp e
          exact hnx _ _ ⟨t, [10 ^ (40 : Int).toNat + r2], rfl, upd_same, by simp; omega, fun x hx => by
            have : x = 10 ^ (40 : Int).toNat + r2 := by simpa using hx
            have e40 : (10 : Int) ^ (40 : Int).toNat = 10000000000000000000000000000000000000000 := by decide
            rw [e40] at this
            omega, (R6.same (Same.new ht)).mono (by omega)⟩
        · exact hnx _ _ ⟨t2, (10 ^ (40 : Int).toNat + r2) :: hs, rfl, by rw [upd_same]; rfl, by simp; omega, fun x hx => by
            rcases List.mem_cons.mp hx with hx | hx
            · have e40 : (10 : Int) ^ (40 : Int).toNat = 10000000000000000000000000000000000000000 := by decide
              rw [e40] at hx
              omega
            · exact gh.bd x hx, ((R6.same (Same.new ht)).same (Same.new ht2)).mono (by omega)⟩
      clear hq gh R4
      rintro σ1 H5 ⟨q, hs, rfl, hq, hl5, hb5, R5⟩
      refine ⟨_, rfl, .inl ⟨rfl, _, SqL.of R5.li⟩, _, rfl, q, hs, rfl, .inr (SqT.of hq), by omega, fun hs' l2 hperm hord hl2 => ?_⟩
      refine ⟨l2, _, rfl, .inl ⟨SqL.of upd_same, fun q2 hq2 => ?_⟩⟩
      have R7 := (R5.same (Same.new (o := .lst (hs'.map V.int)) hl2)).same (Same.new (o := .tup (hs'.map V.int)) hq2)
      refine ⟨l, _, _, rfl, rfl, R7.li, ?_, ?_⟩
      · have : xs.length = i := by rw [← R7.h2.length]; exact R7.ln
        exact Nat.lt_of_lt_of_le (show xs.length < 64 by omega) (by decide)
      · have R8 := R7.push upd_same (hs := hs') ⟨by rw [hperm.length_eq]; exact hl5, fun x hx => hb5 x (hperm.mem_iff.mp hx), hord⟩
        exact ⟨by omega, ⟨_, _, rfl⟩, _, _, R8.mono (by omega)⟩
    · rintro σ' H' ⟨hi6, ⟨v, w', rfl⟩, rule, xs, R⟩
      refine ⟨_, rfl, l, _, rfl, .inl ⟨SqL.of R.li, fun p hp => ?_⟩⟩
      have R2 := R.same (Same.new (o := .tup xs) hp)
      exact k p xs rule _ upd_same R2.h2 (by rw [R.ln]; exact hi6) (fun h hh => (R.gd h hh).mono (by omega)) (R2.sa.mono (by omega)) R2.kp (R.kp.free hp (R.sa.nin hp))
def n__law_whole : List Str := ["_law_found"]
theorem sc__law_whole : FnScope n__law_whole ["_law_found"] (defScope s__law_whole) := ⟨rfl, rfl, rfl, by decide +kernel, rfl, by decide +kernel, by decide +kernel⟩
def sp_whole : Sp := fun vs H Q _ => ∃ (i : Int), vs = [.int i] ∧ Q (.bl true) H
theorem ok__law_whole (T : Txt K mg A) : FnOk P w K mg base CX0 1 A.a__law_whole A.fd__law_whole ["_law_found"] sp_whole := by
  refine T.F__law_whole.ok sc__law_whole (fun vs H Q E h => ?_) (fun cdv Ar outer s H vs Q E hr h => ?_)
  · obtain ⟨i, rfl, k⟩ := h
    rfl
  · obtain ⟨i, rfl, k⟩ := h
    refine ⟨_, (pss_one (ps_ret (pe_and (pe_callB call_isi rfl T.b_isinstance boot_isinstance (pa_cons (pv 0) (pa_cons (pe_bltn (v := .ty "int") rfl T.b_int boot_int rfl) pa_nil))) (pe_one (pe_not (pe_callB call_isi rfl T.b_isinstance boot_isinstance (pa_cons (pv 0) (pa_cons (pe_bltn (v := .ty "bool") rfl T.b_bool boot_bool rfl) pa_nil)))))))), ?_⟩
    exact ⟨_, rfl, _, _, _, true, rfl, TyOf.int _, kit_int_int, true, rfl, _, rfl, _, _, _, false, rfl, TyOf.int _, kit_int_bool, false, rfl, k⟩
def n__law_row : List Str := ["_law_found"]
theorem sc__law_row : FnScope n__law_row ["_law_found"] (defScope s__law_row) := ⟨rfl, rfl, rfl, by decide +kernel, rfl, by decide +kernel, by decide +kernel⟩
def sp_row : Sp := fun vs H Q _ => ∃ (a : Addr) (ns : List Int), vs = [.ref a] ∧ H a = some (.tup (ns.map V.int)) ∧ ns.length ≤ 100000 ∧ ∀ (H' : Hp), Same H H' → Q (.bl true) H'
theorem ok__law_row (T : Txt K mg A) : FnOk P w K mg base CX0 2 A.a__law_row A.fd__law_row ["_law_found"] sp_row := by
  refine T.F__law_row.ok sc__law_row (fun vs H Q E h => ?_) (fun cdv Ar outer s H vs Q E hr h => ?_)
  · obtain ⟨a, ns, rfl, ha, hln, k⟩ := h
    rfl
  · obtain ⟨a, ns, rfl, ha, hln, k⟩ := h
    refine ⟨_, (pss_one (ps_ret (pe_and (pe_callB call_isi rfl T.b_isinstance boot_isinstance (pa_cons (pv 0) (pa_cons (pe_bltn (v := .ty "tuple") rfl T.b_tuple boot_tuple rfl) pa_nil))) (pe_one (pe_callB (call_all_bools rfl) rfl T.b_all boot_all (pa_cons (pe_comp (ls := ["_law_part"]) (fr := []) (cs_of (defScope s__law_row) n__law_row rfl rfl (by decide +kernel)) rfl (pi_tup (pv 0)) (fun _ _ _ _ => pgc 0 (by decide +kernel) rfl rfl) (fun _ _ _ _ => pf_nil) (fun _ _ _ _ => (pe_call (ok__law_whole T) (hr.mono (by decide)) (glc (defScope s__law_row)) T.g__law_whole T.F__law_whole.kp T.b__law_whole .nil pass0 (pa_cons (pvc (defScope s__law_row) 0) pa_nil)))) pa_nil)))))), ?_⟩
    refine ⟨_, rfl, _, _, _, true, rfl, TyOf.tup ha, kit_tup_tup, true, rfl, _, rfl, a, rfl, ⟨_, SqT.of ha⟩, comp_tup (xs := ns.map V.int) (fun i ys σ' H' => H' = H ∧ (∃ v, σ' = [v]) ∧ ys = (List.replicate i true).map V.bl ∧ i ≤ ns.length) ⟨rfl, ⟨_, rfl⟩, rfl, Nat.zero_le _⟩ ?_ ?_ ?_⟩
    · rintro i ys σ' H' hi ⟨rfl, _, rfl, hi'⟩
      refine ⟨SqT.of ha, ?_⟩
      rw [List.length_map, List.length_replicate]
      exact Nat.le_trans (Nat.le_trans hi' hln) (by decide)
    · rintro i x ys σ' H' hx ⟨rfl, ⟨v, rfl⟩, rfl, hi'⟩
      obtain ⟨z, hz, rfl⟩ := map_at hx
      have hi := (List.getElem?_eq_some_iff.mp hz).1
      refine ⟨_, rfl, z, rfl, rfl, ⟨_, rfl⟩, ?_, hi⟩
      rw [List.replicate_succ', List.map_append]
      rfl
    · rintro ys σ' H' ⟨rfl, _, rfl, hi'⟩ l hl0
      refine ⟨l, _, rfl, SqL.of upd_same, ?_⟩
      have e : (List.replicate (ns.map V.int).length true).all id = true := by simp
      rw [e]
      exact k _ (Same.new hl0)
def n__law_partings : List Str := ["_law_n", "_law_top", "_law_found", "_law_part"]
theorem sc__law_partings : FnScope n__law_partings ["_law_n", "_law_top"] (defScope s__law_partings) := ⟨rfl, rfl, rfl, by decide +kernel, rfl, by decide +kernel, by decide +kernel⟩
def sp_lparts (n : Nat) : Sp := fun vs H Q _ => ∃ (m g : Nat), m < n ∧ vs = [.int m, .int g] ∧ m ≤ 24 ∧ g ≤ 1000 ∧
  ∀ (l : Addr) (xs : List V) (H' : Hp), H' l = some (.lst xs) → All2 Tup1 H' (partF n m g) xs → Same H H' → H l = none → Q (.ref l) H'
theorem okr__law_partings (T : Txt K mg A) : ∀ n : Nat, FnOk P w K mg base CX0 n A.a__law_partings A.fd__law_partings ["_law_n", "_law_top"] (sp_lparts n)
  | 0 => FnOk.none (fun _ _ _ _ ⟨_, _, h, _⟩ => absurd h (Nat.not_lt_zero _))
  | n + 1 => by
    have ih := okr__law_partings T n
    refine T.F__law_partings.ok sc__law_partings (fun vs H Q E h => ?_) (fun cdv Ar outer s H vs Q E hr h => ?_)
    · obtain ⟨m, g, hm, rfl, hm24, hg, k⟩ := h
      rfl
    · obtain ⟨m, g, hm, rfl, hm24, hg, k⟩ := h
      refine ⟨_, (pss_cons (ps_if (pt_cmpR op_eq (pv 0) pe_int (nomark _))
            (pss_one (ps_ret (pe_lst (pa_cons (pe_tup pa_nil) pa_nil)))) pss_nil)
          (pss_cons (ps_set (i := 2) sc__law_partings.nd rfl (by first | exact Or.inl rfl | exact Or.inr rfl) (pe_lst pa_nil))
          (pss_cons (ps_for PassesOwn.never rfl (pi_down rfl T.b_range (pa_cons (pe_callB (call_min2 rfl) rfl T.b_min boot_min (pa_cons (pv 0) (pa_cons (pv 1) pa_nil))) (pa_cons pe_int (pa_cons (pe_un un_neg pe_int) pa_nil)))) (pg_name (i := 3) sc__law_partings.nd rfl (by first | exact Or.inl rfl | exact Or.inr rfl))
            (pss_one (ps_expr (pe_bm PySem.F.plainAttrs_list PySem.F.slot_list_extend PySem.F.type_list_extend mt_extend (pv 2) (pa_cons (pe_comp (ls := ["_law_rest"]) (fr := [("_law_part", 3)]) (cs_of (defScope s__law_partings) n__law_partings rfl rfl (by decide +kernel)) rfl (pi_list (pe_call ih hr rfl T.g__law_partings T.F__law_partings.kp T.b__law_partings .nil pass0 (pa_cons (pe_op op_sub (pv 0) (pv 3 (hv := Or.inr (Or.inl rfl)))) (pa_cons (pv 3 (hv := Or.inr (Or.inl rfl))) pa_nil)))) (fun _ _ _ _ => pgc 0 (by decide +kernel) rfl rfl) (fun _ _ _ _ => pf_nil) (fun _ _ _ _ => (pe_op (op_catAK K rfl) (pe_tup (pa_cons (pvc (defScope s__law_partings) 1) pa_nil)) (pvc (defScope s__law_partings) 0)))) pa_nil)))))
          (pss_one (ps_ret (pv 2)))))), ?_⟩
      dsimp only [tNext]
      refine seqJoin (fun σ' H' => m ≠ 0 ∧ H' = H ∧ σ' = [some (.int m), some (.int g), none, none]) (fun nx hnx => ?_) ?_
      · refine ⟨_, rfl, rfl, _, rfl, ?_⟩
        refine ite2 (fun h0 => ?_) (fun h0 => hnx _ _ ⟨fun z => h0 (by rw [z]; rfl), rfl, rfl⟩)
        have e0 : m = 0 := by
          have := of_decide_eq_true h0
          injection this with this
          omega
        refine ⟨by show 0 ≤ sizeLine; decide, fun e he => ⟨by show 1 ≤ sizeLine; decide, fun l hl => ?_⟩⟩
        refine k l [.ref e] _ upd_same ?_ ((Same.new he).trans (Same.new hl)) ((Same.new he).free hl)
        rw [partF_succ, if_pos e0]
        exact .cons ⟨e, rfl, Same.new hl _ _ upd_same⟩ .nil
      rintro σ1 H1 ⟨m0, rfl, rfl⟩
      refine ⟨by show 0 ≤ sizeLine; decide, fun l hl => ?_⟩
      have hmin : (if (g : Int) < (m : Int) then (g : Int) else (m : Int)) = ((min m g : Nat) : Int) := by split <;> omega
      refine ⟨_, rfl, _, rfl, _, _, rfl, _, rfl, min m g, ?_, by omega, for_down (n := min m g) (fun i σ' H' => Same H1 H' ∧ i ≤ min m g ∧ ∃ xs v, σ' = [some (.int m), some (.int g), some (.ref l), v] ∧ H' l = some (.lst xs) ∧ All2 Tup1 H' (partP n m (min m g) i) xs) ⟨Same.new hl, Nat.zero_le _, [], _, rfl, upd_same, .nil⟩ ?_ ?_⟩
      · show [V.int (if (g : Int) < (m : Int) then (g : Int) else (m : Int)), V.int 0, V.int (-1)] = _
        rw [hmin]
      · rintro i σ' H' hi ⟨s, _, xs, v, rfl, gl, h2⟩
        have ep : ((min m g : Nat) : Int) - (i : Int) = ((min m g - i : Nat) : Int) := by omega
        have em : (m : Int) - ((min m g - i : Nat) : Int) = ((m - (min m g - i) : Nat) : Int) := by omega
        have hlx : xs.length ≤ 2 ^ (m - min m g + i) := by
          rw [← h2.length]
          exact partP_len (partF_len n) (Nat.min_le_left _ _) i (by omega)
        rw [ep]
        refine ⟨_, rfl, .inl ⟨rfl, _, SqL.of gl⟩, _, rfl, _, rfl, _, _, rfl, rfl, _, rfl, m - (min m g - i), min m g - i, by omega, ?_, by omega, by omega, fun l2 xs2 H2 gl2 h3 s2 nl2 => ?_⟩
        · show [V.int ((m : Int) - ((min m g - i : Nat) : Int)), V.int ((min m g - i : Nat) : Int)] = _
          rw [em]
        have hlx2 : xs2.length ≤ 2 ^ (m - min m g + i) := by
          rw [← h3.length]
          have e1 : m - (min m g - i) = m - min m g + i := by omega
          exact Nat.le_trans (partF_len n (m - (min m g - i)) (min m g - i)) (by rw [e1]; exact Nat.le_refl _)
        have hpw : 2 ^ (m - min m g + i) + 2 ^ (m - min m g + i) ≤ sizeLine := by
          have : 2 ^ (m - min m g + i) + 2 ^ (m - min m g + i) = 2 ^ (m - min m g + i + 1) := by rw [Nat.pow_succ]; omega
          rw [this]
          exact pow24 (by omega)
        refine ⟨l2, rfl, ⟨_, SqL.of gl2⟩, comp_list (xs := xs2) (fun j ys σ' H3 => Same H2 H3 ∧ (∃ v, σ' = [v, some (.int ((min m g - i : Nat) : Int))]) ∧ All2 Tup1 H3 (((partF n (m - (min m g - i)) (min m g - i)).take j).map (((min m g - i : Nat) : Int) :: ·)) ys) ⟨fun _ _ h => h, ⟨_, rfl⟩, .nil⟩ ?_ ?_ ?_⟩
        · rintro j ys σ' H3 hj ⟨s3, _, h4⟩
          refine ⟨SqL.of (s3 _ _ gl2), ?_⟩
          rw [← h4.length, List.length_map, List.length_take]
          omega
        · rintro j x ys σ' H3 hx ⟨s3, ⟨v, rfl⟩, h4⟩
          obtain ⟨hs, hhs, q, rfl, hq⟩ := h3.get hx
          have hj := (List.getElem?_eq_some_iff.mp hhs).1
          have eh := (List.getElem?_eq_some_iff.mp hhs).2
          refine ⟨_, rfl, by show 1 ≤ sizeLine; decide, fun t ht => ⟨_, rfl, ?_⟩⟩
          have hl1 : hs.length ≤ 100 := by
            have := partF_mem _ _ _ hs (List.mem_of_getElem? hhs)
            omega
          refine cat_front (Same.new ht _ _ (s3 _ _ hq)) upd_same hl1 fun v H4 hv s4 => ?_
          have sn := (Same.new (o := .tup [V.int ((min m g - i : Nat) : Int)]) ht).trans s4
          refine ⟨s3.trans sn, ⟨_, rfl⟩, ?_⟩
          rw [List.take_succ_eq_append_getElem hj, List.map_append, eh]
          exact (h4.mv sn.tups).snoc hv
        · rintro ys σ' H3 ⟨s3, _, h4⟩ l3 hl3
          have et : (partF n (m - (min m g - i)) (min m g - i)).take xs2.length = partF n (m - (min m g - i)) (min m g - i) := by rw [← h3.length, List.take_length]
          rw [et] at h4
          have hly : ys.length = xs2.length := by rw [← h4.length, List.length_map, h3.length]
          have sn := s2.trans (s3.trans (Same.new (o := .lst ys) hl3))
          refine ⟨l, l3, xs, ys, rfl, rfl, sn _ _ gl, upd_same, by omega, ?_⟩
          have tn : Tups H' (upd (upd H3 l3 (.lst ys)) l (.lst (xs ++ ys))) := sn.tups.trans (Tups.set (sn _ _ gl))
          have tn3 : Tups H3 (upd (upd H3 l3 (.lst ys)) l (.lst (xs ++ ys))) := (Same.new hl3).tups.trans (Tups.set (sn _ _ gl))
          refine ⟨fun b o e => ?_, by omega, xs ++ ys, _, rfl, upd_same, ?_⟩
          · rw [upd_ne (ne_of_none e hl)]
            exact sn _ _ (s _ _ e)
          · rw [partP_succ]
            exact (h2.mv tn).append (h4.mv tn3)
      · rintro σ' H' ⟨s, _, xs, v, rfl, gl, h2⟩
        refine ⟨_, rfl, k l xs H' gl ?_ s hl⟩
        rw [partF_succ, if_neg m0]
        exact h2
theorem ok__law_partings (T : Txt K mg A) : FnOk P w K mg base CX0 26 A.a__law_partings A.fd__law_partings ["_law_n", "_law_top"] (sp_lparts 26) := okr__law_partings T 26
def n__law_kept : List Str := ["_law_rule", "_law_n"]
theorem sc__law_kept : FnScope n__law_kept ["_law_rule", "_law_n"] (defScope s__law_kept) := ⟨rfl, rfl, rfl, by decide +kernel, rfl, by decide +kernel, by decide +kernel⟩
def sp_lkept : Sp := fun vs H Q _ => ∃ (p : Addr) (rs : List V) (rule : List (List Int)) (m : Nat), vs = [.ref p, .int m] ∧ H p = some (.tup rs) ∧ All2 Tup1 H rule rs ∧ rule.length ≤ 60 ∧ (∀ h ∈ rule, h.length ≤ 1000) ∧ m ≤ 24 ∧
  ∀ (l : Addr) (xs : List V) (H' : Hp), H' l = some (.lst xs) → All2 Tup1 H' (keptG rule m) xs → Same H H' → H l = none → Q (.ref l) H'
theorem ok__law_kept (T : Txt K mg A) : FnOk P w K mg base CX0 27 A.a__law_kept A.fd__law_kept ["_law_rule", "_law_n"] sp_lkept := by
  refine T.F__law_kept.ok sc__law_kept (fun vs H Q E h => ?_) (fun cdv Ar outer s H vs Q E hr h => ?_)
  · obtain ⟨p, rs, rule, m, rfl, hp, h2, hln, hlr, hm, k⟩ := h
    rfl
  · obtain ⟨p, rs, rule, m, rfl, hp, h2, hln, hlr, hm, k⟩ := h
    refine ⟨_, (pss_one (ps_ret (pe_comp (ls := ["_law_heap_here"]) (fr := [("_law_rule", 0)]) (cs_of (defScope s__law_kept) n__law_kept rfl rfl (by decide +kernel)) rfl (pi_list (pe_call (ok__law_partings T) (hr.mono (by decide)) rfl T.g__law_partings T.F__law_partings.kp T.b__law_partings .nil pass0 (pa_cons (pv 1) (pa_cons (pv 1) pa_nil)))) (fun _ _ _ _ => pgc 0 (by decide +kernel) rfl rfl) (fun _ _ _ _ => pf_one (pt_cmpR op_isN (pe_call (ok__law_first T) (hr.mono (by decide)) (glc (defScope s__law_kept)) T.g__law_first T.F__law_first.kp T.b__law_first .nil pass0 (pa_cons (pvc (defScope s__law_kept) 1) (pa_cons (pvc (defScope s__law_kept) 0) pa_nil))) pe_non (nomark _))) (fun _ _ _ _ => (pvc (defScope s__law_kept) 0))))), ?_⟩
    refine ⟨_, rfl, _, rfl, m, m, by omega, rfl, hm, by omega, fun l xs H1 gl h1 s1 nl => ?_⟩
    have hlx : xs.length ≤ sizeLine := by rw [← h1.length]; exact Nat.le_trans (partF_len _ _ _) (pow24 hm)
    refine ⟨l, rfl, ⟨_, SqL.of gl⟩, comp_list (xs := xs) (fun i ys σ' H' => Same H1 H' ∧ (∃ v, σ' = [v, some (.ref p)]) ∧ ys.length ≤ i ∧ All2 Tup1 H' (((partF 26 m m).take i).filter fun h => (firstG rule h).isNone) ys) ⟨fun _ _ h => h, ⟨_, rfl⟩, Nat.le_refl _, .nil⟩ ?_ ?_ ?_⟩
    · rintro i ys σ' H' hi ⟨s, _, hy, _⟩
      exact ⟨SqL.of (s _ _ gl), by omega⟩
    · rintro i x ys σ' H' hx ⟨s, ⟨v, rfl⟩, hy, h3⟩
      obtain ⟨hs, hhs, q, rfl, hq⟩ := h1.get hx
      have sn := s1.trans s
      refine ⟨_, rfl, _, rfl, p, q, rs, rule, hs, rfl, sn _ _ hp, h2.mv sn.tups, s _ _ hq, hln, hlr, fun H2 s2 => ⟨rfl, _, rfl, ?_⟩⟩
      rw [optV_none]
      refine ite2 (fun hc => ⟨_, rfl, s.trans s2, ⟨_, rfl⟩, by simp; omega, ?_⟩) (fun hc => ⟨s.trans s2, ⟨_, rfl⟩, by omega, ?_⟩)
      · rw [filter_take _ hhs, if_pos hc]
        exact (h3.mv s2.tups).snoc ⟨q, rfl, s2 _ _ (s _ _ hq)⟩
      · rw [filter_take _ hhs, if_neg hc, List.append_nil]
        exact h3.mv s2.tups
    · rintro ys σ' H' ⟨s, _, hy, h3⟩ l2 hl2
      rw [← h1.length, List.take_length] at h3
      have sn := s1.trans (s.trans (Same.new (o := .lst ys) hl2))
      exact k l2 ys _ upd_same (h3.mv (Same.new hl2).tups) sn ((s1.trans s).free hl2)
def n__law_one_class : List Str := ["_law_error", "_law_found"]
theorem sc__law_one_class : FnScope n__law_one_class ["_law_error"] (defScope s__law_one_class) := ⟨rfl, rfl, rfl, by decide +kernel, rfl, by decide +kernel, by decide +kernel⟩
def sp_one_class (A : Adr) : Sp := fun vs H Q _ => ∃ (e : Addr) (dd : Option Addr), vs = [.ref e] ∧ (H e = some (.ext (IsExcD e (.ref A.c_NotKept) dd)) ∨ H e = some (.ext (IsExcD e (.ref A.c_NoSum) dd)) ∨ H e = some (.ext (IsExcD e (.ref A.c_NoPlace) dd))) ∧ ∀ H', Same H H' → Q (.bl true) H'
theorem ok__law_one_class (T : Txt K mg A) : FnOk P w K mg base CX0 1 A.a__law_one_class A.fd__law_one_class ["_law_error"] (sp_one_class A) false := by
  refine T.F__law_one_class.ok sc__law_one_class (fun vs H Q E h => ?_) (fun cdv Ar outer s H vs Q E hr h => ?_)
  · obtain ⟨e, dd, rfl, he, k⟩ := h
    rfl
  · obtain ⟨e, dd, rfl, he, k⟩ := h
    refine ⟨_, (pss_cons (ps_set (i := 1) sc__law_one_class.nd rfl (by first | exact Or.inl rfl | exact Or.inr rfl) (pe_lst (pa_cons (pe_callB (call_isiXD (K := K)) rfl T.b_isinstance boot_isinstance (pa_cons (pv 0) (pa_cons (pe_glob (v := .ref A.c_NotIn) rfl T.g_NotIn rfl) pa_nil))) (pa_cons (pe_callB (call_isiXD (K := K)) rfl T.b_isinstance boot_isinstance (pa_cons (pv 0) (pa_cons (pe_glob (v := .ref A.c_NoText) rfl T.g_NoText rfl) pa_nil))) (pa_cons (pe_callB (call_isiXD (K := K)) rfl T.b_isinstance boot_isinstance (pa_cons (pv 0) (pa_cons (pe_glob (v := .ref A.c_NoRule) rfl T.g_NoRule rfl) pa_nil))) pa_nil)))))
        (pss_cons (ps_set (i := 1) sc__law_one_class.nd rfl (by first | exact Or.inl rfl | exact Or.inr rfl) (pe_op op_cat (pv 1) (pe_lst (pa_cons (pe_callB (call_isiXD (K := K)) rfl T.b_isinstance boot_isinstance (pa_cons (pv 0) (pa_cons (pe_glob (v := .ref A.c_NoSum) rfl T.g_NoSum rfl) pa_nil))) (pa_cons (pe_callB (call_isiXD (K := K)) rfl T.b_isinstance boot_isinstance (pa_cons (pv 0) (pa_cons (pe_glob (v := .ref A.c_NoPlace) rfl T.g_NoPlace rfl) pa_nil))) (pa_cons (pe_callB (call_isiXD (K := K)) rfl T.b_isinstance boot_isinstance (pa_cons (pv 0) (pa_cons (pe_glob (v := .ref A.c_NoPair) rfl T.g_NoPair rfl) pa_nil))) pa_nil))))))
        (pss_cons (ps_set (i := 1) sc__law_one_class.nd rfl (by first | exact Or.inl rfl | exact Or.inr rfl) (pe_op op_cat (pv 1) (pe_lst (pa_cons (pe_callB (call_isiXD (K := K)) rfl T.b_isinstance boot_isinstance (pa_cons (pv 0) (pa_cons (pe_glob (v := .ref A.c_NotPaired) rfl T.g_NotPaired rfl) pa_nil))) (pa_cons (pe_callB (call_isiXD (K := K)) rfl T.b_isinstance boot_isinstance (pa_cons (pv 0) (pa_cons (pe_glob (v := .ref A.c_NotSoMany) rfl T.g_NotSoMany rfl) pa_nil))) (pa_cons (pe_callB (call_isiXD (K := K)) rfl T.b_isinstance boot_isinstance (pa_cons (pv 0) (pa_cons (pe_glob (v := .ref A.c_NotStrict) rfl T.g_NotStrict rfl) pa_nil))) pa_nil))))))
        (pss_cons (ps_set (i := 1) sc__law_one_class.nd rfl (by first | exact Or.inl rfl | exact Or.inr rfl) (pe_op op_cat (pv 1) (pe_lst (pa_cons (pe_callB (call_isiXD (K := K)) rfl T.b_isinstance boot_isinstance (pa_cons (pv 0) (pa_cons (pe_glob (v := .ref A.c_LeftOver) rfl T.g_LeftOver rfl) pa_nil))) (pa_cons (pe_callB (call_isiXD (K := K)) rfl T.b_isinstance boot_isinstance (pa_cons (pv 0) (pa_cons (pe_glob (v := .ref A.c_NoBottom) rfl T.g_NoBottom rfl) pa_nil))) (pa_cons (pe_callB (call_isiXD (K := K)) rfl T.b_isinstance boot_isinstance (pa_cons (pv 0) (pa_cons (pe_glob (v := .ref A.c_NoLanes) rfl T.g_NoLanes rfl) pa_nil))) pa_nil))))))
        (pss_cons (ps_set (i := 1) sc__law_one_class.nd rfl (by first | exact Or.inl rfl | exact Or.inr rfl) (pe_op op_cat (pv 1) (pe_lst (pa_cons (pe_callB (call_isiXD (K := K)) rfl T.b_isinstance boot_isinstance (pa_cons (pv 0) (pa_cons (pe_glob (v := .ref A.c_TooGreat) rfl T.g_TooGreat rfl) pa_nil))) (pa_cons (pe_callB (call_isiXD (K := K)) rfl T.b_isinstance boot_isinstance (pa_cons (pv 0) (pa_cons (pe_glob (v := .ref A.c_NoLine) rfl T.g_NoLine rfl) pa_nil))) (pa_cons (pe_callB (call_isiXD (K := K)) rfl T.b_isinstance boot_isinstance (pa_cons (pv 0) (pa_cons (pe_glob (v := .ref A.c_NothingLeft) rfl T.g_NothingLeft rfl) pa_nil))) pa_nil))))))
        (pss_cons (ps_set (i := 1) sc__law_one_class.nd rfl (by first | exact Or.inl rfl | exact Or.inr rfl) (pe_op op_cat (pv 1) (pe_lst (pa_cons (pe_callB (call_isiXD (K := K)) rfl T.b_isinstance boot_isinstance (pa_cons (pv 0) (pa_cons (pe_glob (v := .ref A.c_NoHeap) rfl T.g_NoHeap rfl) pa_nil))) (pa_cons (pe_callB (call_isiXD (K := K)) rfl T.b_isinstance boot_isinstance (pa_cons (pv 0) (pa_cons (pe_glob (v := .ref A.c_NotKept) rfl T.g_NotKept rfl) pa_nil))) (pa_cons (pe_callB (call_isiXD (K := K)) rfl T.b_isinstance boot_isinstance (pa_cons (pv 0) (pa_cons (pe_glob (v := .ref A.c_Unmatched) rfl T.g_Unmatched rfl) pa_nil))) pa_nil))))))
        (pss_cons (ps_set (i := 1) sc__law_one_class.nd rfl (by first | exact Or.inl rfl | exact Or.inr rfl) (pe_op op_cat (pv 1) (pe_lst (pa_cons (pe_callB (call_isiXD (K := K)) rfl T.b_isinstance boot_isinstance (pa_cons (pv 0) (pa_cons (pe_glob (v := .ref A.c_TooLong) rfl T.g_TooLong rfl) pa_nil))) (pa_cons (pe_callB (call_isiXD (K := K)) rfl T.b_isinstance boot_isinstance (pa_cons (pv 0) (pa_cons (pe_glob (v := .ref A.c_NoName) rfl T.g_NoName rfl) pa_nil))) pa_nil)))))
        (pss_one (ps_ret (pe_and (pe_cmpR op_eq (pe_bm PySem.F.plainAttrs_list PySem.F.slot_list_count PySem.F.type_list_count mt_countL (pv 1) (pa_cons pe_bl pa_nil)) pe_int (nomark _)) (pe_and (pe_callB (call_isiXD (K := K)) rfl T.b_isinstance boot_isinstance (pa_cons (pv 0) (pa_cons (pe_glob (v := .ref A.c_ShutError) rfl T.g_ShutError rfl) pa_nil))) (pe_one (pe_callB (call_isiXD (K := K)) rfl T.b_isinstance boot_isinstance (pa_cons (pv 0) (pa_cons (pe_bltn (v := .ty "ValueError") rfl T.b_ValueError boot_ValueError rfl) pa_nil))))))))))))))), ?_⟩
    rcases he with he | he | he
    · refine ⟨_, rfl, e, A.c_NotKept, dd, _, _, _, rfl, (fun _ h => h), he, T.e_NotKept, T.i_NotKept_NotIn, _, rfl, e, A.c_NotKept, dd, _, _, _, rfl, (fun _ h => h), he, T.e_NotKept, T.i_NotKept_NoText, _, rfl, e, A.c_NotKept, dd, _, _, _, rfl, (fun _ h => h), he, T.e_NotKept, T.i_NotKept_NoRule, by show 3 ≤ sizeLine; decide, fun l0 hl0 => ?_⟩
      obtain ⟨H0, hH0⟩ : ∃ H0, H0 = upd H l0 (.lst [V.bl false, V.bl false, V.bl false]) := ⟨_, rfl⟩
      rw [← hH0]
      have s0 : Same H H0 := by rw [hH0]; exact Same.new hl0
      have g0 : H0 l0 = some (.lst [V.bl false, V.bl false, V.bl false]) := by rw [hH0]; exact upd_same
      refine ⟨_, rfl, _, rfl, e, A.c_NotKept, dd, _, _, _, rfl, (fun _ h => h), (s0 _ _ he), T.e_NotKept, T.i_NotKept_NoSum, _, rfl, e, A.c_NotKept, dd, _, _, _, rfl, (fun _ h => h), (s0 _ _ he), T.e_NotKept, T.i_NotKept_NoPlace, _, rfl, e, A.c_NotKept, dd, _, _, _, rfl, (fun _ h => h), (s0 _ _ he), T.e_NotKept, T.i_NotKept_NoPair, by show 3 ≤ sizeLine; decide, fun m1 hm1 => ?_⟩
      refine ⟨l0, m1, _, _, rfl, rfl, Same.new hm1 _ _ g0, upd_same, by show 6 ≤ sizeLine; decide, fun l1 hl1 => ?_⟩
      obtain ⟨H1, hH1⟩ : ∃ H', H' = upd (upd H0 m1 (.lst [V.bl false, V.bl false, V.bl false])) l1 (.lst ([V.bl false, V.bl false, V.bl false] ++ [V.bl false, V.bl false, V.bl false])) := ⟨_, rfl⟩
      rw [← hH1]
      have s1 : Same H H1 := by rw [hH1]; exact s0.trans ((Same.new hm1).trans (Same.new hl1))
      have g1 : H1 l1 = some (.lst [V.bl false, V.bl false, V.bl false, V.bl false, V.bl false, V.bl false]) := by rw [hH1]; exact upd_same
      refine ⟨_, rfl, _, rfl, e, A.c_NotKept, dd, _, _, _, rfl, (fun _ h => h), (s1 _ _ he), T.e_NotKept, T.i_NotKept_NotPaired, _, rfl, e, A.c_NotKept, dd, _, _, _, rfl, (fun _ h => h), (s1 _ _ he), T.e_NotKept, T.i_NotKept_NotSoMany, _, rfl, e, A.c_NotKept, dd, _, _, _, rfl, (fun _ h => h), (s1 _ _ he), T.e_NotKept, T.i_NotKept_NotStrict, by show 3 ≤ sizeLine; decide, fun m2 hm2 => ?_⟩
      refine ⟨l1, m2, _, _, rfl, rfl, Same.new hm2 _ _ g1, upd_same, by show 9 ≤ sizeLine; decide, fun l2 hl2 => ?_⟩
      obtain ⟨H2, hH2⟩ : ∃ H', H' = upd (upd H1 m2 (.lst [V.bl false, V.bl false, V.bl false])) l2 (.lst ([V.bl false, V.bl false, V.bl false, V.bl false, V.bl false, V.bl false] ++ [V.bl false, V.bl false, V.bl false])) := ⟨_, rfl⟩
      rw [← hH2]
      have s2 : Same H H2 := by rw [hH2]; exact s1.trans ((Same.new hm2).trans (Same.new hl2))
      have g2 : H2 l2 = some (.lst [V.bl false, V.bl false, V.bl false, V.bl false, V.bl false, V.bl false, V.bl false, V.bl false, V.bl false]) := by rw [hH2]; exact upd_same
      refine ⟨_, rfl, _, rfl, e, A.c_NotKept, dd, _, _, _, rfl, (fun _ h => h), (s2 _ _ he), T.e_NotKept, T.i_NotKept_LeftOver, _, rfl, e, A.c_NotKept, dd, _, _, _, rfl, (fun _ h => h), (s2 _ _ he), T.e_NotKept, T.i_NotKept_NoBottom, _, rfl, e, A.c_NotKept, dd, _, _, _, rfl, (fun _ h => h), (s2 _ _ he), T.e_NotKept, T.i_NotKept_NoLanes, by show 3 ≤ sizeLine; decide, fun m3 hm3 => ?_⟩
      refine ⟨l2, m3, _, _, rfl, rfl, Same.new hm3 _ _ g2, upd_same, by show 12 ≤ sizeLine; decide, fun l3 hl3 => ?_⟩
      obtain ⟨H3, hH3⟩ : ∃ H', H' = upd (upd H2 m3 (.lst [V.bl false, V.bl false, V.bl false])) l3 (.lst ([V.bl false, V.bl false, V.bl false, V.bl false, V.bl false, V.bl false, V.bl false, V.bl false, V.bl false] ++ [V.bl false, V.bl false, V.bl false])) := ⟨_, rfl⟩
      rw [← hH3]
      have s3 : Same H H3 := by rw [hH3]; exact s2.trans ((Same.new hm3).trans (Same.new hl3))
      have g3 : H3 l3 = some (.lst [V.bl false, V.bl false, V.bl false, V.bl false, V.bl false, V.bl false, V.bl false, V.bl false, V.bl false, V.bl false, V.bl false, V.bl false]) := by rw [hH3]; exact upd_same
      refine ⟨_, rfl, _, rfl, e, A.c_NotKept, dd, _, _, _, rfl, (fun _ h => h), (s3 _ _ he), T.e_NotKept, T.i_NotKept_TooGreat, _, rfl, e, A.c_NotKept, dd, _, _, _, rfl, (fun _ h => h), (s3 _ _ he), T.e_NotKept, T.i_NotKept_NoLine, _, rfl, e, A.c_NotKept, dd, _, _, _, rfl, (fun _ h => h), (s3 _ _ he), T.e_NotKept, T.i_NotKept_NothingLeft, by show 3 ≤ sizeLine; decide, fun m4 hm4 => ?_⟩
      refine ⟨l3, m4, _, _, rfl, rfl, Same.new hm4 _ _ g3, upd_same, by show 15 ≤ sizeLine; decide, fun l4 hl4 => ?_⟩
      obtain ⟨H4, hH4⟩ : ∃ H', H' = upd (upd H3 m4 (.lst [V.bl false, V.bl false, V.bl false])) l4 (.lst ([V.bl false, V.bl false, V.bl false, V.bl false, V.bl false, V.bl false, V.bl false, V.bl false, V.bl false, V.bl false, V.bl false, V.bl false] ++ [V.bl false, V.bl false, V.bl false])) := ⟨_, rfl⟩
      rw [← hH4]
      have s4 : Same H H4 := by rw [hH4]; exact s3.trans ((Same.new hm4).trans (Same.new hl4))
      have g4 : H4 l4 = some (.lst [V.bl false, V.bl false, V.bl false, V.bl false, V.bl false, V.bl false, V.bl false, V.bl false, V.bl false, V.bl false, V.bl false, V.bl false, V.bl false, V.bl false, V.bl false]) := by rw [hH4]; exact upd_same
      refine ⟨_, rfl, _, rfl, e, A.c_NotKept, dd, _, _, _, rfl, (fun _ h => h), (s4 _ _ he), T.e_NotKept, T.i_NotKept_NoHeap, _, rfl, e, A.c_NotKept, dd, _, _, _, rfl, (fun _ h => h), (s4 _ _ he), T.e_NotKept, T.i_NotKept_NotKept, _, rfl, e, A.c_NotKept, dd, _, _, _, rfl, (fun _ h => h), (s4 _ _ he), T.e_NotKept, T.i_NotKept_Unmatched, by show 3 ≤ sizeLine; decide, fun m5 hm5 => ?_⟩
      refine ⟨l4, m5, _, _, rfl, rfl, Same.new hm5 _ _ g4, upd_same, by show 18 ≤ sizeLine; decide, fun l5 hl5 => ?_⟩
      obtain ⟨H5, hH5⟩ : ∃ H', H' = upd (upd H4 m5 (.lst [V.bl false, V.bl true, V.bl false])) l5 (.lst ([V.bl false, V.bl false, V.bl false, V.bl false, V.bl false, V.bl false, V.bl false, V.bl false, V.bl false, V.bl false, V.bl false, V.bl false, V.bl false, V.bl false, V.bl false] ++ [V.bl false, V.bl true, V.bl false])) := ⟨_, rfl⟩
      rw [← hH5]
      have s5 : Same H H5 := by rw [hH5]; exact s4.trans ((Same.new hm5).trans (Same.new hl5))
      have g5 : H5 l5 = some (.lst [V.bl false, V.bl false, V.bl false, V.bl false, V.bl false, V.bl false, V.bl false, V.bl false, V.bl false, V.bl false, V.bl false, V.bl false, V.bl false, V.bl false, V.bl false, V.bl false, V.bl true, V.bl false]) := by rw [hH5]; exact upd_same
      refine ⟨_, rfl, _, rfl, e, A.c_NotKept, dd, _, _, _, rfl, (fun _ h => h), (s5 _ _ he), T.e_NotKept, T.i_NotKept_TooLong, _, rfl, e, A.c_NotKept, dd, _, _, _, rfl, (fun _ h => h), (s5 _ _ he), T.e_NotKept, T.i_NotKept_NoName, by show 2 ≤ sizeLine; decide, fun m6 hm6 => ?_⟩
      refine ⟨l5, m6, _, _, rfl, rfl, Same.new hm6 _ _ g5, upd_same, by show 20 ≤ sizeLine; decide, fun l6 hl6 => ?_⟩
      obtain ⟨H6, hH6⟩ : ∃ H', H' = upd (upd H5 m6 (.lst [V.bl false, V.bl false])) l6 (.lst ([V.bl false, V.bl false, V.bl false, V.bl false, V.bl false, V.bl false, V.bl false, V.bl false, V.bl false, V.bl false, V.bl false, V.bl false, V.bl false, V.bl false, V.bl false, V.bl false, V.bl true, V.bl false] ++ [V.bl false, V.bl false])) := ⟨_, rfl⟩
      rw [← hH6]
      have s6 : Same H H6 := by rw [hH6]; exact s5.trans ((Same.new hm6).trans (Same.new hl6))
      have g6 : H6 l6 = some (.lst [V.bl false, V.bl false, V.bl false, V.bl false, V.bl false, V.bl false, V.bl false, V.bl false, V.bl false, V.bl false, V.bl false, V.bl false, V.bl false, V.bl false, V.bl false, V.bl false, V.bl true, V.bl false, V.bl false, V.bl false]) := by rw [hH6]; exact upd_same
      refine ⟨_, rfl, .inl ⟨rfl, _, SqL.of g6⟩, l6, _, _, rfl, rfl, SqL.of g6, rfl, rfl, rfl, ⟨true, by first | rfl | decide, iteT ?_⟩⟩
      refine ⟨_, rfl, e, A.c_NotKept, dd, _, _, _, rfl, (fun _ h => h), (s6 _ _ he), T.e_NotKept, T.i_NotKept_ShutError, ⟨true, rfl, iteT ?_⟩⟩
      exact ⟨_, rfl, e, A.c_NotKept, dd, _, _, _, rfl, (fun _ h => h), (s6 _ _ he), T.e_NotKept, T.i_NotKept_ValueError, k _ s6⟩
    · refine ⟨_, rfl, e, A.c_NoSum, dd, _, _, _, rfl, (fun _ h => h), he, T.e_NoSum, T.i_NoSum_NotIn, _, rfl, e, A.c_NoSum, dd, _, _, _, rfl, (fun _ h => h), he, T.e_NoSum, T.i_NoSum_NoText, _, rfl, e, A.c_NoSum, dd, _, _, _, rfl, (fun _ h => h), he, T.e_NoSum, T.i_NoSum_NoRule, by show 3 ≤ sizeLine; decide, fun l0 hl0 => ?_⟩
      obtain ⟨H0, hH0⟩ : ∃ H0, H0 = upd H l0 (.lst [V.bl false, V.bl false, V.bl false]) := ⟨_, rfl⟩
      rw [← hH0]
      have s0 : Same H H0 := by rw [hH0]; exact Same.new hl0
      have g0 : H0 l0 = some (.lst [V.bl false, V.bl false, V.bl false]) := by rw [hH0]; exact upd_same
      refine ⟨_, rfl, _, rfl, e, A.c_NoSum, dd, _, _, _, rfl, (fun _ h => h), (s0 _ _ he), T.e_NoSum, T.i_NoSum_NoSum, _, rfl, e, A.c_NoSum, dd, _, _, _, rfl, (fun _ h => h), (s0 _ _ he), T.e_NoSum, T.i_NoSum_NoPlace, _, rfl, e, A.c_NoSum, dd, _, _, _, rfl, (fun _ h => h), (s0 _ _ he), T.e_NoSum, T.i_NoSum_NoPair, by show 3 ≤ sizeLine; decide, fun m1 hm1 => ?_⟩
      refine ⟨l0, m1, _, _, rfl, rfl, Same.new hm1 _ _ g0, upd_same, by show 6 ≤ sizeLine; decide, fun l1 hl1 => ?_⟩
      obtain ⟨H1, hH1⟩ : ∃ H', H' = upd (upd H0 m1 (.lst [V.bl true, V.bl false, V.bl false])) l1 (.lst ([V.bl false, V.bl false, V.bl false] ++ [V.bl true, V.bl false, V.bl false])) := ⟨_, rfl⟩
      rw [← hH1]
      have s1 : Same H H1 := by rw [hH1]; exact s0.trans ((Same.new hm1).trans (Same.new hl1))
      have g1 : H1 l1 = some (.lst [V.bl false, V.bl false, V.bl false, V.bl true, V.bl false, V.bl false]) := by rw [hH1]; exact upd_same
      refine ⟨_, rfl, _, rfl, e, A.c_NoSum, dd, _, _, _, rfl, (fun _ h => h), (s1 _ _ he), T.e_NoSum, T.i_NoSum_NotPaired, _, rfl, e, A.c_NoSum, dd, _, _, _, rfl, (fun _ h => h), (s1 _ _ he), T.e_NoSum, T.i_NoSum_NotSoMany, _, rfl, e, A.c_NoSum, dd, _, _, _, rfl, (fun _ h => h), (s1 _ _ he), T.e_NoSum, T.i_NoSum_NotStrict, by show 3 ≤ sizeLine; decide, fun m2 hm2 => ?_⟩
      refine ⟨l1, m2, _, _, rfl, rfl, Same.new hm2 _ _ g1, upd_same, by show 9 ≤ sizeLine; decide, fun l2 hl2 => ?_⟩
      obtain ⟨H2, hH2⟩ : ∃ H', H' = upd (upd H1 m2 (.lst [V.bl false, V.bl false, V.bl false])) l2 (.lst ([V.bl false, V.bl false, V.bl false, V.bl true, V.bl false, V.bl false] ++ [V.bl false, V.bl false, V.bl false])) := ⟨_, rfl⟩
      rw [← hH2]
      have s2 : Same H H2 := by rw [hH2]; exact s1.trans ((Same.new hm2).trans (Same.new hl2))
      have g2 : H2 l2 = some (.lst [V.bl false, V.bl false, V.bl false, V.bl true, V.bl false, V.bl false, V.bl false, V.bl false, V.bl false]) := by rw [hH2]; exact upd_same
      refine ⟨_, rfl, _, rfl, e, A.c_NoSum, dd, _, _, _, rfl, (fun _ h => h), (s2 _ _ he), T.e_NoSum, T.i_NoSum_LeftOver, _, rfl, e, A.c_NoSum, dd, _, _, _, rfl, (fun _ h => h), (s2 _ _ he), T.e_NoSum, T.i_NoSum_NoBottom, _, rfl, e, A.c_NoSum, dd, _, _, _, rfl, (fun _ h => h), (s2 _ _ he), T.e_NoSum, T.i_NoSum_NoLanes, by show 3 ≤ sizeLine; decide, fun m3 hm3 => ?_⟩
      refine ⟨l2, m3, _, _, rfl, rfl, Same.new hm3 _ _ g2, upd_same, by show 12 ≤ sizeLine; decide, fun l3 hl3 => ?_⟩
      obtain ⟨H3, hH3⟩ : ∃ H', H' = upd (upd H2 m3 (.lst [V.bl false, V.bl false, V.bl false])) l3 (.lst ([V.bl false, V.bl false, V.bl false, V.bl true, V.bl false, V.bl false, V.bl false, V.bl false, V.bl false] ++ [V.bl false, V.bl false, V.bl false])) := ⟨_, rfl⟩
      rw [← hH3]
      have s3 : Same H H3 := by rw [hH3]; exact s2.trans ((Same.new hm3).trans (Same.new hl3))
      have g3 : H3 l3 = some (.lst [V.bl false, V.bl false, V.bl false, V.bl true, V.bl false, V.bl false, V.bl false, V.bl false, V.bl false, V.bl false, V.bl false, V.bl false]) := by rw [hH3]; exact upd_same
      refine ⟨_, rfl, _, rfl, e, A.c_NoSum, dd, _, _, _, rfl, (fun _ h => h), (s3 _ _ he), T.e_NoSum, T.i_NoSum_TooGreat, _, rfl, e, A.c_NoSum, dd, _, _, _, rfl, (fun _ h => h), (s3 _ _ he), T.e_NoSum, T.i_NoSum_NoLine, _, rfl, e, A.c_NoSum, dd, _, _, _, rfl, (fun _ h => h), (s3 _ _ he), T.e_NoSum, T.i_NoSum_NothingLeft, by show 3 ≤ sizeLine; decide, fun m4 hm4 => ?_⟩
      refine ⟨l3, m4, _, _, rfl, rfl, Same.new hm4 _ _ g3, upd_same, by show 15 ≤ sizeLine; decide, fun l4 hl4 => ?_⟩
      obtain ⟨H4, hH4⟩ : ∃ H', H' = upd (upd H3 m4 (.lst [V.bl false, V.bl false, V.bl false])) l4 (.lst ([V.bl false, V.bl false, V.bl false, V.bl true, V.bl false, V.bl false, V.bl false, V.bl false, V.bl false, V.bl false, V.bl false, V.bl false] ++ [V.bl false, V.bl false, V.bl false])) := ⟨_, rfl⟩
      rw [← hH4]
      have s4 : Same H H4 := by rw [hH4]; exact s3.trans ((Same.new hm4).trans (Same.new hl4))
      have g4 : H4 l4 = some (.lst [V.bl false, V.bl false, V.bl false, V.bl true, V.bl false, V.bl false, V.bl false, V.bl false, V.bl false, V.bl false, V.bl false, V.bl false, V.bl false, V.bl false, V.bl false]) := by rw [hH4]; exact upd_same
      refine ⟨_, rfl, _, rfl, e, A.c_NoSum, dd, _, _, _, rfl, (fun _ h => h), (s4 _ _ he), T.e_NoSum, T.i_NoSum_NoHeap, _, rfl, e, A.c_NoSum, dd, _, _, _, rfl, (fun _ h => h), (s4 _ _ he), T.e_NoSum, T.i_NoSum_NotKept, _, rfl, e, A.c_NoSum, dd, _, _, _, rfl, (fun _ h => h), (s4 _ _ he), T.e_NoSum, T.i_NoSum_Unmatched, by show 3 ≤ sizeLine; decide, fun m5 hm5 => ?_⟩
      refine ⟨l4, m5, _, _, rfl, rfl, Same.new hm5 _ _ g4, upd_same, by show 18 ≤ sizeLine; decide, fun l5 hl5 => ?_⟩
      obtain ⟨H5, hH5⟩ : ∃ H', H' = upd (upd H4 m5 (.lst [V.bl false, V.bl false, V.bl false])) l5 (.lst ([V.bl false, V.bl false, V.bl false, V.bl true, V.bl false, V.bl false, V.bl false, V.bl false, V.bl false, V.bl false, V.bl false, V.bl false, V.bl false, V.bl false, V.bl false] ++ [V.bl false, V.bl false, V.bl false])) := ⟨_, rfl⟩
      rw [← hH5]
      have s5 : Same H H5 := by rw [hH5]; exact s4.trans ((Same.new hm5).trans (Same.new hl5))
      have g5 : H5 l5 = some (.lst [V.bl false, V.bl false, V.bl false, V.bl true, V.bl false, V.bl false, V.bl false, V.bl false, V.bl false, V.bl false, V.bl false, V.bl false, V.bl false, V.bl false, V.bl false, V.bl false, V.bl false, V.bl false]) := by rw [hH5]; exact upd_same
      refine ⟨_, rfl, _, rfl, e, A.c_NoSum, dd, _, _, _, rfl, (fun _ h => h), (s5 _ _ he), T.e_NoSum, T.i_NoSum_TooLong, _, rfl, e, A.c_NoSum, dd, _, _, _, rfl, (fun _ h => h), (s5 _ _ he), T.e_NoSum, T.i_NoSum_NoName, by show 2 ≤ sizeLine; decide, fun m6 hm6 => ?_⟩
      refine ⟨l5, m6, _, _, rfl, rfl, Same.new hm6 _ _ g5, upd_same, by show 20 ≤ sizeLine; decide, fun l6 hl6 => ?_⟩
      obtain ⟨H6, hH6⟩ : ∃ H', H' = upd (upd H5 m6 (.lst [V.bl false, V.bl false])) l6 (.lst ([V.bl false, V.bl false, V.bl false, V.bl true, V.bl false, V.bl false, V.bl false, V.bl false, V.bl false, V.bl false, V.bl false, V.bl false, V.bl false, V.bl false, V.bl false, V.bl false, V.bl false, V.bl false] ++ [V.bl false, V.bl false])) := ⟨_, rfl⟩
      rw [← hH6]
      have s6 : Same H H6 := by rw [hH6]; exact s5.trans ((Same.new hm6).trans (Same.new hl6))
      have g6 : H6 l6 = some (.lst [V.bl false, V.bl false, V.bl false, V.bl true, V.bl false, V.bl false, V.bl false, V.bl false, V.bl false, V.bl false, V.bl false, V.bl false, V.bl false, V.bl false, V.bl false, V.bl false, V.bl false, V.bl false, V.bl false, V.bl false]) := by rw [hH6]; exact upd_same
      refine ⟨_, rfl, .inl ⟨rfl, _, SqL.of g6⟩, l6, _, _, rfl, rfl, SqL.of g6, rfl, rfl, rfl, ⟨true, by first | rfl | decide, iteT ?_⟩⟩
      refine ⟨_, rfl, e, A.c_NoSum, dd, _, _, _, rfl, (fun _ h => h), (s6 _ _ he), T.e_NoSum, T.i_NoSum_ShutError, ⟨true, rfl, iteT ?_⟩⟩
      exact ⟨_, rfl, e, A.c_NoSum, dd, _, _, _, rfl, (fun _ h => h), (s6 _ _ he), T.e_NoSum, T.i_NoSum_ValueError, k _ s6⟩
    · refine ⟨_, rfl, e, A.c_NoPlace, dd, _, _, _, rfl, (fun _ h => h), he, T.e_NoPlace, T.i_NoPlace_NotIn, _, rfl, e, A.c_NoPlace, dd, _, _, _, rfl, (fun _ h => h), he, T.e_NoPlace, T.i_NoPlace_NoText, _, rfl, e, A.c_NoPlace, dd, _, _, _, rfl, (fun _ h => h), he, T.e_NoPlace, T.i_NoPlace_NoRule, by show 3 ≤ sizeLine; decide, fun l0 hl0 => ?_⟩
      obtain ⟨H0, hH0⟩ : ∃ H0, H0 = upd H l0 (.lst [V.bl false, V.bl false, V.bl false]) := ⟨_, rfl⟩
      rw [← hH0]
      have s0 : Same H H0 := by rw [hH0]; exact Same.new hl0
      have g0 : H0 l0 = some (.lst [V.bl false, V.bl false, V.bl false]) := by rw [hH0]; exact upd_same
      refine ⟨_, rfl, _, rfl, e, A.c_NoPlace, dd, _, _, _, rfl, (fun _ h => h), (s0 _ _ he), T.e_NoPlace, T.i_NoPlace_NoSum, _, rfl, e, A.c_NoPlace, dd, _, _, _, rfl, (fun _ h => h), (s0 _ _ he), T.e_NoPlace, T.i_NoPlace_NoPlace, _, rfl, e, A.c_NoPlace, dd, _, _, _, rfl, (fun _ h => h), (s0 _ _ he), T.e_NoPlace, T.i_NoPlace_NoPair, by show 3 ≤ sizeLine; decide, fun m1 hm1 => ?_⟩
      refine ⟨l0, m1, _, _, rfl, rfl, Same.new hm1 _ _ g0, upd_same, by show 6 ≤ sizeLine; decide, fun l1 hl1 => ?_⟩
      obtain ⟨H1, hH1⟩ : ∃ H', H' = upd (upd H0 m1 (.lst [V.bl false, V.bl true, V.bl false])) l1 (.lst ([V.bl false, V.bl false, V.bl false] ++ [V.bl false, V.bl true, V.bl false])) := ⟨_, rfl⟩
      rw [← hH1]
      have s1 : Same H H1 := by rw [hH1]; exact s0.trans ((Same.new hm1).trans (Same.new hl1))
      have g1 : H1 l1 = some (.lst [V.bl false, V.bl false, V.bl false, V.bl false, V.bl true, V.bl false]) := by rw [hH1]; exact upd_same
      refine ⟨_, rfl, _, rfl, e, A.c_NoPlace, dd, _, _, _, rfl, (fun _ h => h), (s1 _ _ he), T.e_NoPlace, T.i_NoPlace_NotPaired, _, rfl, e, A.c_NoPlace, dd, _, _, _, rfl, (fun _ h => h), (s1 _ _ he), T.e_NoPlace, T.i_NoPlace_NotSoMany, _, rfl, e, A.c_NoPlace, dd, _, _, _, rfl, (fun _ h => h), (s1 _ _ he), T.e_NoPlace, T.i_NoPlace_NotStrict, by show 3 ≤ sizeLine; decide, fun m2 hm2 => ?_⟩
      refine ⟨l1, m2, _, _, rfl, rfl, Same.new hm2 _ _ g1, upd_same, by show 9 ≤ sizeLine; decide, fun l2 hl2 => ?_⟩
      obtain ⟨H2, hH2⟩ : ∃ H', H' = upd (upd H1 m2 (.lst [V.bl false, V.bl false, V.bl false])) l2 (.lst ([V.bl false, V.bl false, V.bl false, V.bl false, V.bl true, V.bl false] ++ [V.bl false, V.bl false, V.bl false])) := ⟨_, rfl⟩
      rw [← hH2]
      have s2 : Same H H2 := by rw [hH2]; exact s1.trans ((Same.new hm2).trans (Same.new hl2))
      have g2 : H2 l2 = some (.lst [V.bl false, V.bl false, V.bl false, V.bl false, V.bl true, V.bl false, V.bl false, V.bl false, V.bl false]) := by rw [hH2]; exact upd_same
      refine ⟨_, rfl, _, rfl, e, A.c_NoPlace, dd, _, _, _, rfl, (fun _ h => h), (s2 _ _ he), T.e_NoPlace, T.i_NoPlace_LeftOver, _, rfl, e, A.c_NoPlace, dd, _, _, _, rfl, (fun _ h => h), (s2 _ _ he), T.e_NoPlace, T.i_NoPlace_NoBottom, _, rfl, e, A.c_NoPlace, dd, _, _, _, rfl, (fun _ h => h), (s2 _ _ he), T.e_NoPlace, T.i_NoPlace_NoLanes, by show 3 ≤ sizeLine; decide, fun m3 hm3 => ?_⟩
      refine ⟨l2, m3, _, _, rfl, rfl, Same.new hm3 _ _ g2, upd_same, by show 12 ≤ sizeLine; decide, fun l3 hl3 => ?_⟩
      obtain ⟨H3, hH3⟩ : ∃ H', H' = upd (upd H2 m3 (.lst [V.bl false, V.bl false, V.bl false])) l3 (.lst ([V.bl false, V.bl false, V.bl false, V.bl false, V.bl true, V.bl false, V.bl false, V.bl false, V.bl false] ++ [V.bl false, V.bl false, V.bl false])) := ⟨_, rfl⟩
      rw [← hH3]
      have s3 : Same H H3 := by rw [hH3]; exact s2.trans ((Same.new hm3).trans (Same.new hl3))
      have g3 : H3 l3 = some (.lst [V.bl false, V.bl false, V.bl false, V.bl false, V.bl true, V.bl false, V.bl false, V.bl false, V.bl false, V.bl false, V.bl false, V.bl false]) := by rw [hH3]; exact upd_same
      refine ⟨_, rfl, _, rfl, e, A.c_NoPlace, dd, _, _, _, rfl, (fun _ h => h), (s3 _ _ he), T.e_NoPlace, T.i_NoPlace_TooGreat, _, rfl, e, A.c_NoPlace, dd, _, _, _, rfl, (fun _ h => h), (s3 _ _ he), T.e_NoPlace, T.i_NoPlace_NoLine, _, rfl, e, A.c_NoPlace, dd, _, _, _, rfl, (fun _ h => h), (s3 _ _ he), T.e_NoPlace, T.i_NoPlace_NothingLeft, by show 3 ≤ sizeLine; decide, fun m4 hm4 => ?_⟩
      refine ⟨l3, m4, _, _, rfl, rfl, Same.new hm4 _ _ g3, upd_same, by show 15 ≤ sizeLine; decide, fun l4 hl4 => ?_⟩
      obtain ⟨H4, hH4⟩ : ∃ H', H' = upd (upd H3 m4 (.lst [V.bl false, V.bl false, V.bl false])) l4 (.lst ([V.bl false, V.bl false, V.bl false, V.bl false, V.bl true, V.bl false, V.bl false, V.bl false, V.bl false, V.bl false, V.bl false, V.bl false] ++ [V.bl false, V.bl false, V.bl false])) := ⟨_, rfl⟩
      rw [← hH4]
      have s4 : Same H H4 := by rw [hH4]; exact s3.trans ((Same.new hm4).trans (Same.new hl4))
      have g4 : H4 l4 = some (.lst [V.bl false, V.bl false, V.bl false, V.bl false, V.bl true, V.bl false, V.bl false, V.bl false, V.bl false, V.bl false, V.bl false, V.bl false, V.bl false, V.bl false, V.bl false]) := by rw [hH4]; exact upd_same
      refine ⟨_, rfl, _, rfl, e, A.c_NoPlace, dd, _, _, _, rfl, (fun _ h => h), (s4 _ _ he), T.e_NoPlace, T.i_NoPlace_NoHeap, _, rfl, e, A.c_NoPlace, dd, _, _, _, rfl, (fun _ h => h), (s4 _ _ he), T.e_NoPlace, T.i_NoPlace_NotKept, _, rfl, e, A.c_NoPlace, dd, _, _, _, rfl, (fun _ h => h), (s4 _ _ he), T.e_NoPlace, T.i_NoPlace_Unmatched, by show 3 ≤ sizeLine; decide, fun m5 hm5 => ?_⟩
      refine ⟨l4, m5, _, _, rfl, rfl, Same.new hm5 _ _ g4, upd_same, by show 18 ≤ sizeLine; decide, fun l5 hl5 => ?_⟩
      obtain ⟨H5, hH5⟩ : ∃ H', H' = upd (upd H4 m5 (.lst [V.bl false, V.bl false, V.bl false])) l5 (.lst ([V.bl false, V.bl false, V.bl false, V.bl false, V.bl true, V.bl false, V.bl false, V.bl false, V.bl false, V.bl false, V.bl false, V.bl false, V.bl false, V.bl false, V.bl false] ++ [V.bl false, V.bl false, V.bl false])) := ⟨_, rfl⟩
      rw [← hH5]
      have s5 : Same H H5 := by rw [hH5]; exact s4.trans ((Same.new hm5).trans (Same.new hl5))
      have g5 : H5 l5 = some (.lst [V.bl false, V.bl false, V.bl false, V.bl false, V.bl true, V.bl false, V.bl false, V.bl false, V.bl false, V.bl false, V.bl false, V.bl false, V.bl false, V.bl false, V.bl false, V.bl false, V.bl false, V.bl false]) := by rw [hH5]; exact upd_same
      refine ⟨_, rfl, _, rfl, e, A.c_NoPlace, dd, _, _, _, rfl, (fun _ h => h), (s5 _ _ he), T.e_NoPlace, T.i_NoPlace_TooLong, _, rfl, e, A.c_NoPlace, dd, _, _, _, rfl, (fun _ h => h), (s5 _ _ he), T.e_NoPlace, T.i_NoPlace_NoName, by show 2 ≤ sizeLine; decide, fun m6 hm6 => ?_⟩
      refine ⟨l5, m6, _, _, rfl, rfl, Same.new hm6 _ _ g5, upd_same, by show 20 ≤ sizeLine; decide, fun l6 hl6 => ?_⟩
      obtain ⟨H6, hH6⟩ : ∃ H', H' = upd (upd H5 m6 (.lst [V.bl false, V.bl false])) l6 (.lst ([V.bl false, V.bl false, V.bl false, V.bl false, V.bl true, V.bl false, V.bl false, V.bl false, V.bl false, V.bl false, V.bl false, V.bl false, V.bl false, V.bl false, V.bl false, V.bl false, V.bl false, V.bl false] ++ [V.bl false, V.bl false])) := ⟨_, rfl⟩
      rw [← hH6]
      have s6 : Same H H6 := by rw [hH6]; exact s5.trans ((Same.new hm6).trans (Same.new hl6))
      have g6 : H6 l6 = some (.lst [V.bl false, V.bl false, V.bl false, V.bl false, V.bl true, V.bl false, V.bl false, V.bl false, V.bl false, V.bl false, V.bl false, V.bl false, V.bl false, V.bl false, V.bl false, V.bl false, V.bl false, V.bl false, V.bl false, V.bl false]) := by rw [hH6]; exact upd_same
      refine ⟨_, rfl, .inl ⟨rfl, _, SqL.of g6⟩, l6, _, _, rfl, rfl, SqL.of g6, rfl, rfl, rfl, ⟨true, by first | rfl | decide, iteT ?_⟩⟩
      refine ⟨_, rfl, e, A.c_NoPlace, dd, _, _, _, rfl, (fun _ h => h), (s6 _ _ he), T.e_NoPlace, T.i_NoPlace_ShutError, ⟨true, rfl, iteT ?_⟩⟩
      exact ⟨_, rfl, e, A.c_NoPlace, dd, _, _, _, rfl, (fun _ h => h), (s6 _ _ he), T.e_NoPlace, T.i_NoPlace_ValueError, k _ s6⟩
def n__law_shut : List Str := ["_law_rule", "_law_heap_here", "_law_number", "_law_alone", "_law_error"]
theorem sc__law_shut : FnScope n__law_shut ["_law_rule", "_law_heap_here"] (defScope s__law_shut) := ⟨rfl, rfl, rfl, by decide +kernel, rfl, by decide +kernel, by decide +kernel⟩
def sp_shut : Sp := fun vs H Q _ => ∃ (p q : Addr) (rs : List V) (rule : List (List Int)) (hs : List Int), vs = [.ref p, .ref q] ∧ H p = some (.tup rs) ∧ All2 Tup1 H rule rs ∧ H q = some (.tup (hs.map V.int)) ∧ rule.length ≤ 60 ∧
  (((hs.sum < 0 ∨ 24 < hs.sum) ∧ ∀ H', Same H H' → Q .non H') ∨ (∃ (m : Nat) (z : Int), hs.sum = (m : Int) ∧ m ≤ 24 ∧ firstG rule hs = some z ∧ ∀ H', Same H H' → Q (.int z) H'))
theorem ok__law_shut (T : Txt K mg A) : FnOk P w K mg base CX0 31 A.a__law_shut A.fd__law_shut ["_law_rule", "_law_heap_here"] sp_shut := by
  refine T.F__law_shut.ok sc__law_shut (fun vs H Q E h => ?_) (fun cdv Ar outer s H vs Q E hr h => ?_)
  · obtain ⟨p, q, rs, rule, hs, rfl, hp, h2, hq, hln, h⟩ := h
    rfl
  · obtain ⟨p, q, rs, rule, hs, rfl, hp, h2, hq, hln, h⟩ := h
    refine ⟨_, (pss_cons (ps_set (i := 2) sc__law_shut.nd rfl (by first | exact Or.inl rfl | exact Or.inr rfl) (pe_un un_neg pe_int))
        (pss_cons (ps_set (i := 3) sc__law_shut.nd rfl (by first | exact Or.inl rfl | exact Or.inr rfl) pe_bl)
        (pss_cons (ps_try2X (i := 4) rfl rfl (px_call (ok_place_of T) (hr.mono (by decide)) rfl T.g_place_of T.F_place_of.kp T.b_place_of .nil (pa_cons (pv 0) (pa_cons (pv 1) pa_nil))) rfl T.g_NotKept rfl T.g_NoSum (fun _ => by exact (pss_cons (ps_set (i := 2) sc__law_shut.nd rfl (by first | exact Or.inl rfl | exact Or.inr rfl) (pe_fldX (K := K) rfl (pv 4) rfl))
        (pss_one (ps_set (i := 3) sc__law_shut.nd rfl (by first | exact Or.inl rfl | exact Or.inr rfl) (pe_call (ok__law_one_class T) ((hr.mono (by decide)).inH _) rfl T.g__law_one_class T.F__law_one_class.kp T.b__law_one_class .nil pass0 (pa_cons (pv 4) pa_nil)))))) (fun _ => by exact (pss_cons (ps_set (i := 2) sc__law_shut.nd rfl (by first | exact Or.inl rfl | exact Or.inr rfl) pe_non)
        (pss_one (ps_set (i := 3) sc__law_shut.nd rfl (by first | exact Or.inl rfl | exact Or.inr rfl) (pe_call (ok__law_one_class T) ((hr.mono (by decide)).inH _) rfl T.g__law_one_class T.F__law_one_class.kp T.b__law_one_class .nil pass0 (pa_cons (pv 4) pa_nil)))))) sc__law_shut.nd rfl rfl)
        (pss_cons (ps_if (pt_not (pt_truth (pv 3) (fun _ => rfl)))
          (pss_one (ps_ret (pe_un un_neg pe_int))) pss_nil)
        (pss_one (ps_ret (pv 2))))))), ?_⟩
    obtain ⟨h0, hk⟩ := T.kin
    have hlk : ∀ z : Int, List.lookup ("number" : Str) [(("number" : Str), V.int z)] = some (V.int z) := fun z => by simp [List.lookup]
    refine ⟨_, rfl, ?_⟩
    rcases h with ⟨hb, k⟩ | ⟨m, z, hs0, hm, hf, k⟩
    · refine ⟨_, rfl, _, rfl, p, q, rs, rule, hs, rfl, hp, h2, hq, hln, .inl ⟨hb, ?_⟩⟩
      refine ⟨_, rfl, .inr ⟨TakesNot.mkG (T.x_NoSum.isX hk) (T.xi_NotKept.isX hk) T.n_NoSum_NotKept, Takes.mkG (T.x_NoSum.isX hk) (T.x_NoSum.isX hk) T.t_NoSum_NoSum, fun e hen => ?_⟩⟩
      have sE := Same.new (o := .ext (IsExcD e (.ref A.c_NoSum) none)) hen
      refine ⟨_, rfl, e, none, rfl, .inr (.inl upd_same), fun H2 s2 => ?_⟩
      exact ⟨_, rfl, true, rfl, iteF ⟨_, rfl, k H2 (sE.trans s2)⟩⟩
    · refine ⟨_, rfl, _, rfl, p, q, rs, rule, hs, rfl, hp, h2, hq, hln, .inr ⟨m, hs0, hm, .inl ⟨z, hf, fun dx H1 gdx s1 => ?_⟩⟩⟩
      refine ⟨_, rfl, .inl ⟨Takes.mkG (T.xi_NotKept.isX hk) (T.xi_NotKept.isX hk) T.t_NotKept_NotKept, fun e hen => ?_⟩⟩
      have sE := Same.new (o := .ext (IsExcD e (.ref A.c_NotKept) (some dx))) hen
      refine ⟨_, rfl, e, A.c_NotKept, dx, _, _, rfl, upd_same, sE _ _ gdx, T.cx_NotKept, T.na_NotKept_number, hlk z, ?_⟩
      refine ⟨_, rfl, e, some dx, rfl, .inl upd_same, fun H2 s2 => ?_⟩
      exact ⟨_, rfl, true, rfl, iteF ⟨_, rfl, k H2 (s1.trans (sE.trans s2))⟩⟩
def n__law_nowhere : List Str := ["_law_rule", "_law_n", "_law_place", "_law_word", "_law_error"]
theorem sc__law_nowhere : FnScope n__law_nowhere ["_law_rule", "_law_n", "_law_place"] (defScope s__law_nowhere) := ⟨rfl, rfl, rfl, by decide +kernel, rfl, by decide +kernel, by decide +kernel⟩
def sp_nowhere : Sp := fun vs H Q _ => ∃ (p : Addr) (rs : List V) (rule : List (List Int)) (n pl : Int), vs = [.ref p, .int n, .int pl] ∧ H p = some (.tup rs) ∧ All2 Tup1 H rule rs ∧ rule.length ≤ 60 ∧
  (((n < 0 ∨ 24 < n) ∧ ∀ H', Same H H' → Q (.str "sum") H') ∨ (∃ m : Nat, n = (m : Int) ∧ m ≤ 24 ∧ (pl < 0 ∨ ((keptG rule m).length : Int) ≤ pl) ∧ ∀ H', Same H H' → Q (.str "place") H'))
theorem ok__law_nowhere (T : Txt K mg A) : FnOk P w K mg base CX0 31 A.a__law_nowhere A.fd__law_nowhere ["_law_rule", "_law_n", "_law_place"] sp_nowhere := by
  refine T.F__law_nowhere.ok sc__law_nowhere (fun vs H Q E h => ?_) (fun cdv Ar outer s H vs Q E hr h => ?_)
  · obtain ⟨p, rs, rule, n, pl, rfl, hp, h2, hln, h⟩ := h
    rfl
  · obtain ⟨p, rs, rule, n, pl, rfl, hp, h2, hln, h⟩ := h
    refine ⟨_, (pss_cons (ps_set (i := 3) sc__law_nowhere.nd rfl (by first | exact Or.inl rfl | exact Or.inr rfl) pe_str)
        (pss_cons (ps_try2X (i := 4) rfl rfl (px_call (ok_told_at T) (hr.mono (by decide)) rfl T.g_told_at T.F_told_at.kp T.b_told_at .nil (pa_cons (pv 0) (pa_cons (pv 1) (pa_cons (pv 2) pa_nil)))) rfl T.g_NoPlace rfl T.g_NoSum (fun _ => by exact (pss_one (ps_set (i := 3) sc__law_nowhere.nd rfl (by first | exact Or.inl rfl | exact Or.inr rfl) (pe_ix (ix_listK K rfl) (pe_lst (pa_cons pe_str (pa_cons pe_str pa_nil))) (pe_callTy call_int_bl rfl T.b_int boot_int (pa_cons (pe_call (ok__law_one_class T) ((hr.mono (by decide)).inH _) rfl T.g__law_one_class T.F__law_one_class.kp T.b__law_one_class .nil pass0 (pa_cons (pv 4) pa_nil)) pa_nil)) (fun _ _ => rfl))))) (fun _ => by exact (pss_one (ps_set (i := 3) sc__law_nowhere.nd rfl (by first | exact Or.inl rfl | exact Or.inr rfl) (pe_ix (ix_listK K rfl) (pe_lst (pa_cons pe_str (pa_cons pe_str pa_nil))) (pe_callTy call_int_bl rfl T.b_int boot_int (pa_cons (pe_call (ok__law_one_class T) ((hr.mono (by decide)).inH _) rfl T.g__law_one_class T.F__law_one_class.kp T.b__law_one_class .nil pass0 (pa_cons (pv 4) pa_nil)) pa_nil)) (fun _ _ => rfl))))) sc__law_nowhere.nd rfl rfl)
        (pss_one (ps_ret (pv 3))))), ?_⟩
    obtain ⟨h0, hk⟩ := T.kin
    rcases h with ⟨hb, k⟩ | ⟨m, rfl, hm, hb, k⟩
    · refine ⟨_, rfl, _, rfl, _, rfl, p, rs, rule, n, pl, rfl, hp, h2, hln, .inl ⟨hb, ?_⟩⟩
      refine ⟨_, rfl, .inr ⟨TakesNot.mkG (T.x_NoSum.isX hk) (T.x_NoPlace.isX hk) T.n_NoSum_NoPlace, Takes.mkG (T.x_NoSum.isX hk) (T.x_NoSum.isX hk) T.t_NoSum_NoSum, fun e hen => ?_⟩⟩
      have sE := Same.new (o := .ext (IsExcD e (.ref A.c_NoSum) none)) hen
      have he := upd_same (H := H) (a := e) (o := .ext (IsExcD e (.ref A.c_NoSum) none))
      generalize upd H e (.ext (IsExcD e (.ref A.c_NoSum) none)) = HE at sE he
      refine ⟨by show 2 ≤ sizeLine; decide, fun l hl => ?_⟩
      have sL := Same.new (o := .lst [V.str "", V.str "sum"]) hl
      refine ⟨_, rfl, e, none, rfl, .inr (.inl (sL _ _ he)), fun H2 s2 => ⟨true, rfl, ?_⟩⟩
      exact ⟨l, _, _, _, rfl, rfl, SqL.of (s2 _ _ upd_same), atI_nat (j := 1) rfl, _, rfl, k H2 (sE.trans (sL.trans s2))⟩
    · refine ⟨_, rfl, _, rfl, _, rfl, p, rs, rule, (m : Int), pl, rfl, hp, h2, hln, .inr ⟨m, rfl, hm, .inl ⟨hb, fun H1 s1 => ?_⟩⟩⟩
      refine ⟨_, rfl, .inl ⟨Takes.mkG (T.x_NoPlace.isX hk) (T.x_NoPlace.isX hk) T.t_NoPlace_NoPlace, fun e hen => ?_⟩⟩
      have sE := Same.new (o := .ext (IsExcD e (.ref A.c_NoPlace) none)) hen
      have he := upd_same (H := H1) (a := e) (o := .ext (IsExcD e (.ref A.c_NoPlace) none))
      generalize upd H1 e (.ext (IsExcD e (.ref A.c_NoPlace) none)) = HE at sE he
      refine ⟨by show 2 ≤ sizeLine; decide, fun l hl => ?_⟩
      have sL := Same.new (o := .lst [V.str "", V.str "place"]) hl
      refine ⟨_, rfl, e, none, rfl, .inr (.inr (sL _ _ he)), fun H2 s2 => ⟨true, rfl, ?_⟩⟩
      exact ⟨l, _, _, _, rfl, rfl, SqL.of (s2 _ _ upd_same), atI_nat (j := 1) rfl, _, rfl, k H2 (s1.trans (sE.trans (sL.trans s2)))⟩
def n__law_great : List Str := ["_law_state", "_law_heap_here"]
theorem sc__law_great : FnScope n__law_great ["_law_state"] (defScope s__law_great) := ⟨rfl, rfl, rfl, by decide +kernel, rfl, by decide +kernel, by decide +kernel⟩
def sp_great : Sp := fun vs H Q _ => ∃ (st ga ca : Addr) (N : Nat), vs = [.ref st] ∧ StAt H st ga ca N ∧ N ≤ 10 ^ 6 ∧
  ∀ (p : Addr) (hs : List Int) (H' : Hp), 24 < hs.sum → H' p = some (.tup (hs.map V.int)) → StAt H' st ga ca (N + 1000) → Keep [st, ga] H H' → H p = none → Q (.ref p) H'
theorem ok__law_great (T : Txt K mg A) : FnOk P w K mg base CX0 3 A.a__law_great A.fd__law_great ["_law_state"] sp_great := by
  refine T.F__law_great.ok sc__law_great (fun vs H Q E h => ?_) (fun cdv Ar outer s H vs Q E hr h => ?_)
  · obtain ⟨st, ga, ca, N, rfl, S, hN, k⟩ := h
    rfl
  · obtain ⟨st, ga, ca, N, rfl, S, hN, k⟩ := h
    refine ⟨_, (pss_cons (ps_set (i := 1) sc__law_great.nd rfl (by first | exact Or.inl rfl | exact Or.inr rfl) (pe_callTy call_tuple_of rfl T.b_tuple boot_tuple (pa_cons (pe_comp (ls := ["_law_k"]) (fr := [("_law_state", 0)]) (cs_of (defScope s__law_great) n__law_great rfl rfl (by decide +kernel)) rfl (pi_range1 rfl T.b_range (pa_cons (pe_op op_add pe_int (pe_call (ok__law_draw T) (hr.mono (by decide)) rfl T.g__law_draw T.F__law_draw.kp T.b__law_draw .nil pass0 (pa_cons (pv 0 (hv := Or.inr (Or.inl rfl))) (pa_cons pe_int pa_nil)))) pa_nil)) (fun _ _ _ _ => pgc 0 (by decide +kernel) rfl rfl) (fun _ _ _ _ => pf_nil) (fun _ _ _ _ => (pe_op op_add pe_int (pe_call (ok__law_draw T) (hr.mono (by decide)) (glc (defScope s__law_great)) T.g__law_draw T.F__law_draw.kp T.b__law_draw .nil pass0 (pa_cons (pvc (defScope s__law_great) 1) (pa_cons pe_int pa_nil)))))) pa_nil)))
        (pss_cons (ps_if (pt_cmpR op_eq (pe_call (ok__law_draw T) (hr.mono (by decide)) rfl T.g__law_draw T.F__law_draw.kp T.b__law_draw .nil pass0 (pa_cons (pv 0 (hv := Or.inr (Or.inl rfl))) (pa_cons pe_int pa_nil))) pe_int (nomark _))
          (pss_one (ps_set (i := 1) sc__law_great.nd rfl (by first | exact Or.inl rfl | exact Or.inr rfl) (pe_tup (pa_cons (pe_op op_add pe_int (pe_call (ok__law_draw T) (hr.mono (by decide)) rfl T.g__law_draw T.F__law_draw.kp T.b__law_draw .nil pass0 (pa_cons (pv 0 (hv := Or.inr (Or.inl rfl))) (pa_cons (pe_op op_sub (pe_op op_pow pe_int pe_int) pe_int) pa_nil)))) pa_nil)))) pss_nil)
        (pss_one (ps_ret (pe_callTy call_tuple_of rfl T.b_tuple boot_tuple (pa_cons (pe_sortR rfl T.b_sorted (pv 1)) pa_nil)))))), ?_⟩
    refine ⟨_, rfl, st, ga, ca, N, 20, rfl, S, by omega, by decide, by decide, fun r H1 r0 r1 S1 K1 => ?_⟩
    refine ⟨_, _, rfl, rfl, _, rfl, by omega, by omega, comp_range (n := (25 + r).toNat) (fun i ys σ' H' => (∃ v, σ' = [v, some (.ref st)]) ∧ ∃ ns : List Int, ys = ns.map V.int ∧ ns.length = i ∧ (∀ x ∈ ns, 1 ≤ x) ∧ StAt H' st ga ca (N + 7 + 7 * i) ∧ Keep [st, ga] H H') ⟨⟨_, rfl⟩, [], rfl, rfl, (fun _ hx => by cases hx), S1.mono (by omega), K1⟩ ?_ ?_ ?_⟩
    · rintro i ys σ' H' hi ⟨_, ns, rfl, hl, _⟩
      rw [List.length_map, hl]
      exact small64 (by omega)
    · rintro i ys σ' H' hi ⟨⟨v, rfl⟩, ns, rfl, hl, hb, S', K'⟩
      refine ⟨_, rfl, st, ga, ca, N + 7 + 7 * i, 9, rfl, S', by omega, by decide, by decide, fun z H2 z0 z1 S2 K2 => ?_⟩
      refine ⟨_, _, rfl, rfl, ⟨_, rfl⟩, ns ++ [1 + z], by simp, by simp [hl], fun x hx => ?_, S2.mono (by omega), K'.trans K2⟩
      rcases List.mem_append.mp hx with hx | hx
      · exact hb x hx
      · have : x = 1 + z := by simpa using hx
        omega
    rintro ys σ' H2 ⟨_, ns, rfl, hl, hb, S2, K2⟩ l hl0
    refine ⟨l, _, rfl, .inl ⟨SqL.of upd_same, fun p hp => ?_⟩⟩
    have s3 := (Same.new (o := .lst (ns.map V.int)) hl0).trans (Same.new (o := .tup (ns.map V.int)) hp)
    have g3 := upd_same (H := upd H2 l (.lst (ns.map V.int))) (a := p) (o := .tup (ns.map V.int))
    have S3 := S2.same s3
    have K3 := K2.trans s3.keep
    generalize upd (upd H2 l (.lst (ns.map V.int))) p (.tup (ns.map V.int)) = H3 at g3 S3 K3
    have np : p ∉ [st, ga] := S2.nin ((Same.new hl0).free hp)
    have hsum : ∀ {l : List Int}, (∀ x ∈ l, 1 ≤ x) → (l.length : Int) ≤ l.sum := fun {l} h => by
      induction l with
      | nil => simp
      | cons x r ih =>
        have h1 := h x (by simp)
        have h2 := ih fun y hy => h y (List.mem_cons_of_mem _ hy)
        rw [List.sum_cons, List.length_cons]
        omega
    dsimp only [tNext, gName]
    refine seqJoin (fun σ' H' => ∃ (p : Addr) (hs : List Int), σ' = [some (.ref st), some (.ref p)] ∧ hs.length < 64 ∧ 24 < hs.sum ∧ H' p = some (.tup (hs.map V.int)) ∧ StAt H' st ga ca (N + 900) ∧ Keep [st, ga] H H') (fun nx hnx => ?_) ?_
    · refine ⟨_, rfl, st, ga, ca, _, 2, rfl, S3, by omega, by decide, by decide, fun c H4 c0 c1 S4 K4 => ⟨rfl, _, rfl, ite2 (fun _ => ?_) (fun _ => hnx _ _ ⟨p, ns, rfl, by omega, ?_, K4.at g3 np, S4.mono (by omega), K3.trans K4⟩)⟩⟩
      · refine ⟨_, rfl, _, _, rfl, rfl, ⟨by decide, by decide, by decide⟩, _, _, rfl, rfl, st, ga, ca, _, 10 ^ 60 - 999, rfl, S4, by omega, by decide, by decide, fun z H5 z0 z1 S5 K5 => ⟨_, _, rfl, rfl, by show 1 ≤ sizeLine; decide, fun t ht => ?_⟩⟩
        have s6 := Same.new (o := .tup [V.int (25 + z)]) ht
        exact hnx _ _ ⟨t, [25 + z], rfl, by show 1 < 64; decide, by simp; omega, upd_same, (S5.same s6).mono (by omega), K3.trans (K4.trans (K5.trans s6.keep))⟩
      · have := hsum hb
        omega
    rintro σ1 H4 ⟨p, hs, rfl, hl4, hs4, g4, S4, K4⟩
    refine ⟨_, rfl, p, hs, rfl, .inr (SqT.of g4), hl4, fun ns' p4 hperm hord hp4 => ?_⟩
    refine ⟨p4, _, rfl, .inl ⟨SqL.of upd_same, fun p5 hp5 => ?_⟩⟩
    have s5 := (Same.new (o := .lst (ns'.map V.int)) hp4).trans (Same.new (o := .tup (ns'.map V.int)) hp5)
    have n5 : H4 p5 = none := (Same.new hp4).free hp5
    exact k p5 ns' _ (by rw [perm_sum hperm]; exact hs4) upd_same ((S4.same s5).mono (by omega)) (K4.trans s5.keep) (K4.free n5 (S4.nin n5))
def n_law : List Str := ["_law_script", "_law_state", "_law_rule", "_law_n", "_law_kept_here", "_law_shut_here", "_law_heap_here", "_law_at", "_law_k", "_law_place", "_law_number", "_law_far"]
theorem sc_law : FnScope n_law ["_law_script"] (defScope s_law) := ⟨rfl, rfl, rfl, by decide +kernel, rfl, by decide +kernel, by decide +kernel⟩
def sp_law (K : PySem.W.Frag) : Sp := fun vs H Q _ => ∃ (a : Addr) (ns : List Int), vs = [.ref a] ∧ SqL K H a (ns.map V.int) ∧ ns.length ≤ 63 ∧ ∀ H', Q (.bl true) H'
structure Cx15 (H : Hp) (p : Addr) (rs : List V) (rule : List (List Int)) (m : Nat) (kl sl : Addr) (kx sx : List V) (st ga ca : Addr) (N : Nat) : Prop where
  R : RuleAt H p rs rule
  gk : H kl = some (.lst kx)
  hk : All2 Tup1 H (keptG rule m) kx
  gs : H sl = some (.lst sx)
  hs : All2 Tup1 H ((partF 26 m m).filter fun h => (firstG rule h).isSome) sx
  S : StAt H st ga ca N
  nk : kl ∉ [st, ga]
  ns : sl ∉ [st, ga]
theorem Cx15.same {H H' : Hp} {p : Addr} {rs : List V} {rule : List (List Int)} {m : Nat} {kl sl : Addr} {kx sx : List V} {st ga ca : Addr} {N : Nat} (c : Cx15 H p rs rule m kl sl kx sx st ga ca N) (s : Same H H') : Cx15 H' p rs rule m kl sl kx sx st ga ca N :=
  ⟨c.R.mv s.tups, s _ _ c.gk, c.hk.mv s.tups, s _ _ c.gs, c.hs.mv s.tups, c.S.same s, c.nk, c.ns⟩
theorem Cx15.keep {H H' : Hp} {p : Addr} {rs : List V} {rule : List (List Int)} {m : Nat} {kl sl : Addr} {kx sx : List V} {st ga ca : Addr} {N M : Nat} (c : Cx15 H p rs rule m kl sl kx sx st ga ca N) (k : Keep [st, ga] H H') (S' : StAt H' st ga ca M) : Cx15 H' p rs rule m kl sl kx sx st ga ca M :=
  ⟨c.R.mv (k.tups c.S), k.at c.gk c.nk, c.hk.mv (k.tups c.S), k.at c.gs c.ns, c.hs.mv (k.tups c.S), S', c.nk, c.ns⟩
theorem Cx15.mono {H : Hp} {p : Addr} {rs : List V} {rule : List (List Int)} {m : Nat} {kl sl : Addr} {kx sx : List V} {st ga ca : Addr} {N M : Nat} (c : Cx15 H p rs rule m kl sl kx sx st ga ca N) (h : N ≤ M) : Cx15 H p rs rule m kl sl kx sx st ga ca M :=
  ⟨c.R, c.gk, c.hk, c.gs, c.hs, c.S.mono h, c.nk, c.ns⟩
theorem shut_is {rule : List (List Int)} {m : Nat} (hm : m ≤ 24) {h : List Int} (hh : h ∈ (partF 26 m m).filter fun h => (firstG rule h).isSome) : h.sum = (m : Int) ∧ ∃ z, firstG rule h = some z := by
  have p12 := part12_all m (by omega)
  unfold part12 at p12
  simp only [Bool.and_eq_true, beq_iff_eq, List.all_eq_true, decide_eq_true_eq] at p12
  obtain ⟨h1, h2⟩ := List.mem_filter.mp hh
  exact ⟨(p12.1.2 h h1).1.1, Option.isSome_iff_exists.mp h2⟩
theorem ok_law (T : Txt K mg A) : FnOk P w K mg base CX0 33 A.a_law A.fd_law ["_law_script"] (sp_law K) := by
  refine T.F_law.ok sc_law (fun vs H Q E h => ?_) (fun cdv Ar outer s H vs Q E hr h => ?_)
  · obtain ⟨a, ns, rfl, hS, hl, k⟩ := h
    rfl
  · obtain ⟨a, ns, rfl, hS, hl, k⟩ := h
    refine ⟨_, (pss_cons (ps_set (i := 1) sc_law.nd rfl (by first | exact Or.inl rfl | exact Or.inr rfl) (pe_call (ok__law_start T) (hr.mono (by decide)) rfl T.g__law_start T.F__law_start.kp T.b__law_start .nil pass0 (pa_cons (pv 0) pa_nil)))
        (pss_cons (ps_set (i := 2) sc_law.nd rfl (by first | exact Or.inl rfl | exact Or.inr rfl) (pe_call (ok__law_some_rule T) (hr.mono (by decide)) rfl T.g__law_some_rule T.F__law_some_rule.kp T.b__law_some_rule .nil pass0 (pa_cons (pv 1) pa_nil)))
        (pss_cons (ps_set (i := 3) sc_law.nd rfl (by first | exact Or.inl rfl | exact Or.inr rfl) (pe_call (ok__law_draw T) (hr.mono (by decide)) rfl T.g__law_draw T.F__law_draw.kp T.b__law_draw .nil pass0 (pa_cons (pv 1) (pa_cons pe_int pa_nil))))
        (pss_cons (ps_if (pt_cmpR op_eq (pe_call (ok__law_draw T) (hr.mono (by decide)) rfl T.g__law_draw T.F__law_draw.kp T.b__law_draw .nil pass0 (pa_cons (pv 1) (pa_cons pe_int pa_nil))) pe_int (nomark _))
          (pss_cons (ps_set (i := 3) sc_law.nd rfl (by first | exact Or.inl rfl | exact Or.inr rfl) (pe_op op_add pe_int (pe_call (ok__law_draw T) (hr.mono (by decide)) rfl T.g__law_draw T.F__law_draw.kp T.b__law_draw .nil pass0 (pa_cons (pv 1) (pa_cons pe_int pa_nil)))))
        (pss_one (ps_set (i := 2) sc_law.nd rfl (by first | exact Or.inl rfl | exact Or.inr rfl) (pe_slice sl_tupA (pv 2 (hv := Or.inr (Or.inl rfl))) po_none (po_some pe_int))))) pss_nil)
        (pss_cons (ps_set (i := 4) sc_law.nd rfl (by first | exact Or.inl rfl | exact Or.inr rfl) (pe_call (ok__law_kept T) (hr.mono (by decide)) rfl T.g__law_kept T.F__law_kept.kp T.b__law_kept .nil pass0 (pa_cons (pv 2 (hv := Or.inr (Or.inl rfl))) (pa_cons (pv 3) pa_nil))))
        (pss_cons (ps_comp (i := 5) (ls := ["_law_heap_here"]) (fr := [("_law_rule", 2)]) (cs_of (defScope s_law) n_law rfl rfl (by decide +kernel)) rfl (pi_list (pe_call (ok__law_partings T) (hr.mono (by decide)) rfl T.g__law_partings T.F__law_partings.kp T.b__law_partings .nil pass0 (pa_cons (pv 3) (pa_cons (pv 3) pa_nil)))) (fun _ _ _ _ => pgc 0 (by decide +kernel) rfl rfl) (fun _ _ _ _ => pf_one (pt_cmpR op_notN (pe_call (ok__law_first T) (hr.mono (by decide)) (glc (defScope s_law)) T.g__law_first T.F__law_first.kp T.b__law_first .nil pass0 (pa_cons (pvc (defScope s_law) 1) (pa_cons (pvc (defScope s_law) 0) pa_nil))) pe_non (nomark _))) (fun _ _ _ _ => (pvc (defScope s_law) 0)) sc_law.nd rfl rfl rfl)
        (pss_cons (ps_if (pt_truth (pv 4) (fun _ => rfl))
          (pss_cons (ps_set (i := 7) sc_law.nd rfl (by first | exact Or.inl rfl | exact Or.inr rfl) (pe_call (ok__law_draw T) (hr.mono (by decide)) rfl T.g__law_draw T.F__law_draw.kp T.b__law_draw .nil pass0 (pa_cons (pv 1) (pa_cons (pe_callB call_len_seq rfl T.b_len PySem.boot_len (pa_cons (pv 4) pa_nil)) pa_nil))))
        (pss_one (ps_for PassesOwn.never rfl (pi_range1 rfl T.b_range (pa_cons pe_int pa_nil)) (pg_name (i := 8) sc_law.nd rfl (by first | exact Or.inl rfl | exact Or.inr rfl))
          (pss_cons (ps_set (i := 9) sc_law.nd rfl (by first | exact Or.inl rfl | exact Or.inr rfl) (pe_call (ok_place_of T) (hr.mono (by decide)) rfl T.g_place_of T.F_place_of.kp T.b_place_of .nil pass01 (pa_cons (pv 2 (hv := Or.inr (Or.inl rfl))) (pa_cons (pe_ix ix_list (pv 4) (pv 7) (fun _ _ => rfl)) pa_nil))))
        (pss_cons (ps_set (i := 6) sc_law.nd rfl (by first | exact Or.inl rfl | exact Or.inr rfl) (pe_call (ok_told_at T) (hr.mono (by decide)) rfl T.g_told_at T.F_told_at.kp T.b_told_at .nil pass01 (pa_cons (pv 2 (hv := Or.inr (Or.inl rfl))) (pa_cons (pv 3) (pa_cons (pv 7) pa_nil)))))
        (pss_one (ps_if (PW.pt (pw_or (pt_not (pt_truth (pe_call (ok__law_whole T) (hr.mono (by decide)) rfl T.g__law_whole T.F__law_whole.kp T.b__law_whole .nil pass0 (pa_cons (pv 9) pa_nil)) (fun _ => rfl))) (pw_or (pt_cmpR op_ne (pv 9) (pv 7) (nomark _)) (pw_or (pt_not (pt_truth (pe_call (ok__law_row T) (hr.mono (by decide)) rfl T.g__law_row T.F__law_row.kp T.b__law_row .nil pass0 (pa_cons (pv 6) pa_nil)) (fun _ => rfl))) (pw_or1 (pt_cmpR (op_neT' eqk_int (huR hr)) (pv 6) (pe_ix ix_list (pv 4) (pv 7) (fun _ _ => rfl)) (nomark _)))))))
          (pss_one (ps_ret pe_bl)) pss_nil))))))) pss_nil)
        (pss_cons (ps_if (pt_truth (pv 5) (fun _ => rfl))
          (pss_cons (ps_set (i := 6) sc_law.nd rfl (by first | exact Or.inl rfl | exact Or.inr rfl) (pe_ix ix_list (pv 5) (pe_call (ok__law_draw T) (hr.mono (by decide)) rfl T.g__law_draw T.F__law_draw.kp T.b__law_draw .nil pass0 (pa_cons (pv 1) (pa_cons (pe_callB call_len_seq rfl T.b_len PySem.boot_len (pa_cons (pv 5) pa_nil)) pa_nil))) (fun _ _ => rfl)))
        (pss_cons (ps_set (i := 10) sc_law.nd rfl (by first | exact Or.inl rfl | exact Or.inr rfl) (pe_call (ok__law_shut T) (hr.mono (by decide)) rfl T.g__law_shut T.F__law_shut.kp T.b__law_shut .nil pass0 (pa_cons (pv 2 (hv := Or.inr (Or.inl rfl))) (pa_cons (pv 6) pa_nil))))
        (pss_one (ps_if (PW.pt (pw_or (pt_not (pt_truth (pe_call (ok__law_whole T) (hr.mono (by decide)) rfl T.g__law_whole T.F__law_whole.kp T.b__law_whole .nil pass0 (pa_cons (pv 10) pa_nil)) (fun _ => rfl))) (pw_or1 (pt_cmpR op_ne (pv 10) (pe_call (ok__law_first T) (hr.mono (by decide)) rfl T.g__law_first T.F__law_first.kp T.b__law_first .nil pass0 (pa_cons (pv 2 (hv := Or.inr (Or.inl rfl))) (pa_cons (pv 6) pa_nil))) (nomark _)))))
          (pss_one (ps_ret pe_bl)) pss_nil)))) pss_nil)
        (pss_cons (ps_if (pt_cmpR op_notN (pe_call (ok__law_shut T) (hr.mono (by decide)) rfl T.g__law_shut T.F__law_shut.kp T.b__law_shut .nil pass0 (pa_cons (pv 2 (hv := Or.inr (Or.inl rfl))) (pa_cons (pe_call (ok__law_great T) (hr.mono (by decide)) rfl T.g__law_great T.F__law_great.kp T.b__law_great .nil pass0 (pa_cons (pv 1) pa_nil)) pa_nil))) pe_non (nomark _))
          (pss_one (ps_ret pe_bl)) pss_nil)
        (pss_cons (ps_set (i := 11) sc_law.nd rfl (by first | exact Or.inl rfl | exact Or.inr rfl) (pe_call (ok__law_draw T) (hr.mono (by decide)) rfl T.g__law_draw T.F__law_draw.kp T.b__law_draw .nil pass0 (pa_cons (pv 1) (pa_cons (pe_op op_sub (pe_op op_pow pe_int pe_int) pe_int) pa_nil))))
        (pss_cons (ps_for PassesOwn.never rfl (pi_tup (pe_tup (pa_cons (pe_un un_neg pe_int) (pa_cons (pe_op op_sub (pe_un un_neg pe_int) (pv 11)) (pa_cons (pe_callB call_len_seq rfl T.b_len PySem.boot_len (pa_cons (pv 4) pa_nil)) (pa_cons (pe_op op_add (pe_callB call_len_seq rfl T.b_len PySem.boot_len (pa_cons (pv 4) pa_nil)) (pv 11)) pa_nil)))))) (pg_name (i := 9) sc_law.nd rfl (by first | exact Or.inl rfl | exact Or.inr rfl))
          (pss_cons (ps_if (pt_cmpR op_ne (pe_call (ok__law_nowhere T) (hr.mono (by decide)) rfl T.g__law_nowhere T.F__law_nowhere.kp T.b__law_nowhere .nil pass0 (pa_cons (pv 2 (hv := Or.inr (Or.inl rfl))) (pa_cons (pv 3) (pa_cons (pv 9) pa_nil)))) pe_str (nomark _))
          (pss_one (ps_ret pe_bl)) pss_nil)
        (pss_one (ps_if (PW.pt (pw_or (pt_cmpR op_ne (pe_call (ok__law_nowhere T) (hr.mono (by decide)) rfl T.g__law_nowhere T.F__law_nowhere.kp T.b__law_nowhere .nil pass0 (pa_cons (pv 2 (hv := Or.inr (Or.inl rfl))) (pa_cons (pe_un un_neg pe_int) (pa_cons (pv 9) pa_nil)))) pe_str (nomark _)) (pw_or1 (pt_cmpR op_ne (pe_call (ok__law_nowhere T) (hr.mono (by decide)) rfl T.g__law_nowhere T.F__law_nowhere.kp T.b__law_nowhere .nil pass0 (pa_cons (pv 2 (hv := Or.inr (Or.inl rfl))) (pa_cons (pe_op op_add pe_int (pv 11)) (pa_cons (pv 9) pa_nil)))) pe_str (nomark _)))))
          (pss_one (ps_ret pe_bl)) pss_nil))))
        (pss_one (ps_ret pe_bl))))))))))))), ?_⟩
    refine ⟨_, rfl, a, ns, rfl, hS, hl, fun st ga ca H1 S1 n1 n2 n3 s1 => ?_⟩
    refine ⟨_, rfl, st, ga, ca, 0, rfl, S1, by decide, fun p rs rule H2 hp2 h22 hln hgd S2 K2 np => ?_⟩
    have R2 : RuleAt H2 p rs rule := ⟨hp2, h22, hln, hgd⟩
    refine ⟨_, rfl, st, ga, ca, _, 17, rfl, S2, by decide, by decide, by decide, fun n H4 m0 m1 S4 K4 => ?_⟩
    have R4 := R2.mv (K4.tups S2)
    dsimp only [tNext, gName]
    refine seqJoin (fun σ' H' => ∃ (p : Addr) (rs : List V) (rule : List (List Int)) (m : Nat), σ' = [some (.ref a), some (.ref st), some (.ref p), some (.int m), none, none, none, none, none, none, none, none] ∧ RuleAt H' p rs rule ∧ m ≤ 24 ∧ StAt H' st ga ca 4100) (fun nx hnx => ?_) ?_
    · refine ⟨_, rfl, st, ga, ca, _, 16, rfl, S4, by decide, by decide, by decide, fun r H5 r0 r1 S5 K5 => ?_⟩
      have R5 := R4.mv (K5.tups S4)
      refine ⟨rfl, _, rfl, ite2 (fun _ => ?_) (fun _ => hnx _ _ ⟨p, rs, rule, n.toNat, by rw [Int.toNat_of_nonneg m0]; rfl, R5, by omega, S5.mono (by decide)⟩)⟩
      refine ⟨_, rfl, st, ga, ca, _, 8, rfl, S5, by decide, by decide, by decide, fun r2 H6 r20 r21 S6 K6 => ?_⟩
      refine ⟨_, _, rfl, rfl, ?_⟩
      refine ⟨_, rfl, _, rfl, slice_rule (n := 2) (R5.mv (K6.tups S5)) fun q rs2 rule2 H7 R7 s7 => ?_⟩
      exact hnx _ _ ⟨q, rs2, rule2, (17 + r2).toNat, by rw [Int.toNat_of_nonneg (by omega)]; rfl, R7, by omega, (S6.same s7).mono (by decide)⟩
    clear R2 R4 hp2 h22 hln hgd np
    rintro σ1 H5 ⟨p, rs, rule, m, rfl, R5, hm, S5⟩
    have l60 : rule.length ≤ 60 := Nat.le_trans R5.ln (by decide)
    refine ⟨_, rfl, _, rfl, p, rs, rule, m, rfl, R5.at_, R5.h2, l60, R5.small, hm, fun kl kx H6 gk hk6 s6 nk => ?_⟩
    have R6 := R5.mv s6.tups
    refine ⟨_, rfl, _, rfl, m, m, by omega, rfl, hm, by omega, fun pl px H7 gp hp7 s7 np7 => ?_⟩
    have R7 := R6.mv s7.tups
    have lpx : px.length ≤ sizeLine := by rw [← hp7.length]; exact Nat.le_trans (partF_len _ _ _) (pow24 hm)
    refine ⟨pl, rfl, ⟨_, SqL.of gp⟩, comp_list (xs := px) (fun i ys σ' H' => Same H7 H' ∧ (∃ v, σ' = [v, some (.ref p)]) ∧ ys.length ≤ i ∧ All2 Tup1 H' (((partF 26 m m).take i).filter fun h => (firstG rule h).isSome) ys) ⟨fun _ _ h => h, ⟨_, rfl⟩, Nat.le_refl _, .nil⟩ ?_ ?_ ?_⟩
    · rintro i ys σ' H' hi ⟨s, _, hy, _⟩
      exact ⟨SqL.of (s _ _ gp), by omega⟩
    · rintro i x ys σ' H' hx ⟨s, ⟨v, rfl⟩, hy, h3⟩
      obtain ⟨hs, hhs, q, rfl, hq⟩ := hp7.get hx
      have R' := R7.mv s.tups
      refine ⟨_, rfl, _, rfl, p, q, rs, rule, hs, rfl, R'.at_, R'.h2, s _ _ hq, l60, R5.small, fun H2 s2 => ⟨rfl, _, rfl, ?_⟩⟩
      cases hf : firstG rule hs with
      | none =>
        refine iteF ?_
        refine ⟨s.trans s2, ⟨_, rfl⟩, by omega, ?_⟩
        rw [filter_take _ hhs, hf]
        simpa using h3.mv s2.tups
      | some z =>
        refine iteT' rfl ?_
        refine ⟨_, rfl, s.trans s2, ⟨_, rfl⟩, by simp; omega, ?_⟩
        rw [filter_take _ hhs, hf]
        exact (h3.mv s2.tups).snoc ⟨q, rfl, s2 _ _ (s _ _ hq)⟩
    rintro ys σ' H8 ⟨s8, _, hy, h8⟩ sl hsl
    rw [← hp7.length, List.take_length] at h8
    have sn := s8.trans (Same.new (o := .lst ys) hsl)
    have s69 := s7.trans sn
    have s59 := s6.trans s69
    have C9 : Cx15 (upd H8 sl (.lst ys)) p rs rule m kl sl kx ys st ga ca 4100 := ⟨R7.mv sn.tups, s69 _ _ gk, hk6.mv s69.tups, upd_same, h8.mv (Same.new hsl).tups, S5.same s59, S5.nin nk, S5.nin ((s6.trans (s7.trans s8)).free hsl)⟩
    generalize upd H8 sl (.lst ys) = H9 at C9
    clear h8 sn s69 s59 hsl gk hk6 gp hp7 R7 R6 S5 s6 s7 s8 nk np7 hy lpx R5
    have lk : kx.length ≤ sizeLine := by rw [← C9.hk.length]; exact Nat.le_trans (Nat.le_trans (List.length_filter_le _ _) (partF_len _ _ _)) (pow24 hm)
    have ls : ys.length ≤ sizeLine := by rw [← C9.hs.length]; exact Nat.le_trans (Nat.le_trans (List.length_filter_le _ _) (partF_len _ _ _)) (pow24 hm)
    have b60 : (sizeLine : Int) ≤ 10 ^ 60 := by decide
    dsimp only [tNext, gName]
    refine seqJoin (fun σ' H' => ∃ (v6 v7 v8 v9 : Option V), σ' = [some (.ref a), some (.ref st), some (.ref p), some (.int m), some (.ref kl), some (.ref sl), v6, v7, v8, v9, none, none] ∧ Cx15 H' p rs rule m kl sl kx ys st ga ca 4200) (fun nx hnx => ?_) ?_
    · refine ⟨_, rfl, _, .inl ⟨_, SqL.of C9.gk, rfl⟩, ite2 (fun hc => ?_) (fun _ => hnx _ _ ⟨_, _, _, _, rfl, C9.mono (by decide)⟩)⟩
      have kp : 0 < kx.length := by
        rcases kx with _ | ⟨_, _⟩
        · cases hc
        · exact Nat.succ_pos _
      refine ⟨_, rfl, _, rfl, kl, kx, rfl, .inl (SqL.of C9.gk), st, ga, ca, _, kx.length, rfl, C9.S, by decide, by omega, by omega, fun at_ HA at0 at1 SA KA => ?_⟩
      have CA := C9.keep KA SA
      obtain ⟨j, rfl⟩ : ∃ n : Nat, at_ = (n : Int) := ⟨at_.toNat, by omega⟩
      obtain ⟨xj, hxj⟩ : ∃ x, kx[j]? = some x := ⟨_, List.getElem?_eq_getElem (by omega)⟩
      refine ⟨_, rfl, by decide, by decide, for_range (n := 2) (fun i σ' H' => ∃ (v6 v8 v9 : Option V), σ' = [some (.ref a), some (.ref st), some (.ref p), some (.int m), some (.ref kl), some (.ref sl), v6, some (.int j), v8, v9, none, none] ∧ Cx15 H' p rs rule m kl sl kx ys st ga ca 4200) ⟨_, _, _, rfl, CA.mono (by decide)⟩ ?_ ?_⟩
      · rintro i σ' H' hi ⟨v6, v8, v9, rfl, C⟩
        obtain ⟨hj, hhj, q, rfl, hq⟩ := C.hk.get hxj
        obtain ⟨e1, e2, e3⟩ := kept_is hm (List.mem_of_getElem? hhj)
        refine ⟨_, rfl, _, rfl, _, rfl, kl, kx, j, _, rfl, rfl, SqL.of C.gk, atI_nat hxj, p, q, rs, rule, hj, rfl, C.R.at_, C.R.h2, hq, l60, .inr ⟨m, e1, hm, .inr ⟨j, e3, hhj, fun i h => kept_once hm hhj h, fun HB sB => ?_⟩⟩⟩
        have CB := C.same sB
        refine ⟨_, rfl, _, rfl, _, rfl, p, rs, rule, m, j, rfl, CB.R.at_, CB.R.h2, l60, .inr ⟨m, rfl, hm, .inr ⟨j, hj, rfl, hhj, fun q2 HC hq2 sC => ?_⟩⟩⟩
        have CC := CB.same sC
        have hqC := sC _ _ (sB _ _ hq)
        have lj : hj.length ≤ 24 := Nat.le_trans (partF_mem _ _ _ _ (List.mem_filter.mp (List.mem_of_getElem? hhj)).1) hm
        refine ⟨_, rfl, _, rfl, true, rfl, iteF ?_⟩
        refine ⟨_, rfl, _, rfl, rfl, _, rfl, ?_⟩
        refine ite2 (fun hc => absurd hc (by simp)) fun _ => ?_
        refine ⟨_, rfl, q2, hj, rfl, hq2, Nat.le_trans lj (by decide), fun HD sD => ⟨true, rfl, iteF ?_⟩⟩
        refine ⟨_, rfl, _, rfl, _, rfl, kl, kx, j, _, rfl, rfl, SqL.of (sD _ _ CC.gk), atI_nat hxj, hj, hj, ⟨q2, _, rfl, SqT.of (sD _ _ hq2), all2_ints _⟩, ⟨q, _, rfl, SqT.of (sD _ _ hqC), all2_ints _⟩, _, rfl, ?_⟩
        exact ite2 (fun hc => absurd hc (by simp)) fun _ => ⟨_, _, _, rfl, CC.same sD⟩
      · rintro σ' H' ⟨v6, v8, v9, rfl, C⟩
        exact hnx _ _ ⟨_, _, _, _, rfl, C⟩
    rintro σ' HA ⟨v6, v7, v8, v9, rfl, CA⟩
    clear C9
    refine seqJoin (fun σ' H' => ∃ (v6 v7 v8 v9 v10 : Option V), σ' = [some (.ref a), some (.ref st), some (.ref p), some (.int m), some (.ref kl), some (.ref sl), v6, v7, v8, v9, v10, none] ∧ Cx15 H' p rs rule m kl sl kx ys st ga ca 4300) (fun nx hnx => ?_) ?_
    · refine ⟨_, rfl, _, .inl ⟨_, SqL.of CA.gs, rfl⟩, ite2 (fun hc => ?_) (fun _ => hnx _ _ ⟨_, _, _, _, _, rfl, CA.mono (by decide)⟩)⟩
      have kp : 0 < ys.length := by
        rcases ys with _ | ⟨_, _⟩
        · cases hc
        · exact Nat.succ_pos _
      refine ⟨_, rfl, _, rfl, _, rfl, sl, ys, rfl, .inl (SqL.of CA.gs), st, ga, ca, _, ys.length, rfl, CA.S, by decide, by omega, by omega, fun at_ HB at0 at1 SB KB => ?_⟩
      have CB := CA.keep KB SB
      obtain ⟨j, rfl⟩ : ∃ n : Nat, at_ = (n : Int) := ⟨at_.toNat, by omega⟩
      obtain ⟨xj, hxj⟩ : ∃ x, ys[j]? = some x := ⟨_, List.getElem?_eq_getElem (by omega)⟩
      obtain ⟨hj, hhj, q, rfl, hq⟩ := CB.hs.get hxj
      obtain ⟨e1, z, e3⟩ := shut_is hm (List.mem_of_getElem? hhj)
      refine ⟨sl, ys, j, _, rfl, rfl, SqL.of CB.gs, atI_nat hxj, ?_⟩
      refine ⟨_, rfl, _, rfl, p, q, rs, rule, hj, rfl, CB.R.at_, CB.R.h2, hq, l60, .inr ⟨m, z, e1, hm, e3, fun HC sC => ?_⟩⟩
      have CC := CB.same sC
      refine ⟨_, rfl, _, rfl, true, rfl, iteF ?_⟩
      refine ⟨_, rfl, _, rfl, _, rfl, p, q, rs, rule, hj, rfl, CC.R.at_, CC.R.h2, sC _ _ hq, l60, CC.R.small, fun HD sD => ?_⟩
      rw [e3]
      refine ⟨rfl, _, rfl, ite2 (fun hc => absurd hc (by simp [optV])) fun _ => hnx _ _ ⟨_, _, _, _, _, rfl, (CC.same sD).mono (by decide)⟩⟩
    clear CA v6 v7 v8 v9
    rintro σ' HA ⟨v6, v7, v8, v9, v10, rfl, CA⟩
    refine ⟨_, rfl, _, rfl, st, ga, ca, _, rfl, CA.S, by decide, fun q hs HB hsum hq SB KB nq => ?_⟩
    have CB := CA.keep KB SB
    refine ⟨p, q, rs, rule, hs, rfl, CB.R.at_, CB.R.h2, hq, l60, .inl ⟨.inr hsum, fun HC sC => ?_⟩⟩
    have CC := CB.same sC
    refine ⟨rfl, _, rfl, ite2 (fun hc => absurd hc (by simp)) fun _ => ?_⟩
    refine ⟨_, rfl, _, _, rfl, rfl, ⟨by decide, by decide, by decide⟩, _, _, rfl, rfl, st, ga, ca, _, 10 ^ 60 - 9999, rfl, CC.S, by decide, by decide, by decide, fun far HD f0 f1 SD KD => ?_⟩
    have CD := CC.keep KD SD
    dsimp only [tNext, gName]
    refine ⟨1, rfl, 1, rfl, _, rfl, _, _, rfl, rfl, _, rfl, kl, kx, rfl, .inl (SqL.of CD.gk), _, rfl, kl, kx, rfl, .inl (SqL.of CD.gk), _, rfl, _, _, rfl, rfl, by show 4 ≤ sizeLine; decide, fun t ht => ?_⟩
    have lk2 := CD.hk.length
    have CE := CD.same (Same.new (o := .tup [V.int (-1), V.int (-1 - far), V.int kx.length, V.int (kx.length + far)]) ht)
    refine ⟨t, rfl, ⟨_, SqT.of upd_same⟩, for_tup (xs := [V.int (-1), V.int (-1 - far), V.int kx.length, V.int (kx.length + far)]) (fun i σ' H' => ∃ (v6 v7 v8 v9 v10 : Option V), σ' = [some (.ref a), some (.ref st), some (.ref p), some (.int m), some (.ref kl), some (.ref sl), v6, v7, v8, v9, v10, some (.int far)] ∧ Same (upd HD t (.tup [V.int (-1), V.int (-1 - far), V.int kx.length, V.int (kx.length + far)])) H') ⟨_, _, _, _, _, rfl, fun _ _ h => h⟩ ?_ ?_ ?_⟩
    · rintro i σ' H' hi ⟨v6, v7, v8, v9, v10, rfl, s⟩
      exact SqT.of (s _ _ upd_same)
    · rintro i x σ' H' hx ⟨v6, v7, v8, v9, v10, rfl, s⟩
      obtain ⟨pl, rfl, hpl⟩ : ∃ pl, x = .int pl ∧ (pl < 0 ∨ ((keptG rule m).length : Int) ≤ pl) := by
        have := List.mem_of_getElem? hx
        simp only [List.mem_cons, List.not_mem_nil, or_false] at this
        rcases this with rfl | rfl | rfl | rfl
        · exact ⟨_, rfl, .inl (by decide)⟩
        · exact ⟨_, rfl, .inl (by omega)⟩
        · exact ⟨_, rfl, .inr (by omega)⟩
        · exact ⟨_, rfl, .inr (by omega)⟩
      have C := CE.same s
      refine ⟨_, rfl, _, rfl, _, rfl, p, rs, rule, m, pl, rfl, C.R.at_, C.R.h2, l60, .inr ⟨m, rfl, hm, hpl, fun HF sF => ?_⟩⟩
      have CF := C.same sF
      refine ⟨rfl, _, rfl, ite2 (fun hc => absurd hc (by decide)) fun _ => ?_⟩
      refine ⟨_, rfl, 1, rfl, _, rfl, p, rs, rule, -1, pl, rfl, CF.R.at_, CF.R.h2, l60, .inl ⟨.inl (by decide), fun HG sG => ?_⟩⟩
      have CG := CF.same sG
      refine ⟨rfl, _, rfl, ite2 (fun hc => absurd hc (by decide)) fun _ => ?_⟩
      refine ⟨_, rfl, _, rfl, _, _, rfl, rfl, _, rfl, p, rs, rule, _, pl, rfl, CG.R.at_, CG.R.h2, l60, .inl ⟨.inr (by omega), fun HI sI => ?_⟩⟩
      refine ⟨rfl, _, rfl, ite2 (fun hc => absurd hc (by decide)) fun _ => ?_⟩
      exact ⟨_, _, _, _, _, rfl, s.trans (sF.trans (sG.trans sI))⟩
    · rintro σ' H' ⟨v6, v7, v8, v9, v10, rfl, s⟩
      exact k _
end
theorem all_mk {l : PySem.W.OpenLaw} {w : World} {K : PySem.W.Frag} {h : Heap} {mg : Str → Option Value} {fa : Addr} (X : K.In h) (G : h.Ns mainGlobals mg) (hfa : mg "law" = some (.ref fa))
    {f0 : Addr} {od0 an0 : Option Addr} {sl0 : Array (Option Value)} {oc0 kV0 dc0 pm0 cd0 ct0 : Value}
    {f1 : Addr} {od1 an1 : Option Addr} {sl1 : Array (Option Value)} {oc1 kV1 dc1 pm1 cd1 ct1 : Value}
    {f2 : Addr} {od2 an2 : Option Addr} {sl2 : Array (Option Value)} {oc2 kV2 dc2 pm2 cd2 ct2 : Value}
    {f3 : Addr} {od3 an3 : Option Addr} {sl3 : Array (Option Value)} {oc3 kV3 dc3 pm3 cd3 ct3 : Value}
    {f4 : Addr} {od4 an4 : Option Addr} {sl4 : Array (Option Value)} {oc4 kV4 dc4 pm4 cd4 ct4 : Value}
    {f5 : Addr} {od5 an5 : Option Addr} {sl5 : Array (Option Value)} {oc5 kV5 dc5 pm5 cd5 ct5 : Value}
    {f6 : Addr} {od6 an6 : Option Addr} {sl6 : Array (Option Value)} {oc6 kV6 dc6 pm6 cd6 ct6 : Value}
    {f7 : Addr} {od7 an7 : Option Addr} {sl7 : Array (Option Value)} {oc7 kV7 dc7 pm7 cd7 ct7 : Value}
    {f8 : Addr} {od8 an8 : Option Addr} {sl8 : Array (Option Value)} {oc8 kV8 dc8 pm8 cd8 ct8 : Value}
    {f9 : Addr} {od9 an9 : Option Addr} {sl9 : Array (Option Value)} {oc9 kV9 dc9 pm9 cd9 ct9 : Value}
    {f10 : Addr} {od10 an10 : Option Addr} {sl10 : Array (Option Value)} {oc10 kV10 dc10 pm10 cd10 ct10 : Value}
    {f11 : Addr} {od11 an11 : Option Addr} {sl11 : Array (Option Value)} {oc11 kV11 dc11 pm11 cd11 ct11 : Value}
    {f12 : Addr} {od12 an12 : Option Addr} {sl12 : Array (Option Value)} {oc12 kV12 dc12 pm12 cd12 ct12 : Value}
    {f13 : Addr} {od13 an13 : Option Addr} {sl13 : Array (Option Value)} {oc13 kV13 dc13 pm13 cd13 ct13 : Value}
    {f14 : Addr} {od14 an14 : Option Addr} {sl14 : Array (Option Value)} {oc14 kV14 dc14 pm14 cd14 ct14 : Value}
    {f15 : Addr} {od15 an15 : Option Addr} {sl15 : Array (Option Value)} {oc15 kV15 dc15 pm15 cd15 ct15 : Value}
    {f16 : Addr} {od16 an16 : Option Addr} {sl16 : Array (Option Value)} {oc16 kV16 dc16 pm16 cd16 ct16 : Value}
    {f17 : Addr} {od17 an17 : Option Addr} {sl17 : Array (Option Value)} {oc17 kV17 dc17 pm17 cd17 ct17 : Value}
    {f18 : Addr} {od18 an18 : Option Addr} {sl18 : Array (Option Value)} {oc18 kV18 dc18 pm18 cd18 ct18 : Value}
    {f19 : Addr} {od19 an19 : Option Addr} {sl19 : Array (Option Value)} {oc19 kV19 dc19 pm19 cd19 ct19 : Value}
    {f20 : Addr} {od20 an20 : Option Addr} {sl20 : Array (Option Value)} {oc20 kV20 dc20 pm20 cd20 ct20 : Value}
    {f21 : Addr} {od21 an21 : Option Addr} {sl21 : Array (Option Value)} {oc21 kV21 dc21 pm21 cd21 ct21 : Value}
    {f22 : Addr} {od22 an22 : Option Addr} {sl22 : Array (Option Value)} {oc22 kV22 dc22 pm22 cd22 ct22 : Value}
    {f23 : Addr} {od23 an23 : Option Addr} {sl23 : Array (Option Value)} {oc23 kV23 dc23 pm23 cd23 ct23 : Value}
    {f24 : Addr} {od24 an24 : Option Addr} {sl24 : Array (Option Value)} {oc24 kV24 dc24 pm24 cd24 ct24 : Value}
    {f25 : Addr} {od25 an25 : Option Addr} {sl25 : Array (Option Value)} {oc25 kV25 dc25 pm25 cd25 ct25 : Value}
    {f26 : Addr} {od26 an26 : Option Addr} {sl26 : Array (Option Value)} {oc26 kV26 dc26 pm26 cd26 ct26 : Value}
    {f27 : Addr} {od27 an27 : Option Addr} {sl27 : Array (Option Value)} {oc27 kV27 dc27 pm27 cd27 ct27 : Value}
    {f28 : Addr} {od28 an28 : Option Addr} {sl28 : Array (Option Value)} {oc28 kV28 dc28 pm28 cd28 ct28 : Value}
    {f29 : Addr} {od29 an29 : Option Addr} {sl29 : Array (Option Value)} {oc29 kV29 dc29 pm29 cd29 ct29 : Value}
    {q_ShutError : Addr}
    {q_NoHeap : Addr}
    {q_NotIn : Addr}
    {q_NoText : Addr}
    {q_NoRule : Addr}
    {q_NoSum : Addr}
    {q_NotKept : Addr}
    {q_NoPlace : Addr}
    {q_NoPair : Addr}
    {q_NotSoMany : Addr}
    {q_Unmatched : Addr}
    {q_NotPaired : Addr}
    {q_TooLong : Addr}
    {q_NotStrict : Addr}
    {q_LeftOver : Addr}
    {q_NoBottom : Addr}
    {q_NoLanes : Addr}
    {q_TooGreat : Addr}
    {q_NoLine : Addr}
    {q_NoName : Addr}
    {q_NothingLeft : Addr}
    (a0 : PySem.W.nsIn K mainGlobals "refuse_beyond" = some (some (.ref f0))) (l0 : K.lookup f0 = some ⟨oc0, od0, .func (PySem.W.fnOf "refuse_beyond" "refuse_beyond" (defArgs s_refuse_beyond) (defBody s_refuse_beyond) (defScope s_refuse_beyond) .none kV0 dc0 pm0 an0 cd0 ct0), sl0⟩) (c0 : PySem.W.codeIn K cd0 "refuse_beyond" = true) (k0 : PySem.W.keepIn K (.ref f0) = true)
    (a1 : PySem.W.nsIn K mainGlobals "sum_of" = some (some (.ref f1))) (l1 : K.lookup f1 = some ⟨oc1, od1, .func (PySem.W.fnOf "sum_of" "sum_of" (defArgs s_sum_of) (defBody s_sum_of) (defScope s_sum_of) .none kV1 dc1 pm1 an1 cd1 ct1), sl1⟩) (c1 : PySem.W.codeIn K cd1 "sum_of" = true) (k1 : PySem.W.keepIn K (.ref f1) = true)
    (a2 : PySem.W.nsIn K mainGlobals "often" = some (some (.ref f2))) (l2 : K.lookup f2 = some ⟨oc2, od2, .func (PySem.W.fnOf "often" "often" (defArgs s_often) (defBody s_often) (defScope s_often) .none kV2 dc2 pm2 an2 cd2 ct2), sl2⟩) (c2 : PySem.W.codeIn K cd2 "often" = true) (k2 : PySem.W.keepIn K (.ref f2) = true)
    (a3 : PySem.W.nsIn K mainGlobals "lies_in" = some (some (.ref f3))) (l3 : K.lookup f3 = some ⟨oc3, od3, .func (PySem.W.fnOf "lies_in" "lies_in" (defArgs s_lies_in) (defBody s_lies_in) (defScope s_lies_in) .none kV3 dc3 pm3 an3 cd3 ct3), sl3⟩) (c3 : PySem.W.codeIn K cd3 "lies_in" = true) (k3 : PySem.W.keepIn K (.ref f3) = true)
    (a4 : PySem.W.nsIn K mainGlobals "all_in" = some (some (.ref f4))) (l4 : K.lookup f4 = some ⟨oc4, od4, .func (PySem.W.fnOf "all_in" "all_in" (defArgs s_all_in) (defBody s_all_in) (defScope s_all_in) .none kV4 dc4 pm4 an4 cd4 ct4), sl4⟩) (c4 : PySem.W.codeIn K cd4 "all_in" = true) (k4 : PySem.W.keepIn K (.ref f4) = true)
    (a5 : PySem.W.nsIn K mainGlobals "first_in" = some (some (.ref f5))) (l5 : K.lookup f5 = some ⟨oc5, od5, .func (PySem.W.fnOf "first_in" "first_in" (defArgs s_first_in) (defBody s_first_in) (defScope s_first_in) .none kV5 dc5 pm5 an5 cd5 ct5), sl5⟩) (c5 : PySem.W.codeIn K cd5 "first_in" = true) (k5 : PySem.W.keepIn K (.ref f5) = true)
    (a7 : PySem.W.nsIn K mainGlobals "refuse_unkept" = some (some (.ref f7))) (l7 : K.lookup f7 = some ⟨oc7, od7, .func (PySem.W.fnOf "refuse_unkept" "refuse_unkept" (defArgs s_refuse_unkept) (defBody s_refuse_unkept) (defScope s_refuse_unkept) .none kV7 dc7 pm7 an7 cd7 ct7), sl7⟩) (c7 : PySem.W.codeIn K cd7 "refuse_unkept" = true) (k7 : PySem.W.keepIn K (.ref f7) = true)
    (a8 : PySem.W.nsIn K mainGlobals "keeps" = some (some (.ref f8))) (l8 : K.lookup f8 = some ⟨oc8, od8, .func (PySem.W.fnOf "keeps" "keeps" (defArgs s_keeps) (defBody s_keeps) (defScope s_keeps) .none kV8 dc8 pm8 an8 cd8 ct8), sl8⟩) (c8 : PySem.W.codeIn K cd8 "keeps" = true) (k8 : PySem.W.keepIn K (.ref f8) = true)
    (a9 : PySem.W.nsIn K mainGlobals "partings_to" = some (some (.ref f9))) (l9 : K.lookup f9 = some ⟨oc9, od9, .func (PySem.W.fnOf "partings_to" "partings_to" (defArgs s_partings_to) (defBody s_partings_to) (defScope s_partings_to) .none kV9 dc9 pm9 an9 cd9 ct9), sl9⟩) (c9 : PySem.W.codeIn K cd9 "partings_to" = true) (k9 : PySem.W.keepIn K (.ref f9) = true)
    (a10 : PySem.W.nsIn K mainGlobals "partings_of" = some (some (.ref f10))) (l10 : K.lookup f10 = some ⟨oc10, od10, .func (PySem.W.fnOf "partings_of" "partings_of" (defArgs s_partings_of) (defBody s_partings_of) (defScope s_partings_of) .none kV10 dc10 pm10 an10 cd10 ct10), sl10⟩) (c10 : PySem.W.codeIn K cd10 "partings_of" = true) (k10 : PySem.W.keepIn K (.ref f10) = true)
    (a11 : PySem.W.nsIn K mainGlobals "kept_of" = some (some (.ref f11))) (l11 : K.lookup f11 = some ⟨oc11, od11, .func (PySem.W.fnOf "kept_of" "kept_of" (defArgs s_kept_of) (defBody s_kept_of) (defScope s_kept_of) .none kV11 dc11 pm11 an11 cd11 ct11), sl11⟩) (c11 : PySem.W.codeIn K cd11 "kept_of" = true) (k11 : PySem.W.keepIn K (.ref f11) = true)
    (a12 : PySem.W.nsIn K mainGlobals "place_of" = some (some (.ref f12))) (l12 : K.lookup f12 = some ⟨oc12, od12, .func (PySem.W.fnOf "place_of" "place_of" (defArgs s_place_of) (defBody s_place_of) (defScope s_place_of) .none kV12 dc12 pm12 an12 cd12 ct12), sl12⟩) (c12 : PySem.W.codeIn K cd12 "place_of" = true) (k12 : PySem.W.keepIn K (.ref f12) = true)
    (a13 : PySem.W.nsIn K mainGlobals "told_at" = some (some (.ref f13))) (l13 : K.lookup f13 = some ⟨oc13, od13, .func (PySem.W.fnOf "told_at" "told_at" (defArgs s_told_at) (defBody s_told_at) (defScope s_told_at) .none kV13 dc13 pm13 an13 cd13 ct13), sl13⟩) (c13 : PySem.W.codeIn K cd13 "told_at" = true) (k13 : PySem.W.keepIn K (.ref f13) = true)
    (a14 : PySem.W.nsIn K mainGlobals "_law_start" = some (some (.ref f14))) (l14 : K.lookup f14 = some ⟨oc14, od14, .func (PySem.W.fnOf "_law_start" "_law_start" (defArgs s__law_start) (defBody s__law_start) (defScope s__law_start) .none kV14 dc14 pm14 an14 cd14 ct14), sl14⟩) (c14 : PySem.W.codeIn K cd14 "_law_start" = true) (k14 : PySem.W.keepIn K (.ref f14) = true)
    (a15 : PySem.W.nsIn K mainGlobals "_law_mix" = some (some (.ref f15))) (l15 : K.lookup f15 = some ⟨oc15, od15, .func (PySem.W.fnOf "_law_mix" "_law_mix" (defArgs s__law_mix) (defBody s__law_mix) (defScope s__law_mix) .none kV15 dc15 pm15 an15 cd15 ct15), sl15⟩) (c15 : PySem.W.codeIn K cd15 "_law_mix" = true) (k15 : PySem.W.keepIn K (.ref f15) = true)
    (a16 : PySem.W.nsIn K mainGlobals "_law_draw" = some (some (.ref f16))) (l16 : K.lookup f16 = some ⟨oc16, od16, .func (PySem.W.fnOf "_law_draw" "_law_draw" (defArgs s__law_draw) (defBody s__law_draw) (defScope s__law_draw) .none kV16 dc16 pm16 an16 cd16 ct16), sl16⟩) (c16 : PySem.W.codeIn K cd16 "_law_draw" = true) (k16 : PySem.W.keepIn K (.ref f16) = true)
    (a17 : PySem.W.nsIn K mainGlobals "_law_lies" = some (some (.ref f17))) (l17 : K.lookup f17 = some ⟨oc17, od17, .func (PySem.W.fnOf "_law_lies" "_law_lies" (defArgs s__law_lies) (defBody s__law_lies) (defScope s__law_lies) .none kV17 dc17 pm17 an17 cd17 ct17), sl17⟩) (c17 : PySem.W.codeIn K cd17 "_law_lies" = true) (k17 : PySem.W.keepIn K (.ref f17) = true)
    (a18 : PySem.W.nsIn K mainGlobals "_law_first" = some (some (.ref f18))) (l18 : K.lookup f18 = some ⟨oc18, od18, .func (PySem.W.fnOf "_law_first" "_law_first" (defArgs s__law_first) (defBody s__law_first) (defScope s__law_first) .none kV18 dc18 pm18 an18 cd18 ct18), sl18⟩) (c18 : PySem.W.codeIn K cd18 "_law_first" = true) (k18 : PySem.W.keepIn K (.ref f18) = true)
    (a19 : PySem.W.nsIn K mainGlobals "_law_heap" = some (some (.ref f19))) (l19 : K.lookup f19 = some ⟨oc19, od19, .func (PySem.W.fnOf "_law_heap" "_law_heap" (defArgs s__law_heap) (defBody s__law_heap) (defScope s__law_heap) .none kV19 dc19 pm19 an19 cd19 ct19), sl19⟩) (c19 : PySem.W.codeIn K cd19 "_law_heap" = true) (k19 : PySem.W.keepIn K (.ref f19) = true)
    (a20 : PySem.W.nsIn K mainGlobals "_law_some_rule" = some (some (.ref f20))) (l20 : K.lookup f20 = some ⟨oc20, od20, .func (PySem.W.fnOf "_law_some_rule" "_law_some_rule" (defArgs s__law_some_rule) (defBody s__law_some_rule) (defScope s__law_some_rule) .none kV20 dc20 pm20 an20 cd20 ct20), sl20⟩) (c20 : PySem.W.codeIn K cd20 "_law_some_rule" = true) (k20 : PySem.W.keepIn K (.ref f20) = true)
    (a21 : PySem.W.nsIn K mainGlobals "_law_whole" = some (some (.ref f21))) (l21 : K.lookup f21 = some ⟨oc21, od21, .func (PySem.W.fnOf "_law_whole" "_law_whole" (defArgs s__law_whole) (defBody s__law_whole) (defScope s__law_whole) .none kV21 dc21 pm21 an21 cd21 ct21), sl21⟩) (c21 : PySem.W.codeIn K cd21 "_law_whole" = true) (k21 : PySem.W.keepIn K (.ref f21) = true)
    (a22 : PySem.W.nsIn K mainGlobals "_law_row" = some (some (.ref f22))) (l22 : K.lookup f22 = some ⟨oc22, od22, .func (PySem.W.fnOf "_law_row" "_law_row" (defArgs s__law_row) (defBody s__law_row) (defScope s__law_row) .none kV22 dc22 pm22 an22 cd22 ct22), sl22⟩) (c22 : PySem.W.codeIn K cd22 "_law_row" = true) (k22 : PySem.W.keepIn K (.ref f22) = true)
    (a23 : PySem.W.nsIn K mainGlobals "_law_partings" = some (some (.ref f23))) (l23 : K.lookup f23 = some ⟨oc23, od23, .func (PySem.W.fnOf "_law_partings" "_law_partings" (defArgs s__law_partings) (defBody s__law_partings) (defScope s__law_partings) .none kV23 dc23 pm23 an23 cd23 ct23), sl23⟩) (c23 : PySem.W.codeIn K cd23 "_law_partings" = true) (k23 : PySem.W.keepIn K (.ref f23) = true)
    (a24 : PySem.W.nsIn K mainGlobals "_law_kept" = some (some (.ref f24))) (l24 : K.lookup f24 = some ⟨oc24, od24, .func (PySem.W.fnOf "_law_kept" "_law_kept" (defArgs s__law_kept) (defBody s__law_kept) (defScope s__law_kept) .none kV24 dc24 pm24 an24 cd24 ct24), sl24⟩) (c24 : PySem.W.codeIn K cd24 "_law_kept" = true) (k24 : PySem.W.keepIn K (.ref f24) = true)
    (a25 : PySem.W.nsIn K mainGlobals "_law_one_class" = some (some (.ref f25))) (l25 : K.lookup f25 = some ⟨oc25, od25, .func (PySem.W.fnOf "_law_one_class" "_law_one_class" (defArgs s__law_one_class) (defBody s__law_one_class) (defScope s__law_one_class) .none kV25 dc25 pm25 an25 cd25 ct25), sl25⟩) (c25 : PySem.W.codeIn K cd25 "_law_one_class" = true) (k25 : PySem.W.keepIn K (.ref f25) = true)
    (a26 : PySem.W.nsIn K mainGlobals "_law_shut" = some (some (.ref f26))) (l26 : K.lookup f26 = some ⟨oc26, od26, .func (PySem.W.fnOf "_law_shut" "_law_shut" (defArgs s__law_shut) (defBody s__law_shut) (defScope s__law_shut) .none kV26 dc26 pm26 an26 cd26 ct26), sl26⟩) (c26 : PySem.W.codeIn K cd26 "_law_shut" = true) (k26 : PySem.W.keepIn K (.ref f26) = true)
    (a27 : PySem.W.nsIn K mainGlobals "_law_nowhere" = some (some (.ref f27))) (l27 : K.lookup f27 = some ⟨oc27, od27, .func (PySem.W.fnOf "_law_nowhere" "_law_nowhere" (defArgs s__law_nowhere) (defBody s__law_nowhere) (defScope s__law_nowhere) .none kV27 dc27 pm27 an27 cd27 ct27), sl27⟩) (c27 : PySem.W.codeIn K cd27 "_law_nowhere" = true) (k27 : PySem.W.keepIn K (.ref f27) = true)
    (a28 : PySem.W.nsIn K mainGlobals "_law_great" = some (some (.ref f28))) (l28 : K.lookup f28 = some ⟨oc28, od28, .func (PySem.W.fnOf "_law_great" "_law_great" (defArgs s__law_great) (defBody s__law_great) (defScope s__law_great) .none kV28 dc28 pm28 an28 cd28 ct28), sl28⟩) (c28 : PySem.W.codeIn K cd28 "_law_great" = true) (k28 : PySem.W.keepIn K (.ref f28) = true)
    (a29 : PySem.W.nsIn K mainGlobals "law" = some (some (.ref f29))) (l29 : K.lookup f29 = some ⟨oc29, od29, .func (PySem.W.fnOf "law" "law" (defArgs s_law) (defBody s_law) (defScope s_law) .none kV29 dc29 pm29 an29 cd29 ct29), sl29⟩) (c29 : PySem.W.codeIn K cd29 "law" = true) (k29 : PySem.W.keepIn K (.ref f29) = true)
    (z_ValueError : PySem.W.nsIn K mainGlobals "ValueError" = some none)
    (z_all : PySem.W.nsIn K mainGlobals "all" = some none)
    (z_bool : PySem.W.nsIn K mainGlobals "bool" = some none)
    (z_enumerate : PySem.W.nsIn K mainGlobals "enumerate" = some none)
    (z_int : PySem.W.nsIn K mainGlobals "int" = some none)
    (z_isinstance : PySem.W.nsIn K mainGlobals "isinstance" = some none)
    (z_len : PySem.W.nsIn K mainGlobals "len" = some none)
    (z_min : PySem.W.nsIn K mainGlobals "min" = some none)
    (z_range : PySem.W.nsIn K mainGlobals "range" = some none)
    (z_sorted : PySem.W.nsIn K mainGlobals "sorted" = some none)
    (z_sum : PySem.W.nsIn K mainGlobals "sum" = some none)
    (z_tuple : PySem.W.nsIn K mainGlobals "tuple" = some none)
    {tk_MOST_LISTED : Tok} (w_MOST_LISTED : PySem.W.nsIn K mainGlobals "MOST_LISTED" = some (some (.int 24 tk_MOST_LISTED)))
    (m_ShutError : PySem.W.nsIn K mainGlobals "ShutError" = some (some (.ref q_ShutError)))
    (m_NoHeap : PySem.W.nsIn K mainGlobals "NoHeap" = some (some (.ref q_NoHeap)))
    (m_NotIn : PySem.W.nsIn K mainGlobals "NotIn" = some (some (.ref q_NotIn)))
    (m_NoText : PySem.W.nsIn K mainGlobals "NoText" = some (some (.ref q_NoText)))
    (m_NoRule : PySem.W.nsIn K mainGlobals "NoRule" = some (some (.ref q_NoRule)))
    (m_NoSum : PySem.W.nsIn K mainGlobals "NoSum" = some (some (.ref q_NoSum)))
    (m_NotKept : PySem.W.nsIn K mainGlobals "NotKept" = some (some (.ref q_NotKept)))
    (m_NoPlace : PySem.W.nsIn K mainGlobals "NoPlace" = some (some (.ref q_NoPlace)))
    (m_NoPair : PySem.W.nsIn K mainGlobals "NoPair" = some (some (.ref q_NoPair)))
    (m_NotSoMany : PySem.W.nsIn K mainGlobals "NotSoMany" = some (some (.ref q_NotSoMany)))
    (m_Unmatched : PySem.W.nsIn K mainGlobals "Unmatched" = some (some (.ref q_Unmatched)))
    (m_NotPaired : PySem.W.nsIn K mainGlobals "NotPaired" = some (some (.ref q_NotPaired)))
    (m_TooLong : PySem.W.nsIn K mainGlobals "TooLong" = some (some (.ref q_TooLong)))
    (m_NotStrict : PySem.W.nsIn K mainGlobals "NotStrict" = some (some (.ref q_NotStrict)))
    (m_LeftOver : PySem.W.nsIn K mainGlobals "LeftOver" = some (some (.ref q_LeftOver)))
    (m_NoBottom : PySem.W.nsIn K mainGlobals "NoBottom" = some (some (.ref q_NoBottom)))
    (m_NoLanes : PySem.W.nsIn K mainGlobals "NoLanes" = some (some (.ref q_NoLanes)))
    (m_TooGreat : PySem.W.nsIn K mainGlobals "TooGreat" = some (some (.ref q_TooGreat)))
    (m_NoLine : PySem.W.nsIn K mainGlobals "NoLine" = some (some (.ref q_NoLine)))
    (m_NoName : PySem.W.nsIn K mainGlobals "NoName" = some (some (.ref q_NoName)))
    (m_NothingLeft : PySem.W.nsIn K mainGlobals "NothingLeft" = some (some (.ref q_NothingLeft)))
    (x_NoPlace : PySem.W.excIn K q_NoPlace bmV "ValueError.__new__" = true) (y_NoPlace : PySem.W.keepIn K (.ref q_NoPlace) = true)
    (x_NoSum : PySem.W.excIn K q_NoSum bmV "ValueError.__new__" = true) (y_NoSum : PySem.W.keepIn K (.ref q_NoSum) = true)
    (e1_NoSum : PySem.W.findIn K (.ref q_NoSum) "__getattribute__" = some (some (.builtin "BaseException.__getattribute__"))) (e2_NoSum : PySem.W.findIn K (.ref q_NoSum) "__getattr__" = some none) (e3_NoSum : PySem.W.findIn K (.ref q_NoSum) "__class__" = some (some (.builtin "object.__class__"))) (e4_NoSum : PySem.W.specialIn K (.builtin "object.__class__") "__get__" = some (some (.builtin "getset_descriptor.__get__"))) (e5_NoSum : PySem.W.takesIn K (.builtin "object.__class__") = some true) (e6_NoSum : PySem.W.mroIn K q_NoSum (.type "object") = some true) (e7_NoSum : PySem.W.mroIn K q_NoSum (.type "BaseException") = some true)
    (t_NoSum_NoSum : PySem.W.mroIn K q_NoSum (.ref q_NoSum) = some true)
    (n_NoSum_NotKept : PySem.W.mroIn K q_NoSum (.ref q_NotKept) = some false)
    (n_NoSum_NoPlace : PySem.W.mroIn K q_NoSum (.ref q_NoPlace) = some false)
    (i_NoSum_LeftOver : PySem.W.kitOne K (.ref q_NoSum) (.ref q_LeftOver) = some false)
    (i_NoSum_NoBottom : PySem.W.kitOne K (.ref q_NoSum) (.ref q_NoBottom) = some false)
    (i_NoSum_NoHeap : PySem.W.kitOne K (.ref q_NoSum) (.ref q_NoHeap) = some false)
    (i_NoSum_NoLanes : PySem.W.kitOne K (.ref q_NoSum) (.ref q_NoLanes) = some false)
    (i_NoSum_NoLine : PySem.W.kitOne K (.ref q_NoSum) (.ref q_NoLine) = some false)
    (i_NoSum_NoName : PySem.W.kitOne K (.ref q_NoSum) (.ref q_NoName) = some false)
    (i_NoSum_NoPair : PySem.W.kitOne K (.ref q_NoSum) (.ref q_NoPair) = some false)
    (i_NoSum_NoPlace : PySem.W.kitOne K (.ref q_NoSum) (.ref q_NoPlace) = some false)
    (i_NoSum_NoRule : PySem.W.kitOne K (.ref q_NoSum) (.ref q_NoRule) = some false)
    (i_NoSum_NoSum : PySem.W.kitOne K (.ref q_NoSum) (.ref q_NoSum) = some true)
    (i_NoSum_NoText : PySem.W.kitOne K (.ref q_NoSum) (.ref q_NoText) = some false)
    (i_NoSum_NotIn : PySem.W.kitOne K (.ref q_NoSum) (.ref q_NotIn) = some false)
    (i_NoSum_NotKept : PySem.W.kitOne K (.ref q_NoSum) (.ref q_NotKept) = some false)
    (i_NoSum_NotPaired : PySem.W.kitOne K (.ref q_NoSum) (.ref q_NotPaired) = some false)
    (i_NoSum_NotSoMany : PySem.W.kitOne K (.ref q_NoSum) (.ref q_NotSoMany) = some false)
    (i_NoSum_NotStrict : PySem.W.kitOne K (.ref q_NoSum) (.ref q_NotStrict) = some false)
    (i_NoSum_NothingLeft : PySem.W.kitOne K (.ref q_NoSum) (.ref q_NothingLeft) = some false)
    (i_NoSum_ShutError : PySem.W.kitOne K (.ref q_NoSum) (.ref q_ShutError) = some true)
    (i_NoSum_TooGreat : PySem.W.kitOne K (.ref q_NoSum) (.ref q_TooGreat) = some false)
    (i_NoSum_TooLong : PySem.W.kitOne K (.ref q_NoSum) (.ref q_TooLong) = some false)
    (i_NoSum_Unmatched : PySem.W.kitOne K (.ref q_NoSum) (.ref q_Unmatched) = some false)
    (i_NoSum_ValueError : PySem.W.kitOne K (.ref q_NoSum) (.type "ValueError") = some true)
    (e1_NotKept : PySem.W.findIn K (.ref q_NotKept) "__getattribute__" = some (some (.builtin "BaseException.__getattribute__"))) (e2_NotKept : PySem.W.findIn K (.ref q_NotKept) "__getattr__" = some none) (e3_NotKept : PySem.W.findIn K (.ref q_NotKept) "__class__" = some (some (.builtin "object.__class__"))) (e4_NotKept : PySem.W.specialIn K (.builtin "object.__class__") "__get__" = some (some (.builtin "getset_descriptor.__get__"))) (e5_NotKept : PySem.W.takesIn K (.builtin "object.__class__") = some true) (e6_NotKept : PySem.W.mroIn K q_NotKept (.type "object") = some true) (e7_NotKept : PySem.W.mroIn K q_NotKept (.type "BaseException") = some true)
    (t_NotKept_NotKept : PySem.W.mroIn K q_NotKept (.ref q_NotKept) = some true)
    (n_NotKept_NoSum : PySem.W.mroIn K q_NotKept (.ref q_NoSum) = some false)
    (n_NotKept_NoPlace : PySem.W.mroIn K q_NotKept (.ref q_NoPlace) = some false)
    (i_NotKept_LeftOver : PySem.W.kitOne K (.ref q_NotKept) (.ref q_LeftOver) = some false)
    (i_NotKept_NoBottom : PySem.W.kitOne K (.ref q_NotKept) (.ref q_NoBottom) = some false)
    (i_NotKept_NoHeap : PySem.W.kitOne K (.ref q_NotKept) (.ref q_NoHeap) = some false)
    (i_NotKept_NoLanes : PySem.W.kitOne K (.ref q_NotKept) (.ref q_NoLanes) = some false)
    (i_NotKept_NoLine : PySem.W.kitOne K (.ref q_NotKept) (.ref q_NoLine) = some false)
    (i_NotKept_NoName : PySem.W.kitOne K (.ref q_NotKept) (.ref q_NoName) = some false)
    (i_NotKept_NoPair : PySem.W.kitOne K (.ref q_NotKept) (.ref q_NoPair) = some false)
    (i_NotKept_NoPlace : PySem.W.kitOne K (.ref q_NotKept) (.ref q_NoPlace) = some false)
    (i_NotKept_NoRule : PySem.W.kitOne K (.ref q_NotKept) (.ref q_NoRule) = some false)
    (i_NotKept_NoSum : PySem.W.kitOne K (.ref q_NotKept) (.ref q_NoSum) = some false)
    (i_NotKept_NoText : PySem.W.kitOne K (.ref q_NotKept) (.ref q_NoText) = some false)
    (i_NotKept_NotIn : PySem.W.kitOne K (.ref q_NotKept) (.ref q_NotIn) = some false)
    (i_NotKept_NotKept : PySem.W.kitOne K (.ref q_NotKept) (.ref q_NotKept) = some true)
    (i_NotKept_NotPaired : PySem.W.kitOne K (.ref q_NotKept) (.ref q_NotPaired) = some false)
    (i_NotKept_NotSoMany : PySem.W.kitOne K (.ref q_NotKept) (.ref q_NotSoMany) = some false)
    (i_NotKept_NotStrict : PySem.W.kitOne K (.ref q_NotKept) (.ref q_NotStrict) = some false)
    (i_NotKept_NothingLeft : PySem.W.kitOne K (.ref q_NotKept) (.ref q_NothingLeft) = some false)
    (i_NotKept_ShutError : PySem.W.kitOne K (.ref q_NotKept) (.ref q_ShutError) = some true)
    (i_NotKept_TooGreat : PySem.W.kitOne K (.ref q_NotKept) (.ref q_TooGreat) = some false)
    (i_NotKept_TooLong : PySem.W.kitOne K (.ref q_NotKept) (.ref q_TooLong) = some false)
    (i_NotKept_Unmatched : PySem.W.kitOne K (.ref q_NotKept) (.ref q_Unmatched) = some false)
    (i_NotKept_ValueError : PySem.W.kitOne K (.ref q_NotKept) (.type "ValueError") = some true)
    (e1_NoPlace : PySem.W.findIn K (.ref q_NoPlace) "__getattribute__" = some (some (.builtin "BaseException.__getattribute__"))) (e2_NoPlace : PySem.W.findIn K (.ref q_NoPlace) "__getattr__" = some none) (e3_NoPlace : PySem.W.findIn K (.ref q_NoPlace) "__class__" = some (some (.builtin "object.__class__"))) (e4_NoPlace : PySem.W.specialIn K (.builtin "object.__class__") "__get__" = some (some (.builtin "getset_descriptor.__get__"))) (e5_NoPlace : PySem.W.takesIn K (.builtin "object.__class__") = some true) (e6_NoPlace : PySem.W.mroIn K q_NoPlace (.type "object") = some true) (e7_NoPlace : PySem.W.mroIn K q_NoPlace (.type "BaseException") = some true)
    (t_NoPlace_NoPlace : PySem.W.mroIn K q_NoPlace (.ref q_NoPlace) = some true)
    (n_NoPlace_NoSum : PySem.W.mroIn K q_NoPlace (.ref q_NoSum) = some false)
    (n_NoPlace_NotKept : PySem.W.mroIn K q_NoPlace (.ref q_NotKept) = some false)
    (i_NoPlace_LeftOver : PySem.W.kitOne K (.ref q_NoPlace) (.ref q_LeftOver) = some false)
    (i_NoPlace_NoBottom : PySem.W.kitOne K (.ref q_NoPlace) (.ref q_NoBottom) = some false)
    (i_NoPlace_NoHeap : PySem.W.kitOne K (.ref q_NoPlace) (.ref q_NoHeap) = some false)
    (i_NoPlace_NoLanes : PySem.W.kitOne K (.ref q_NoPlace) (.ref q_NoLanes) = some false)
    (i_NoPlace_NoLine : PySem.W.kitOne K (.ref q_NoPlace) (.ref q_NoLine) = some false)
    (i_NoPlace_NoName : PySem.W.kitOne K (.ref q_NoPlace) (.ref q_NoName) = some false)
    (i_NoPlace_NoPair : PySem.W.kitOne K (.ref q_NoPlace) (.ref q_NoPair) = some false)
    (i_NoPlace_NoPlace : PySem.W.kitOne K (.ref q_NoPlace) (.ref q_NoPlace) = some true)
    (i_NoPlace_NoRule : PySem.W.kitOne K (.ref q_NoPlace) (.ref q_NoRule) = some false)
    (i_NoPlace_NoSum : PySem.W.kitOne K (.ref q_NoPlace) (.ref q_NoSum) = some false)
    (i_NoPlace_NoText : PySem.W.kitOne K (.ref q_NoPlace) (.ref q_NoText) = some false)
    (i_NoPlace_NotIn : PySem.W.kitOne K (.ref q_NoPlace) (.ref q_NotIn) = some false)
    (i_NoPlace_NotKept : PySem.W.kitOne K (.ref q_NoPlace) (.ref q_NotKept) = some false)
    (i_NoPlace_NotPaired : PySem.W.kitOne K (.ref q_NoPlace) (.ref q_NotPaired) = some false)
    (i_NoPlace_NotSoMany : PySem.W.kitOne K (.ref q_NoPlace) (.ref q_NotSoMany) = some false)
    (i_NoPlace_NotStrict : PySem.W.kitOne K (.ref q_NoPlace) (.ref q_NotStrict) = some false)
    (i_NoPlace_NothingLeft : PySem.W.kitOne K (.ref q_NoPlace) (.ref q_NothingLeft) = some false)
    (i_NoPlace_ShutError : PySem.W.kitOne K (.ref q_NoPlace) (.ref q_ShutError) = some true)
    (i_NoPlace_TooGreat : PySem.W.kitOne K (.ref q_NoPlace) (.ref q_TooGreat) = some false)
    (i_NoPlace_TooLong : PySem.W.kitOne K (.ref q_NoPlace) (.ref q_TooLong) = some false)
    (i_NoPlace_Unmatched : PySem.W.kitOne K (.ref q_NoPlace) (.ref q_Unmatched) = some false)
    (i_NoPlace_ValueError : PySem.W.kitOne K (.ref q_NoPlace) (.type "ValueError") = some true)
    (a6 : PySem.W.findIn K (.ref q_NotKept) "__init__" = some (some (.ref f6))) (i6 : PySem.W.isFn K (.ref f6) = true) (l6 : K.lookup f6 = some ⟨oc6, od6, .func (PySem.W.fnOf "__init__" "NotKept.__init__" (defArgs s_NotKept___init__) (defBody s_NotKept___init__) (defScope s_NotKept___init__) .none kV6 dc6 pm6 an6 cd6 ct6), sl6⟩) (c6 : PySem.W.codeIn K cd6 "NotKept.__init__" = true) (k6 : PySem.W.keepIn K (.ref f6) = true)
    (xi_NotKept : excInI K q_NotKept f6 = true) (y_NotKept : PySem.W.keepIn K (.ref q_NotKept) = true) (hd_NotKept : PySem.W.hasDictIn K q_NotKept = true) (po_NotKept : overX K q_NotKept = true) (sa_NotKept : PySem.W.findIn K (.ref q_NotKept) "__setattr__" = some (some (.builtin "object.__setattr__")))
    (na_NotKept_number : PySem.W.findIn K (.ref q_NotKept) "number" = some none) :
    ∃ fd : FuncData, (∀ (s : Shared) (v : Value), BindsTo s fd ⟨[v], []⟩ [("_law_script", v)]) ∧ ∀ base : Heap, K.In base → base.Ns mainGlobals mg → FnOk l.prog w K mg base CX0 33 fa fd ["_law_script"] (sp_law K) := by
  have e := hfa.symm.trans (PySem.W.mg_of X G a29)
  cases e
  have T : Txt K mg ⟨f0, PySem.W.fnOf "refuse_beyond" "refuse_beyond" (defArgs s_refuse_beyond) (defBody s_refuse_beyond) (defScope s_refuse_beyond) .none kV0 dc0 pm0 an0 cd0 ct0, f1, PySem.W.fnOf "sum_of" "sum_of" (defArgs s_sum_of) (defBody s_sum_of) (defScope s_sum_of) .none kV1 dc1 pm1 an1 cd1 ct1, f2, PySem.W.fnOf "often" "often" (defArgs s_often) (defBody s_often) (defScope s_often) .none kV2 dc2 pm2 an2 cd2 ct2, f3, PySem.W.fnOf "lies_in" "lies_in" (defArgs s_lies_in) (defBody s_lies_in) (defScope s_lies_in) .none kV3 dc3 pm3 an3 cd3 ct3, f4, PySem.W.fnOf "all_in" "all_in" (defArgs s_all_in) (defBody s_all_in) (defScope s_all_in) .none kV4 dc4 pm4 an4 cd4 ct4, f5, PySem.W.fnOf "first_in" "first_in" (defArgs s_first_in) (defBody s_first_in) (defScope s_first_in) .none kV5 dc5 pm5 an5 cd5 ct5, f6, PySem.W.fnOf "__init__" "NotKept.__init__" (defArgs s_NotKept___init__) (defBody s_NotKept___init__) (defScope s_NotKept___init__) .none kV6 dc6 pm6 an6 cd6 ct6, f7, PySem.W.fnOf "refuse_unkept" "refuse_unkept" (defArgs s_refuse_unkept) (defBody s_refuse_unkept) (defScope s_refuse_unkept) .none kV7 dc7 pm7 an7 cd7 ct7, f8, PySem.W.fnOf "keeps" "keeps" (defArgs s_keeps) (defBody s_keeps) (defScope s_keeps) .none kV8 dc8 pm8 an8 cd8 ct8, f9, PySem.W.fnOf "partings_to" "partings_to" (defArgs s_partings_to) (defBody s_partings_to) (defScope s_partings_to) .none kV9 dc9 pm9 an9 cd9 ct9, f10, PySem.W.fnOf "partings_of" "partings_of" (defArgs s_partings_of) (defBody s_partings_of) (defScope s_partings_of) .none kV10 dc10 pm10 an10 cd10 ct10, f11, PySem.W.fnOf "kept_of" "kept_of" (defArgs s_kept_of) (defBody s_kept_of) (defScope s_kept_of) .none kV11 dc11 pm11 an11 cd11 ct11, f12, PySem.W.fnOf "place_of" "place_of" (defArgs s_place_of) (defBody s_place_of) (defScope s_place_of) .none kV12 dc12 pm12 an12 cd12 ct12, f13, PySem.W.fnOf "told_at" "told_at" (defArgs s_told_at) (defBody s_told_at) (defScope s_told_at) .none kV13 dc13 pm13 an13 cd13 ct13, f14, PySem.W.fnOf "_law_start" "_law_start" (defArgs s__law_start) (defBody s__law_start) (defScope s__law_start) .none kV14 dc14 pm14 an14 cd14 ct14, f15, PySem.W.fnOf "_law_mix" "_law_mix" (defArgs s__law_mix) (defBody s__law_mix) (defScope s__law_mix) .none kV15 dc15 pm15 an15 cd15 ct15, f16, PySem.W.fnOf "_law_draw" "_law_draw" (defArgs s__law_draw) (defBody s__law_draw) (defScope s__law_draw) .none kV16 dc16 pm16 an16 cd16 ct16, f17, PySem.W.fnOf "_law_lies" "_law_lies" (defArgs s__law_lies) (defBody s__law_lies) (defScope s__law_lies) .none kV17 dc17 pm17 an17 cd17 ct17, f18, PySem.W.fnOf "_law_first" "_law_first" (defArgs s__law_first) (defBody s__law_first) (defScope s__law_first) .none kV18 dc18 pm18 an18 cd18 ct18, f19, PySem.W.fnOf "_law_heap" "_law_heap" (defArgs s__law_heap) (defBody s__law_heap) (defScope s__law_heap) .none kV19 dc19 pm19 an19 cd19 ct19, f20, PySem.W.fnOf "_law_some_rule" "_law_some_rule" (defArgs s__law_some_rule) (defBody s__law_some_rule) (defScope s__law_some_rule) .none kV20 dc20 pm20 an20 cd20 ct20, f21, PySem.W.fnOf "_law_whole" "_law_whole" (defArgs s__law_whole) (defBody s__law_whole) (defScope s__law_whole) .none kV21 dc21 pm21 an21 cd21 ct21, f22, PySem.W.fnOf "_law_row" "_law_row" (defArgs s__law_row) (defBody s__law_row) (defScope s__law_row) .none kV22 dc22 pm22 an22 cd22 ct22, f23, PySem.W.fnOf "_law_partings" "_law_partings" (defArgs s__law_partings) (defBody s__law_partings) (defScope s__law_partings) .none kV23 dc23 pm23 an23 cd23 ct23, f24, PySem.W.fnOf "_law_kept" "_law_kept" (defArgs s__law_kept) (defBody s__law_kept) (defScope s__law_kept) .none kV24 dc24 pm24 an24 cd24 ct24, f25, PySem.W.fnOf "_law_one_class" "_law_one_class" (defArgs s__law_one_class) (defBody s__law_one_class) (defScope s__law_one_class) .none kV25 dc25 pm25 an25 cd25 ct25, f26, PySem.W.fnOf "_law_shut" "_law_shut" (defArgs s__law_shut) (defBody s__law_shut) (defScope s__law_shut) .none kV26 dc26 pm26 an26 cd26 ct26, f27, PySem.W.fnOf "_law_nowhere" "_law_nowhere" (defArgs s__law_nowhere) (defBody s__law_nowhere) (defScope s__law_nowhere) .none kV27 dc27 pm27 an27 cd27 ct27, f28, PySem.W.fnOf "_law_great" "_law_great" (defArgs s__law_great) (defBody s__law_great) (defScope s__law_great) .none kV28 dc28 pm28 an28 cd28 ct28, fa, PySem.W.fnOf "law" "law" (defArgs s_law) (defBody s_law) (defScope s_law) .none kV29 dc29 pm29 an29 cd29 ct29, q_ShutError, q_NoHeap, q_NotIn, q_NoText, q_NoRule, q_NoSum, q_NotKept, q_NoPlace, q_NoPair, q_NotSoMany, q_Unmatched, q_NotPaired, q_TooLong, q_NotStrict, q_LeftOver, q_NoBottom, q_NoLanes, q_TooGreat, q_NoLine, q_NoName, q_NothingLeft⟩ := ⟨fun_mk (st := s_refuse_beyond) l0 c0 k0,
    (fun_mk (st := s_refuse_beyond) l0 c0 k0).binds (fun _ _ _ _ _ _ us hl => match us, hl with | [_, _], _ => rfl),
    PySem.W.mg_of X G a0,
    fun_mk (st := s_sum_of) l1 c1 k1,
    (fun_mk (st := s_sum_of) l1 c1 k1).binds (fun _ _ _ _ _ _ us hl => match us, hl with | [_], _ => rfl),
    PySem.W.mg_of X G a1,
    fun_mk (st := s_often) l2 c2 k2,
    (fun_mk (st := s_often) l2 c2 k2).binds (fun _ _ _ _ _ _ us hl => match us, hl with | [_, _], _ => rfl),
    PySem.W.mg_of X G a2,
    fun_mk (st := s_lies_in) l3 c3 k3,
    (fun_mk (st := s_lies_in) l3 c3 k3).binds (fun _ _ _ _ _ _ us hl => match us, hl with | [_, _], _ => rfl),
    PySem.W.mg_of X G a3,
    fun_mk (st := s_all_in) l4 c4 k4,
    (fun_mk (st := s_all_in) l4 c4 k4).binds (fun _ _ _ _ _ _ us hl => match us, hl with | [_, _], _ => rfl),
    PySem.W.mg_of X G a4,
    fun_mk (st := s_first_in) l5 c5 k5,
    (fun_mk (st := s_first_in) l5 c5 k5).binds (fun _ _ _ _ _ _ us hl => match us, hl with | [_, _], _ => rfl),
    PySem.W.mg_of X G a5,
    fun_mk (st := s_NotKept___init__) l6 c6 k6,
    (fun_mk (st := s_NotKept___init__) l6 c6 k6).binds (fun _ _ _ _ _ _ us hl => match us, hl with | [_, _], _ => rfl),
    fun_mk (st := s_refuse_unkept) l7 c7 k7,
    (fun_mk (st := s_refuse_unkept) l7 c7 k7).binds (fun _ _ _ _ _ _ us hl => match us, hl with | [_, _], _ => rfl),
    PySem.W.mg_of X G a7,
    fun_mk (st := s_keeps) l8 c8 k8,
    (fun_mk (st := s_keeps) l8 c8 k8).binds (fun _ _ _ _ _ _ us hl => match us, hl with | [_, _], _ => rfl),
    PySem.W.mg_of X G a8,
    fun_mk (st := s_partings_to) l9 c9 k9,
    (fun_mk (st := s_partings_to) l9 c9 k9).binds (fun _ _ _ _ _ _ us hl => match us, hl with | [_, _], _ => rfl),
    PySem.W.mg_of X G a9,
    fun_mk (st := s_partings_of) l10 c10 k10,
    (fun_mk (st := s_partings_of) l10 c10 k10).binds (fun _ _ _ _ _ _ us hl => match us, hl with | [_], _ => rfl),
    PySem.W.mg_of X G a10,
    fun_mk (st := s_kept_of) l11 c11 k11,
    (fun_mk (st := s_kept_of) l11 c11 k11).binds (fun _ _ _ _ _ _ us hl => match us, hl with | [_, _], _ => rfl),
    PySem.W.mg_of X G a11,
    fun_mk (st := s_place_of) l12 c12 k12,
    (fun_mk (st := s_place_of) l12 c12 k12).binds (fun _ _ _ _ _ _ us hl => match us, hl with | [_, _], _ => rfl),
    PySem.W.mg_of X G a12,
    fun_mk (st := s_told_at) l13 c13 k13,
    (fun_mk (st := s_told_at) l13 c13 k13).binds (fun _ _ _ _ _ _ us hl => match us, hl with | [_, _, _], _ => rfl),
    PySem.W.mg_of X G a13,
    fun_mk (st := s__law_start) l14 c14 k14,
    (fun_mk (st := s__law_start) l14 c14 k14).binds (fun _ _ _ _ _ _ us hl => match us, hl with | [_], _ => rfl),
    PySem.W.mg_of X G a14,
    fun_mk (st := s__law_mix) l15 c15 k15,
    (fun_mk (st := s__law_mix) l15 c15 k15).binds (fun _ _ _ _ _ _ us hl => match us, hl with | [_], _ => rfl),
    PySem.W.mg_of X G a15,
    fun_mk (st := s__law_draw) l16 c16 k16,
    (fun_mk (st := s__law_draw) l16 c16 k16).binds (fun _ _ _ _ _ _ us hl => match us, hl with | [_, _], _ => rfl),
    PySem.W.mg_of X G a16,
    fun_mk (st := s__law_lies) l17 c17 k17,
    (fun_mk (st := s__law_lies) l17 c17 k17).binds (fun _ _ _ _ _ _ us hl => match us, hl with | [_, _], _ => rfl),
    PySem.W.mg_of X G a17,
    fun_mk (st := s__law_first) l18 c18 k18,
    (fun_mk (st := s__law_first) l18 c18 k18).binds (fun _ _ _ _ _ _ us hl => match us, hl with | [_, _], _ => rfl),
    PySem.W.mg_of X G a18,
    fun_mk (st := s__law_heap) l19 c19 k19,
    (fun_mk (st := s__law_heap) l19 c19 k19).binds (fun _ _ _ _ _ _ us hl => match us, hl with | [_, _, _], _ => rfl),
    PySem.W.mg_of X G a19,
    fun_mk (st := s__law_some_rule) l20 c20 k20,
    (fun_mk (st := s__law_some_rule) l20 c20 k20).binds (fun _ _ _ _ _ _ us hl => match us, hl with | [_], _ => rfl),
    PySem.W.mg_of X G a20,
    fun_mk (st := s__law_whole) l21 c21 k21,
    (fun_mk (st := s__law_whole) l21 c21 k21).binds (fun _ _ _ _ _ _ us hl => match us, hl with | [_], _ => rfl),
    PySem.W.mg_of X G a21,
    fun_mk (st := s__law_row) l22 c22 k22,
    (fun_mk (st := s__law_row) l22 c22 k22).binds (fun _ _ _ _ _ _ us hl => match us, hl with | [_], _ => rfl),
    PySem.W.mg_of X G a22,
    fun_mk (st := s__law_partings) l23 c23 k23,
    (fun_mk (st := s__law_partings) l23 c23 k23).binds (fun _ _ _ _ _ _ us hl => match us, hl with | [_, _], _ => rfl),
    PySem.W.mg_of X G a23,
    fun_mk (st := s__law_kept) l24 c24 k24,
    (fun_mk (st := s__law_kept) l24 c24 k24).binds (fun _ _ _ _ _ _ us hl => match us, hl with | [_, _], _ => rfl),
    PySem.W.mg_of X G a24,
    fun_mk (st := s__law_one_class) l25 c25 k25,
    (fun_mk (st := s__law_one_class) l25 c25 k25).binds (fun _ _ _ _ _ _ us hl => match us, hl with | [_], _ => rfl),
    PySem.W.mg_of X G a25,
    fun_mk (st := s__law_shut) l26 c26 k26,
    (fun_mk (st := s__law_shut) l26 c26 k26).binds (fun _ _ _ _ _ _ us hl => match us, hl with | [_, _], _ => rfl),
    PySem.W.mg_of X G a26,
    fun_mk (st := s__law_nowhere) l27 c27 k27,
    (fun_mk (st := s__law_nowhere) l27 c27 k27).binds (fun _ _ _ _ _ _ us hl => match us, hl with | [_, _, _], _ => rfl),
    PySem.W.mg_of X G a27,
    fun_mk (st := s__law_great) l28 c28 k28,
    (fun_mk (st := s__law_great) l28 c28 k28).binds (fun _ _ _ _ _ _ us hl => match us, hl with | [_], _ => rfl),
    PySem.W.mg_of X G a28,
    fun_mk (st := s_law) l29 c29 k29,
    (fun_mk (st := s_law) l29 c29 k29).binds (fun _ _ _ _ _ _ us hl => match us, hl with | [_], _ => rfl),
    PySem.W.mg_of X G a29,
    PySem.W.mg_none_of X G z_ValueError,
    PySem.W.mg_none_of X G z_all,
    PySem.W.mg_none_of X G z_bool,
    PySem.W.mg_none_of X G z_enumerate,
    PySem.W.mg_none_of X G z_int,
    PySem.W.mg_none_of X G z_isinstance,
    PySem.W.mg_none_of X G z_len,
    PySem.W.mg_none_of X G z_min,
    PySem.W.mg_none_of X G z_range,
    PySem.W.mg_none_of X G z_sorted,
    PySem.W.mg_none_of X G z_sum,
    PySem.W.mg_none_of X G z_tuple,
    ⟨_, PySem.W.mg_of X G w_MOST_LISTED⟩,
    ⟨h, X⟩,
    PySem.W.mg_of X G m_ShutError,
    PySem.W.mg_of X G m_NoHeap,
    PySem.W.mg_of X G m_NotIn,
    PySem.W.mg_of X G m_NoText,
    PySem.W.mg_of X G m_NoRule,
    PySem.W.mg_of X G m_NoSum,
    PySem.W.mg_of X G m_NotKept,
    PySem.W.mg_of X G m_NoPlace,
    PySem.W.mg_of X G m_NoPair,
    PySem.W.mg_of X G m_NotSoMany,
    PySem.W.mg_of X G m_Unmatched,
    PySem.W.mg_of X G m_NotPaired,
    PySem.W.mg_of X G m_TooLong,
    PySem.W.mg_of X G m_NotStrict,
    PySem.W.mg_of X G m_LeftOver,
    PySem.W.mg_of X G m_NoBottom,
    PySem.W.mg_of X G m_NoLanes,
    PySem.W.mg_of X G m_TooGreat,
    PySem.W.mg_of X G m_NoLine,
    PySem.W.mg_of X G m_NoName,
    PySem.W.mg_of X G m_NothingLeft,
    ⟨x_NoPlace, y_NoPlace⟩,
    ⟨x_NoSum, y_NoSum⟩,
    ⟨e1_NoSum, e2_NoSum, e3_NoSum, e4_NoSum, e5_NoSum, e6_NoSum, e7_NoSum⟩,
    t_NoSum_NoSum,
    n_NoSum_NotKept,
    n_NoSum_NoPlace,
    i_NoSum_LeftOver,
    i_NoSum_NoBottom,
    i_NoSum_NoHeap,
    i_NoSum_NoLanes,
    i_NoSum_NoLine,
    i_NoSum_NoName,
    i_NoSum_NoPair,
    i_NoSum_NoPlace,
    i_NoSum_NoRule,
    i_NoSum_NoSum,
    i_NoSum_NoText,
    i_NoSum_NotIn,
    i_NoSum_NotKept,
    i_NoSum_NotPaired,
    i_NoSum_NotSoMany,
    i_NoSum_NotStrict,
    i_NoSum_NothingLeft,
    i_NoSum_ShutError,
    i_NoSum_TooGreat,
    i_NoSum_TooLong,
    i_NoSum_Unmatched,
    i_NoSum_ValueError,
    ⟨e1_NotKept, e2_NotKept, e3_NotKept, e4_NotKept, e5_NotKept, e6_NotKept, e7_NotKept⟩,
    t_NotKept_NotKept,
    n_NotKept_NoSum,
    n_NotKept_NoPlace,
    i_NotKept_LeftOver,
    i_NotKept_NoBottom,
    i_NotKept_NoHeap,
    i_NotKept_NoLanes,
    i_NotKept_NoLine,
    i_NotKept_NoName,
    i_NotKept_NoPair,
    i_NotKept_NoPlace,
    i_NotKept_NoRule,
    i_NotKept_NoSum,
    i_NotKept_NoText,
    i_NotKept_NotIn,
    i_NotKept_NotKept,
    i_NotKept_NotPaired,
    i_NotKept_NotSoMany,
    i_NotKept_NotStrict,
    i_NotKept_NothingLeft,
    i_NotKept_ShutError,
    i_NotKept_TooGreat,
    i_NotKept_TooLong,
    i_NotKept_Unmatched,
    i_NotKept_ValueError,
    ⟨e1_NoPlace, e2_NoPlace, e3_NoPlace, e4_NoPlace, e5_NoPlace, e6_NoPlace, e7_NoPlace⟩,
    t_NoPlace_NoPlace,
    n_NoPlace_NoSum,
    n_NoPlace_NotKept,
    i_NoPlace_LeftOver,
    i_NoPlace_NoBottom,
    i_NoPlace_NoHeap,
    i_NoPlace_NoLanes,
    i_NoPlace_NoLine,
    i_NoPlace_NoName,
    i_NoPlace_NoPair,
    i_NoPlace_NoPlace,
    i_NoPlace_NoRule,
    i_NoPlace_NoSum,
    i_NoPlace_NoText,
    i_NoPlace_NotIn,
    i_NoPlace_NotKept,
    i_NoPlace_NotPaired,
    i_NoPlace_NotSoMany,
    i_NoPlace_NotStrict,
    i_NoPlace_NothingLeft,
    i_NoPlace_ShutError,
    i_NoPlace_TooGreat,
    i_NoPlace_TooLong,
    i_NoPlace_Unmatched,
    i_NoPlace_ValueError,
    ⟨xi_NotKept, y_NotKept, i6⟩,
    ⟨e1_NotKept, e2_NotKept, e7_NotKept, hd_NotKept, e6_NotKept, po_NotKept, sa_NotKept⟩,
    na_NotKept_number⟩
  exact ⟨PySem.W.fnOf "law" "law" (defArgs s_law) (defBody s_law) (defScope s_law) .none kV29 dc29 pm29 an29 cd29 ct29, fun s v => .of_eq rfl, fun base _ _ => ok_law T⟩
theorem walk {l : PySem.W.OpenLaw} {q : Program} {loose : List Str} {XP : (Str → Option Value) → Heap → Prop} {YP : World → Heap → Prop} {d : DefRec} {K : Params → PySem.W.Frag} (hn : l.most = some 63) (hdf : d.params.defaults = [])
    (hY : ∀ (w : World) (h : Heap), YP w h → (K w.params).In h)
    (F : ∀ (w : World) (mg : Str → Option Value) (fa : Addr) (h : Heap), (K w.params).In h → h.Ns mainGlobals mg → mg d.name = some (.ref fa) →
      ∃ fd : FuncData, (∀ (s : Shared) (u : Value), BindsTo s fd ⟨[u], []⟩ [("_law_script", u)]) ∧ ∀ base : Heap, (K w.params).In base → base.Ns mainGlobals mg → FnOk l.prog w (K w.params) mg base CX0 33 fa fd ["_law_script"] (sp_law (K w.params))) :
    PySem.W.WalkO q loose XP YP l.row.toRowW d [] (fun f vs => PySem.call f vs) :=
  L2.walk_of (n := 63) (k := 33) (x := "_law_script") (CX := fun _ => CX0) (sp := fun w => sp_law (K w.params)) hn (by decide) hdf ⟨fun _ => rfl, by decide, by decide⟩ hY F (fun _ _ a ns hl _ hS => ⟨a, ns, rfl, hS, hl, fun _ => rfl⟩) fun _ _ _ _ _ z => z
end My
namespace PySem.W.Fast
def tw8172135268960707639 : Nat := 0
def tw13819002869820103336 : Nat := 0
def tw12094452319010333579 : Nat := 0
def tw16997861839603555373 : Nat := 0
def tw2289362617801659629 : Nat := 0
def tw13511457360014089794 : Nat := 0
def tw2199221120662341190 : Nat := 0
def tw8768715248424501342 : Nat := 0
def tw6555911010095337084 : Nat := 0
def tw14938740813626620737 : Nat := 0
def tw15250379634093551441 : Nat := 0
def tw8472360566173484511 : Nat := 0
def tw13530666764669348030 : Nat := 0
def tw3802420970110944602 : Nat := 0
def tw3428794193955930669 : Nat := 0
def tw16819753734174492096 : Nat := 0
def tw18375146805265366662 : Nat := 0
def tw16589585024007052802 : Nat := 0
def tw11589732787079985645 : Nat := 0
def tw17724156353402862263 : Nat := 0
def tw3916395957245568880 : Nat := 0
def tw13013421595947148278 : Nat := 0
def tw11907740517779602777 : Nat := 0
def tw9510969028388026965 : Nat := 0
def tw3338935508889644673 : Nat := 0
def tw6108546391052826981 : Nat := 0
def tw9528791990071099702 : Nat := 0
def tw8673651069437367833 : Nat := 0
def tw17600561148033301778 : Nat := 0
def tw7878699713159384699 : Nat := 0
def tw16960367310373071582 : Nat := 0
def tw10765227726694850931 : Nat := 0
def tw3356069487451365994 : Nat := 0
def tw17095566970760310432 : Nat := 0
def tw14890927235179247552 : Nat := 0
def tw5930098548336852322 : Nat := 0
def tw459895710714697508 : Nat := 0
def tw7429444079295788792 : Nat := 0
def tw12797123868592356939 : Nat := 0
def tw9136935888146004561 : Nat := 0
def tw1244457784125960347 : Nat := 0
def tw8145366803438360912 : Nat := 0
def tw7330819380234247330 : Nat := 0
def tw6866498961546986145 : Nat := 0
def tw513030361375036281 : Nat := 0
def tw17238219123810522037 : Nat := 0
def tw17806836389689244124 : Nat := 0
def tw7793912260013789187 : Nat := 0
def tw16248621651966572484 : Nat := 0
def tw42803674475522711 : Nat := 0
def tw17140912916338981275 : Nat := 0
def tw14159586996155151954 : Nat := 0
def tw4901259593066882688 : Nat := 0
def tw2602667379257293082 : Nat := 0
def tw14942346958837022255 : Nat := 0
def tw17271288728269298046 : Nat := 0
def tw17123544163294649557 : Nat := 0
def tw764244481813590770 : Nat := 0
def tw15781428430094488401 : Nat := 0
def tw14770665422299440098 : Nat := 0
def tw4274001141122631705 : Nat := 0
def tw8145716415818480042 : Nat := 0
def tw13468732911738001469 : Nat := 0
def tw1033788121073601999 : Nat := 0
def tw3061866270797735299 : Nat := 0
def tw11931751786630058973 : Nat := 0
def tw4670335715075352836 : Nat := 0
def tw10830434345646183049 : Nat := 0
def tw17108731874714008470 : Nat := 0
def tw13354616644611254580 : Nat := 0
def tw6759497404816967790 : Nat := 0
def tw8685926029354911980 : Nat := 0
def tw5221459035424451667 : Nat := 0
def tw8565888849728717048 : Nat := 0
def tw14469032418268023151 : Nat := 0
def tw2801659995242060965 : Nat := 0
def tw11454794656570185667 : Nat := 0
def tw4295820670146887387 : Nat := 0
def tw1417634276196022220 : Nat := 0
def tw640150154900667895 : Nat := 0
def tw11187738593433871561 : Nat := 0
def tw14224890687990853988 : Nat := 0
def tw9591350629138577316 : Nat := 0
def tw9760246031851802459 : Nat := 0
def tw2174515801823339865 : Nat := 0
def tw595106855901082775 : Nat := 0
def tw10031473978294216477 : Nat := 0
def tw5777107577759985384 : Nat := 0
def tw17570687822995489979 : Nat := 0
def tw6241724368703550055 : Nat := 0
def tw10376638025761042431 : Nat := 0
def tw3349033891674475773 : Nat := 0
def tw12002950948034660024 : Nat := 0
def tw6606734840311286637 : Nat := 0
def tw8734758697655563643 : Nat := 0
def tw1126956282768040821 : Nat := 0
def tw10127910016122036628 : Nat := 0
def tw5855451019076616666 : Nat := 0
def tw9278797439638451734 : Nat := 0
def tw14860655644670933765 : Nat := 0
def tw16400496945941905268 : Nat := 0
def tw17988148511770188061 : Nat := 0
def tw7134966422360678204 : Nat := 0
def tw7661147286539820902 : Nat := 0
def tw3541060942358145850 : Nat := 0
def tw10383665792367870348 : Nat := 0
def tw10878820241975849250 : Nat := 0
def tw15253152685082424807 : Nat := 0
def tw12784682611923424109 : Nat := 0
def tw6098323834158559151 : Nat := 0
def tw14811365100167147032 : Nat := 0
def tw15987123350622568357 : Nat := 0
def tw13308226610132989590 : Nat := 0
def tw10621574586441876017 : Nat := 0
def tw10781422046866983503 : Nat := 0
def tw7607132575183064838 : Nat := 0
def tw8645980737331651142 : Nat := 0
def tw15016541588046930517 : Nat := 0
def tw5470763786298365286 : Nat := 0
def tw2450451658717365024 : Nat := 0
def tw16968914415674986335 : Nat := 0
def tw1648516368870475931 : Nat := 0
def tw1797945396828988174 : Nat := 0
def tw2002374599598669740 : Nat := 0
def tw5450271235914941609 : Nat := 0
def tw9479968608610242701 : Nat := 0
def tw18062078233534865133 : Nat := 0
def tw13343625257328828416 : Nat := 0
def tw633591603866598839 : Nat := 0
def tw16770713025802996233 : Nat := 0
def tw7566219174715970454 : Nat := 0
def tw8285863589749891423 : Nat := 0
def tw9177875602535827643 : Nat := 0
def tw1217820617381717322 : Nat := 0
def tw14405761191162607341 : Nat := 0
def tw7807282143093757585 : Nat := 0
def tw1623350448364841674 : Nat := 0
def tw9858866805641533056 : Nat := 0
def tw12015172844009646616 : Nat := 0
def tw14395782668503558074 : Nat := 0
def tw13522533860692519215 : Nat := 0
def tw9839028516498175365 : Nat := 0
def tw12148710438580760168 : Nat := 0
def tw6618920927306208918 : Nat := 0
def tw6903228412966693078 : Nat := 0
def tw10747496654517607759 : Nat := 0
def tw10467380384257379250 : Nat := 0
def tw6446419894412353859 : Nat := 0
def tw10871136014019895836 : Nat := 0
def tw4976211919771072167 : Nat := 0
end PySem.W.Fast
open PySem PySem.W PyProof.Rows
set_option maxRecDepth 100000 in
set_option maxHeartbeats 0 in
theorem PySem.Challenge.cw_shutpairs_k15_places_among_the_kept_holds : PySem.Challenge.rw_shutpairs_k15_places_among_the_kept.Holds := by
  w_on; o_law; k_head; (case hw => w_witness2)
  k_fill
  refine My.walk (l := PySem.Challenge.rw_shutpairs_k15_places_among_the_kept) rfl rfl (fun w h Y => PySem.W.kIn_of Y) ?F
  case F =>
    intro w mg fa h KX G hmg
    refine' My.all_mk KX G hmg ?a0 ?l0 ?c0 ?k0 ?a1 ?l1 ?c1 ?k1 ?a2 ?l2 ?c2 ?k2 ?a3 ?l3 ?c3 ?k3 ?a4 ?l4 ?c4 ?k4 ?a5 ?l5 ?c5 ?k5 ?a7 ?l7 ?c7 ?k7 ?a8 ?l8 ?c8 ?k8 ?a9 ?l9 ?c9 ?k9 ?a10 ?l10 ?c10 ?k10 ?a11 ?l11 ?c11 ?k11 ?a12 ?l12 ?c12 ?k12 ?a13 ?l13 ?c13 ?k13 ?a14 ?l14 ?c14 ?k14 ?a15 ?l15 ?c15 ?k15 ?a16 ?l16 ?c16 ?k16 ?a17 ?l17 ?c17 ?k17 ?a18 ?l18 ?c18 ?k18 ?a19 ?l19 ?c19 ?k19 ?a20 ?l20 ?c20 ?k20 ?a21 ?l21 ?c21 ?k21 ?a22 ?l22 ?c22 ?k22 ?a23 ?l23 ?c23 ?k23 ?a24 ?l24 ?c24 ?k24 ?a25 ?l25 ?c25 ?k25 ?a26 ?l26 ?c26 ?k26 ?a27 ?l27 ?c27 ?k27 ?a28 ?l28 ?c28 ?k28 ?a29 ?l29 ?c29 ?k29 ?z_ValueError ?z_all ?z_bool ?z_enumerate ?z_int ?z_isinstance ?z_len ?z_min ?z_range ?z_sorted ?z_sum ?z_tuple ?w_MOST_LISTED ?m_ShutError ?m_NoHeap ?m_NotIn ?m_NoText ?m_NoRule ?m_NoSum ?m_NotKept ?m_NoPlace ?m_NoPair ?m_NotSoMany ?m_Unmatched ?m_NotPaired ?m_TooLong ?m_NotStrict ?m_LeftOver ?m_NoBottom ?m_NoLanes ?m_TooGreat ?m_NoLine ?m_NoName ?m_NothingLeft ?x_NoPlace ?y_NoPlace ?x_NoSum ?y_NoSum ?e1_NoSum ?e2_NoSum ?e3_NoSum ?e4_NoSum ?e5_NoSum ?e6_NoSum ?e7_NoSum ?t_NoSum_NoSum ?n_NoSum_NotKept ?n_NoSum_NoPlace ?i_NoSum_LeftOver ?i_NoSum_NoBottom ?i_NoSum_NoHeap ?i_NoSum_NoLanes ?i_NoSum_NoLine ?i_NoSum_NoName ?i_NoSum_NoPair ?i_NoSum_NoPlace ?i_NoSum_NoRule ?i_NoSum_NoSum ?i_NoSum_NoText ?i_NoSum_NotIn ?i_NoSum_NotKept ?i_NoSum_NotPaired ?i_NoSum_NotSoMany ?i_NoSum_NotStrict ?i_NoSum_NothingLeft ?i_NoSum_ShutError ?i_NoSum_TooGreat ?i_NoSum_TooLong ?i_NoSum_Unmatched ?i_NoSum_ValueError ?e1_NotKept ?e2_NotKept ?e3_NotKept ?e4_NotKept ?e5_NotKept ?e6_NotKept ?e7_NotKept ?t_NotKept_NotKept ?n_NotKept_NoSum ?n_NotKept_NoPlace ?i_NotKept_LeftOver ?i_NotKept_NoBottom ?i_NotKept_NoHeap ?i_NotKept_NoLanes ?i_NotKept_NoLine ?i_NotKept_NoName ?i_NotKept_NoPair ?i_NotKept_NoPlace ?i_NotKept_NoRule ?i_NotKept_NoSum ?i_NotKept_NoText ?i_NotKept_NotIn ?i_NotKept_NotKept ?i_NotKept_NotPaired ?i_NotKept_NotSoMany ?i_NotKept_NotStrict ?i_NotKept_NothingLeft ?i_NotKept_ShutError ?i_NotKept_TooGreat ?i_NotKept_TooLong ?i_NotKept_Unmatched ?i_NotKept_ValueError ?e1_NoPlace ?e2_NoPlace ?e3_NoPlace ?e4_NoPlace ?e5_NoPlace ?e6_NoPlace ?e7_NoPlace ?t_NoPlace_NoPlace ?n_NoPlace_NoSum ?n_NoPlace_NotKept ?i_NoPlace_LeftOver ?i_NoPlace_NoBottom ?i_NoPlace_NoHeap ?i_NoPlace_NoLanes ?i_NoPlace_NoLine ?i_NoPlace_NoName ?i_NoPlace_NoPair ?i_NoPlace_NoPlace ?i_NoPlace_NoRule ?i_NoPlace_NoSum ?i_NoPlace_NoText ?i_NoPlace_NotIn ?i_NoPlace_NotKept ?i_NoPlace_NotPaired ?i_NoPlace_NotSoMany ?i_NoPlace_NotStrict ?i_NoPlace_NothingLeft ?i_NoPlace_ShutError ?i_NoPlace_TooGreat ?i_NoPlace_TooLong ?i_NoPlace_Unmatched ?i_NoPlace_ValueError ?a6 ?i6 ?l6 ?c6 ?k6 ?xi_NotKept ?y_NotKept ?hd_NotKept ?po_NotKept ?sa_NotKept ?na_NotKept_number
    (case a0 => k_is)
    (case l0 => k_is)
    (case c0 => k_is)
    (case k0 => k_is)
    (case a1 => k_is)
    (case l1 => k_is)
    (case c1 => k_is)
    (case k1 => k_is)
    (case a2 => k_is)
    (case l2 => k_is)
    (case c2 => k_is)
    (case k2 => k_is)
    (case a3 => k_is)
    (case l3 => k_is)
    (case c3 => k_is)
    (case k3 => k_is)
    (case a4 => k_is)
    (case l4 => k_is)
    (case c4 => k_is)
    (case k4 => k_is)
    (case a5 => k_is)
    (case l5 => k_is)
    (case c5 => k_is)
    (case k5 => k_is)
    (case a7 => k_is)
    (case l7 => k_is)
    (case c7 => k_is)
    (case k7 => k_is)
    (case a8 => k_is)
    (case l8 => k_is)
    (case c8 => k_is)
    (case k8 => k_is)
    (case a9 => k_is)
    (case l9 => k_is)
    (case c9 => k_is)
    (case k9 => k_is)
    (case a10 => k_is)
    (case l10 => k_is)
    (case c10 => k_is)
    (case k10 => k_is)
    (case a11 => k_is)
    (case l11 => k_is)
    (case c11 => k_is)
    (case k11 => k_is)
    (case a12 => k_is)
    (case l12 => k_is)
    (case c12 => k_is)
    (case k12 => k_is)
    (case a13 => k_is)
    (case l13 => k_is)
    (case c13 => k_is)
    (case k13 => k_is)
    (case a14 => k_is)
    (case l14 => k_is)
    (case c14 => k_is)
    (case k14 => k_is)
    (case a15 => k_is)
    (case l15 => k_is)
    (case c15 => k_is)
    (case k15 => k_is)
    (case a16 => k_is)
    (case l16 => k_is)
    (case c16 => k_is)
    (case k16 => k_is)
    (case a17 => k_is)
    (case l17 => k_is)
    (case c17 => k_is)
    (case k17 => k_is)
    (case a18 => k_is)
    (case l18 => k_is)
    (case c18 => k_is)
    (case k18 => k_is)
    (case a19 => k_is)
    (case l19 => k_is)
    (case c19 => k_is)
    (case k19 => k_is)
    (case a20 => k_is)
    (case l20 => k_is)
    (case c20 => k_is)
    (case k20 => k_is)
    (case a21 => k_is)
    (case l21 => k_is)
    (case c21 => k_is)
    (case k21 => k_is)
    (case a22 => k_is)
    (case l22 => k_is)
    (case c22 => k_is)
    (case k22 => k_is)
    (case a23 => k_is)
    (case l23 => k_is)
    (case c23 => k_is)
    (case k23 => k_is)
    (case a24 => k_is)
    (case l24 => k_is)
    (case c24 => k_is)
    (case k24 => k_is)
    (case a25 => k_is)
    (case l25 => k_is)
    (case c25 => k_is)
    (case k25 => k_is)
    (case a26 => k_is)
    (case l26 => k_is)
    (case c26 => k_is)
    (case k26 => k_is)
    (case a27 => k_is)
    (case l27 => k_is)
    (case c27 => k_is)
    (case k27 => k_is)
    (case a28 => k_is)
    (case l28 => k_is)
    (case c28 => k_is)
    (case k28 => k_is)
    (case a29 => k_is)
    (case l29 => k_is)
    (case c29 => k_is)
    (case k29 => k_is)
    (case z_ValueError => k_is)
    (case z_all => k_is)
    (case z_bool => k_is)
    (case z_enumerate => k_is)
    (case z_int => k_is)
    (case z_isinstance => k_is)
    (case z_len => k_is)
    (case z_min => k_is)
    (case z_range => k_is)
    (case z_sorted => k_is)
    (case z_sum => k_is)
    (case z_tuple => k_is)
    (case w_MOST_LISTED => k_is)
    (case m_ShutError => k_is)
    (case m_NoHeap => k_is)
    (case m_NotIn => k_is)
    (case m_NoText => k_is)
    (case m_NoRule => k_is)
    (case m_NoSum => k_is)
    (case m_NotKept => k_is)
    (case m_NoPlace => k_is)
    (case m_NoPair => k_is)
    (case m_NotSoMany => k_is)
    (case m_Unmatched => k_is)
    (case m_NotPaired => k_is)
    (case m_TooLong => k_is)
    (case m_NotStrict => k_is)
    (case m_LeftOver => k_is)
    (case m_NoBottom => k_is)
    (case m_NoLanes => k_is)
    (case m_TooGreat => k_is)
    (case m_NoLine => k_is)
    (case m_NoName => k_is)
    (case m_NothingLeft => k_is)
    (case x_NoPlace => k_exc)
    (case y_NoPlace => k_is)
    (case x_NoSum => k_exc)
    (case y_NoSum => k_is)
    (case e1_NoSum => k_is)
    (case e2_NoSum => k_is)
    (case e3_NoSum => k_is)
    (case e4_NoSum => k_is)
    (case e5_NoSum => k_is)
    (case e6_NoSum => k_is)
    (case e7_NoSum => k_is)
    (case t_NoSum_NoSum => k_is)
    (case n_NoSum_NotKept => k_is)
    (case n_NoSum_NoPlace => k_is)
    (case i_NoSum_LeftOver => kit_is)
    (case i_NoSum_NoBottom => kit_is)
    (case i_NoSum_NoHeap => kit_is)
    (case i_NoSum_NoLanes => kit_is)
    (case i_NoSum_NoLine => kit_is)
    (case i_NoSum_NoName => kit_is)
    (case i_NoSum_NoPair => kit_is)
    (case i_NoSum_NoPlace => kit_is)
    (case i_NoSum_NoRule => kit_is)
    (case i_NoSum_NoSum => kit_is)
    (case i_NoSum_NoText => kit_is)
    (case i_NoSum_NotIn => kit_is)
    (case i_NoSum_NotKept => kit_is)
    (case i_NoSum_NotPaired => kit_is)
    (case i_NoSum_NotSoMany => kit_is)
    (case i_NoSum_NotStrict => kit_is)
    (case i_NoSum_NothingLeft => kit_is)
    (case i_NoSum_ShutError => kit_is)
    (case i_NoSum_TooGreat => kit_is)
    (case i_NoSum_TooLong => kit_is)
    (case i_NoSum_Unmatched => kit_is)
    (case i_NoSum_ValueError => kit_is)
    (case e1_NotKept => k_is)
    (case e2_NotKept => k_is)
    (case e3_NotKept => k_is)
    (case e4_NotKept => k_is)
    (case e5_NotKept => k_is)
    (case e6_NotKept => k_is)
    (case e7_NotKept => k_is)
    (case t_NotKept_NotKept => k_is)
    (case n_NotKept_NoSum => k_is)
    (case n_NotKept_NoPlace => k_is)
    (case i_NotKept_LeftOver => kit_is)
    (case i_NotKept_NoBottom => kit_is)
    (case i_NotKept_NoHeap => kit_is)
    (case i_NotKept_NoLanes => kit_is)
    (case i_NotKept_NoLine => kit_is)
    (case i_NotKept_NoName => kit_is)
    (case i_NotKept_NoPair => kit_is)
    (case i_NotKept_NoPlace => kit_is)
    (case i_NotKept_NoRule => kit_is)
    (case i_NotKept_NoSum => kit_is)
    (case i_NotKept_NoText => kit_is)
    (case i_NotKept_NotIn => kit_is)
    (case i_NotKept_NotKept => kit_is)
    (case i_NotKept_NotPaired => kit_is)
    (case i_NotKept_NotSoMany => kit_is)
    (case i_NotKept_NotStrict => kit_is)
    (case i_NotKept_NothingLeft => kit_is)
    (case i_NotKept_ShutError => kit_is)
    (case i_NotKept_TooGreat => kit_is)
    (case i_NotKept_TooLong => kit_is)
    (case i_NotKept_Unmatched => kit_is)
    (case i_NotKept_ValueError => kit_is)
    (case e1_NoPlace => k_is)
    (case e2_NoPlace => k_is)
    (case e3_NoPlace => k_is)
    (case e4_NoPlace => k_is)
    (case e5_NoPlace => k_is)
    (case e6_NoPlace => k_is)
    (case e7_NoPlace => k_is)
    (case t_NoPlace_NoPlace => k_is)
    (case n_NoPlace_NoSum => k_is)
    (case n_NoPlace_NotKept => k_is)
    (case i_NoPlace_LeftOver => kit_is)
    (case i_NoPlace_NoBottom => kit_is)
    (case i_NoPlace_NoHeap => kit_is)
    (case i_NoPlace_NoLanes => kit_is)
    (case i_NoPlace_NoLine => kit_is)
    (case i_NoPlace_NoName => kit_is)
    (case i_NoPlace_NoPair => kit_is)
    (case i_NoPlace_NoPlace => kit_is)
    (case i_NoPlace_NoRule => kit_is)
    (case i_NoPlace_NoSum => kit_is)
    (case i_NoPlace_NoText => kit_is)
    (case i_NoPlace_NotIn => kit_is)
    (case i_NoPlace_NotKept => kit_is)
    (case i_NoPlace_NotPaired => kit_is)
    (case i_NoPlace_NotSoMany => kit_is)
    (case i_NoPlace_NotStrict => kit_is)
    (case i_NoPlace_NothingLeft => kit_is)
    (case i_NoPlace_ShutError => kit_is)
    (case i_NoPlace_TooGreat => kit_is)
    (case i_NoPlace_TooLong => kit_is)
    (case i_NoPlace_Unmatched => kit_is)
    (case i_NoPlace_ValueError => kit_is)
    (case a6 => k_is)
    (case i6 => k_is)
    (case l6 => k_is)
    (case c6 => k_is)
    (case k6 => k_is)
    (case xi_NotKept => kernel_rfl)
    (case y_NotKept => k_is)
    (case hd_NotKept => k_is)
    (case po_NotKept => kernel_rfl)
    (case sa_NotKept => k_is)
    (case na_NotKept_number => k_is)
