import PyProof.Rows.All
import Wide.All
import OpenK.AllK
import Wide.FinOn
import PyProof.EqAt
import PyProof.EqKinds
import PyProof.TupleCall
import PyProof.NeKinds
import PyProof.StrLawsTight
import PyProof.ExcClass3
import PyProof.StationsW
import PyProof.ExcBaseAll.ValueError
import PyProof.NsDelKeeps
import PyProof.RulesAs
import PyProof.ExcArgsOwn
import PyProof.ExcAttrAll.ValueError
import PyProof.ZipIter
import PyProof.ListMulRoad
import KE.KDictSum
import PyProof.ListRange
import PyProof.Draws
import PyProof.EnumMake
import PyProof.Rows.Range3
import PyProof.Rows.SortShell
import PyProof.Conv_int_bool
import PyProof.Rows.SetFrom
import PyProof.Rows.SetObj
import PyProof.WalksMore
import KE.IntBitsLaws
import KE.KRevSl
import PyProof.FitsBits
import PyProof.CollectIter
import PyProof.IsRules
import PyProof.AttrMissHeap
import PyProof.WalksS
import KE.KDictOf
import Lean
import PySem.Challenge.RW_shutpairs_k56_whole_stores_are_fractions
set_option Elab.async false
set_option linter.all false
set_option maxRecDepth 100000
/-! THE HAND LAYER, for ints, bools, texts, own classes, LISTS and tuples (index, slices, in, append, pop ..), calls, loops. Paste it whole ahead of your own text; what your proof does not reach may be deleted. -/
namespace L2
open PySem PySem.Spec PyProof.Rows

/-- a key: an int or a str -/
abbrev Key := Sum Int Str
def keyIs : Key → Value → Bool
  | .inl k, v => Value.isInt k v
  | .inr x, v => Value.isStrOf x v
def keyH (w : World) : Key → Int
  | .inl k => hashInt k
  | .inr x => hashStr w x
theorem keyIs_shape : ∀ {k : Key} {v : Value}, keyIs k v = true → (∃ i t, k = Sum.inl i ∧ v = Value.int i t) ∨ (∃ x t, k = Sum.inr x ∧ v = Value.str x t)
  | .inl i, v, h => by
    obtain ⟨t, e⟩ := Value.isInt_shape (k := i) (v := v) h
    exact .inl ⟨i, t, rfl, e⟩
  | .inr x, v, h => by
    obtain ⟨t, e⟩ := Value.isStrOf_shape (x := x) (v := v) h
    exact .inr ⟨x, t, rfl, e⟩
theorem keyIs_int (i : Int) (t : Tok) : keyIs (.inl i) (.int i t) = true := by simp [keyIs, Value.isInt]
theorem keyIs_str (x : Str) (t : Tok) : keyIs (.inr x) (.str x t) = true := by simp [keyIs, Value.isStrOf]
theorem key_ll (a b : Int) : decide ((Sum.inl a : Key) = Sum.inl b) = (a == b) := by
  by_cases e : a = b
  · subst e; simp
  · have h : ¬ (Sum.inl a : Key) = Sum.inl b := fun q => e (Sum.inl.inj q)
    rw [decide_eq_false h]
    exact (beq_eq_false_iff_ne.mpr e).symm
theorem key_rr (a b : Str) : decide ((Sum.inr a : Key) = Sum.inr b) = decide (a = b) := by
  by_cases e : a = b
  · subst e; simp
  · have h : ¬ (Sum.inr a : Key) = Sum.inr b := fun q => e (Sum.inr.inj q)
    rw [decide_eq_false h, decide_eq_false e]
theorem key_lr (a : Int) (b : Str) : decide ((Sum.inl a : Key) = Sum.inr b) = false := decide_eq_false (fun q => nomatch q)
theorem key_rl (a : Str) (b : Int) : decide ((Sum.inr a : Key) = Sum.inl b) = false := decide_eq_false (fun q => nomatch q)

def mixKind (prog : Program) (w : World) : PySem.KeyKind prog w Key where
  is := keyIs
  hash := keyH w
  inj := fun v a b ha hb => by
    rcases keyIs_shape ha with ⟨i, t, rfl, rfl⟩ | ⟨x, t, rfl, rfl⟩
    · rcases keyIs_shape hb with ⟨j, u, rfl, e⟩ | ⟨y, u, rfl, e⟩
      · injection e with e1 _; rw [e1]
      · exact nomatch e
    · rcases keyIs_shape hb with ⟨j, u, rfl, e⟩ | ⟨y, u, rfl, e⟩
      · exact nomatch e
      · injection e with e1 _; rw [e1]
  byValue := fun k v h => by
    rcases keyIs_shape h with ⟨i, t, rfl, rfl⟩ | ⟨x, t, rfl, rfl⟩ <;> rfl
  pyHash := fun hv h => by
    rcases keyIs_shape hv with ⟨i, t, rfl, rfl⟩ | ⟨x, t, rfl, rfl⟩
    · exact wpAny_pyHash_int h
    · exact wpAny_pyHash_str h
  eqBool := fun hu hv h => by
    rcases keyIs_shape hu with ⟨i, t, rfl, rfl⟩ | ⟨x, t, rfl, rfl⟩
    · rcases keyIs_shape hv with ⟨j, u, rfl, rfl⟩ | ⟨y, u, rfl, rfl⟩
      · rw [key_ll] at h; exact wpAny_eqBool_int h
      · rw [key_lr] at h; exact SeqAt.EqAt.int_str i t y u _ _ _ _ h
    · rcases keyIs_shape hv with ⟨j, u, rfl, rfl⟩ | ⟨y, u, rfl, rfl⟩
      · rw [key_rl] at h; exact SeqAt.EqAt.str_int x t j u _ _ _ _ h
      · rw [key_rr] at h; exact wpAny_eqBool_str h
  «strs» := fun k x t v h => by
    rcases keyIs_shape h with ⟨i, u, rfl, e⟩ | ⟨y, u, rfl, e⟩
    · exact nomatch e
    · injection e with e1 _
      subst e1
      cases v <;> rfl

theorem mixKind_int (prog : Program) (w : World) (i : Int) (t : Tok) : (mixKind prog w).is (.inl i) (.int i t) = true := keyIs_int i t
theorem mixKind_str (prog : Program) (w : World) (x : Str) (t : Tok) : (mixKind prog w).is (.inr x) (.str x t) = true := keyIs_str x t
end L2

namespace L2
open PySem PySem.Spec PyProof.Rows

/-- a value, without the heap -/
inductive V where
  | non | bl (b : Bool) | int (i : Int) | str (x : Str) | byt (b : Array UInt8) | flt (b : UInt64) | ref (a : Addr) | ty (n : String)
  deriving DecidableEq

def RelV : V → Value → Prop
  | .non, u => u = Value.none
  | .bl b, u => u = Value.bool b
  | .int i, u => ∃ t, u = Value.int i t
  | .str x, u => ∃ t, u = Value.str x t
  | .byt b, u => ∃ t, u = Value.bytes b t
  | .flt b, u => ∃ t, u = Value.float b t
  | .ref a, u => u = Value.ref a
  | .ty n, u => u = Value.type n

abbrev Vals : List V → List Value → Prop := Paired RelV
theorem Vals.length {xs : List V} {us : List Value} (r : Vals xs us) : xs.length = us.length := Paired.length r
theorem Vals.get : ∀ {xs : List V} {us : List Value} {i : Nat} {x : V}, Vals xs us → xs[i]? = some x → ∃ u, us[i]? = some u ∧ RelV x u
  | _, _, _, _, .nil, e => by simp at e
  | _, _, 0, _, .cons r _, e => by simp at e; subst e; exact ⟨_, rfl, r⟩
  | _, _, i + 1, x, .cons _ t, e => by
    obtain ⟨u, h1, h2⟩ := Vals.get (i := i) (x := x) t (by simpa using e)
    exact ⟨u, by simpa using h1, h2⟩
theorem Vals.set {x : V} {u : Value} (r : RelV x u) : ∀ {xs : List V} {us : List Value} (i : Nat), Vals xs us → Vals (xs.set i x) (us.set i u)
  | _, _, _, .nil => .nil
  | _, _, 0, .cons _ t => .cons r t
  | _, _, i + 1, .cons q t => .cons q (Vals.set r i t)
theorem Vals.append : ∀ {xs ys : List V} {us ws : List Value}, Vals xs us → Vals ys ws → Vals (xs ++ ys) (us ++ ws)
  | _, _, _, _, .nil, s => s
  | _, _, _, _, .cons r t, s => .cons r (Vals.append t s)
theorem Vals.take : ∀ {xs : List V} {us : List Value} (n : Nat), Vals xs us → Vals (xs.take n) (us.take n)
  | _, _, 0, _ => .nil
  | _, _, _ + 1, .nil => .nil
  | _, _, n + 1, .cons r t => .cons r (Vals.take n t)
theorem Vals.drop : ∀ {xs : List V} {us : List Value} (n : Nat), Vals xs us → Vals (xs.drop n) (us.drop n)
  | _, _, 0, r => r
  | _, _, _ + 1, .nil => .nil
  | _, _, n + 1, .cons _ t => Vals.drop n t
def RelO : Option V → Option Value → Prop
  | some v, some u => RelV v u
  | none, none => True
  | _, _ => False
def KV {κ : Type} : List (κ × V) → List (κ × Value) → Prop := Paired fun (p : κ × V) (q : κ × Value) => p.1 = q.1 ∧ RelV p.2 q.2

/-- a key of a dict (00_mix): an int or a text -/
def kV : Key → V
  | .inl i => .int i
  | .inr x => .str x

/-- what stands at a tracked address -/
inductive HO where
  /-- a list -/
  | lst (xs : List V)
  /-- a tuple (never changes) -/
  | tup (xs : List V)
  /-- a dict whose keys are ints and texts; one whose keys are tuples of ints and texts (the empty one is both) -/
  | dK (kvs : List (Key × V)) | dT (kvs : List (List Key × V))
  /-- a set of ints: its members, its size -/
  | set (S : Int → Bool) (n : Nat)
  /-- an instance of the class at C, its dict at dx, its attributes -/
  | ins (C dx : Addr) (fs : List (Str × V))
  /-- the dict of the instance at x -/
  | own (x : Addr)
  /-- the dict of an exception -/
  | xd (fs : List (Str × V))
  /-- a bound method, f of x -/
  | met (f x : Addr)
  /-- a range object lo, lo + 1, .. below hi -/
  | rng (lo hi : Int)
  /-- a thing that is known to the object (the script; a dict while a loop walks it): read, never written while it is so -/
  | frz (o : Obj) (u : HO)
  /-- a code object's table -/
  | tbl (ps : Array Value)
  /-- any other thing, by what is true of its one object (a def of one's own: SetO a S n := HO.ext fun h => ..) -/
  | ext (φ : Heap → Prop)

abbrev Hp := Addr → Option HO
def upd (H : Hp) (a : Addr) (o : HO) : Hp := fun b => if b = a then some o else H b
theorem upd_same {H : Hp} {a : Addr} {o : HO} : upd H a o a = some o := by unfold upd; rw [if_pos rfl]
theorem upd_ne {H : Hp} {a b : Addr} {o : HO} (h : b ≠ a) : upd H a o b = H b := by unfold upd; rw [if_neg h]
/-- two objects of different content stand apart -/
theorem ne_of {H : Hp} {a b : Addr} {o u : HO} (h : H a = some o) (h' : H b = some u) (d : o ≠ u) : a ≠ b := by
  intro e; subst e; rw [h] at h'; exact d (Option.some.inj h')
theorem ne_of_none {H : Hp} {a b : Addr} {o : HO} (h : H a = some o) (h' : H b = none) : a ≠ b := by
  intro e; subst e; rw [h] at h'; cases h'

section
variable (P : Program) (w : World)
def ObjOk (H : Hp) (h : Heap) (a : Addr) : HO → Prop
  | .lst xs => xs.length ≤ sizeLine ∧ ∃ (its : List Value) (n : Nat), Vals xs its ∧ h.get? a = some { cls := .type "list", data := .seq its.toArray n }
  | .tup xs => xs.length ≤ sizeLine ∧ ∃ its : List Value, Vals xs its ∧ IsTup h a its.toArray ∧ ∀ o, h.get? a = some o → o.dict = none
  | .dK kvs => kvs.length ≤ sizeLine ∧ (a == sysModules) = false ∧ ∃ vs, KV kvs vs ∧ h.DictOf (mixKind P w) a vs
  | .dT kvs => kvs.length ≤ sizeLine ∧ (a == sysModules) = false ∧ ∃ xs : List (List Key × Addr × Value),
      Paired (fun (p : List Key × V) (q : List Key × Addr × Value) => p.1 = q.1 ∧ H q.2.1 = some (.tup (p.1.map kV)) ∧ RelV p.2 q.2.2) kvs xs ∧
      ∃ o es ep, h.get? a = some o ∧ o.ExactDict ∧ o.data = .dict es ep ∧ es.toList = xs.map (entryOfKey (tupleKind (mixKind P w))) ∧ (xs.map (·.1)).Nodup
  | .set S n => h.SetOf (intKind P w) a S n
  | .ins C dx fs => H dx = some (.own a) ∧ fs.length ≤ 1000 ∧ dx ≠ a ∧ h.get? a = some (PySem.W.instObj C dx) ∧
      ∃ mA, h.Ns1 dx mA ∧ (∀ f, RelO (fs.lookup f) (mA f)) ∧ PySem.Within mA (fs.map (·.1))
  | .own _ => ∃ o, h.get? a = some o
  | .xd fs => ∃ mA, h.Ns1 a mA ∧ ∀ f, RelO (fs.lookup f) (mA f)
  | .rng lo hi => ∃ t u v, h.get? a = some { cls := .type "range", data := .fields #[.int lo t, .int hi u, .int 1 v] }
  | .frz o u => h.get? a = some o ∧ ObjOk H h a u
  | .tbl ps => h.get? a = some { cls := .none, data := .fields ps }
  | .met f x => h.get? a = some (PySem.W.methodObj (.ref f) (.ref x))
  | .ext φ => φ h ∧ (∃ o, h.get? a = some o) ∧ ∀ h1 h2 : Heap, φ h1 → (∀ o, h1.get? a = some o → h2.get? a = some o) → φ h2
theorem tup_nodict {h : Heap} {its : Array Value} : ∀ o, (h.push { cls := .type "tuple", data := .seq its }).get? h.objs.size = some o → o.dict = none := by
  intro o e
  rw [Heap.get?_push_size _ rfl] at e
  cases e
  rfl
/-- the abstract heap is held -/
def HOk (H : Hp) (h : Heap) : Prop := ∀ a o, H a = some o → ObjOk P w H h a o
end

section
variable {P : Program} {w : World} {H H' : Hp} {h h' : Heap} {a : Addr} {o : HO}
theorem ObjOk.lt (x : ObjOk P w H h a o) : a < h.objs.size := by
  cases o with
  | lst xs => obtain ⟨_, _, _, _, e⟩ := x; exact Heap.lt_size e
  | tup xs => obtain ⟨_, _, _, p, _⟩ := x; exact p.lt
  | dK kvs => obtain ⟨_, _, _, _, o, _, _, e, _⟩ := x; exact Heap.lt_size e
  | dT kvs => obtain ⟨_, _, _, _, o, _, _, e, _⟩ := x; exact Heap.lt_size e
  | set S n => obtain ⟨o, _, _, _, e, _⟩ := x; exact Heap.lt_size e
  | ins C dx fs => obtain ⟨_, _, _, e, _⟩ := x; exact Heap.lt_size e
  | own y => obtain ⟨_, e⟩ := x; exact Heap.lt_size e
  | xd fs => obtain ⟨_, ⟨_, _, _, e, _⟩, _⟩ := x; exact Heap.lt_size e
  | rng lo hi => obtain ⟨_, _, _, e⟩ := x; exact Heap.lt_size e
  | frz ob u => obtain ⟨e, _⟩ := x; exact Heap.lt_size e
  | tbl ps => exact Heap.lt_size (show h.get? a = some _ from x)
  | met f y => exact Heap.lt_size (show h.get? a = some _ from x)
  | ext φ => obtain ⟨_, ⟨_, e⟩, _⟩ := x; exact Heap.lt_size e
theorem Paired.mapP {α β : Type} {F G : α → β → Prop} : ∀ {l₁ : List α} {l₂ : List β}, Paired F l₁ l₂ → (∀ a b, F a b → G a b) → Paired G l₁ l₂
  | _, _, .nil, _ => .nil
  | _, _, .cons r t, f => .cons (f _ _ r) (Paired.mapP t f)
/-- what an object's description leans on: its own object, its own dict, the tuples -/
theorem ObjOk.stay (x : ObjOk P w H h a o) (k : ∀ b u, (b = a ∨ H b = some (.own a)) → h.get? b = some u → h'.get? b = some u)
    (ho : ∀ b, H b = some (.own a) → H' b = some (.own a)) (ht : ∀ b xs, H b = some (.tup xs) → H' b = some (.tup xs)) : ObjOk P w H' h' a o := by
  induction o with
  | lst xs => obtain ⟨z, its, n, r, e⟩ := x; exact ⟨z, its, n, r, k _ _ (.inl rfl) e⟩
  | tup xs =>
    obtain ⟨z, its, r, ⟨ob, e, c⟩, nd⟩ := x
    have e' := k _ _ (.inl rfl) e
    exact ⟨z, its, r, ⟨ob, e', c⟩, fun o q => by rw [e'] at q; cases q; exact nd ob e⟩
  | dK kvs => obtain ⟨z, y, vs, r, ob, es, ep, e, c⟩ := x; exact ⟨z, y, vs, r, ob, es, ep, k _ _ (.inl rfl) e, c⟩
  | dT kvs =>
    obtain ⟨z, y, xs, r, ob, es, ep, e, c⟩ := x
    exact ⟨z, y, xs, Paired.mapP r fun p q z => ⟨z.1, ht _ _ z.2.1, z.2.2⟩, ob, es, ep, k _ _ (.inl rfl) e, c⟩
  | set S n => obtain ⟨ob, es, ep, t, e, c⟩ := x; exact ⟨ob, es, ep, t, k _ _ (.inl rfl) e, c⟩
  | ins C dx fs =>
    obtain ⟨d, z, ne, e, mA, ⟨od, es, ep, e2, c⟩, r⟩ := x
    exact ⟨ho _ d, z, ne, k _ _ (.inl rfl) e, mA, ⟨od, es, ep, k _ _ (.inr d) e2, c⟩, r⟩
  | own y => obtain ⟨ob, e⟩ := x; exact ⟨ob, k _ _ (.inl rfl) e⟩
  | xd fs => obtain ⟨mA, ⟨od, es, ep, e, c⟩, r⟩ := x; exact ⟨mA, ⟨od, es, ep, k _ _ (.inl rfl) e, c⟩, r⟩
  | rng lo hi => obtain ⟨t, u, v, e⟩ := x; exact ⟨t, u, v, k _ _ (.inl rfl) e⟩
  | frz ob u ih => obtain ⟨e, q⟩ := x; exact ⟨k _ _ (.inl rfl) e, ih q⟩
  | tbl ps =>
    have e : h.get? a = some { cls := .none, data := .fields ps } := x
    show h'.get? a = some { cls := .none, data := .fields ps }
    exact k a _ (.inl rfl) e
  | met f y =>
    have e : h.get? a = some (PySem.W.methodObj (.ref f) (.ref y)) := x
    show h'.get? a = some (PySem.W.methodObj (.ref f) (.ref y))
    exact k a _ (.inl rfl) e
  | ext φ => obtain ⟨p, ⟨o, e⟩, st⟩ := x; exact ⟨st _ _ p fun o q => k _ _ (.inl rfl) q, ⟨o, k _ _ (.inl rfl) e⟩, st⟩
theorem HOk.lt (x : HOk P w H h) (e : H a = some o) : a < h.objs.size := (x a o e).lt
theorem HOk.fresh (x : HOk P w H h) (e : h.objs.size ≤ a) : H a = none := by
  cases q : H a with
  | none => rfl
  | some u => exact absurd (Nat.lt_of_lt_of_le (x.lt q) e) (Nat.lt_irrefl _)
/-- every object of the heap is kept -/
theorem HOk.kept (x : HOk P w H h) (k : ∀ b u, h.get? b = some u → h'.get? b = some u) : HOk P w H h' := fun a o e =>
  (x a o e).stay (fun b u _ q => k b u q) (fun _ q => q) fun _ _ q => q
/-- a new object is laid and tracked -/
theorem HOk.laid (x : HOk P w H h) (k : ∀ b u, h.get? b = some u → h'.get? b = some u) (hp : h.objs.size ≤ a) (new : ObjOk P w (upd H a o) h' a o) : HOk P w (upd H a o) h' := fun b u e => by
  have hn := x.fresh hp
  by_cases hb : b = a
  · subst hb; rw [upd_same] at e; cases e; exact new
  · rw [upd_ne hb] at e
    exact (x b u e).stay (fun c v _ q => k c v q) (fun c q => by rw [upd_ne (ne_of_none q hn)]; exact q) fun c xs q => by rw [upd_ne (ne_of_none q hn)]; exact q
end

/-- what may be read as u: it is u, or a known u -/
def Rd (H : Hp) (a : Addr) (u : HO) : Prop := H a = some u ∨ ∃ o, H a = some (.frz o u)
theorem Rd.of {H : Hp} {a : Addr} {u : HO} (h : H a = some u) : Rd H a u := .inl h
theorem Rd.ok {P : Program} {w : World} {H : Hp} {h : Heap} {a : Addr} {u : HO} (r : Rd H a u) (x : HOk P w H h) : ObjOk P w H h a u := by
  rcases r with r | ⟨o, r⟩
  · exact x a u r
  · obtain ⟨_, q⟩ := x a _ r
    exact q
/-- what may be written -/
def Mut : Option HO → Prop
  | some (.lst _) => True
  | some (.dK _) => True
  | some (.dT _) => True
  | some (.set _ _) => True
  | some (.ins _ _ _) => True
  | some (.ext _) => True
  | _ => False
section
variable {P : Program} {w : World} {H : Hp} {h h' : Heap} {x e : Addr} {o' : HO}
/-- the object at e is changed: x itself, or the dict of the instance x -/
theorem HOk.write (ok : HOk P w H h) (mu : Mut (H x)) (he : e = x ∨ H e = some (.own x)) (k : ∀ b u, b ≠ e → h.get? b = some u → h'.get? b = some u) (heo : ∃ u, h'.get? e = some u)
    (new : ObjOk P w (upd H x o') h' x o') : HOk P w (upd H x o') h' := fun b u q => by
  have nown : ∀ c y, H c = some (.own y) → c ≠ x := fun c y r z => by subst z; rw [r] at mu; exact mu
  have ntup : ∀ c xs, H c = some (.tup xs) → c ≠ x := fun c xs r z => by subst z; rw [r] at mu; exact mu
  by_cases hb : b = x
  · subst hb; rw [upd_same] at q; cases q; exact new
  · rw [upd_ne hb] at q
    by_cases hbe : b = e
    · have q' : H b = some (.own x) := by
        rcases he with z | z
        · exact absurd (hbe.trans z) hb
        · rw [hbe]; exact z
      rw [q] at q'; cases q'
      obtain ⟨v, hv⟩ := heo
      exact ⟨v, by rw [hbe]; exact hv⟩
    · refine (ok b u q).stay (fun c v hc r => k c v ?_ r) (fun c r => by rw [upd_ne (nown c b r)]; exact r) fun c xs r => by rw [upd_ne (ntup c xs r)]; exact r
      rcases hc with rfl | hc
      · exact hbe
      · rintro rfl
        rcases he with z | z
        · exact nown c b hc z
        · rw [hc] at z; cases z; exact hb rfl
end

/-! ### kept unless tracked; of the frames at fs (the callers') the slots may change (an exception that passes writes there); of the records at ex (iterators) nothing is said -/
structure Un (fs ex : List Addr) (H H' : Hp) (h h' : Heap) : Prop where
  keep : ∀ b o, h.get? b = some o → H b = none → b ∉ fs → b ∉ ex → h'.get? b = some o
  slot : ∀ b o, h.get? b = some o → H b = none → b ∈ fs → b ∉ ex → ∃ sl, h'.get? b = some { o with slots := sl }
  free : ∀ b o, h.get? b = some o → H b = none → b ∉ ex → H' b = none
  there : ∀ b o, h.get? b = some o → b ∉ ex → ∃ o', h'.get? b = some o'
  tups : ∀ b xs, H b = some (.tup xs) → H' b = some (.tup xs)
  frzs : ∀ b o u, H b = some (.frz o u) → H' b = some (.frz o u)
  tbls : ∀ b ps, H b = some (.tbl ps) → ∃ more, H' b = some (.tbl (ps ++ more))
section
variable {fs fs' ex ex' : List Addr} {H H1 H2 : Hp} {h h1 h2 h' : Heap} {a x e : Addr} {o : HO}
theorem Un.any (u : Un fs ex H H1 h h1) {b : Addr} {ob : Obj} (q : h.get? b = some ob) (n : H b = none) (hx : b ∉ ex) : ∃ sl, h1.get? b = some { ob with slots := sl } := by
  by_cases hb : b ∈ fs
  · exact u.slot b ob q n hb hx
  · exact ⟨ob.slots, u.keep b ob q n hb hx⟩
theorem Un.trans (a : Un fs ex H H1 h h1) (b : Un fs ex H1 H2 h1 h2) : Un fs ex H H2 h h2 where
  keep := fun c ob q n hc hx => b.keep c ob (a.keep c ob q n hc hx) (a.free c ob q n hx) hc hx
  slot := fun c ob q n hc hx => by
    obtain ⟨sl, e1⟩ := a.slot c ob q n hc hx
    obtain ⟨sl', e2⟩ := b.slot c _ e1 (a.free c ob q n hx) hc hx
    exact ⟨sl', e2⟩
  free := fun c ob q n hx => by
    obtain ⟨o', e1⟩ := a.there c ob q hx
    exact b.free c o' e1 (a.free c ob q n hx) hx
  there := fun c ob q hx => by
    obtain ⟨o', e1⟩ := a.there c ob q hx
    exact b.there c o' e1 hx
  tups := fun c xs q => b.tups c xs (a.tups c xs q)
  frzs := fun c ob xs q => b.frzs c ob xs (a.frzs c ob xs q)
  tbls := fun c ps q => by
    obtain ⟨m1, e1⟩ := a.tbls c ps q
    obtain ⟨m2, e2⟩ := b.tbls c _ e1
    exact ⟨m1 ++ m2, by rw [e2, Array.append_assoc]⟩
theorem Un.kept (k : ∀ b u, h.get? b = some u → h'.get? b = some u) : Un fs ex H H h h' :=
  ⟨fun b ob q _ _ _ => k b ob q, fun b ob q _ _ _ => ⟨ob.slots, k b ob q⟩, fun _ _ _ n _ => n, fun b ob q _ => ⟨ob, k b ob q⟩, fun _ _ q => q, fun _ _ _ q => q, fun _ ps q => ⟨#[], by rw [q]; simp⟩⟩
theorem Un.refl : Un fs ex H H h h := Un.kept fun _ _ q => q
theorem Un.laid (k : ∀ b u, h.get? b = some u → h'.get? b = some u) (hp : h.objs.size ≤ a) (hn : H a = none) : Un fs ex H (upd H a o) h h' where
  keep := fun b u q _ _ _ => k b u q
  slot := fun b u q _ _ _ => ⟨u.slots, k b u q⟩
  free := fun b u q n _ => by rw [upd_ne (Nat.ne_of_lt (Nat.lt_of_lt_of_le (Heap.lt_size q) hp))]; exact n
  there := fun b u q _ => ⟨u, k b u q⟩
  tups := fun b xs q => by rw [upd_ne (ne_of_none q hn)]; exact q
  frzs := fun b u xs q => by rw [upd_ne (ne_of_none q hn)]; exact q
  tbls := fun b ps q => ⟨#[], by rw [upd_ne (ne_of_none q hn), q]; simp⟩
theorem Un.write (mu : Mut (H x)) (he : e = x ∨ H e = some (.own x)) (k : ∀ b u, b ≠ e → h.get? b = some u → h'.get? b = some u) (heo : ∃ u, h'.get? e = some u) : Un fs ex H (upd H x o) h h' := by
  have hx : ∀ b, H b = none → b ≠ x := fun b n z => by subst z; rw [n] at mu; exact mu
  have hb : ∀ b, H b = none → b ≠ e := fun b n z => by
    subst z
    rcases he with r | r
    · exact hx b n r
    · rw [n] at r; cases r
  have hm : ∀ b u, H b = some u → ¬ Mut (some u) → b ≠ x := fun b u q nm z => by subst z; rw [q] at mu; exact nm mu
  refine ⟨fun b u q n _ _ => k b u (hb b n) q, fun b u q n _ _ => ⟨u.slots, k b u (hb b n) q⟩, fun b u q n _ => by rw [upd_ne (hx b n)]; exact n, fun b u q _ => ?_,
    fun b xs q => by rw [upd_ne (hm b _ q fun z => z)]; exact q, fun b u xs q => by rw [upd_ne (hm b _ q fun z => z)]; exact q, fun b ps q => ⟨#[], by rw [upd_ne (hm b _ q fun z => z), q]; simp⟩⟩
  by_cases hbe : b = e
  · subst hbe; exact heo
  · exact ⟨u, k b u hbe q⟩
theorem Un.mono (u : Un fs ex H H1 h h1) (hs : ∀ b ∈ fs, b ∈ fs') (hx : ∀ b ∈ ex, b ∈ ex') : Un fs' ex' H H1 h h1 :=
  ⟨fun b ob q n hb he => u.keep b ob q n (fun z => hb (hs b z)) fun z => he (hx b z), fun _ _ q n _ he => u.any q n fun z => he (hx _ z), fun b ob q n he => u.free b ob q n fun z => he (hx b z), fun b ob q he => u.there b ob q fun z => he (hx b z), u.tups, u.frzs, u.tbls⟩
end

/-! ### the heap without what is tracked -/
def trk (h : Heap) (H : Hp) : List Addr := (List.range h.objs.size).filter fun a => (H a).isSome
def hidT (h : Heap) (H : Hp) : Heap := PySem.W.hideAll h (trk h H)
theorem hidT_size (h : Heap) (H : Hp) : (hidT h H).objs.size = h.objs.size := PySem.W.hideAll_size _ _
theorem hidT_get {h : Heap} {H : Hp} {b : Addr} {o : Obj} (e : h.get? b = some o) (n : H b = none) : (hidT h H).get? b = some o :=
  PySem.W.hideAll_get _ e fun hm => by
    have q : (H b).isSome = true := (List.mem_filter.mp hm).2
    rw [n] at q; simp at q
theorem of_hidT {h : Heap} {H : Hp} {b : Addr} {o : Obj} (e : (hidT h H).get? b = some o) : h.get? b = some o ∧ H b = none := by
  have e' : h.get? b = some o := PySem.W.of_hideAll (trk h H) e
  refine ⟨e', ?_⟩
  cases q : H b with
  | none => rfl
  | some x =>
    have hm : b ∈ trk h H := List.mem_filter.mpr ⟨List.mem_range.mpr (Heap.lt_size e'), by simp [q]⟩
    have z : (hidT h H).get? b = none := PySem.W.hideAll_none (trk h H) hm
    rw [z] at e; cases e

/-! ### OpenK's ledger, filled with every new object but one -/
def allNews (g h : Heap) (L : Addr) : List (Addr × Obj) := (List.range h.objs.size).filterMap fun a => if a = L ∨ (g.get? a).isSome = true then none else (h.get? a).map fun o => (a, o)
def rest (g h : Heap) (L d : Addr) : List (Addr × Obj) := (allNews g h L).filter fun p => decide (p.1 ≠ d)
end L2

namespace L2
open PySem PySem.Spec PyProof.Rows

/-- the module's facts, over the base: the heap at the law's entry without what is tracked there -/
structure Mod (K : PySem.W.Frag) (mg : Str → Option Value) (base : Heap) : Prop where
  kin : K.In base
  glob : base.Ns mainGlobals mg
  blt : ∃ mb, base.Ns builtinsNs mb ∧ ∀ x : Str, x ≠ "__name__" → mb x = bootBuiltins x
  nolimit : base.NoLimit

/-- the context: a def's body (or a comprehension's block) running. base: fixed through the whole law; s₀, H₀: the entry; outer: the frames whose slots others may change (a def's callers); stack: all frames that run;
   ex: iterators that were made ahead of the entry and are walked here (a comprehension's); fn: the names whose cells were made at the entry (a def: all; a comprehension's block: its own); calm: not within an except suite; pn: pins that every state bears; xe: what is wanted of an exception that leaves the code -/
structure Cx where
  prog : Program
  w : World
  K : PySem.W.Frag
  mg : Str → Option Value
  base : Heap
  A : Around
  N : List Str
  s₀ : Shared
  H₀ : Hp
  env : Env
  outer : List Env
  stack : List Env
  ex : List Addr
  fn : Str → Bool
  calm : Bool
  pn : List (Addr × Obj)
  xe : Value → Shared → Prop
/-- the callers' frames -/
def frs (l : List Env) : List Addr := l.filterMap (·.frame)
abbrev Cx.fs (X : Cx) : List Addr := frs X.outer

def Vis (sc : Scope) (x : Str) : Prop := sc.names.lookup x = some .local ∨ sc.names.lookup x = some .cell ∨ sc.names.lookup x = some .free
def Loc (sc : Scope) (x : Str) : Prop := sc.names.lookup x = some .local ∨ sc.names.lookup x = some .cell
def Look (env : Env) (h : Heap) (m : Str → Option Value) (x : Str) (u : Value) : Prop :=
  (env.kindOf x = some .local ∧ m x = some u) ∨ ((env.kindOf x = some .cell ∨ env.kindOf x = some .free) ∧ ∃ c, env.cells.lookup x = some c ∧ h.IsCell c (some u))

structure Cx.Ok (X : Cx) : Prop where
  mod : Mod X.K X.mg X.base
  kind : X.env.scope.kind = .function
  glob : X.env.globals = mainGlobals
  blt : X.env.builtins = builtinsNs
  above : X.s₀.heap.objs.size ≤ X.env.locals
  inj : ∀ x y c, X.env.cells.lookup x = some c → X.env.cells.lookup y = some c → x = y
  has : ∀ x, (X.env.kindOf x = some .cell ∨ X.env.kindOf x = some .free) → ∃ c, X.env.cells.lookup x = some c
  cab : ∀ x c, X.fn x = true → X.env.cells.lookup x = some c → X.s₀.heap.objs.size ≤ c
  hd : X.calm = true → X.A.handled = none
  frames : X.A.frames = some X.stack
  stk : X.stack = X.outer ∨ (X.stack = X.env :: X.outer ∧ X.env.frame = some X.env.locals)
  exf : ∀ b ∈ X.ex, b ≠ X.env.locals ∧ ∀ x c, X.env.cells.lookup x = some c → c ≠ b
  bs : ∀ b o, X.base.get? b = some o → X.s₀.heap.get? b = some o ∧ X.H₀ b = none
  bsz : X.base.objs.size ≤ X.s₀.heap.objs.size
  noex : ∀ b o, X.base.get? b = some o → b ∉ X.ex
  exfs : ∀ b ∈ X.ex, b ∉ X.fs
  funs : X.s₀.heap.FunFrames X.base X.outer
  frf : ∀ b ∈ X.fs, X.H₀ b = none

structure Inv (X : Cx) (pins : List (Addr × Obj)) (σ : List (Option V)) (H : Hp) (s : Shared) : Prop where
  ok : X.Ok
  os : s.os = X.s₀.os
  bare : AllBare s.gens
  base : Un X.fs X.ex X.H₀ H X.s₀.heap s.heap
  loc : ∃ m, s.heap.Ns X.env.locals m ∧ ∀ (i : Nat) (x : Str) (v : V), X.N[i]? = some x → σ[i]? = some (some v) → Vis X.env.scope x → ∃ u, RelV v u ∧ Look X.env s.heap m x u
  cell : ∀ x c, X.env.cells.lookup x = some c → ∃ v, s.heap.IsCell c v
  free : H X.env.locals = none
  freeC : ∀ x c, X.env.cells.lookup x = some c → H c = none
  pin : ∀ p ∈ X.pn ++ pins, s.heap.get? p.1 = some p.2 ∧ H p.1 = none ∧ p.1 ≠ X.env.locals ∧ p.1 ∉ X.fs ∧ ∀ v, p.2.data ≠ .cell v
  hok : HOk X.prog X.w H s.heap
  len : σ.length = X.N.length

section
variable {X : Cx} {pins : List (Addr × Obj)} {σ : List (Option V)} {H H' : Hp} {s : Shared} {h' : Heap}

theorem Cx.Ok.nofr (ok : X.Ok) {b : Addr} {o : Obj} (e : X.base.get? b = some o) : b ∉ X.fs := fun hb => by
  have := (ok.funs.mem hb).1
  rw [e] at this; cases this
theorem Inv.bs (I : Inv X pins σ H s) : ∀ b o, X.base.get? b = some o → s.heap.get? b = some o ∧ H b = none := fun b o e =>
  ⟨I.base.keep b o (I.ok.bs b o e).1 (I.ok.bs b o e).2 (I.ok.nofr e) (I.ok.noex b o e), I.base.free b o (I.ok.bs b o e).1 (I.ok.bs b o e).2 (I.ok.noex b o e)⟩
theorem Inv.bk (I : Inv X pins σ H s) : ∀ b o, X.base.get? b = some o → s.heap.get? b = some o := fun b o e => (I.bs b o e).1
theorem Inv.mod (I : Inv X pins σ H s) : Mod X.K X.mg X.base := I.ok.mod
theorem Inv.kIn (I : Inv X pins σ H s) : X.K.In s.heap := I.ok.mod.kin.keeps I.bk
theorem Inv.nolimit (I : Inv X pins σ H s) : s.heap.NoLimit := I.ok.mod.nolimit.keeps I.bk
/-- the frame over the base: for OpenK's rules (K.In X.base is I.mod.kin) -/
theorem Inv.fr (I : Inv X pins σ H s) : ∃ m, Fr X.base X.env.locals s.heap m :=
  let ⟨m, hn, _⟩ := I.loc
  ⟨m, hn, I.bk, Nat.le_trans I.ok.bsz I.ok.above⟩
theorem Inv.lt (I : Inv X pins σ H s) : X.env.locals < s.heap.objs.size := let ⟨_, hn, _⟩ := I.loc; hn.lt
theorem Inv.sz (I : Inv X pins σ H s) : X.s₀.heap.objs.size ≤ s.heap.objs.size := Nat.le_trans I.ok.above (Nat.le_of_lt I.lt)
theorem Inv.nofs (I : Inv X pins σ H s) {a : Addr} (h : s.heap.objs.size ≤ a) : a ∉ X.fs := fun hb => by
  obtain ⟨_, o, ho, _⟩ := I.ok.funs.mem hb
  exact absurd (Nat.lt_of_lt_of_le (Heap.lt_size ho) (Nat.le_trans I.sz h)) (Nat.lt_irrefl _)
theorem Inv.cne (I : Inv X pins σ H s) : ∀ x c, X.env.cells.lookup x = some c → c ≠ X.env.locals := fun x c e z => by
  obtain ⟨v, o, ho, hd⟩ := I.cell x c e
  obtain ⟨m, ⟨o', es, ep, ho', hd', _⟩, _⟩ := I.loc
  rw [z, ho'] at ho; cases ho; rw [hd'] at hd; cases hd
theorem Inv.funs (I : Inv X pins σ H s) : s.heap.FunFrames X.base X.outer := by
  have all : ∀ (l : List Env), (∀ b ∈ frs l, b ∈ X.fs) → X.s₀.heap.FunFrames X.base l → s.heap.FunFrames X.base l := by
    intro l
    induction l with
    | nil => intro _ _; trivial
    | cons env r ih =>
      intro hs hl
      obtain ⟨hk, ⟨L, o, hf, hn, ho, hd⟩, hr⟩ := hl
      have hL : L ∈ X.fs := hs L (by unfold frs; rw [List.filterMap_cons, hf]; exact List.mem_cons_self)
      obtain ⟨sl, e⟩ := I.base.slot L o ho (I.ok.frf L hL) hL fun z => I.ok.exfs L z hL
      exact ⟨hk, ⟨L, _, hf, hn, e, hd⟩, ih (fun b hb => hs b (by unfold frs; rw [List.filterMap_cons, hf]; exact List.mem_cons_of_mem _ hb)) hr⟩
  exact all X.outer (fun _ hb => hb) I.ok.funs

/-- the frames that run, for a call -/
theorem Inv.stack (I : Inv X pins σ H s) : s.heap.FunFrames X.base X.stack := by
  rcases I.ok.stk with e | ⟨e, hf⟩
  · rw [e]; exact I.funs
  · rw [e]
    obtain ⟨m, hn, _⟩ := I.loc
    refine .cons (by rw [I.ok.kind]; decide) hf hn ?_ I.funs
    exact Heap.get?_none_of_le (Nat.le_trans I.ok.bsz I.ok.above)
theorem Inv.stkSub (I : Inv X pins σ H s) : ∀ b ∈ frs X.stack, b ∈ X.env.locals :: X.fs := fun b hb => by
  rcases I.ok.stk with e | ⟨e, hf⟩
  · rw [e] at hb; exact List.mem_cons_of_mem _ hb
  · rw [e] at hb
    unfold frs at hb
    rw [List.filterMap_cons, hf] at hb
    exact hb
theorem Inv.stkFree (I : Inv X pins σ H s) : ∀ b ∈ frs X.stack, H b = none := fun b hb => by
  rcases List.mem_cons.mp (I.stkSub b hb) with e | hb
  · rw [e]; exact I.free
  · obtain ⟨_, o, ho, _⟩ := I.ok.funs.mem hb
    exact I.base.free b o ho (I.ok.frf b hb) fun z => I.ok.exfs b z hb

/-- THE STEP: the untracked objects but the frame and the records at ch are kept (the callers' frames up to slots), the frame's map is kept, the new abstract heap is held -/
theorem Inv.step {g' : Array GenState} {t' : Nat} {d' : Drawn} {ch : List Addr} (I : Inv X pins σ H s)
    (hch : ∀ b ∈ ch, (b ∈ X.ex ∨ X.s₀.heap.objs.size ≤ b) ∧ b ≠ X.env.locals ∧ (∀ x c, X.env.cells.lookup x = some c → c ≠ b) ∧ ∀ p ∈ X.pn ++ pins, p.1 ≠ b)
    (keep : ∀ b o, b ≠ X.env.locals → b ∉ X.fs → b ∉ ch → s.heap.get? b = some o → H b = none → h'.get? b = some o)
    (slot : ∀ b o, b ≠ X.env.locals → b ∈ X.fs → b ∉ ch → s.heap.get? b = some o → H b = none → ∃ sl, h'.get? b = some { o with slots := sl }) (free : ∀ b o, b ∉ ch → s.heap.get? b = some o → H b = none → H' b = none)
    (there : ∀ b o, b ∉ ch → s.heap.get? b = some o → ∃ o', h'.get? b = some o')
    (tups : ∀ b xs, H b = some (.tup xs) → H' b = some (.tup xs)) (frzs : ∀ b o u, H b = some (.frz o u) → H' b = some (.frz o u)) (tbls : ∀ b ps, H b = some (.tbl ps) → ∃ more, H' b = some (.tbl (ps ++ more)))
    (ns : ∀ m, s.heap.Ns X.env.locals m → h'.Ns X.env.locals m) (hok : HOk X.prog X.w H' h') (hg : AllBare g') :
    Inv X pins σ H' { s with heap := h', gens := g', drawn := d', toks := t' } := by
  have neL : ∀ b o, X.s₀.heap.get? b = some o → b ≠ X.env.locals := fun b o e => Nat.ne_of_lt (Nat.lt_of_lt_of_le (Heap.lt_size e) I.ok.above)
  have neC : ∀ b o, X.s₀.heap.get? b = some o → b ∉ X.ex → b ∉ ch := fun b o e hx hb => by
    rcases (hch b hb).1 with z | z
    · exact hx z
    · exact absurd (Nat.lt_of_lt_of_le (Heap.lt_size e) z) (Nat.lt_irrefl _)
  have cellK : ∀ x c, X.env.cells.lookup x = some c → ∀ v, s.heap.IsCell c v → h'.IsCell c v := fun x c e v ⟨o, ho, hd⟩ => by
    have nch : c ∉ ch := fun z => (hch c z).2.2.1 x c e rfl
    by_cases hc : c ∈ X.fs
    · obtain ⟨sl, q⟩ := slot c o (I.cne x c e) hc nch ho (I.freeC x c e)
      exact ⟨_, q, hd⟩
    · exact ⟨o, keep c o (I.cne x c e) hc nch ho (I.freeC x c e), hd⟩
  refine ⟨I.ok, I.os, hg, ⟨fun b o e n hb hx => ?_, fun b o e n hb hx => ?_, fun b o e n hx => ?_, fun b o e hx => ?_, fun b xs e => tups b xs (I.base.tups b xs e), fun b o xs e => frzs b o xs (I.base.frzs b o xs e), fun b ps e => ?_⟩, ?_, fun x c e => ?_, ?_, fun x c e => ?_, fun p hp => ?_, hok, I.len⟩
  · exact keep b o (neL b o e) hb (neC b o e hx) (I.base.keep b o e n hb hx) (I.base.free b o e n hx)
  · obtain ⟨sl, e1⟩ := I.base.slot b o e n hb hx
    obtain ⟨sl', e2⟩ := slot b _ (neL b o e) hb (neC b o e hx) e1 (I.base.free b o e n hx)
    exact ⟨sl', e2⟩
  · obtain ⟨o', e1⟩ := I.base.there b o e hx
    exact free b o' (neC b o e hx) e1 (I.base.free b o e n hx)
  · obtain ⟨o', e1⟩ := I.base.there b o e hx
    exact there b o' (neC b o e hx) e1
  · obtain ⟨m1, e1⟩ := I.base.tbls b ps e
    obtain ⟨m2, e2⟩ := tbls b _ e1
    exact ⟨m1 ++ m2, by rw [e2, Array.append_assoc]⟩
  · obtain ⟨m, hn, hl⟩ := I.loc
    refine ⟨m, ns m hn, fun i x v e1 e2 e3 => ?_⟩
    obtain ⟨u, r, l⟩ := hl i x v e1 e2 e3
    refine ⟨u, r, ?_⟩
    rcases l with l | ⟨k, c, e, z⟩
    · exact .inl l
    · exact .inr ⟨k, c, e, cellK x c e _ z⟩
  · obtain ⟨v, z⟩ := I.cell x c e
    exact ⟨v, cellK x c e v z⟩
  · obtain ⟨m, ⟨o, _, _, ho, _⟩, _⟩ := I.loc
    exact free _ o (fun z => (hch _ z).2.1 rfl) ho I.free
  · obtain ⟨v, o, ho, hd⟩ := I.cell x c e
    exact free c o (fun z => (hch c z).2.2.1 x c e rfl) ho (I.freeC x c e)
  · obtain ⟨e, n, ne, nf, d⟩ := I.pin p hp
    have nch : p.1 ∉ ch := fun z => (hch p.1 z).2.2.2 p hp rfl
    exact ⟨keep p.1 p.2 ne nf nch e n, free p.1 p.2 nch e n, ne, nf, d⟩
/-- .. where the frame's own object is kept too -/
theorem Inv.un {t' : Nat} (I : Inv X pins σ H s) (u : Un X.fs [] H H' s.heap h') (hok : HOk X.prog X.w H' h') : Inv X pins σ H' { s with heap := h', toks := t' } := by
  obtain ⟨m, ⟨o, es, ep, ho, r⟩, _⟩ := id I.loc
  obtain ⟨sl, hL⟩ := u.any ho I.free (by simp)
  exact I.step (g' := s.gens) (d' := s.drawn) (ch := []) (fun _ z => nomatch z) (fun b o _ hb _ e n => u.keep b o e n hb (by simp)) (fun b o _ hb _ e n => u.slot b o e n hb (by simp)) (fun b o _ e n => u.free b o e n (by simp)) (fun b o _ e => u.there b o e (by simp)) u.tups u.frzs u.tbls (fun m' hm => by
    obtain ⟨o', es', ep', ho', r'⟩ := hm
    rw [ho] at ho'; cases ho'
    exact ⟨_, es', ep', hL, r'⟩) hok I.bare
/-- behind a call (or a comprehension's block): the slots of this frame may have changed too, the records at ch may have turned -/
theorem Inv.call {g' : Array GenState} {t' : Nat} {d' : Drawn} {ch : List Addr} (I : Inv X pins σ H s) (u : Un (frs X.stack) ch H H' s.heap h') (hok : HOk X.prog X.w H' h') (hg : AllBare g')
    (hch : ∀ b ∈ ch, (b ∈ X.ex ∨ X.s₀.heap.objs.size ≤ b) ∧ b ≠ X.env.locals ∧ (∀ x c, X.env.cells.lookup x = some c → c ≠ b) ∧ ∀ p ∈ X.pn ++ pins, p.1 ≠ b) :
    Inv X pins σ H' { s with heap := h', gens := g', drawn := d', toks := t' } := by
  obtain ⟨m, ⟨o, es, ep, ho, r⟩, _⟩ := id I.loc
  obtain ⟨sl, hL⟩ := u.any ho I.free fun z => (hch _ z).2.1 rfl
  exact I.step (ch := ch) hch (fun b o hL hb hc e n => u.keep b o e n (fun z => (List.mem_cons.mp (I.stkSub b z)).elim hL hb) hc) (fun b o _ _ hc e n => u.any e n hc) (fun b o hc e n => u.free b o e n hc) (fun b o hc e => u.there b o e hc) u.tups u.frzs u.tbls (fun m' hm => by
    obtain ⟨o', es', ep', ho', r'⟩ := hm
    rw [ho] at ho'; cases ho'
    exact ⟨_, es', ep', hL, r'⟩) hok hg
/-- an untracked record of ours (an iterator) has turned -/
theorem Inv.turned {t' : Nat} {it : Addr} (I : Inv X pins σ H s) (k : ∀ b o, b ≠ it → s.heap.get? b = some o → h'.get? b = some o) (hn : H it = none) (hL : it ≠ X.env.locals)
    (h1 : it ∈ X.ex ∨ X.s₀.heap.objs.size ≤ it) (h2 : ∀ x c, X.env.cells.lookup x = some c → c ≠ it) (h3 : ∀ p ∈ X.pn ++ pins, p.1 ≠ it) : Inv X pins σ H { s with heap := h', toks := t' } := by
  have nit : ∀ b u, H b = some u → b ≠ it := fun b u e z => by rw [z, hn] at e; cases e
  refine I.step (g' := s.gens) (d' := s.drawn) (ch := [it]) (fun b hb => ?_) (fun b o _ _ hc e _ => k b o (fun z => hc (by simp [z])) e) (fun b o _ _ hc e _ => ⟨o.slots, k b o (fun z => hc (by simp [z])) e⟩) (fun _ _ _ _ n => n)
    (fun b o hc e => ⟨o, k b o (fun z => hc (by simp [z])) e⟩) (fun _ _ e => e) (fun _ _ _ e => e) (fun b ps e => ⟨#[], by rw [e]; simp⟩) (fun m hm => ?_) (fun b u e => ?_) I.bare
  · have e : b = it := by simpa using hb
    subst e
    exact ⟨h1, hL, h2, h3⟩
  · obtain ⟨o, es, ep, ho, r⟩ := hm
    exact ⟨o, es, ep, k _ o (Ne.symm hL) ho, r⟩
  · refine (I.hok b u e).stay (fun c v hc q => k c v ?_ q) (fun _ q => q) fun _ _ q => q
    rcases hc with z | z
    · rw [z]; exact nit b u e
    · exact nit c _ z
theorem Inv.tok (I : Inv X pins σ H s) (t : Nat) : Inv X pins σ H { s with toks := t } := I.un (h' := s.heap) (t' := t) Un.refl I.hok
/-- all objects kept -/
theorem Inv.kept {t' : Nat} (I : Inv X pins σ H s) (k : ∀ b u, s.heap.get? b = some u → h'.get? b = some u) : Inv X pins σ H { s with heap := h', toks := t' } := I.un (Un.kept k) (I.hok.kept k)
/-- a new object laid and tracked -/
theorem Inv.laid {a : Addr} {o : HO} {t' : Nat} (I : Inv X pins σ H s) (k : ∀ b u, s.heap.get? b = some u → h'.get? b = some u) (hp : s.heap.objs.size ≤ a) (new : ObjOk X.prog X.w (upd H a o) h' a o) :
    Inv X pins σ (upd H a o) { s with heap := h', toks := t' } := I.un (Un.laid k hp (I.hok.fresh hp)) (I.hok.laid k hp new)
/-- an object written -/
theorem Inv.write {x e : Addr} {o : HO} {t' : Nat} (I : Inv X pins σ H s) (mu : Mut (H x)) (he : e = x ∨ H e = some (.own x)) (k : ∀ b u, b ≠ e → s.heap.get? b = some u → h'.get? b = some u) (heo : ∃ u, h'.get? e = some u)
    (new : ObjOk X.prog X.w (upd H x o) h' x o) : Inv X pins σ (upd H x o) { s with heap := h', toks := t' } := I.un (Un.write mu he k heo) (I.hok.write mu he k heo new)
theorem Inv.pins_of {pins' : List (Addr × Obj)} (I : Inv X pins σ H s) (h : ∀ p ∈ pins', s.heap.get? p.1 = some p.2 ∧ H p.1 = none ∧ p.1 ≠ X.env.locals ∧ p.1 ∉ X.fs ∧ ∀ v, p.2.data ≠ .cell v) : Inv X pins' σ H s :=
  ⟨I.ok, I.os, I.bare, I.base, I.loc, I.cell, I.free, I.freeC, fun p hp => (List.mem_append.mp hp).elim (fun z => I.pin p (List.mem_append_left _ z)) (h p), I.hok, I.len⟩

theorem nodup_ix {N : List Str} (hN : N.Nodup) {i j : Nat} {x : Str} (a : N[i]? = some x) (b : N[j]? = some x) : i = j := by
  obtain ⟨h1, e1⟩ := List.getElem?_eq_some_iff.mp a
  obtain ⟨h2, e2⟩ := List.getElem?_eq_some_iff.mp b
  exact (List.getElem_inj hN).mp (e1.trans e2.symm)

/-- a name is stored; what changed -/
theorem store_ok2 {M : Model} {A : Around} {E : Value → Shared → Prop} {i : Nat} {x : Str} {v : V} {u : Value} {Q : Unit → Shared → Prop} (I : Inv X pins σ H s) (hN : X.N.Nodup) (hi : X.N[i]? = some x) (hx : Loc X.env.scope x) (r : RelV v u)
    (h : ∀ s', Inv X pins (σ.set i (some v)) H s' → (∃ a, Heap.SameBut a s.heap s'.heap ∧ (a = X.env.locals ∨ X.env.cells.lookup x = some a)) → Q () s') (hf : X.fn x = true ∨ X.env.scope.names.lookup x = some .local := by first | exact .inl rfl | exact .inr rfl | assumption) : wpAny M A (storeName X.env x u) Q E s := by
  obtain ⟨m, hn, hl⟩ := id I.loc
  have hcls : (X.env.scope.kind == .class || (X.env.scope.kind == .module && X.env.locals != X.env.globals)) = false := by rw [I.ok.kind]; rfl
  have hiσ : i < σ.length := by rw [I.len]; exact (List.getElem?_eq_some_iff.mp hi).1
  have cne := I.cne
  have tracked : ∀ {a : Addr} {h' : Heap}, (∃ o, s.heap.get? a = some o ∧ H a = none) → Heap.SameBut a s.heap h' → HOk X.prog X.w H h' := fun {a h'} ha hs b ob e => by
    obtain ⟨_, _, hfree⟩ := ha
    refine (I.hok b ob e).stay (fun c w' hc q => (hs.2 c ?_).trans q) (fun _ q => q) fun _ _ q => q
    rintro rfl
    rcases hc with rfl | hc
    · rw [hfree] at e; cases e
    · rw [hfree] at hc; cases hc
  rcases hx with hk | hk
  · refine wpAny_storeName_local hk hn (fun h' hn' hs => ?_) hcls
    obtain ⟨oL, _, _, hoL, _⟩ := id hn
    refine h _ ⟨I.ok, I.os, I.bare, ⟨fun b o e n hb hx => ?_, fun b o e n hb hx => ?_, I.base.free, fun b o e hx => ?_, I.base.tups, I.base.frzs, I.base.tbls⟩, ⟨_, hn', fun j y v' e1 e2 e3 => ?_⟩, fun y c e => ?_, I.free, I.freeC, fun p hp => ?_, tracked ⟨oL, hoL, I.free⟩ hs, by simpa using I.len⟩ ⟨_, hs, .inl rfl⟩
    · exact (hs.2 b (Nat.ne_of_lt (Nat.lt_of_lt_of_le (Heap.lt_size e) I.ok.above))).trans (I.base.keep b o e n hb hx)
    · obtain ⟨sl, e1⟩ := I.base.slot b o e n hb hx
      exact ⟨sl, (hs.2 b (Nat.ne_of_lt (Nat.lt_of_lt_of_le (Heap.lt_size e) I.ok.above))).trans e1⟩
    · obtain ⟨o', e1⟩ := I.base.there b o e hx
      exact ⟨o', (hs.2 b (Nat.ne_of_lt (Nat.lt_of_lt_of_le (Heap.lt_size e) I.ok.above))).trans e1⟩
    · by_cases hj : j = i
      · subst hj
        rw [hi] at e1; cases e1
        rw [List.getElem?_set_self hiσ] at e2
        cases e2
        exact ⟨u, r, .inl ⟨hk, by simp⟩⟩
      · rw [List.getElem?_set_ne (Ne.symm hj)] at e2
        obtain ⟨u', r', q⟩ := hl j y v' e1 e2 e3
        refine ⟨u', r', ?_⟩
        rcases q with ⟨k, e⟩ | ⟨k, c, e, z⟩
        · refine .inl ⟨k, ?_⟩
          have : y ≠ x := fun e => hj (nodup_ix hN e1 (e ▸ hi))
          simp [this, e]
        · exact .inr ⟨k, c, e, z.sameBut hs (cne y c e)⟩
    · obtain ⟨w', z⟩ := I.cell y c e
      exact ⟨w', z.sameBut hs (cne y c e)⟩
    · obtain ⟨e, n, ne, nf, d⟩ := I.pin p hp
      exact ⟨(hs.2 p.1 ne).trans e, n, ne, nf, d⟩
  · have hfn : X.fn x = true := by
      rcases hf with z | z
      · exact z
      · rw [z] at hk; cases hk
    obtain ⟨c, hc⟩ := I.ok.has x (.inl hk)
    obtain ⟨w', z⟩ := I.cell x c hc
    refine wpAny_storeName_cell I.ok.kind hk hc z (fun h' hc' hs => ?_)
    obtain ⟨oc, hoc, hocd⟩ := id z
    refine h { s with heap := h' } ⟨I.ok, I.os, I.bare, ⟨fun b o e n hb hx => ?_, fun b o e n hb hx => ?_, I.base.free, fun b o e hx => ?_, I.base.tups, I.base.frzs, I.base.tbls⟩, ⟨m, hn.sameBut hs (Ne.symm (cne x c hc)), fun j y v' e1 e2 e3 => ?_⟩, fun y c' e => ?_, I.free, I.freeC, fun p hp => ?_, tracked ⟨oc, hoc, I.freeC x c hc⟩ hs, by simpa using I.len⟩ ⟨c, hs, .inr hc⟩
    · exact (hs.2 b (Nat.ne_of_lt (Nat.lt_of_lt_of_le (Heap.lt_size e) (I.ok.cab x c hfn hc)))).trans (I.base.keep b o e n hb hx)
    · obtain ⟨sl, e1⟩ := I.base.slot b o e n hb hx
      exact ⟨sl, (hs.2 b (Nat.ne_of_lt (Nat.lt_of_lt_of_le (Heap.lt_size e) (I.ok.cab x c hfn hc)))).trans e1⟩
    · obtain ⟨o', e1⟩ := I.base.there b o e hx
      exact ⟨o', (hs.2 b (Nat.ne_of_lt (Nat.lt_of_lt_of_le (Heap.lt_size e) (I.ok.cab x c hfn hc)))).trans e1⟩
    · by_cases hj : j = i
      · subst hj
        rw [hi] at e1; cases e1
        rw [List.getElem?_set_self hiσ] at e2
        cases e2
        exact ⟨u, r, .inr ⟨.inl hk, c, hc, hc'⟩⟩
      · rw [List.getElem?_set_ne (Ne.symm hj)] at e2
        obtain ⟨u', r', q⟩ := hl j y v' e1 e2 e3
        refine ⟨u', r', ?_⟩
        rcases q with q | ⟨k, c', e, z'⟩
        · exact .inl q
        · refine .inr ⟨k, c', e, z'.sameBut hs ?_⟩
          rintro rfl
          exact hj (nodup_ix hN e1 (I.ok.inj _ _ _ e hc ▸ hi))
    · by_cases hcc : c' = c
      · subst hcc; exact ⟨_, hc'⟩
      · obtain ⟨w2, z2⟩ := I.cell y c' e
        exact ⟨w2, z2.sameBut hs hcc⟩
    · obtain ⟨e, n, ne, nf, d⟩ := I.pin p hp
      refine ⟨(hs.2 p.1 ?_).trans e, n, ne, nf, d⟩
      intro q
      rw [q, hoc] at e
      have q' : oc = p.2 := Option.some.inj e
      exact d w' (by rw [← q']; exact hocd)
theorem store_ok {M : Model} {A : Around} {E : Value → Shared → Prop} {i : Nat} {x : Str} {v : V} {u : Value} {Q : Unit → Shared → Prop} (I : Inv X pins σ H s) (hN : X.N.Nodup) (hi : X.N[i]? = some x) (hx : Loc X.env.scope x) (r : RelV v u)
    (h : ∀ s', Inv X pins (σ.set i (some v)) H s' → Q () s') (hf : X.fn x = true ∨ X.env.scope.names.lookup x = some .local := by first | exact .inl rfl | exact .inr rfl | assumption) : wpAny M A (storeName X.env x u) Q E s :=
  store_ok2 I hN hi hx r (fun s' I' _ => h s' I') hf
/-- behind a call or a block, the state as it is -/
theorem Inv.call' {s' : Shared} {ch : List Addr} (I : Inv X pins σ H s) (ho : s'.os = s.os) (u : Un (frs X.stack) ch H H' s.heap s'.heap) (hok : HOk X.prog X.w H' s'.heap) (hg : AllBare s'.gens)
    (hch : ∀ b ∈ ch, (b ∈ X.ex ∨ X.s₀.heap.objs.size ≤ b) ∧ b ≠ X.env.locals ∧ (∀ x c, X.env.cells.lookup x = some c → c ≠ b) ∧ ∀ p ∈ X.pn ++ pins, p.1 ≠ b) : Inv X pins σ H' s' := by
  obtain ⟨h', g', d', t', o'⟩ := s'
  have e : o' = s.os := ho
  subst e
  exact I.call (g' := g') (t' := t') (d' := d') u hok hg hch
end

/-! ### the judgements -/
/-- an exception: its class, its own dict's address (where it has one), the abstract heap behind it -/
abbrev XK := Value → Option Addr → Hp → Prop
abbrev St := List (Option V)
abbrev VK := V → Hp → Prop
/-- an expression's reading; a test's; an argument list's -/
abbrev TE := St → Hp → VK → Prop
abbrev TT := St → Hp → (Bool → Hp → Prop) → Prop
abbrev TA := St → Hp → (List V → Hp → Prop) → Prop
/-- what is wanted behind a statement -/
structure Ends where
  nx : St → Hp → Prop
  rt : VK
  bk : St → Hp → Prop := fun _ _ => False
  ct : St → Hp → Prop := fun _ _ => False
abbrev TS := Ends → St → Hp → Prop

def EP (X : Cx) (pins : List (Addr × Obj)) (σ : St) (Q : VK) (u : Value) (s' : Shared) : Prop := ∃ v H', Inv X pins σ H' s' ∧ RelV v u ∧ Q v H'
def TP (X : Cx) (pins : List (Addr × Obj)) (σ : St) (Q : Bool → Hp → Prop) (b : Bool) (s' : Shared) : Prop := ∃ H', Inv X pins σ H' s' ∧ Q b H'
def AP (X : Cx) (pins : List (Addr × Obj)) (σ : St) (Q : List V → Hp → Prop) (us : List Value) (s' : Shared) : Prop := ∃ vs H', Inv X pins σ H' s' ∧ Vals vs us ∧ Q vs H'
def SP (X : Cx) (pins : List (Addr × Obj)) (D : Ends) (f : Flow) (s' : Shared) : Prop :=
  match f with
  | .next => ∃ σ' H', Inv X pins σ' H' s' ∧ D.nx σ' H'
  | .brk => ∃ σ' H', Inv X pins σ' H' s' ∧ D.bk σ' H'
  | .cont => ∃ σ' H', Inv X pins σ' H' s' ∧ D.ct σ' H'
  | .ret u => ∃ v σ' H', Inv X pins σ' H' s' ∧ RelV v u ∧ D.rt v H'

def PE (X : Cx) (e : Expr) (t : TE) : Prop :=
  ∀ (pins : List (Addr × Obj)) (s : Shared) (σ : St) (H : Hp) (Q : VK), Inv X pins σ H s → t σ H Q → wpAny (model X.prog X.w) X.A (eval e X.env) (EP X pins σ Q) X.xe s
def PT (X : Cx) (e : Expr) (t : TT) : Prop :=
  ∀ (pins : List (Addr × Obj)) (s : Shared) (σ : St) (H : Hp) (Q : Bool → Hp → Prop), Inv X pins σ H s → t σ H Q → wpAny (model X.prog X.w) X.A (isTrue e X.env (eval e X.env)) (TP X pins σ Q) X.xe s
/-- a test whatever its 'whole' is (and, or) -/
def PW (X : Cx) (e : Expr) (t : TT) : Prop :=
  ∀ (whole : Sem Value) (pins : List (Addr × Obj)) (s : Shared) (σ : St) (H : Hp) (Q : Bool → Hp → Prop), Inv X pins σ H s → t σ H Q → wpAny (model X.prog X.w) X.A (isTrue e X.env whole) (TP X pins σ Q) X.xe s
theorem PW.pt {X : Cx} {e : Expr} {t : TT} (h : PW X e t) : PT X e t := h _
/-- an argument list (no star), from the left -/
def PA (X : Cx) (es : List Expr) (t : TA) : Prop :=
  ∀ (pos : Pos) (pins : List (Addr × Obj)) (s : Shared) (σ : St) (H : Hp) (Q : List V → Hp → Prop), Inv X pins σ H s → t σ H Q → wpAny (model X.prog X.w) X.A (spliced (backTo pos (starEach es X.env))) (AP X pins σ Q) X.xe s
def PS (X : Cx) (st : Stmt) (t : TS) : Prop :=
  ∀ (pins : List (Addr × Obj)) (s : Shared) (σ : St) (H : Hp) (D : Ends), Inv X pins σ H s → t D σ H → wpAny (model X.prog X.w) X.A (exec st X.env) (SP X pins D) X.xe s
def PSs (X : Cx) (st : List Stmt) (t : TS) : Prop :=
  ∀ (pins : List (Addr × Obj)) (s : Shared) (σ : St) (H : Hp) (D : Ends), Inv X pins σ H s → t D σ H → wpAny (model X.prog X.w) X.A (execs st X.env) (SP X pins D) X.xe s
/-- weaken the end -/
theorem thn {α : Type} {t : Sem α} {Q Q' : α → Shared → Prop} {M : Model} {A : Around} {E : Value → Shared → Prop} {s : Shared} (h : wpAny M A t Q E s) (hQ : ∀ a s, Q a s → Q' a s) : wpAny M A t Q' E s := wpAny_mono h hQ fun _ _ x => x
end L2

namespace L2
open PySem PySem.Spec PyProof.Rows
section
variable {X : Cx}

/-! ### names and constants -/
def tVar (i : Nat) : TE := fun σ H Q => ∃ v, σ[i]? = some (some v) ∧ Q v H
def tC (v : V) : TE := fun _ H Q => Q v H
theorem pe_var {i : Nat} {x : Str} {pos : Pos} (hN : X.N[i]? = some x) (hv : Vis X.env.scope x) (hd : (x == ("__debug__" : Str)) = false := by decide) (hcd : (x == ("__classdict__" : Str)) = false := by decide) : PE X (.Name x pos) (tVar i) := by
  intro pins s σ H Q I h
  obtain ⟨v, e, h⟩ := h
  obtain ⟨m, hn, hl⟩ := I.loc
  obtain ⟨u, r, l⟩ := hl i x v hN e hv
  have fin : EP X pins σ Q u s := ⟨v, H, I, r, h⟩
  rcases l with ⟨hk, hm⟩ | ⟨hk, c, hc, hcell⟩
  · exact wpAny_Name (wpAny_loadName_local I.ok.kind hk hn hm fin) hd
  · rcases hk with hk | hk
    · exact wpAny_Name (wpAny_loadName_cell I.ok.kind hk hc hcell fin) hd
    · exact wpAny_Name (wpAny_loadName_free I.ok.kind hk hc hcell fin hcd) hd
theorem pe_int {i j pos} : PE X (.Constant (.int i) j pos) (tC (.int i)) := fun _ _ _ H _ I h => wpAny_Constant_int ⟨.int i, H, I.tok _, ⟨_, rfl⟩, h⟩
theorem pe_bl {b j pos} : PE X (.Constant (.bool b) j pos) (tC (.bl b)) := fun _ _ _ H _ I h => Constant_bool ⟨.bl b, H, I, rfl, h⟩
theorem pe_non {j pos} : PE X (.Constant .none j pos) (tC .non) := fun _ _ _ H _ I h => Constant_none ⟨.non, H, I, rfl, h⟩
theorem pe_str {x j pos} : PE X (.Constant (.str x) j pos) (tC (.str x)) := fun _ _ _ H _ I h => Calls.Constant_str ⟨.str x, H, I.tok _, ⟨_, rfl⟩, h⟩

/-- a global name of the def -/
def Gl (X : Cx) (x : Str) : Prop := X.env.kindOf x = some .globalImplicit
theorem ld_glob {E : Value → Shared → Prop} {pins : List (Addr × Obj)} {s : Shared} {σ : St} {H : Hp} {x : Str} {u : Value} {pos : Pos} {Q : Value → Shared → Prop} (I : Inv X pins σ H s) (hg : Gl X x) (hm : X.mg x = some u) (h : Q u s)
    (hd : (x == ("__debug__" : Str)) = false := by decide) : wpAny (model X.prog X.w) X.A (eval (.Name x pos) X.env) Q E s :=
  Calls.Name_function_global I.ok.kind hg (Calls.loadGlobal_global (by rw [I.ok.glob]; exact I.mod.glob.keeps I.bk) hm h) hd
theorem ld_blt {E : Value → Shared → Prop} {pins : List (Addr × Obj)} {s : Shared} {σ : St} {H : Hp} {x : Str} {u : Value} {pos : Pos} {Q : Value → Shared → Prop} (I : Inv X pins σ H s) (hg : Gl X x) (hm : X.mg x = none) (hv : bootBuiltins x = some u) (h : Q u s)
    (hn : x ≠ "__name__" := by decide) (hd : (x == ("__debug__" : Str)) = false := by decide) : wpAny (model X.prog X.w) X.A (eval (.Name x pos) X.env) Q E s := by
  obtain ⟨mb, h1, h2⟩ := I.mod.blt
  exact Calls.Name_function_global I.ok.kind hg (Calls.loadGlobal_builtin (by rw [I.ok.glob]; exact I.mod.glob.keeps I.bk) hm (by rw [I.ok.blt]; exact h1.keeps I.bk) ((h2 x hn).trans hv) h) hd
/-- a module's constant, a class, a function, as a value -/
theorem pe_glob {x : Str} {v : V} {u : Value} {pos : Pos} (hg : Gl X x) (hm : X.mg x = some u) (r : RelV v u) (hd : (x == ("__debug__" : Str)) = false := by decide) : PE X (.Name x pos) (tC v) :=
  fun _ _ _ H _ I h => ld_glob I hg hm ⟨v, H, I, r, h⟩ hd
theorem pe_bltn {x : Str} {v : V} {u : Value} {pos : Pos} (hg : Gl X x) (hm : X.mg x = none) (hv : bootBuiltins x = some u) (r : RelV v u) (hn : x ≠ "__name__" := by decide) (hd : (x == ("__debug__" : Str)) = false := by decide) : PE X (.Name x pos) (tC v) :=
  fun _ _ _ H _ I h => ld_blt I hg hm hv ⟨v, H, I, r, h⟩ hn hd

/-! ### arithmetic -/
variable {a b : Expr} {ta tb : TE} {pos : Pos}
/-! ### comparisons -/
/-! ### and, or, not -/
variable {tA tB' : TT} {rest : List Expr}
def tAnd (t u : TT) : TT := fun σ H Q => t σ H fun c H1 => if c = true then u σ H1 Q else Q false H1
def tOr (t u : TT) : TT := fun σ H Q => t σ H fun c H1 => if c = true then Q true H1 else u σ H1 Q
def tNot (t : TT) : TT := fun σ H Q => t σ H fun c H1 => Q (!c) H1
theorem pw_and1 (ha : PT X a tA) : PW X (.BoolOp .And [a] pos) tA := by
  intro wh pins s σ H Q I h
  refine isTrue_and (thn (ha pins s σ H Q I h) fun c s1 e => ?_)
  cases c with
  | true => exact isTrue_and_nil e
  | false => exact e
theorem pw_or1 (ha : PT X a tA) : PW X (.BoolOp .Or [a] pos) tA := by
  intro wh pins s σ H Q I h
  refine isTrue_or (thn (ha pins s σ H Q I h) fun c s1 e => ?_)
  cases c with
  | false => exact isTrue_or_nil e
  | true => exact e
theorem pw_and (ha : PT X a tA) (hb : PW X (.BoolOp .And (b :: rest) pos) tB') : PW X (.BoolOp .And (a :: b :: rest) pos) (tAnd tA tB') := by
  intro wh pins s σ H Q I h
  refine isTrue_and (thn (ha pins s σ H _ I h) fun c s1 ⟨H1, I1, q1⟩ => ?_)
  cases c with
  | true => exact hb wh pins s1 σ H1 Q I1 q1
  | false => exact ⟨H1, I1, q1⟩
theorem pw_or (ha : PT X a tA) (hb : PW X (.BoolOp .Or (b :: rest) pos) tB') : PW X (.BoolOp .Or (a :: b :: rest) pos) (tOr tA tB') := by
  intro wh pins s σ H Q I h
  refine isTrue_or (thn (ha pins s σ H _ I h) fun c s1 ⟨H1, I1, q1⟩ => ?_)
  cases c with
  | true => exact ⟨H1, I1, q1⟩
  | false => exact hb wh pins s1 σ H1 Q I1 q1
theorem pt_not (ha : PT X a tA) : PT X (.UnaryOp .Not a pos) (tNot tA) := by
  intro pins s σ H Q I h
  exact isTrue_not (ha pins s σ H (fun c H1 => Q (!c) H1) I h)
/-- .. as values (bools) -/
def tAndV (ta tb : TE) : TE := fun σ H Q => ta σ H fun x H1 => ∃ c, x = .bl c ∧ if c = true then tb σ H1 Q else Q (.bl false) H1
def tNotV (ta : TE) : TE := fun σ H Q => ta σ H fun x H1 => ∃ c, x = .bl c ∧ Q (.bl (!c)) H1
theorem pe_one {op} {t : TE} (h : PE X a t) : PE X (.BoolOp op [a] pos) t := fun pins s σ H Q I hw => BoolOp_one (h pins s σ H Q I hw)
theorem pe_and (ha : PE X a ta) (hb : PE X (.BoolOp .And (b :: rest) pos) tb) : PE X (.BoolOp .And (a :: b :: rest) pos) (tAndV ta tb) := by
  intro pins s σ H Q I h
  refine BoolOp_and (thn (ha pins s σ H _ I h) fun v s1 ⟨x, H1, I1, r1, q1⟩ => ?_)
  obtain ⟨c, rfl, q1⟩ := q1
  cases r1
  refine wpAny_truthy_bool ?_
  cases c with
  | true => exact hb pins s1 σ H1 Q I1 q1
  | false => exact ⟨.bl false, H1, I1, rfl, q1⟩
theorem pe_not (ha : PE X a ta) : PE X (.UnaryOp .Not a pos) (tNotV ta) := by
  intro pins s σ H Q I h
  refine UnaryOp_ (thn (ha pins s σ H _ I h) fun v s1 ⟨x, H1, I1, r1, q1⟩ => ?_)
  obtain ⟨c, rfl, q1⟩ := q1
  cases r1
  exact not_of (wpAny_truthy_bool ⟨.bl (!c), H1, I1, rfl, q1⟩)
/-- a if t else b -/
def tIf (t : TT) (ta tb : TE) : TE := fun σ H Q => t σ H fun c H1 => if c = true then ta σ H1 Q else tb σ H1 Q
theorem pe_ifExp {c : Expr} (hc : PT X c tA) (ha : PE X a ta) (hb : PE X b tb) : PE X (.IfExp c a b pos) (tIf tA ta tb) := by
  intro pins s σ H Q I h
  refine wpAny_IfExp (thn (hc pins s σ H _ I h) fun d s1 ⟨H1, I1, q1⟩ => ?_)
  cases d with
  | true => exact ha pins s1 σ H1 Q I1 q1
  | false => exact hb pins s1 σ H1 Q I1 q1
end
end L2

namespace L2
open PySem PySem.Spec PyProof.Rows

/-! ### a list, a tuple that is read: tracked, frozen, or an object of the module -/
def SqL (K : PySem.W.Frag) (H : Hp) (a : Addr) (xs : List V) : Prop :=
  Rd H a (.lst xs) ∨
    ∃ (o : Obj) (its : Array Value) (n : Nat), K.lookup a = some o ∧ o.cls = .type "list" ∧ o.dict = none ∧ o.data = .seq its n ∧ its.size ≤ sizeLine ∧ Vals xs its.toList
def SqT (K : PySem.W.Frag) (H : Hp) (a : Addr) (xs : List V) : Prop :=
  Rd H a (.tup xs) ∨
    ∃ (o : Obj) (its : Array Value) (n : Nat), K.lookup a = some o ∧ o.cls = .type "tuple" ∧ o.data = .seq its n ∧ its.size ≤ sizeLine ∧ Vals xs its.toList
def absV : Value → Option V
  | .none => some .non
  | .bool b => some (.bl b)
  | .int i _ => some (.int i)
  | .str x _ => some (.str x)
  | .bytes b _ => some (.byt b)
  | .float b _ => some (.flt b)
  | .ref a => some (.ref a)
  | .type n => some (.ty n)
  | _ => none
theorem RelV.abs {x : V} {u : Value} (r : RelV x u) : absV u = some x := by
  cases x with
  | non => cases r; rfl
  | bl _ => cases r; rfl
  | int _ => obtain ⟨t, rfl⟩ := r; rfl
  | str _ => obtain ⟨t, rfl⟩ := r; rfl
  | byt _ => obtain ⟨t, rfl⟩ := r; rfl
  | flt _ => obtain ⟨t, rfl⟩ := r; rfl
  | ref _ => cases r; rfl
  | ty _ => cases r; rfl
theorem RelV.inj {x y : V} {u : Value} (r : RelV x u) (q : RelV y u) : x = y := Option.some.inj (r.abs.symm.trans q.abs)
theorem Vals.inj : ∀ {xs ys : List V} {us : List Value}, Vals xs us → Vals ys us → xs = ys
  | _, _, _, .nil, .nil => rfl
  | _, _, _, .cons r t, .cons r' t' => by rw [r.inj r', Vals.inj t t']
section
variable {X : Cx} {pins : List (Addr × Obj)} {σ : St} {H : Hp} {s : Shared} {a : Addr} {xs ys : List V}
theorem SqL.of {K : PySem.W.Frag} (h : H a = some (.lst xs)) : SqL K H a xs := .inl (.inl h)
theorem SqT.of {K : PySem.W.Frag} (h : H a = some (.tup xs)) : SqT K H a xs := .inl (.inl h)
theorem Inv.list (I : Inv X pins σ H s) (h : SqL X.K H a xs) : ∃ its : List Value, Vals xs its ∧ PlainL s.heap a its.toArray ∧ xs.length ≤ sizeLine := by
  rcases h with h | ⟨o, its, n, hk, hc, hd, hs, hz, r⟩
  · obtain ⟨z, its, n, r, e⟩ := h.ok I.hok
    exact ⟨its, r, ⟨_, n, e, rfl, rfl, rfl⟩, z⟩
  · refine ⟨its.toList, r, ⟨o, n, I.kIn a o hk, hc, hd, by simpa using hs⟩, ?_⟩
    have e := r.length
    simp only [Array.length_toList] at e
    omega
theorem Inv.tuple (I : Inv X pins σ H s) (h : SqT X.K H a xs) : ∃ its : List Value, Vals xs its ∧ IsTup s.heap a its.toArray ∧ xs.length ≤ sizeLine := by
  rcases h with h | ⟨o, its, n, hk, hc, hs, hz, r⟩
  · obtain ⟨z, its, r, p, _⟩ := h.ok I.hok
    exact ⟨its, r, p, z⟩
  · refine ⟨its.toList, r, ⟨o, I.kIn a o hk, hc, n, by simpa using hs⟩, ?_⟩
    have e := r.length
    simp only [Array.length_toList] at e
    omega
theorem Inv.list_inj (I : Inv X pins σ H s) (h : SqL X.K H a xs) (h' : SqL X.K H a ys) : xs = ys := by
  obtain ⟨its, r, ⟨o, n, e, _, _, d⟩, _⟩ := I.list h
  obtain ⟨its', r', ⟨o', n', e', _, _, d'⟩, _⟩ := I.list h'
  rw [e] at e'; cases e'
  rw [d] at d'
  injection d' with d1 _
  have : its = its' := by simpa using congrArg Array.toList d1
  subst this
  exact r.inj r'
theorem Inv.tuple_inj (I : Inv X pins σ H s) (h : SqT X.K H a xs) (h' : SqT X.K H a ys) : xs = ys := by
  obtain ⟨its, r, ⟨o, e, _, n, d⟩, _⟩ := I.tuple h
  obtain ⟨its', r', ⟨o', e', _, n', d'⟩, _⟩ := I.tuple h'
  rw [e] at e'; cases e'
  rw [d] at d'
  injection d' with d1 _
  have : its = its' := by simpa using congrArg Array.toList d1
  subst this
  exact r.inj r'
end

/-! ### another wish about exceptions -/
abbrev Cx.wish (X : Cx) (E : Value → Shared → Prop) : Cx := { X with xe := E }
/-- no exception leaves -/
abbrev Cx.nox (X : Cx) : Cx := X.wish fun _ _ => False
theorem Cx.Ok.wish {X : Cx} (ok : X.Ok) (E : Value → Shared → Prop) : (X.wish E).Ok :=
  ⟨ok.mod, ok.kind, ok.glob, ok.blt, ok.above, ok.inj, ok.has, ok.cab, ok.hd, ok.frames, ok.stk, ok.exf, ok.bs, ok.bsz, ok.noex, ok.exfs, ok.funs, ok.frf⟩
theorem Cx.Ok.unwish {X : Cx} {E : Value → Shared → Prop} (ok : (X.wish E).Ok) : X.Ok :=
  ⟨ok.mod, ok.kind, ok.glob, ok.blt, ok.above, ok.inj, ok.has, ok.cab, ok.hd, ok.frames, ok.stk, ok.exf, ok.bs, ok.bsz, ok.noex, ok.exfs, ok.funs, ok.frf⟩
section
variable {X : Cx} {pins : List (Addr × Obj)} {σ : St} {H : Hp} {s : Shared} {E : Value → Shared → Prop}
theorem Inv.wish (I : Inv X pins σ H s) (E : Value → Shared → Prop) : Inv (X.wish E) pins σ H s := ⟨I.ok.wish E, I.os, I.bare, I.base, I.loc, I.cell, I.free, I.freeC, I.pin, I.hok, I.len⟩
theorem Inv.unwish (I : Inv (X.wish E) pins σ H s) : Inv X pins σ H s := ⟨I.ok.unwish, I.os, I.bare, I.base, I.loc, I.cell, I.free, I.freeC, I.pin, I.hok, I.len⟩
theorem SP.unwish {D : Ends} {f : Flow} {s' : Shared} (h : SP (X.wish E) pins D f s') : SP X pins D f s' := by
  cases f with
  | next => obtain ⟨σ', H', I, q⟩ := h; exact ⟨σ', H', I.unwish, q⟩
  | brk => obtain ⟨σ', H', I, q⟩ := h; exact ⟨σ', H', I.unwish, q⟩
  | cont => obtain ⟨σ', H', I, q⟩ := h; exact ⟨σ', H', I.unwish, q⟩
  | ret u => obtain ⟨v, σ', H', I, r, q⟩ := h; exact ⟨v, σ', H', I.unwish, r, q⟩
theorem PE.nox {e : Expr} {t : TE} (h : PE X.nox e t) : PE X e t := fun pins s σ H Q I hw =>
  wpAny_mono (h pins s σ H Q (I.wish _) hw) (fun _ _ ⟨v, H', I', r, q⟩ => ⟨v, H', I'.unwish, r, q⟩) fun _ _ z => False.elim z
theorem PT.nox {e : Expr} {t : TT} (h : PT X.nox e t) : PT X e t := fun pins s σ H Q I hw =>
  wpAny_mono (h pins s σ H Q (I.wish _) hw) (fun _ _ ⟨H', I', q⟩ => ⟨H', I'.unwish, q⟩) fun _ _ z => False.elim z
theorem PSs.nox {st : List Stmt} {t : TS} (h : PSs X.nox st t) : PSs X st t := fun pins s σ H D I hw =>
  wpAny_mono (h pins s σ H D (I.wish _) hw) (fun _ _ q => q.unwish) fun _ _ z => False.elim z
end

/-! ### blocks and small statements -/
section
variable {X : Cx} {st : Stmt} {rest : List Stmt} {t u : TS} {e : Expr} {te : TE} {pos : Pos}
def tNext : TS := fun D σ H => D.nx σ H
def tSeq (t u : TS) : TS := fun D σ H => t { D with nx := u D } σ H
theorem pss_nil : PSs X [] tNext := fun _ _ σ H _ I h => wpAny_execs_nil ⟨σ, H, I, h⟩
theorem pss_cons (h1 : PS X st t) (h2 : PSs X rest u) : PSs X (st :: rest) (tSeq t u) := by
  intro pins s σ H D I h
  refine wpAny_execs_cons (thn (h1 pins s σ H { D with nx := u D } I h) fun f s1 q => ?_)
  cases f with
  | next =>
    obtain ⟨σ', H', I', q⟩ := q
    exact h2 pins s1 σ' H' D I' q
  | ret v => exact q
  | brk => exact q
  | cont => exact q
theorem pss_one (h1 : PS X st t) : PSs X [st] t := by
  intro pins s σ H D I h
  refine wpAny_execs_cons (thn (h1 pins s σ H D I h) fun f s1 q => ?_)
  cases f with
  | next => exact wpAny_execs_nil q
  | ret v => exact q
  | brk => exact q
  | cont => exact q
/-- in a def's body nothing is shown -/
theorem Inv.quiet {pins : List (Addr × Obj)} {σ : St} {H : Hp} {s : Shared} (I : Inv X pins σ H s) : interactive X.env = false := by simp [interactive, I.ok.kind]
/-- an expression whose value is dropped -/
def tDrop (te : TE) : TS := fun D σ H => te σ H fun _ H1 => D.nx σ H1
theorem ps_expr (he : PE X e te) (hs : swapsWith e none pos.line X.env = pure false := by rfl) : PS X (.Expr e pos) (tDrop te) := by
  intro pins s σ H D I h
  exact wpAny_Expr_any (thn (he pins s σ H _ I h) fun v s1 ⟨x, H1, I1, r1, q1⟩ => ⟨σ, H1, I1, q1⟩) I.quiet hs
def tRet (te : TE) : TS := fun D σ H => te σ H D.rt
theorem ps_ret (he : PE X e te) : PS X (.Return (some e) pos) (tRet te) := by
  intro pins s σ H D I h
  exact wpAny_Return_some (thn (he pins s σ H _ I h) fun v s1 ⟨x, H1, I1, r1, q1⟩ => ⟨x, σ, H1, I1, r1, q1⟩)
def tIfS (c : TT) (t u : TS) : TS := fun D σ H => c σ H fun b H1 => if b = true then t D σ H1 else u D σ H1
theorem ps_if {c : Expr} {a b : List Stmt} {tc : TT} (hc : PT X c tc) (ha : PSs X a t) (hb : PSs X b u) : PS X (.If c a b pos) (tIfS tc t u) := by
  intro pins s σ H D I h
  refine wpAny_If (thn (hc pins s σ H _ I h) fun d s1 ⟨H1, I1, q1⟩ => ?_)
  cases d with
  | true => exact ha pins s1 σ H1 D I1 q1
  | false => exact hb pins s1 σ H1 D I1 q1
end

/-! ### targets -/
abbrev TG := V → St → Hp → (St → Hp → Prop) → Prop
abbrev TGs := List V → St → Hp → (St → Hp → Prop) → Prop
def PG (X : Cx) (target : Expr) (t : TG) : Prop :=
  ∀ (pins : List (Addr × Obj)) (s : Shared) (σ : St) (H : Hp) (v : V) (u : Value) (Q : St → Hp → Prop), Inv X pins σ H s → RelV v u → t v σ H Q →
    wpAny (model X.prog X.w) X.A (assign target X.env u) (fun _ s' => ∃ σ' H', Inv X pins σ' H' s' ∧ Q σ' H') X.xe s
/-- several targets, one after another -/
def PGs (X : Cx) (ts : List Expr) (t : TGs) : Prop :=
  ∀ (pins : List (Addr × Obj)) (s : Shared) (σ : St) (H : Hp) (vs : List V) (us : List Value) (Q : St → Hp → Prop), Inv X pins σ H s → Vals vs us → t vs σ H Q →
    wpAny (model X.prog X.w) X.A (assignInOrder ((assignEach ts X.env).map (·.2)) us) (fun _ s' => ∃ σ' H', Inv X pins σ' H' s' ∧ Q σ' H') X.xe s
/-- o[i] = v, by values -/
abbrev TSet := V → V → V → Hp → (Hp → Prop) → Prop
def PSet (X : Cx) (t : TSet) : Prop :=
  ∀ (pins : List (Addr × Obj)) (s : Shared) (σ : St) (H : Hp) (o i v : V) (ov iv u : Value) (Q : Hp → Prop), Inv X pins σ H s → RelV o ov → RelV i iv → RelV v u → t o i v H Q →
    wpAny (model X.prog X.w) X.A (setItem ov iv u) (fun _ s' => ∃ H', Inv X pins σ H' s' ∧ Q H') X.xe s
/-- a op= b, by values -/
abbrev TIp := V → V → Hp → VK → Prop
def PIp (X : Cx) (op : Operator) (t : TIp) : Prop :=
  ∀ (pins : List (Addr × Obj)) (s : Shared) (σ : St) (H : Hp) (x y : V) (v u : Value) (Q : VK), Inv X pins σ H s → RelV x v → RelV y u → t x y H Q →
    wpAny (model X.prog X.w) X.A (inplaceOp op v u) (EP X pins σ Q) X.xe s
section
variable {X : Cx} {pos : Pos}
def gName (i : Nat) : TG := fun v σ H Q => Q (σ.set i (some v)) H
theorem pg_name {i : Nat} {x : Str} (hN : X.N.Nodup) (hi : X.N[i]? = some x) (hx : Loc X.env.scope x) (hf : X.fn x = true ∨ X.env.scope.names.lookup x = some .local := by first | exact .inl rfl | exact .inr rfl | assumption) : PG X (.Name x pos) (gName i) := by
  intro pins s σ H v u Q I r h
  exact wpAny_assign_Name (store_ok I hN hi hx r (fun s' I' => ⟨_, H, I', h⟩) hf)
def gNil : TGs := fun vs σ H Q => vs = [] ∧ Q σ H
def gCons (t : TG) (u : TGs) : TGs := fun vs σ H Q => ∃ v r, vs = v :: r ∧ t v σ H fun σ' H' => u r σ' H' Q
theorem pgs_nil : PGs X [] gNil := by
  intro pins s σ H vs us Q I r h
  obtain ⟨e, h⟩ := h
  subst e
  cases r
  exact assignInOrder_nil ⟨σ, H, I, h⟩
theorem pgs_cons {e : Expr} {es : List Expr} {t : TG} {u : TGs} (h1 : PG X e t) (h2 : PGs X es u)
    (hs : (assignEach (e :: es) X.env).map (·.2) = assign e X.env :: (assignEach es X.env).map (·.2) := by rfl) : PGs X (e :: es) (gCons t u) := by
  intro pins s σ H vs us Q I r h
  obtain ⟨v, vr, e1, h⟩ := h
  subst e1
  cases r with
  | cons r rr =>
    rw [hs]
    refine assignInOrder_cons (thn (h1 pins s σ H _ _ _ I r h) fun _ s1 ⟨σ1, H1, I1, q1⟩ => ?_)
    exact h2 pins s1 σ1 H1 _ _ Q I1 rr q1
/-- (a, b, ..) = a tuple of that length -/
def gTup (K : PySem.W.Frag) (n : Nat) (t : TGs) : TG := fun v σ H Q => ∃ a xs, v = .ref a ∧ SqT K H a xs ∧ xs.length = n ∧ t xs σ H Q
theorem pg_tup {es : List Expr} {k : Nat} {t : TGs} {n : Nat} (hc : X.calm = true) (h : PGs X es t)
    (hn : (assignEach es X.env).length = n := by rfl) (hst : (assignEach es X.env).findIdx? (·.1) = none := by rfl) : PG X (.Tuple es k pos) (gTup X.K n t) := by
  intro pins s σ H v u Q I r hw
  obtain ⟨a, xs, e1, hq, hl, hw⟩ := hw
  subst e1
  cases r
  obtain ⟨its, rv, ht, hz⟩ := I.tuple hq
  refine assign_Tuple_tuple (I.ok.hd hc) ht (by simp [hn, ← hl, rv.length]) hst fun h' hx => ?_
  have I1 : Inv X pins σ H { s with heap := h' } := I.kept (t' := s.toks) fun b o e => hx b o (Nat.ne_of_lt (Heap.lt_size e)) e
  exact h pins _ σ H xs _ Q I1 (by simpa using rv) hw
/-- o[i] = .. -/
def gSub (to ti : TE) (t : TSet) : TG := fun v σ H Q => to σ H fun o H1 => ti σ H1 fun i H2 => t o i v H2 fun H3 => Q σ H3
theorem pg_sub {o i : Expr} {to ti : TE} {t : TSet} (ho : PE X o to) (hi : PE X i ti) (hs : PSet X t)
    (ha : ∀ v, assign (.Subscript o i pos) X.env v = (do
      let ov ← holding [v] (eval o X.env)
      let iv ← holding [v, ov] (eval i X.env)
      standAt pos
      holding [v, ov, iv] (setItem ov iv v)
      release [v, ov, iv] []) := by intro _; rfl) : PG X (.Subscript o i pos) (gSub to ti t) := by
  intro pins s σ H v u Q I r h
  rw [ha]
  refine wpAny_bind (wpAny_holding (thn (ho pins s σ H _ I h) fun ov s1 ⟨x, H1, I1, r1, q1⟩ => ?_))
  refine wpAny_bind (wpAny_holding (thn (hi pins s1 σ H1 _ I1 q1) fun iv s2 ⟨y, H2, I2, r2, q2⟩ => ?_))
  refine wpAny_bind (wpAny_standAt (wpAny_bind (wpAny_holding (thn (hs pins s2 σ H2 x y v ov iv u _ I2 r1 r2 r q2) fun _ s3 ⟨H3, I3, q3⟩ => ?_))))
  exact wpAny_release ⟨σ, H3, I3, q3⟩
/-- target = value -/
def tAsg (te : TE) (g : TG) : TS := fun D σ H => te σ H fun x H1 => g x σ H1 D.nx
theorem ps_asg {tg e : Expr} {te : TE} {g : TG} (he : PE X e te) (hg : PG X tg g) (hs : swapsWithSole [tg] e pos.line X.env = pure false := by rfl) (hw : swappedStores [tg] e X.env = pure none := by rfl)
    (h1 : (assignEach [tg] X.env).map (·.2) = [assign tg X.env] := by rfl) : PS X (.Assign [tg] e pos) (tAsg te g) := by
  intro pins s σ H D I h
  refine wpAny_Assign_stores (thn (he pins s σ H _ I h) fun v s1 ⟨x, H1, I1, r1, q1⟩ => ?_) hs hw
  rw [h1]
  exact thn (hg pins s1 σ H1 x v _ I1 r1 q1) fun _ s2 q => q
/-- name = value -/
theorem ps_set {i : Nat} {x : Str} {e : Expr} {te : TE} {pos' : Pos} (hN : X.N.Nodup) (hi : X.N[i]? = some x) (hx : Loc X.env.scope x) (he : PE X e te) (hs : swapsWith e (some (.Name x pos')) pos.line X.env = pure false := by rfl) (hf : X.fn x = true ∨ X.env.scope.names.lookup x = some .local := by first | exact .inl rfl | exact .inr rfl | assumption) :
    PS X (.Assign [.Name x pos'] e pos) (tAsg te (gName i)) := by
  intro pins s σ H D I h
  refine wpAny_Assign_Name (thn (he pins s σ H _ I h) fun v s1 ⟨y, H1, I1, r1, q1⟩ => ?_) hs
  exact store_ok I1 hN hi hx r1 (fun s2 I2 => ⟨_, H1, I2, q1⟩) hf
/-- name op= e -/
def tAug (i : Nat) (te : TE) (ti : TIp) : TS := fun D σ H => ∃ x, σ[i]? = some (some x) ∧ te σ H fun y H1 => ti x y H1 fun z H2 => D.nx (σ.set i (some z)) H2
theorem ps_aug {i : Nat} {x : Str} {e : Expr} {te : TE} {op : Operator} {ti : TIp} {pos' : Pos} (hN : X.N.Nodup) (hi : X.N[i]? = some x) (hx : Loc X.env.scope x) (he : PE X e te) (ho : PIp X op ti) (hf : X.fn x = true ∨ X.env.scope.names.lookup x = some .local := by first | exact .inl rfl | exact .inr rfl | assumption) :
    PS X (.AugAssign (.Name x pos') op e pos) (tAug i te ti) := by
  intro pins s σ H D I h
  obtain ⟨v, e1, h⟩ := h
  obtain ⟨m, hn, hl⟩ := I.loc
  have vis : Vis X.env.scope x := by rcases hx with k | k; exact .inl k; exact .inr (.inl k)
  obtain ⟨u, r, l⟩ := hl i x v hi e1 vis
  refine wpAny_AugAssign_Name ?_
  have go : wpAny (model X.prog X.w) X.A (eval e X.env) (fun w s₂ => wpAny (model X.prog X.w) X.A (inplaceOp op u w) (fun r s₃ => wpAny (model X.prog X.w) X.A (storeName X.env x r) (fun _ => SP X pins D .next) X.xe s₃) X.xe s₂) X.xe s := by
    refine thn (he pins s σ H _ I h) fun w s1 ⟨y, H1, I1, r1, q1⟩ => ?_
    refine thn (ho pins s1 σ H1 v y u w _ I1 r r1 q1) fun z s2 ⟨zv, H2, I2, r2, q2⟩ => ?_
    exact store_ok I2 hN hi hx r2 (fun s3 I3 => ⟨_, H2, I3, q2⟩) hf
  rcases l with ⟨hk, hm⟩ | ⟨hk, c, hc, hcell⟩
  · exact wpAny_loadName_local I.ok.kind hk hn hm go
  · rcases hk with hk | hk
    · exact wpAny_loadName_cell I.ok.kind hk hc hcell go
    · rcases hx with k | k
      · have : X.env.scope.names.lookup x = some .free := hk
        rw [k] at this; cases this
      · have : X.env.scope.names.lookup x = some .free := hk
        rw [k] at this; cases this
/-- o[i] op= e -/
def tAugS (to ti te : TE) (tget : V → V → Hp → VK → Prop) (tip : TIp) (tset : TSet) : TS := fun D σ H => to σ H fun o H1 => ti σ H1 fun i H2 => tget o i H2 fun x H3 => te σ H3 fun y H4 => tip x y H4 fun z H5 => tset o i z H5 fun H6 => D.nx σ H6
/-- o[i], by values -/
def PGet (X : Cx) (t : V → V → Hp → VK → Prop) : Prop :=
  ∀ (pins : List (Addr × Obj)) (s : Shared) (σ : St) (H : Hp) (o i : V) (ov iv : Value) (Q : VK), Inv X pins σ H s → RelV o ov → RelV i iv → t o i H Q →
    wpAny (model X.prog X.w) X.A (getItem ov iv) (EP X pins σ Q) X.xe s
theorem ps_augS {o i e : Expr} {to ti te : TE} {tget : V → V → Hp → VK → Prop} {tip : TIp} {tset : TSet} {op : Operator} {tpos : Pos} (ho : PE X o to) (hi : PE X i ti) (hg : PGet X tget) (he : PE X e te) (hp : PIp X op tip) (hs : PSet X tset)
    (ha : ∀ ov iv new, augStore i ov iv new = (do holding [new, ov, iv] (setItem ov iv new); release [new, ov, iv] []; pure .next) := by intros; rfl) : PS X (.AugAssign (.Subscript o i tpos) op e pos) (tAugS to ti te tget tip tset) := by
  intro pins s σ H D I h
  refine wpAny_AugAssign_SubscriptAny (thn (ho pins s σ H _ I h) fun ov s1 ⟨x1, H1, I1, r1, q1⟩ => ?_) ha
  refine thn (hi pins s1 σ H1 _ I1 q1) fun iv s2 ⟨x2, H2, I2, r2, q2⟩ => ?_
  refine thn (hg pins s2 σ H2 x1 x2 ov iv _ I2 r1 r2 q2) fun old s3 ⟨x3, H3, I3, r3, q3⟩ => ?_
  refine thn (he pins s3 σ H3 _ I3 q3) fun v s4 ⟨x4, H4, I4, r4, q4⟩ => ?_
  refine thn (hp pins s4 σ H4 x3 x4 old v _ I4 r3 r4 q4) fun new s5 ⟨x5, H5, I5, r5, q5⟩ => ?_
  exact thn (hs pins s5 σ H5 x1 x2 x5 ov iv new _ I5 r1 r2 r5 q5) fun _ s6 ⟨H6, I6, q6⟩ => ⟨σ, H6, I6, q6⟩
/-- ints -/
def ipI (f : Int → Int → Int) : TIp := fun x y H Q => ∃ i j, x = .int i ∧ y = .int j ∧ Q (.int (f i j)) H
theorem ip_add : PIp X .Add (ipI fun i j => i + j) := by
  intro pins s σ H x y v u Q I r1 r2 h
  obtain ⟨i, j, e1, e2, q⟩ := h
  subst e1; subst e2
  obtain ⟨t, rfl⟩ := r1
  obtain ⟨t', rfl⟩ := r2
  exact iadd_int ⟨.int _, H, I.tok _, ⟨_, rfl⟩, q⟩
theorem ip_sub : PIp X .Sub (ipI fun i j => i - j) := by
  intro pins s σ H x y v u Q I r1 r2 h
  obtain ⟨i, j, e1, e2, q⟩ := h
  subst e1; subst e2
  obtain ⟨t, rfl⟩ := r1
  obtain ⟨t', rfl⟩ := r2
  exact isub_int ⟨.int _, H, I.tok _, ⟨_, rfl⟩, q⟩
end

/-! ### while -/
section
variable {X : Cx} {pos : Pos}
/-- the invariant W with its measure -/
def tWhile (c : TT) (tb : TS) : TS := fun D σ H => ∃ W : Nat → St → Hp → Prop, (∃ m, W m σ H) ∧ ∀ m σ H, W m σ H →
  c σ H fun b H1 => if b = true then ∃ N : St → Hp → Prop, (∀ σ' H', N σ' H' → ∃ m', m' < m ∧ W m' σ' H') ∧ tb { D with nx := N, ct := N, bk := D.nx } σ H1 else D.nx σ H1
theorem ps_while {c : Expr} {body : List Stmt} {tc : TT} {tb : TS} (hp : PassesOwn (model X.prog X.w) X.A X.env X.xe) (hc : PT X c tc) (hb : PSs X body tb) : PS X (.While c body [] pos) (tWhile tc tb) := by
  intro pins s σ H D I h
  obtain ⟨W, ⟨m0, w0⟩, turn⟩ := h
  refine wpAny_While (codeAny_whileLoop (fun n s' => ∃ σ' H', Inv X pins σ' H' s' ∧ W n σ' H') ?_ m0 ⟨σ, H, I, w0⟩)
  rintro n s1 ⟨σ1, H1, I1, w1⟩
  refine wpAny_passesOwn hp (thn (hc pins s1 σ1 H1 _ I1 (turn n σ1 H1 w1)) fun b s2 ⟨H2, I2, q2⟩ => ?_)
  cases b with
  | true =>
    obtain ⟨N, hN, q2⟩ := q2
    rw [if_pos rfl]
    refine wpAny_passesOwn hp (thn (hb pins s2 σ1 H2 _ I2 q2) fun f s3 q3 => ?_)
    cases f with
    | next =>
      obtain ⟨σ3, H3, I3, n3⟩ := q3
      obtain ⟨m', hm, w3⟩ := hN σ3 H3 n3
      exact ⟨m', hm, σ3, H3, I3, w3⟩
    | cont =>
      obtain ⟨σ3, H3, I3, n3⟩ := q3
      obtain ⟨m', hm, w3⟩ := hN σ3 H3 n3
      exact ⟨m', hm, σ3, H3, I3, w3⟩
    | brk => exact q3
    | ret v => exact q3
  | false =>
    rw [if_neg Bool.false_ne_true]
    exact wpAny_execs_nil ⟨σ1, H2, I2, q2⟩
end

/-! ### what a loop or a comprehension walks -/
/-- at turn i: it yields x (the heap may grow), or it stops -/
structure It where
  go : Nat → Hp → Prop
  yld : Nat → Hp → V → Hp → Prop
  stop : Nat → Hp → Prop
/-- the iterator's own objects may turn: they are not the frame's, not pinned, younger than the entry (or a comprehension's own) -/
def FpOk (X : Cx) (pins : List (Addr × Obj)) (H : Hp) (b : Addr) : Prop :=
  H b = none ∧ b ≠ X.env.locals ∧ b ∉ X.fs ∧ (b ∈ X.ex ∨ X.s₀.heap.objs.size ≤ b) ∧ (∀ x c, X.env.cells.lookup x = some c → c ≠ b) ∧ ∀ p ∈ X.pn ++ pins, p.1 ≠ b
theorem Inv.fpOk {X : Cx} {pins : List (Addr × Obj)} {σ : St} {H H' : Hp} {s : Shared} {b : Addr} (I : Inv X pins σ H s) (hb : s.heap.objs.size ≤ b) (hn : H' b = none) : FpOk X pins H' b := by
  refine ⟨hn, Nat.ne_of_gt (Nat.lt_of_lt_of_le I.lt hb), I.nofs hb, .inr (Nat.le_trans I.sz hb), fun x c e z => ?_, fun p hp z => ?_⟩
  · obtain ⟨v, q⟩ := I.cell x c e
    exact absurd (Nat.lt_of_lt_of_le q.lt (by rw [z]; exact hb)) (Nat.lt_irrefl _)
  · exact absurd (Nat.lt_of_lt_of_le (Heap.lt_size (I.pin p hp).1) (by rw [z]; exact hb)) (Nat.lt_irrefl _)
structure Turn (P : Program) (w : World) (K : PySem.W.Frag) (tg : Expr) (J : It) (fp : List Addr) (it : Addr) (tn : Nat → Heap → Prop) : Prop where
  mem : it ∈ fp
  obj : ∀ i h, tn i h → ∀ b ∈ fp, ∃ o, h.get? b = some o ∧ ∀ v, o.data ≠ .cell v
  keep : ∀ i h h', tn i h → (∀ b ∈ fp, ∀ o, h.get? b = some o → h'.get? b = some o) → tn i h'
  item : ∀ (X : Cx), X.prog = P → X.w = w → X.K = K → X.calm = true → ∀ (i : Nat) (pins : List (Addr × Obj)) (s : Shared) (σ : St) (H : Hp) (E : Value → Shared → Prop), Inv X pins σ H s → (∀ b ∈ fp, FpOk X pins H b) → tn i s.heap → J.go i H →
    wpAny (model P w) X.A (pyNext (.ref it)) (fun r s1 => ∃ u, r = some u ∧
      wpAny (model P w) X.A (letOwnedTupleGo tg (.ref it) u) (fun _ s2 => ∃ x H', Inv X pins σ H' s2 ∧ RelV x u ∧ J.yld i H x H' ∧ tn (i + 1) s2.heap ∧ ∀ b ∈ fp, H' b = none) E s1) E s
  done : ∀ (X : Cx), X.prog = P → X.w = w → X.K = K → X.calm = true → ∀ (i : Nat) (pins : List (Addr × Obj)) (s : Shared) (σ : St) (H : Hp) (E : Value → Shared → Prop), Inv X pins σ H s → (∀ b ∈ fp, FpOk X pins H b) → tn i s.heap → J.stop i H →
    wpAny (model P w) X.A (pyNext (.ref it)) (fun r s1 => r = none ∧ Inv X pins σ H s1) E s
  self : ∀ (A : Around) (i : Nat) (s : Shared) (Q : Value → Shared → Prop) (E : Value → Shared → Prop), tn i s.heap → Q (.ref it) s → wpAny (model P w) A (pyIter (.ref it)) Q E s
abbrev TI := St → Hp → (It → Hp → Prop) → Prop
/-- an iterator has come -/
def PIE (X : Cx) (pins : List (Addr × Obj)) (σ : St) (tg : Expr) (R : It → Hp → Prop) (itv : Value) (s2 : Shared) : Prop :=
  ∃ (it : Addr) (fp : List Addr) (tn : Nat → Heap → Prop) (J : It) (H' : Hp), itv = .ref it ∧ Inv X pins σ H' s2 ∧ Turn X.prog X.w X.K tg J fp it tn ∧ tn 0 s2.heap ∧ (∀ b ∈ fp, FpOk X pins H' b) ∧ R J H'
def PI (X : Cx) (tg iter : Expr) (wi : TI) : Prop :=
  ∀ (pins : List (Addr × Obj)) (s : Shared) (σ : St) (H : Hp) (R : It → Hp → Prop), Inv X pins σ H s → wi σ H R →
    wpAny (model X.prog X.w) X.A (eval iter X.env) (fun v s1 => wpAny (model X.prog X.w) X.A (pyIter v) (PIE X pins σ tg R) X.xe s1) X.xe s

/-- the step ahead of the store is nothing for an iterator that keeps no tuple -/
theorem go_of {M : Model} {A : Around} {E : Value → Shared → Prop} {s : Shared} {tg : Expr} {it : Addr} {u : Value} {o : Obj} {n : String} {vs : Array Value} {Q : Unit → Shared → Prop} (ho : s.heap.get? it = some o) (hc : o.cls = .type n) (hd : o.data = .fields vs)
    (hn : ["enumerate", "zip", "dict_itemiterator", "dict_reverseitemiterator", "odict_iterator", "itertools.zip_longest", "itertools.pairwise"].contains n = false) (hQ : Q () s) : wpAny M A (letOwnedTupleGo tg (.ref it) u) Q E s := by
  unfold letOwnedTupleGo
  cases tg <;> first
    | exact wpAny_pure hQ
    | (cases u <;> first
        | exact wpAny_pure hQ
        | (refine wpAny_bind (wpAny_load ho ?_)
           rw [hc, hd]
           show wpAny M A (if (["enumerate", "zip", "dict_itemiterator", "dict_reverseitemiterator", "odict_iterator", "itertools.zip_longest", "itertools.pairwise"].contains n && vs[0]? == some (rawInt _)) = true then _ else _) Q E s
           rw [if_neg (by intro h; rw [hn, Bool.false_and] at h; cases h)]
           exact wpAny_pure hQ))

/-- the list at a, as it stands at each turn (a loop may append to it) -/
def Itl (K : PySem.W.Frag) (a : Addr) : It :=
  ⟨fun i H => ∃ xs x, SqL K H a xs ∧ xs[i]? = some x, fun i H x H' => H' = H ∧ ∀ xs, SqL K H a xs → xs[i]? = some x, fun i H => ∃ xs, SqL K H a xs ∧ xs.length ≤ i⟩
def Itt (K : PySem.W.Frag) (a : Addr) : It :=
  ⟨fun i H => ∃ xs x, SqT K H a xs ∧ xs[i]? = some x, fun i H x H' => H' = H ∧ ∀ xs, SqT K H a xs → xs[i]? = some x, fun i H => ∃ xs, SqT K H a xs ∧ xs.length ≤ i⟩
/-- lo, lo + 1, .. (n of them) -/
def Itr (lo : Int) (n : Nat) : It := ⟨fun i _ => i < n, fun i H x H' => H' = H ∧ x = .int (lo + i), fun i _ => n ≤ i⟩
theorem turn_list {P : Program} {w : World} {K : PySem.W.Frag} {tg : Expr} (a it : Addr) : Turn P w K tg (Itl K a) [it] it (fun i h => h.IsListIter it a i) where
  mem := by simp
  obj := fun i h st b hb => by
    have e : b = it := by simpa using hb
    subst e
    obtain ⟨o, e, c, d⟩ := st
    exact ⟨o, e, fun v z => by rw [d] at z; cases z⟩
  keep := fun i h h' st k => st.at fun o e => k it (by simp) o e
  item := by
    intro X hP hw hK hc i pins s σ H E I hf st hg
    subst hP hw hK
    obtain ⟨xs, x, hq, hx⟩ := hg
    obtain ⟨its, rv, p, hz⟩ := I.list hq
    obtain ⟨u, hu, ru⟩ := rv.get hx
    obtain ⟨f0, f1, f2, f3, f4, f5⟩ := hf it (by simp)
    refine wpAny_pyNext_list_item st p.isList (x := u) (by simpa using hu) fun h' st' sb => ?_
    have I1 : Inv X pins σ H { s with heap := h' } := I.turned (t' := s.toks) (fun b o hb e => (sb.2 b hb).trans e) f0 f1 f3 f4 f5
    obtain ⟨o, e, c, d⟩ := id st'
    exact ⟨u, rfl, go_of (s := { s with heap := h' }) e c d (by decide) ⟨x, H, I1, ru, ⟨rfl, fun ys hy => by rw [I.list_inj hy hq]; exact hx⟩, st', fun b hb => (hf b hb).1⟩⟩
  done := by
    intro X hP hw hK hc i pins s σ H E I hf st hg
    subst hP hw hK
    obtain ⟨xs, hq, hx⟩ := hg
    obtain ⟨its, rv, p, hz⟩ := I.list hq
    obtain ⟨f0, f1, f2, f3, f4, f5⟩ := hf it (by simp)
    have hl := rv.length
    exact wpAny_pyNext_list_end (I.ok.hd hc) st p.isList (by simp; omega) fun h' eb => ⟨rfl, I.turned (t' := s.toks) (fun b o hb e => eb b o hb e) f0 f1 f3 f4 f5⟩
  self := fun _ _ _ _ _ st h => wpAny_pyIter_listiter st h
theorem turn_tuple {P : Program} {w : World} {K : PySem.W.Frag} {tg : Expr} (a it : Addr) : Turn P w K tg (Itt K a) [it] it (fun i h => h.IsTupleIter it a i) where
  mem := by simp
  obj := fun i h st b hb => by
    have e : b = it := by simpa using hb
    subst e
    obtain ⟨o, e, c, d⟩ := st
    exact ⟨o, e, fun v z => by rw [d] at z; cases z⟩
  keep := fun i h h' st k => st.at fun o e => k it (by simp) o e
  item := by
    intro X hP hw hK hc i pins s σ H E I hf st hg
    subst hP hw hK
    obtain ⟨xs, x, hq, hx⟩ := hg
    obtain ⟨its, rv, p, hz⟩ := I.tuple hq
    obtain ⟨u, hu, ru⟩ := rv.get hx
    obtain ⟨f0, f1, f2, f3, f4, f5⟩ := hf it (by simp)
    refine wpAny_pyNext_tuple_item st (show s.heap.IsTuple a its.toArray from p) (x := u) (by simpa using hu) fun h' st' sb => ?_
    have I1 : Inv X pins σ H { s with heap := h' } := I.turned (t' := s.toks) (fun b o hb e => (sb.2 b hb).trans e) f0 f1 f3 f4 f5
    obtain ⟨o, e, c, d⟩ := id st'
    exact ⟨u, rfl, go_of (s := { s with heap := h' }) e c d (by decide) ⟨x, H, I1, ru, ⟨rfl, fun ys hy => by rw [I.tuple_inj hy hq]; exact hx⟩, st', fun b hb => (hf b hb).1⟩⟩
  done := by
    intro X hP hw hK hc i pins s σ H E I hf st hg
    subst hP hw hK
    obtain ⟨xs, hq, hx⟩ := hg
    obtain ⟨its, rv, p, hz⟩ := I.tuple hq
    obtain ⟨f0, f1, f2, f3, f4, f5⟩ := hf it (by simp)
    have hl := rv.length
    exact wpAny_pyNext_tuple_end (I.ok.hd hc) st (show s.heap.IsTuple a its.toArray from p) (by simp; omega) fun h' eb => ⟨rfl, I.turned (t' := s.toks) (fun b o hb e => eb b o hb e) f0 f1 f3 f4 f5⟩
  self := fun _ _ _ _ _ st h => wpAny_pyIter_tupleiter st h
theorem turn_range {P : Program} {w : World} {K : PySem.W.Frag} {tg : Expr} (it : Addr) (lo : Int) (n : Nat) : Turn P w K tg (Itr lo n) [it] it (fun i h => IsRangeIter h it (lo + (i : Nat) * 1) ((n : Int) - (i : Nat)) 1) where
  mem := by simp
  obj := fun i h st b hb => by
    have e : b = it := by simpa using hb
    subst e
    exact ⟨_, st, fun v z => by
      have z' : Data.fields _ = Data.cell v := z
      cases z'⟩
  keep := fun i h h' st k => k it (by simp) _ st
  item := by
    intro X hP hw hK hc i pins s σ H E I hf st hg
    subst hP hw hK
    obtain ⟨f0, f1, f2, f3, f4, f5⟩ := hf it (by simp)
    have W := Walks.range (prog := X.prog) (w := X.w) (I.ok.hd hc) it lo 1 n
    refine W.item i s _ _ hg st fun v h' tk hv st' kk => ?_
    obtain ⟨t, rfl⟩ := hv
    have I1 : Inv X pins σ H { s with heap := h', toks := tk } := I.turned (fun b o hb e => kk b o (by simpa using hb) e) f0 f1 f3 f4 f5
    refine ⟨_, rfl, go_of (s := { s with heap := h', toks := tk }) (n := "range_iterator") st' rfl rfl (by decide) ⟨.int (lo + i), H, I1, ⟨t, ?_⟩, ⟨rfl, rfl⟩, st', fun b hb => (hf b hb).1⟩⟩
    rw [Int.mul_one]
  done := by
    intro X hP hw hK hc i pins s σ H E I hf st hg
    subst hP hw hK
    obtain ⟨f0, f1, f2, f3, f4, f5⟩ := hf it (by simp)
    exact wpAny_pyNext_range_end (I.ok.hd hc) st (by have : n ≤ i := hg; omega) fun h' eb => ⟨rfl, I.turned (t' := s.toks) (fun b o hb e => eb b o hb e) f0 f1 f3 f4 f5⟩
  self := fun _ _ _ _ _ st h => wpAny_pyIter_rangeiter st h
end L2

namespace L2
open PySem PySem.Spec PyProof.Rows
section
variable {X : Cx} {tg : Expr}
def iList (K : PySem.W.Frag) (tl : TE) : TI := fun σ H R => tl σ H fun x H1 => ∃ a, x = .ref a ∧ (∃ xs, SqL K H1 a xs) ∧ R (Itl K a) H1
def iTup (K : PySem.W.Frag) (tl : TE) : TI := fun σ H R => tl σ H fun x H1 => ∃ a, x = .ref a ∧ (∃ xs, SqT K H1 a xs) ∧ R (Itt K a) H1
theorem pi_list {l : Expr} {tl : TE} (hl : PE X l tl) : PI X tg l (iList X.K tl) := by
  intro pins s σ H R I h
  refine thn (hl pins s σ H _ I h) fun v s1 ⟨x, H1, I1, r1, q1⟩ => ?_
  obtain ⟨a, e, ⟨xs, hq⟩, q⟩ := q1
  subst e
  cases r1
  obtain ⟨its, rv, p, hz⟩ := I1.list hq
  refine wpAny_pyIter_list p.isList ?_
  refine ⟨s1.heap.objs.size, [s1.heap.objs.size], _, _, H1, rfl, I1.kept (t' := s1.toks) fun b o e => Heap.get?_push_of_some _ e, turn_list a _, ⟨_, Heap.get?_push_size _ rfl, rfl, rfl⟩, fun b hb => ?_, q⟩
  have e : b = s1.heap.objs.size := by simpa using hb
  subst e
  exact I1.fpOk (Nat.le_refl _) (I1.hok.fresh (Nat.le_refl _))
theorem pi_tup {l : Expr} {tl : TE} (hl : PE X l tl) : PI X tg l (iTup X.K tl) := by
  intro pins s σ H R I h
  refine thn (hl pins s σ H _ I h) fun v s1 ⟨x, H1, I1, r1, q1⟩ => ?_
  obtain ⟨a, e, ⟨xs, hq⟩, q⟩ := q1
  subst e
  cases r1
  obtain ⟨its, rv, p, hz⟩ := I1.tuple hq
  refine wpAny_pyIter_tuple (show s1.heap.IsTuple a its.toArray from p) ?_
  refine ⟨s1.heap.objs.size, [s1.heap.objs.size], _, _, H1, rfl, I1.kept (t' := s1.toks) fun b o e => Heap.get?_push_of_some _ e, turn_tuple a _, ⟨_, Heap.get?_push_size _ rfl, rfl, rfl⟩, fun b hb => ?_, q⟩
  have e : b = s1.heap.objs.size := by simpa using hb
  subst e
  exact I1.fpOk (Nat.le_refl _) (I1.hok.fresh (Nat.le_refl _))
/-- a range object just made, walked -/
theorem range_it {pins : List (Addr × Obj)} {σ : St} {H : Hp} {s : Shared} {R : It → Hp → Prop} {E : Value → Shared → Prop} {lo hi : Int} {t u v : Tok} {tk : Nat} (I : Inv X pins σ H s) (h1 : -(2 ^ 62) ≤ lo) (h2 : lo < 2 ^ 62) (h3 : -(2 ^ 62) ≤ hi) (h4 : hi < 2 ^ 62)
    (q : R (Itr lo (hi - lo).toNat) H) : wpAny (model X.prog X.w) X.A (pyIter (.ref s.heap.objs.size)) (PIE X pins σ tg R) E { s with heap := s.heap.push { cls := .type "range", data := .fields #[.int lo t, .int hi u, .int 1 v] }, toks := tk } := by
  refine wpAny_pyIter_range (IsRange.new ..) (small_one h1 h2 h3 h4) ?_
  have I1 : Inv X pins σ H { s with heap := s.heap.push { cls := .type "range", data := .fields #[.int lo t, .int hi u, .int 1 v] }, toks := tk } := I.kept fun b o e => Heap.get?_push_of_some _ e
  refine ⟨(s.heap.push { cls := .type "range", data := .fields #[.int lo t, .int hi u, .int 1 v] }).objs.size, [(s.heap.push { cls := .type "range", data := .fields #[.int lo t, .int hi u, .int 1 v] }).objs.size], _, _, H, rfl,
    I1.kept (t' := tk) fun b o e => Heap.get?_push_of_some _ e, turn_range _ lo (hi - lo).toNat, ?_, fun b hb => ?_, q⟩
  · have e1 : lo + ((0 : Nat) : Int) * 1 = lo := by simp
    have e2 : (((hi - lo).toNat : Nat) : Int) - ((0 : Nat) : Int) = Builtin.Range.rangeSize lo hi 1 := by rw [rangeSize_one]; split <;> omega
    show IsRangeIter _ _ (lo + ((0 : Nat) : Int) * 1) ((((hi - lo).toNat : Nat) : Int) - ((0 : Nat) : Int)) 1
    rw [e1, e2]
    exact Heap.get?_push_size _ rfl
  · have e : b = (s.heap.push { cls := .type "range", data := .fields #[.int lo t, .int hi u, .int 1 v] }).objs.size := by simpa using hb
    subst e
    exact I1.fpOk (Nat.le_refl _) (I1.hok.fresh (Nat.le_refl _))
def iRng1 (ta : TA) : TI := fun σ H R => ta σ H fun vs H1 => ∃ j : Int, vs = [.int j] ∧ -(2 ^ 62) ≤ j ∧ j < 2 ^ 62 ∧ R (Itr 0 j.toNat) H1
def iRng2 (ta : TA) : TI := fun σ H R => ta σ H fun vs H1 => ∃ i j : Int, vs = [.int i, .int j] ∧ (-(2 ^ 62) ≤ i ∧ i < 2 ^ 62 ∧ -(2 ^ 62) ≤ j ∧ j < 2 ^ 62) ∧ R (Itr i (j - i).toNat) H1
theorem pi_range1 {a : Expr} {ta : TA} {p pos : Pos} (hg : Gl X "range") (hm : X.mg "range" = none) (ha : PA X [a] ta) (hs : starEach [a] X.env = [(false, eval a X.env)] := by rfl) : PI X tg (.Call (.Name "range" p) [a] [] pos) (iRng1 ta) := by
  intro pins s σ H R I h
  refine Call_ (ld_blt I hg hm boot_range (PyProof.Rows.callWith_type1 (thn (ha pos pins s σ H _ I h) fun us s1 ⟨vs, H1, I1, r1, q1⟩ => ?_) hs rfl))
  obtain ⟨j, e, q1, q2, q⟩ := q1
  subst e
  cases r1 with
  | cons r rr =>
    cases rr
    obtain ⟨t, rfl⟩ := r
    exact call_range_1 (range_it I1 (by omega) (by omega) q1 q2 (by simpa using q))
theorem pi_range2 {a b : Expr} {ta : TA} {p pos : Pos} (hg : Gl X "range") (hm : X.mg "range" = none) (ha : PA X [a, b] ta) (hs : starEach [a, b] X.env = [(false, eval a X.env), (false, eval b X.env)] := by rfl) (hs2 : starEach [b] X.env = [(false, eval b X.env)] := by rfl) :
    PI X tg (.Call (.Name "range" p) [a, b] [] pos) (iRng2 ta) := by
  intro pins s σ H R I h
  refine Call_ (ld_blt I hg hm boot_range (PyProof.Rows.callWith_type1 (thn (ha pos pins s σ H _ I h) fun us s1 ⟨vs, H1, I1, r1, q1⟩ => ?_) (by rw [hs, hs2]) (by rw [hs2]; rfl)))
  obtain ⟨i, j, e, ⟨q1, q2, q3, q4⟩, q⟩ := q1
  subst e
  cases r1 with
  | cons r rr =>
    cases rr with
    | cons r' rr =>
      cases rr
      obtain ⟨t, rfl⟩ := r
      obtain ⟨t', rfl⟩ := r'
      exact call_range_2 (range_it I1 q1 q2 q3 q4 q)

/-! ### for -/
/-- W: the invariant by the turn and a measure; N: what the body is to reach -/
def tFor (wi : TI) (g : TG) (tb : TS) : TS := fun D σ H => wi σ H fun J H1 => ∃ W : Nat → Nat → St → Hp → Prop, (∃ m, W 0 m σ H1) ∧ ∀ i m σ H, W i m σ H →
  (J.stop i H ∧ D.nx σ H) ∨ (J.go i H ∧ ∃ N : St → Hp → Prop, (∀ σ' H', N σ' H' → ∃ m', m' < m ∧ W (i + 1) m' σ' H') ∧ ∀ x H', J.yld i H x H' → g x σ H' fun σ2 H2 => tb { D with nx := N, ct := N, bk := D.nx } σ2 H2)
/-- the records at fp as they stand -/
def pinsAt (fp : List Addr) (h : Heap) : List (Addr × Obj) := fp.filterMap fun b => (h.get? b).map fun o => (b, o)
theorem mem_pinsAt {fp : List Addr} {h : Heap} {b : Addr} {o : Obj} (hb : b ∈ fp) (e : h.get? b = some o) : (b, o) ∈ pinsAt fp h := List.mem_filterMap.mpr ⟨b, hb, by rw [e]; rfl⟩
theorem of_pinsAt {fp : List Addr} {h : Heap} {p : Addr × Obj} (hp : p ∈ pinsAt fp h) : p.1 ∈ fp ∧ h.get? p.1 = some p.2 := by
  obtain ⟨b, hb, e⟩ := List.mem_filterMap.mp hp
  cases q : h.get? b with
  | none => rw [q] at e; cases e
  | some o =>
    rw [q] at e
    have e' : (b, o) = p := Option.some.inj e
    subst e'
    exact ⟨hb, q⟩
theorem Inv.pinned {pins : List (Addr × Obj)} {σ : St} {H : Hp} {s : Shared} {fp : List Addr} (I : Inv X pins σ H s) (hf : ∀ b ∈ fp, FpOk X pins H b) (ho : ∀ b ∈ fp, ∃ o, s.heap.get? b = some o ∧ ∀ v, o.data ≠ .cell v) : Inv X (pins ++ pinsAt fp s.heap) σ H s :=
  I.pins_of fun p hp => (List.mem_append.mp hp).elim (fun z => I.pin p (List.mem_append_right _ z)) fun z => by
    obtain ⟨hb, e⟩ := of_pinsAt z
    obtain ⟨f0, f1, f2, _⟩ := hf p.1 hb
    obtain ⟨o, e', d⟩ := ho p.1 hb
    rw [e] at e'; cases e'
    exact ⟨e, f0, f1, f2, d⟩
theorem Inv.unpinned {pins pl : List (Addr × Obj)} {σ : St} {H : Hp} {s : Shared} (I : Inv X (pins ++ pl) σ H s) : Inv X pins σ H s := I.pins_of fun p hp => I.pin p (List.mem_append_right _ (List.mem_append_left _ hp))
theorem ps_for {iter : Expr} {body : List Stmt} {wi : TI} {g : TG} {tb : TS} {pos : Pos} (hp : PassesOwn (model X.prog X.w) X.A X.env X.xe) (hc : X.calm = true) (hi : PI X tg iter wi) (hg : PG X tg g) (hb : PSs X body tb)
    (hs : ∀ x, foldedSetIterable iter X.env x = pure x := by intro _; rfl) : PS X (.For tg iter body [] pos) (tFor wi g tb) := by
  intro pins s σ H D I h
  refine wpAny_For (thn (hi pins s σ H _ I h) fun v s1 h1 => thn h1 fun itv s2 h2 => ?_) hs
  obtain ⟨it, fp, tn, J, H2, e, I2, T, st2, f2, W, ⟨m0, w0⟩, turn⟩ := h2
  subst e
  -- what stays true of the iterator's objects through the loop
  have stat : ∀ {H' : Hp}, (∀ b ∈ fp, H' b = none) → ∀ b ∈ fp, FpOk X pins H' b := fun hn b hb => ⟨hn b hb, (f2 b hb).2⟩
  refine codeAny_forLoop_any (fun n s' => ∃ i σ' H', Inv X pins σ' H' s' ∧ tn i s'.heap ∧ (∀ b ∈ fp, H' b = none) ∧ W i n σ' H') ?_ m0 ⟨0, σ, H2, I2, st2, fun b hb => (f2 b hb).1, w0⟩
  rintro n s3 ⟨i, σ3, H3, I3, st3, fr3, w3⟩
  rcases turn i n σ3 H3 w3 with ⟨stop, qn⟩ | ⟨go, N, hN, step⟩
  · refine wpAny_passesOwn hp (thn (T.done X rfl rfl rfl hc i pins s3 σ3 H3 X.xe I3 (stat fr3) st3 stop) fun r s4 ⟨hr, I4⟩ => ?_)
    subst hr
    exact wpAny_execs_nil ⟨σ3, H3, I4, qn⟩
  · refine wpAny_passesOwn hp (thn (T.item X rfl rfl rfl hc i pins s3 σ3 H3 X.xe I3 (stat fr3) st3 go) fun r s4 ⟨u, hr, h4⟩ => ?_)
    subst hr
    refine wpAny_passesOwn hp (thn h4 fun _ s5 ⟨x, H5, I5, r5, y5, st5, fr5⟩ => ?_)
    have I5' := I5.pinned (stat fr5) (T.obj _ _ st5)
    refine wpAny_passesOwn hp (thn (hg _ s5 σ3 H5 x u _ I5' r5 (step x H5 y5)) fun _ s6 ⟨σ6, H6, I6, q6⟩ => ?_)
    refine wpAny_passesOwn hp (thn (hb _ s6 σ6 H6 _ I6 q6) fun f s7 q7 => ?_)
    have again : ∀ {σ7 : St} {H7 : Hp}, Inv X (pins ++ pinsAt fp s5.heap) σ7 H7 s7 → N σ7 H7 → ∃ m, m < n ∧ ∃ i σ' H', Inv X pins σ' H' s7 ∧ tn i s7.heap ∧ (∀ b ∈ fp, H' b = none) ∧ W i m σ' H' := fun {σ7 H7} I7 n7 => by
      obtain ⟨m', hm, w7⟩ := hN σ7 H7 n7
      refine ⟨m', hm, i + 1, σ7, H7, I7.unpinned, T.keep _ _ _ st5 fun b hb o e => (I7.pin (b, o) (List.mem_append_right _ (List.mem_append_right _ (mem_pinsAt hb e)))).1, fun b hb => ?_, w7⟩
      obtain ⟨o, e, d⟩ := T.obj _ _ st5 b hb
      exact (I7.pin (b, o) (List.mem_append_right _ (List.mem_append_right _ (mem_pinsAt hb e)))).2.1
    cases f with
    | next => obtain ⟨σ7, H7, I7, n7⟩ := q7; exact again I7 n7
    | cont => obtain ⟨σ7, H7, I7, n7⟩ := q7; exact again I7 n7
    | brk => obtain ⟨σ7, H7, I7, q7⟩ := q7; exact ⟨σ7, H7, I7.unpinned, q7⟩
    | ret v => obtain ⟨x7, σ7, H7, I7, r7, q7⟩ := q7; exact ⟨x7, σ7, H7, I7.unpinned, r7, q7⟩
end

/-! ### the forms one uses -/
/-- over a list that the body leaves as it is -/
theorem for_list {K : PySem.W.Frag} {a : Addr} {xs : List V} {g : TG} {tb : TS} {D : Ends} {σ : St} {H : Hp} (Pv : Nat → St → Hp → Prop) (h0 : Pv 0 σ H) (hl : ∀ i σ H, i ≤ xs.length → Pv i σ H → SqL K H a xs)
    (hs : ∀ i x σ H, xs[i]? = some x → Pv i σ H → g x σ H fun σ2 H2 => tb { D with nx := Pv (i + 1), ct := Pv (i + 1), bk := D.nx } σ2 H2) (hd : ∀ σ H, Pv xs.length σ H → D.nx σ H) :
    ∃ W : Nat → Nat → St → Hp → Prop, (∃ m, W 0 m σ H) ∧ ∀ i m σ H, W i m σ H →
      ((Itl K a).stop i H ∧ D.nx σ H) ∨ ((Itl K a).go i H ∧ ∃ N : St → Hp → Prop, (∀ σ' H', N σ' H' → ∃ m', m' < m ∧ W (i + 1) m' σ' H') ∧ ∀ x H', (Itl K a).yld i H x H' → g x σ H' fun σ2 H2 => tb { D with nx := N, ct := N, bk := D.nx } σ2 H2) := by
  refine ⟨fun i m σ H => m = xs.length - i ∧ i ≤ xs.length ∧ Pv i σ H, ⟨xs.length, by simp, Nat.zero_le _, h0⟩, ?_⟩
  rintro i m σ H ⟨rfl, hi, p⟩
  have q := hl i σ H hi p
  by_cases hlt : i < xs.length
  · refine .inr ⟨⟨xs, xs[i], q, by simp [hlt]⟩, Pv (i + 1), fun σ' H' p' => ⟨xs.length - (i + 1), by omega, rfl, hlt, p'⟩, fun x H' y => ?_⟩
    obtain ⟨e, y⟩ := y
    subst e
    exact hs i x σ _ (y xs q) p
  · have e : i = xs.length := by omega
    subst e
    exact .inl ⟨⟨xs, q, Nat.le_refl _⟩, hd σ H p⟩
theorem for_tup {K : PySem.W.Frag} {a : Addr} {xs : List V} {g : TG} {tb : TS} {D : Ends} {σ : St} {H : Hp} (Pv : Nat → St → Hp → Prop) (h0 : Pv 0 σ H) (hl : ∀ i σ H, i ≤ xs.length → Pv i σ H → SqT K H a xs)
    (hs : ∀ i x σ H, xs[i]? = some x → Pv i σ H → g x σ H fun σ2 H2 => tb { D with nx := Pv (i + 1), ct := Pv (i + 1), bk := D.nx } σ2 H2) (hd : ∀ σ H, Pv xs.length σ H → D.nx σ H) :
    ∃ W : Nat → Nat → St → Hp → Prop, (∃ m, W 0 m σ H) ∧ ∀ i m σ H, W i m σ H →
      ((Itt K a).stop i H ∧ D.nx σ H) ∨ ((Itt K a).go i H ∧ ∃ N : St → Hp → Prop, (∀ σ' H', N σ' H' → ∃ m', m' < m ∧ W (i + 1) m' σ' H') ∧ ∀ x H', (Itt K a).yld i H x H' → g x σ H' fun σ2 H2 => tb { D with nx := N, ct := N, bk := D.nx } σ2 H2) := by
  refine ⟨fun i m σ H => m = xs.length - i ∧ i ≤ xs.length ∧ Pv i σ H, ⟨xs.length, by simp, Nat.zero_le _, h0⟩, ?_⟩
  rintro i m σ H ⟨rfl, hi, p⟩
  have q := hl i σ H hi p
  by_cases hlt : i < xs.length
  · refine .inr ⟨⟨xs, xs[i], q, by simp [hlt]⟩, Pv (i + 1), fun σ' H' p' => ⟨xs.length - (i + 1), by omega, rfl, hlt, p'⟩, fun x H' y => ?_⟩
    obtain ⟨e, y⟩ := y
    subst e
    exact hs i x σ _ (y xs q) p
  · have e : i = xs.length := by omega
    subst e
    exact .inl ⟨⟨xs, q, Nat.le_refl _⟩, hd σ H p⟩
theorem for_range {lo : Int} {n : Nat} {g : TG} {tb : TS} {D : Ends} {σ : St} {H : Hp} (Pv : Nat → St → Hp → Prop) (h0 : Pv 0 σ H)
    (hs : ∀ i σ H, i < n → Pv i σ H → g (.int (lo + i)) σ H fun σ2 H2 => tb { D with nx := Pv (i + 1), ct := Pv (i + 1), bk := D.nx } σ2 H2) (hd : ∀ σ H, Pv n σ H → D.nx σ H) :
    ∃ W : Nat → Nat → St → Hp → Prop, (∃ m, W 0 m σ H) ∧ ∀ i m σ H, W i m σ H →
      ((Itr lo n).stop i H ∧ D.nx σ H) ∨ ((Itr lo n).go i H ∧ ∃ N : St → Hp → Prop, (∀ σ' H', N σ' H' → ∃ m', m' < m ∧ W (i + 1) m' σ' H') ∧ ∀ x H', (Itr lo n).yld i H x H' → g x σ H' fun σ2 H2 => tb { D with nx := N, ct := N, bk := D.nx } σ2 H2) := by
  refine ⟨fun i m σ H => m = n - i ∧ i ≤ n ∧ Pv i σ H, ⟨n, by simp, Nat.zero_le _, h0⟩, ?_⟩
  rintro i m σ H ⟨rfl, hi, p⟩
  by_cases hlt : i < n
  · refine .inr ⟨hlt, Pv (i + 1), fun σ' H' p' => ⟨n - (i + 1), by omega, rfl, hlt, p'⟩, fun x H' y => ?_⟩
    obtain ⟨e, y⟩ := y
    subst e y
    exact hs i σ _ hlt p
  · have e : i = n := by omega
    subst e
    exact .inl ⟨Nat.le_refl _, hd σ H p⟩
end L2

namespace L2
open PySem PySem.Spec PyProof.Rows

abbrev R2 := V → V → Hp → VK → Prop
/-- a two-place operation on values: f is binaryOp op, inplaceOp op or compareOp op -/
def OpR (X : Cx) (f : Value → Value → Sem Value) (r : R2) : Prop :=
  ∀ (pins : List (Addr × Obj)) (s : Shared) (σ : St) (H : Hp) (x y : V) (v u : Value) (Q : VK), Inv X pins σ H s → RelV x v → RelV y u → r x y H Q →
    wpAny (model X.prog X.w) X.A (f v u) (EP X pins σ Q) X.xe s
/-- a one-place operation -/
def UnR (X : Cx) (f : Value → Sem Value) (r : V → Hp → VK → Prop) : Prop :=
  ∀ (pins : List (Addr × Obj)) (s : Shared) (σ : St) (H : Hp) (x : V) (v : Value) (Q : VK), Inv X pins σ H s → RelV x v → r x H Q →
    wpAny (model X.prog X.w) X.A (f v) (EP X pins σ Q) X.xe s
/-- a call of a value that is known (a builtin, a type) with values -/
def CallR (X : Cx) (f : Value) (r : List V → Hp → VK → Prop) : Prop :=
  ∀ (pins : List (Addr × Obj)) (s : Shared) (σ : St) (H : Hp) (xs : List V) (us : List Value) (Q : VK), Inv X pins σ H s → Vals xs us → r xs H Q →
    wpAny (model X.prog X.w) X.A (call f us) (EP X pins σ Q) X.xe s
/-- a value's truth -/
def TruR (X : Cx) (r : V → Hp → (Bool → Hp → Prop) → Prop) : Prop :=
  ∀ (pins : List (Addr × Obj)) (s : Shared) (σ : St) (H : Hp) (x : V) (v : Value) (Q : Bool → Hp → Prop), Inv X pins σ H s → RelV x v → r x H Q →
    wpAny (model X.prog X.w) X.A (truthy v) (TP X pins σ Q) X.xe s

def tOp (r : R2) (ta tb : TE) : TE := fun σ H Q => ta σ H fun x H1 => tb σ H1 fun y H2 => r x y H2 Q
def tUn (r : V → Hp → VK → Prop) (ta : TE) : TE := fun σ H Q => ta σ H fun x H1 => r x H1 Q
/-- ints in, under C, and a value out -/
def rI (C : Int → Int → Prop) (g : Int → Int → V) : R2 := fun x y H Q => ∃ i j, x = .int i ∧ y = .int j ∧ C i j ∧ Q (g i j) H
def rI0 (g : Int → Int → V) : R2 := fun x y H Q => ∃ i j, x = .int i ∧ y = .int j ∧ Q (g i j) H
def rU (g : Int → V) : V → Hp → VK → Prop := fun x H Q => ∃ i, x = .int i ∧ Q (g i) H

section
variable {X : Cx} {a b c : Expr} {ta tb tc : TE} {pos : Pos}

theorem binT (ha : PE X a ta) (hb : PE X b tb) {pins : List (Addr × Obj)} {s : Shared} {σ : St} {H : Hp} {R : V → V → Hp → Prop} (I : Inv X pins σ H s)
    (h : ta σ H fun x H1 => tb σ H1 fun y H2 => R x y H2) {Q : Value → Shared → Prop} {f : Value → Value → Sem Value}
    (hf : ∀ v u s2 x y H2, Inv X pins σ H2 s2 → RelV x v → RelV y u → R x y H2 → wpAny (model X.prog X.w) X.A (f v u) Q X.xe s2) :
    wpAny (model X.prog X.w) X.A (eval a X.env) (fun v s₁ => wpAny (model X.prog X.w) X.A (eval b X.env) (fun u s₂ => wpAny (model X.prog X.w) X.A (f v u) Q X.xe s₂) X.xe s₁) X.xe s := by
  refine thn (ha pins s σ H _ I h) fun v s1 ⟨x, H1, I1, r1, q1⟩ => ?_
  refine thn (hb pins s1 σ H1 _ I1 q1) fun u s2 ⟨y, H2, I2, r2, q2⟩ => ?_
  exact hf v u s2 x y H2 I2 r1 r2 q2

theorem pe_op {op : Operator} {r : R2} (ho : OpR X (binaryOp op) r) (ha : PE X a ta) (hb : PE X b tb) : PE X (.BinOp a op b pos) (tOp r ta tb) := by
  intro pins s σ H Q I h
  exact wpAny_BinOp (binT ha hb I h fun v u s2 x y H2 I2 rx ry q => ho pins s2 σ H2 x y v u Q I2 rx ry q)
theorem pe_un {op : UnaryOp} {r : V → Hp → VK → Prop} (ho : UnR X (unaryOp op) r) (ha : PE X a ta) : PE X (.UnaryOp op a pos) (tUn r ta) := by
  intro pins s σ H Q I h
  exact UnaryOp_ (thn (ha pins s σ H _ I h) fun v s1 ⟨x, H1, I1, r1, q1⟩ => ho pins s1 σ H1 x v Q I1 r1 q1)
/-! ### ints -/
theorem opI {f : Value → Value → Sem Value} {C : Int → Int → Prop} {g : Int → Int → Int}
    (rule : ∀ (i j : Int) (t u : Tok) (s : Shared) (Q : Value → Shared → Prop) (E : Value → Shared → Prop), C i j → Q (.int (g i j) s.toks) { s with toks := s.toks + 1 } → wpAny (model X.prog X.w) X.A (f (.int i t) (.int j u)) Q E s) :
    OpR X f (rI C fun i j => .int (g i j)) := by
  intro pins s σ H x y v u Q I rx ry h
  obtain ⟨i, j, rfl, rfl, hc, q⟩ := h
  obtain ⟨t, rfl⟩ := rx
  obtain ⟨t', rfl⟩ := ry
  exact rule i j t t' s _ _ hc ⟨.int (g i j), H, I.tok _, ⟨_, rfl⟩, q⟩
theorem opI0 {f : Value → Value → Sem Value} {g : Int → Int → Int}
    (rule : ∀ (i j : Int) (t u : Tok) (s : Shared) (Q : Value → Shared → Prop) (E : Value → Shared → Prop), Q (.int (g i j) s.toks) { s with toks := s.toks + 1 } → wpAny (model X.prog X.w) X.A (f (.int i t) (.int j u)) Q E s) :
    OpR X f (rI0 fun i j => .int (g i j)) := by
  intro pins s σ H x y v u Q I rx ry h
  obtain ⟨i, j, rfl, rfl, q⟩ := h
  obtain ⟨t, rfl⟩ := rx
  obtain ⟨t', rfl⟩ := ry
  exact rule i j t t' s _ _ ⟨.int (g i j), H, I.tok _, ⟨_, rfl⟩, q⟩
theorem opB0 {f : Value → Value → Sem Value} {g : Int → Int → Bool}
    (rule : ∀ (i j : Int) (t u : Tok) (s : Shared) (Q : Value → Shared → Prop) (E : Value → Shared → Prop), Q (.bool (g i j)) s → wpAny (model X.prog X.w) X.A (f (.int i t) (.int j u)) Q E s) :
    OpR X f (rI0 fun i j => .bl (g i j)) := by
  intro pins s σ H x y v u Q I rx ry h
  obtain ⟨i, j, rfl, rfl, q⟩ := h
  obtain ⟨t, rfl⟩ := rx
  obtain ⟨t', rfl⟩ := ry
  exact rule i j t t' s _ _ ⟨.bl (g i j), H, I, rfl, q⟩

def CPow (i j : Int) : Prop := 0 ≤ j ∧ j ≤ 1000000 ∧ i.natAbs < 2 ^ 64
def CMul (i j : Int) : Prop := (-(2 ^ 64) < i ∧ i < 2 ^ 64) ∨ (-(2 ^ 64) < j ∧ j < 2 ^ 64)
theorem CMul.ok {i j : Int} (h : CMul i j) : IntMulOk i j := by
  rcases h with ⟨h1, h2⟩ | ⟨h1, h2⟩
  · exact .of_left (intBits_le_64 h1 h2)
  · exact .of_right (intBits_le_64 h1 h2)
theorem op_add : OpR X (binaryOp .Add) (rI0 fun i j => .int (i + j)) := opI0 fun _ _ _ _ _ _ _ q => add_int q
theorem op_sub : OpR X (binaryOp .Sub) (rI0 fun i j => .int (i - j)) := opI0 fun _ _ _ _ _ _ _ q => sub_int q
theorem op_mul : OpR X (binaryOp .Mult) (rI CMul fun i j => .int (i * j)) := opI fun _ _ _ _ _ _ _ hc q => mul_int q hc.ok
/-- % by a positive divisor of any size -/
theorem op_mod : OpR X (binaryOp .Mod) (rI (fun _ j => 0 < j) fun i j => .int (i % j)) := opI fun i j _ _ _ _ _ hc q => by
  have h1 : (0 : Int) < j := hc
  exact mod_int' (by omega) (by rw [Int.fmod_eq_emod_of_nonneg i (by omega)]; exact q)
theorem op_pow : OpR X (binaryOp .Pow) (rI CPow fun i j => .int (i ^ j.toNat)) := opI fun _ _ _ _ _ _ _ hc q => pow_int_small hc.1 hc.2.1 hc.2.2 q
theorem unI {f : Value → Sem Value} {g : Int → Int}
    (rule : ∀ (i : Int) (t : Tok) (s : Shared) (Q : Value → Shared → Prop) (E : Value → Shared → Prop), Q (.int (g i) s.toks) { s with toks := s.toks + 1 } → wpAny (model X.prog X.w) X.A (f (.int i t)) Q E s) :
    UnR X f (rU fun i => .int (g i)) := by
  intro pins s σ H x v Q I rx h
  obtain ⟨i, rfl, q⟩ := h
  obtain ⟨t, rfl⟩ := rx
  exact rule i t s _ _ ⟨.int (g i), H, I.tok _, ⟨_, rfl⟩, q⟩
theorem un_neg : UnR X (unaryOp .USub) (rU fun i => .int (-i)) := unI fun _ _ _ _ _ q => neg_int q
/-! ### bools among ints: n += (a < b) -/
end

/-! ### comparisons -/
/-- the scalars that == tells apart as data does -/
def scal : V → V → Bool
  | .non, .non => true | .non, .int _ => true | .int _, .non => true | .non, .bl _ => true | .bl _, .non => true | .non, .str _ => true | .str _, .non => true
  | .int _, .int _ => true | .bl _, .bl _ => true | .str _, .str _ => true | .byt _, .byt _ => true
  | .int _, .str _ => true | .str _, .int _ => true | .bl _, .str _ => true | .str _, .bl _ => true
  | _, _ => false
def rEq : R2 := fun x y H Q => scal x y = true ∧ Q (.bl (decide (x = y))) H
def rNe : R2 := fun x y H Q => scal x y = true ∧ Q (.bl (!decide (x = y))) H

theorem dec_int {i j : Int} : decide (V.int i = V.int j) = (i == j) := by
  rw [Bool.eq_iff_iff]
  simp
theorem dec_bl {i j : Bool} : decide (V.bl i = V.bl j) = (i == j) := by
  rw [Bool.eq_iff_iff]
  simp
theorem dec_str {i j : Str} : decide (V.str i = V.str j) = (i == j) := by
  rw [Bool.eq_iff_iff]
  simp
theorem dec_byt {i j : Array UInt8} : decide (V.byt i = V.byt j) = (i.toList == j.toList) := by
  rw [Bool.eq_iff_iff]
  cases i
  cases j
  simp

section
variable {X : Cx} {a b c : Expr} {ta tb tc : TE} {pos : Pos}
theorem fin_bl {pins : List (Addr × Obj)} {σ : St} {H : Hp} {s : Shared} {Q : VK} {k k' : Bool} (I : Inv X pins σ H s) (q : Q (.bl k) H) (e : k = k') : EP X pins σ Q (.bool k') s := by
  subst e
  exact ⟨.bl k, H, I, rfl, q⟩
theorem op_eq : OpR X (compareOp .Eq) rEq := by
  intro pins s σ H x y v u Q I rx ry h
  obtain ⟨hs, q⟩ := h
  cases x with
  | non =>
    cases rx
    cases y with
    | non => cases ry; exact PySem.EqNone.eq_none_none (fin_bl I q (by simp))
    | bl j => cases ry; exact PySem.EqNone.eq_none_bool (fin_bl I q (by simp))
    | int j => obtain ⟨t', rfl⟩ := ry; exact PySem.EqNone.eq_none_int (fin_bl I q (by simp))
    | str j => obtain ⟨t', rfl⟩ := ry; exact PySem.EqNone.eq_none_str (fin_bl I q (by simp))
    | _ => exact absurd (show false = true from hs) Bool.false_ne_true
  | bl i =>
    cases rx
    cases y with
    | non => cases ry; exact PySem.EqNone.eq_bool_none (fin_bl I q (by simp))
    | bl j => cases ry; exact eq_bool (fin_bl I q dec_bl)
    | str j => obtain ⟨t', rfl⟩ := ry; exact PySem.EqMixed.eq_bool_str (fin_bl I q (by simp))
    | _ => exact absurd (show false = true from hs) Bool.false_ne_true
  | int i =>
    obtain ⟨t, rfl⟩ := rx
    cases y with
    | non => cases ry; exact PySem.EqNone.eq_int_none (fin_bl I q (by simp))
    | int j => obtain ⟨t', rfl⟩ := ry; exact eq_int (fin_bl I q dec_int)
    | str j => obtain ⟨t', rfl⟩ := ry; exact PySem.EqMixed.eq_int_str (fin_bl I q (by simp))
    | _ => exact absurd (show false = true from hs) Bool.false_ne_true
  | str i =>
    obtain ⟨t, rfl⟩ := rx
    cases y with
    | non => cases ry; exact PySem.EqNone.eq_str_none (fin_bl I q (by simp))
    | bl j => cases ry; exact PySem.EqMixed.eq_str_bool (fin_bl I q (by simp))
    | int j => obtain ⟨t', rfl⟩ := ry; exact PySem.EqMixed.eq_str_int (fin_bl I q (by simp))
    | str j => obtain ⟨t', rfl⟩ := ry; exact eq_str (fin_bl I q dec_str)
    | _ => exact absurd (show false = true from hs) Bool.false_ne_true
  | byt i =>
    obtain ⟨t, rfl⟩ := rx
    cases y with
    | byt j => obtain ⟨t', rfl⟩ := ry; exact PySem.W.eq_bytes (fin_bl I q dec_byt)
    | _ => exact absurd (show false = true from hs) Bool.false_ne_true
  | _ => cases y <;> exact absurd (show false = true from hs) Bool.false_ne_true
theorem op_ne : OpR X (compareOp .NotEq) rNe := by
  intro pins s σ H x y v u Q I rx ry h
  obtain ⟨hs, q⟩ := h
  cases x with
  | non =>
    cases rx
    cases y with
    | non => cases ry; exact PySem.EqNone.ne_none_none (fin_bl I q (by simp))
    | bl j => cases ry; exact PySem.EqNone.ne_none_bool (fin_bl I q (by simp))
    | int j => obtain ⟨t', rfl⟩ := ry; exact PySem.EqNone.ne_none_int (fin_bl I q (by simp))
    | str j => obtain ⟨t', rfl⟩ := ry; exact PySem.EqNone.ne_none_str (fin_bl I q (by simp))
    | _ => exact absurd (show false = true from hs) Bool.false_ne_true
  | bl i =>
    cases rx
    cases y with
    | non => cases ry; exact PySem.EqNone.ne_bool_none (fin_bl I q (by simp))
    | bl j => cases ry; exact ne_bool (fin_bl I q (congrArg not dec_bl))
    | str j => obtain ⟨t', rfl⟩ := ry; exact PySem.EqMixed.ne_bool_str (fin_bl I q (by simp))
    | _ => exact absurd (show false = true from hs) Bool.false_ne_true
  | int i =>
    obtain ⟨t, rfl⟩ := rx
    cases y with
    | non => cases ry; exact PySem.EqNone.ne_int_none (fin_bl I q (by simp))
    | int j => obtain ⟨t', rfl⟩ := ry; exact ne_int (fin_bl I q (congrArg not dec_int))
    | str j => obtain ⟨t', rfl⟩ := ry; exact PySem.EqMixed.ne_int_str (fin_bl I q (by simp))
    | _ => exact absurd (show false = true from hs) Bool.false_ne_true
  | str i =>
    obtain ⟨t, rfl⟩ := rx
    cases y with
    | non => cases ry; exact PySem.EqNone.ne_str_none (fin_bl I q (by simp))
    | bl j => cases ry; exact PySem.EqMixed.ne_str_bool (fin_bl I q (by simp))
    | int j => obtain ⟨t', rfl⟩ := ry; exact PySem.EqMixed.ne_str_int (fin_bl I q (by simp))
    | str j => obtain ⟨t', rfl⟩ := ry; exact ne_str (fin_bl I q (congrArg not dec_str))
    | _ => exact absurd (show false = true from hs) Bool.false_ne_true
  | byt i =>
    obtain ⟨t, rfl⟩ := rx
    cases y with
    | byt j => obtain ⟨t', rfl⟩ := ry; exact PySem.W.ne_bytes (fin_bl I q (congrArg not dec_byt))
    | _ => exact absurd (show false = true from hs) Bool.false_ne_true
  | _ => cases y <;> exact absurd (show false = true from hs) Bool.false_ne_true

theorem op_lt : OpR X (compareOp .Lt) (rI0 fun i j => .bl (decide (i < j))) := opB0 fun _ _ _ _ _ _ _ q => lt_int q
theorem op_le : OpR X (compareOp .LtE) (rI0 fun i j => .bl (decide (i ≤ j))) := opB0 fun _ _ _ _ _ _ _ q => le_int q
theorem op_gt : OpR X (compareOp .Gt) (rI0 fun i j => .bl (decide (j < i))) := opB0 fun _ _ _ _ _ _ _ q => gt_int q
theorem op_ge : OpR X (compareOp .GtE) (rI0 fun i j => .bl (decide (j ≤ i))) := opB0 fun _ _ _ _ _ _ _ q => ge_int q
/-- is None, is not None: the right side a value none -/
theorem op_isN : OpR X (compareOp .Is) (fun x y H Q => y = .non ∧ Q (.bl (decide (x = .non))) H) := by
  intro pins s σ H x y v u Q I rx ry h
  obtain ⟨rfl, q⟩ := h
  cases ry
  refine is_none_gen (fin_bl I q ?_)
  cases x <;> first
    | (cases rx; rfl)
    | (obtain ⟨t, rfl⟩ := rx; rfl)
theorem op_notN : OpR X (compareOp .IsNot) (fun x y H Q => y = .non ∧ Q (.bl (!decide (x = .non))) H) := by
  intro pins s σ H x y v u Q I rx ry h
  obtain ⟨rfl, q⟩ := h
  cases ry
  refine isnot_none_gen (fin_bl I q ?_)
  cases x <;> first
    | (cases rx; rfl)
    | (obtain ⟨t, rfl⟩ := rx; rfl)

/-- two rules for one operation: by cases -/
theorem OpR.or {f : Value → Value → Sem Value} {r r' : R2} (h : OpR X f r) (h' : OpR X f r') : OpR X f (fun x y H Q => r x y H Q ∨ r' x y H Q) := by
  intro pins s σ H x y v u Q I rx ry q
  rcases q with q | q
  · exact h pins s σ H x y v u Q I rx ry q
  · exact h' pins s σ H x y v u Q I rx ry q

theorem nomark (b : Expr) {op : CmpOp} (h : op ≠ .In := by decide) (h2 : op ≠ .NotIn := by decide) : behindInMarks op b = false := by
  have e1 : (op == CmpOp.In) = false := by cases op <;> first | rfl | exact absurd rfl h
  have e2 : (op == CmpOp.NotIn) = false := by cases op <;> first | rfl | exact absurd rfl h2
  cases b <;> simp [behindInMarks, e1, e2]
/-- a comparison as a value; hm: nomark b, or (for in, not in) by with_unfolding_all rfl -/
theorem pe_cmpR {op : CmpOp} {r : R2} (ho : OpR X (compareOp op) r) (ha : PE X a ta) (hb : PE X b tb) (hm : behindInMarks op b = false) : PE X (.Compare a [op] [b] pos) (tOp r ta tb) := by
  intro pins s σ H Q I h
  exact wpAny_Compare1 (binT ha hb I h fun v u s2 x y H2 I2 rx ry q => ho pins s2 σ H2 x y v u Q I2 rx ry q) hm
/-- a reading of a value as a test -/
def tTest (t : TE) : TT := fun σ H Q => t σ H fun x H' => ∃ k, x = .bl k ∧ Q k H'
theorem pt_cmpR {op : CmpOp} {r : R2} (ho : OpR X (compareOp op) r) (ha : PE X a ta) (hb : PE X b tb) (hm : behindInMarks op b = false) : PT X (.Compare a [op] [b] pos) (tTest (tOp r ta tb)) := by
  intro pins s σ H Q I h
  refine wpAny_isTrue_Compare1 (thn (ha pins s σ H _ I h) fun v s1 ⟨x, H1, I1, r1, q1⟩ => thn (hb pins s1 σ H1 _ I1 q1) fun u s2 ⟨y, H2, I2, r2, q2⟩ =>
    thn (ho pins s2 σ H2 x y v u _ I2 r1 r2 q2) fun c s3 ⟨z, H3, I3, r3, k, e, q3⟩ => ?_) hm
  subst e
  cases r3
  exact wpAny_truthy_bool ⟨H3, I3, q3⟩
/-! ### truth -/
/-- a value's truth by the abstract heap -/
def TruV (K : PySem.W.Frag) (x : V) (H : Hp) (k : Bool) : Prop :=
  match x with
  | .non => k = false
  | .bl b => k = b
  | .int i => k = (i != 0)
  | .str y => y.length ≤ sizeLine ∧ k = ((y.length : Int) != 0)
  | .byt y => y.size ≤ sizeLine ∧ k = ((y.size : Int) != 0)
  | .ref p => (∃ xs, SqL K H p xs ∧ k = !xs.isEmpty) ∨ (∃ xs, SqT K H p xs ∧ k = !xs.isEmpty) ∨ ∃ kvs, H p = some (.dK kvs) ∧ k = !kvs.isEmpty
  | _ => False
theorem isEmpty_kv {κ : Type} {kvs : List (κ × V)} {vs : List (κ × Value)} (r : KV kvs vs) : (!vs.isEmpty) = !kvs.isEmpty := by
  cases r <;> rfl
theorem isEmpty_of {xs : List V} {its : List Value} (r : Vals xs its) : (!its.toArray.isEmpty) = !xs.isEmpty := by
  cases r <;> simp
theorem line63 : (sizeLine : Nat) < 2 ^ 63 := by rw [sizeLine_eq]; decide
theorem tru_ok : TruR X (fun x H Q => ∃ k, TruV X.K x H k ∧ Q k H) := by
  intro pins s σ H x v Q I rx h
  obtain ⟨k, e, q⟩ := h
  have hl := line63
  have hs : sizeLine = 16777216 := sizeLine_eq
  cases x with
  | non =>
    cases rx
    have e' : k = false := e
    subst e'
    exact truthy_none ⟨H, I, q⟩
  | bl b =>
    cases rx
    have e' : k = b := e
    subst e'
    exact wpAny_truthy_bool ⟨H, I, q⟩
  | int i =>
    obtain ⟨t, rfl⟩ := rx
    have e' : k = (i != 0) := e
    subst e'
    exact PySem.P.truthy_int ⟨H, I, q⟩
  | str y =>
    obtain ⟨t, rfl⟩ := rx
    obtain ⟨hy, e'⟩ : y.length ≤ sizeLine ∧ k = ((y.length : Int) != 0) := e
    subst e'
    exact PySem.P.truthy_str (by omega) ⟨H, I.tok _, q⟩
  | byt y =>
    obtain ⟨t, rfl⟩ := rx
    obtain ⟨hy, e'⟩ : y.size ≤ sizeLine ∧ k = ((y.size : Int) != 0) := e
    subst e'
    exact PySem.W.truthy_bytes (by omega) ⟨H, I.tok _, q⟩
  | ref p =>
    cases rx
    have e' : (∃ xs, SqL X.K H p xs ∧ k = !xs.isEmpty) ∨ (∃ xs, SqT X.K H p xs ∧ k = !xs.isEmpty) ∨ ∃ kvs, H p = some (.dK kvs) ∧ k = !kvs.isEmpty := e
    rcases e' with ⟨xs, hx, e'⟩ | ⟨xs, hx, e'⟩ | ⟨kvs, hx, e'⟩
    · subst e'
      obtain ⟨its, r, pl, hz⟩ := I.list hx
      have hlen := r.length
      exact wpAny_truthy_list pl.isList (by simp only [List.size_toArray]; omega) ⟨H, I.tok _, by rw [isEmpty_of r]; exact q⟩
    · subst e'
      obtain ⟨its, r, pl, hz⟩ := I.tuple hx
      have hlen := r.length
      exact truthy_tuple pl (by simp only [List.size_toArray]; omega) ⟨H, I.tok _, by rw [isEmpty_of r]; exact q⟩
    · subst e'
      obtain ⟨hz, hS, vs, r, m⟩ : kvs.length ≤ sizeLine ∧ (p == sysModules) = false ∧ ∃ vs, KV kvs vs ∧ s.heap.DictOf (mixKind X.prog X.w) p vs := I.hok p _ hx
      have hlen : kvs.length = vs.length := Paired.length r
      exact wpAny_truthy_dict hS m (by omega) ⟨H, I.tok _, by rw [isEmpty_kv r]; exact q⟩
  | _ => exact (show False from e).elim
/-- any expression whose test is its value's truth (a name, a call, a subscript, a field ..: he by fun _ => rfl) -/
theorem pt_truth (ha : PE X a ta) (he : ∀ whole, isTrue a X.env whole = (do let v ← whole; standAt a.pos; holding [v] (truthy v))) :
    PT X a (fun σ H Q => ta σ H fun x H' => ∃ k, TruV X.K x H' k ∧ Q k H') := by
  intro pins s σ H Q I h
  exact isTrue_plain (thn (ha pins s σ H _ I h) fun v s1 ⟨x, H1, I1, r1, q1⟩ => tru_ok pins s1 σ H1 x v Q I1 r1 q1) (he _)

/-! ### strs and bytes -/
/-! ### scalar builtins, by CallR -/
theorem vals1 {x : V} {us : List Value} (r : Vals [x] us) : ∃ u, us = [u] ∧ RelV x u := by
  cases r with
  | cons r1 r2 => cases r2; exact ⟨_, rfl, r1⟩
theorem vals2 {x y : V} {us : List Value} (r : Vals [x, y] us) : ∃ u w', us = [u, w'] ∧ RelV x u ∧ RelV y w' := by
  cases r with
  | cons r1 r2 =>
    cases r2 with
    | cons r3 r4 => cases r4; exact ⟨_, _, rfl, r1, r3⟩
theorem call_max2 (hc : X.calm = true) : CallR X (.builtin "max") (fun xs H Q => ∃ i j, xs = [.int i, .int j] ∧ Q (.int (if j > i then j else i)) H) := by
  intro pins s σ H xs us Q I r h
  obtain ⟨i, j, rfl, q⟩ := h
  obtain ⟨u, w', rfl, ⟨t, rfl⟩, ⟨t', rfl⟩⟩ := vals2 r
  refine max_two_ints (I.ok.hd hc) fun h' tk k => ⟨_, H, I.kept k, ?_, q⟩
  by_cases hj : j > i
  · rw [if_pos hj, if_pos hj]; exact ⟨_, rfl⟩
  · rw [if_neg hj, if_neg hj]; exact ⟨_, rfl⟩
theorem call_min2 (hc : X.calm = true) : CallR X (.builtin "min") (fun xs H Q => ∃ i j, xs = [.int i, .int j] ∧ Q (.int (if j < i then j else i)) H) := by
  intro pins s σ H xs us Q I r h
  obtain ⟨i, j, rfl, q⟩ := h
  obtain ⟨u, w', rfl, ⟨t, rfl⟩, ⟨t', rfl⟩⟩ := vals2 r
  refine min_two_ints (I.ok.hd hc) fun h' tk k => ⟨_, H, I.kept k, ?_, q⟩
  by_cases hj : j < i
  · rw [if_pos hj, if_pos hj]; exact ⟨_, rfl⟩
  · rw [if_neg hj, if_neg hj]; exact ⟨_, rfl⟩
end
end L2

namespace L2
open PySem PySem.Spec PyProof.Rows

/-! ### an instance, its attributes a map -/
structure ObjM (h : Heap) (x dx C : Addr) (mA : Str → Option Value) : Prop where
  obj : h.get? x = some (PySem.W.instObj C dx)
  ns : h.Ns1 dx mA
  ne : dx ≠ x

theorem lookIn_ns {h : Heap} {dx : Addr} {mA : Str → Option Value} (n : h.Ns1 dx mA) : ∃ od, h.get? dx = some od ∧ ∀ name, PySem.W.lookIn name od = some (mA name) := by
  obtain ⟨o, es, ep, ho, hd, hk, _, hm⟩ := n
  refine ⟨o, ho, fun name => ?_⟩
  have e := hm name
  unfold nsFind findBy at e
  rw [← Array.find?_toList] at e
  unfold PySem.W.lookIn
  rw [hd]
  dsimp only
  split
  · rename_i y q
    rw [q] at e
    exact congrArg some e
  · rename_i q
    rw [q] at e
    have a : es.toList.any (·.refKey) = false := by
      rw [List.any_eq_false]
      intro y hy
      obtain ⟨z, t, hkey⟩ := hk y (Array.mem_toList_iff.mp hy)
      simp [DictEntry.refKey, hkey]
    have a' : ¬ es.toList.any (·.refKey) = true := by rw [a]; exact Bool.false_ne_true
    rw [if_neg a']
    exact congrArg some e

theorem ObjM.look {h : Heap} {x dx C : Addr} {mA : Str → Option Value} (I : ObjM h x dx C mA) : ∃ od, PySem.W.InstAt h x (PySem.W.instObj C dx) C (some od) ∧ ∀ name, PySem.W.lookIn name od = some (mA name) :=
  let ⟨od, ho, hl⟩ := lookIn_ns I.ns
  ⟨od, ⟨I.obj, rfl, rfl, ho⟩, hl⟩

section
variable {prog : Program} {w : World} {A : Around} {E : Value → Shared → Prop} {s : Shared} {K : PySem.W.Frag} {x dx C f : Addr} {mA : Str → Option Value} {name : Str} {v : Value}

end

/-! ### the attributes as a list of pairs -/
theorem RelO.some_of {v : V} {o : Option Value} (r : RelO (some v) o) : ∃ u, o = some u ∧ RelV v u := by
  cases o with
  | none => exact (show False from r).elim
  | some u => exact ⟨u, rfl, r⟩
section
variable {P : Program} {w : World} {H H' : Hp} {h h' : Heap} {a C dx : Addr} {fs fs' : List (Str × V)}
theorem ins_get (hok : HOk P w H h) (e : H a = some (.ins C dx fs)) : ∃ mA, ObjM h a dx C mA ∧ (∀ f, RelO (fs.lookup f) (mA f)) ∧ PySem.Within mA (fs.map (·.1)) ∧ fs.length ≤ 1000 ∧ H dx = some (.own a) := by
  obtain ⟨d, z, ne, ob, mA, n, r, q⟩ := (show ObjOk P w H h a (.ins C dx fs) from hok a _ e)
  exact ⟨mA, ⟨ob, n, ne⟩, r, q, z, d⟩
end

/-! ### what of the text a class must have -/
structure Cls (K : PySem.W.Frag) (C : Addr) : Prop where
  pg : PySem.W.plainGet K C Str.empty = true
  hd : PySem.W.hasDictIn K C = true
  po : PySem.W.plainOver K C = true
  sa : PySem.W.findIn K (.ref C) "__setattr__" = some (some (.builtin "object.__setattr__"))
theorem Cls.get {K : PySem.W.Frag} {C : Addr} (c : Cls K C) (f : Str) : PySem.W.plainGet K C f = true := c.pg
section
variable {X : Cx} {pins : List (Addr × Obj)} {σ : St} {H : Hp} {s : Shared} {a C dx : Addr} {fs : List (Str × V)} {f : Str} {v : V} {A : Around} {E : Value → Shared → Prop}

/-- a new instance, tracked, without attributes -/
theorem Inv.made (I : Inv X pins σ H s) : Inv X pins σ (upd (upd H s.heap.objs.size (.own (s.heap.objs.size + 1))) (s.heap.objs.size + 1) (.ins C s.heap.objs.size []))
    { s with heap := (s.heap.push PySem.W.emptyDict).push (PySem.W.instObj C s.heap.objs.size) } := by
  have e1 : (s.heap.push PySem.W.emptyDict).get? s.heap.objs.size = some PySem.W.emptyDict := Heap.get?_push_size s.heap rfl
  have e2 : ((s.heap.push PySem.W.emptyDict).push (PySem.W.instObj C s.heap.objs.size)).get? (s.heap.objs.size + 1) = some (PySem.W.instObj C s.heap.objs.size) := by
    have := Heap.get?_push_size (s.heap.push PySem.W.emptyDict) (o := PySem.W.instObj C s.heap.objs.size) rfl
    rwa [Heap.size_push] at this
  have e3 : (s.heap.push PySem.W.emptyDict).Ns s.heap.objs.size (fun _ => none) := ⟨PySem.W.emptyDict, #[], _, e1, rfl, (fun e he => absurd he (by simp)), fun _ => rfl⟩
  have I1 := I.laid (a := s.heap.objs.size) (o := .own (s.heap.objs.size + 1)) (h' := s.heap.push PySem.W.emptyDict) (t' := s.toks) (fun b u q => Heap.get?_push_of_some _ q) (Nat.le_refl _) ⟨_, e1⟩
  refine I1.laid (a := s.heap.objs.size + 1) (o := .ins C s.heap.objs.size []) (t' := s.toks) (fun b u q => Heap.get?_push_of_some _ q) (Nat.le_of_eq (Heap.size_push _ _)) ?_
  have ne : s.heap.objs.size ≠ s.heap.objs.size + 1 := Nat.ne_of_lt (Nat.lt_succ_self _)
  refine ⟨by rw [upd_ne ne, upd_same], Nat.zero_le _, ne, e2, fun _ => none, (Heap.Ns1.of_empty e3).at fun o q => Heap.get?_push_of_some _ q, fun _ => True.intro, fun y hy => absurd rfl hy⟩

end

/-! ### readings and rules -/
section
variable {X : Cx} {o e value : Expr} {f : Str} {pos pos' tpos : Pos} {ta tv : TE}
end

/-! ### isinstance -/
section
variable {X : Cx} {pins : List (Addr × Obj)} {σ : St} {H : Hp} {s : Shared} {A : Around} {E : Value → Shared → Prop} {Q : Value → Shared → Prop} {c : Value} {b : Bool}
/-- the type of a value, as the fragment's deciders take it; for an instance its class -/
inductive TyOf (K : PySem.W.Frag) (H : Hp) : V → Value → Prop where
  | non : TyOf K H .non (.type "NoneType")
  | bl (x : Bool) : TyOf K H (.bl x) (.type "bool")
  | int (i : Int) : TyOf K H (.int i) (.type "int")
  | str (x : Str) : TyOf K H (.str x) (.type "str")
  | flt (x : UInt64) : TyOf K H (.flt x) (.type "float")
  | lst {a : Addr} {xs : List V} (e : H a = some (.lst xs)) : TyOf K H (.ref a) (.type "list")
  | frz {a : Addr} {o : Obj} {xs : List V} (e : H a = some (.frz o (.lst xs))) : TyOf K H (.ref a) (.type "list")
  | tup {a : Addr} {xs : List V} (e : H a = some (.tup xs)) : TyOf K H (.ref a) (.type "tuple")
  | dK {a : Addr} {kvs : List (Key × V)} (e : H a = some (.dK kvs)) : TyOf K H (.ref a) (.type "dict")
  | dT {a : Addr} {kvs : List (List Key × V)} (e : H a = some (.dT kvs)) : TyOf K H (.ref a) (.type "dict")
  | ins {a C dx : Addr} {fs : List (Str × V)} (e : H a = some (.ins C dx fs)) (cl : Cls K C) (ha : PySem.W.findIn K (.ref C) "__class__" = some (some (.builtin "object.__class__")))
      (hn : PySem.W.specialIn K (.builtin "object.__class__") "__get__" = some (some (.builtin "getset_descriptor.__get__"))) (htk : PySem.W.takesIn K (.builtin "object.__class__") = some true)
      (hm : PySem.W.mroIn K C (.type "object") = some true) : TyOf K H (.ref a) (.ref C)
/-- isinstance(x, c) for one class c, a built-in or an own one: kitOne's answer -/
theorem isinst_ok {x : V} {u t : Value} (I : Inv X pins σ H s) (rx : RelV x u) (ty : TyOf X.K H x t) (e : PySem.W.kitOne X.K t c = some b) (h : ∀ tk, Q (.bool b) { s with toks := tk }) :
    wpAny (model X.prog X.w) A (call (.builtin "isinstance") [u, c]) Q E s := by
  cases ty with
  | non => cases (show u = Value.none from rx); exact PySem.W.kia_one PySem.W.kitx_none I.kIn True.intro e (fun z => nomatch z) h
  | bl y => cases (show u = Value.bool y from rx); exact PySem.W.kia_one PySem.W.kitx_bool I.kIn True.intro e (fun z => nomatch z) h
  | int i => obtain ⟨t, q⟩ := (show ∃ t, u = Value.int i t from rx); cases q; exact PySem.W.kia_one PySem.W.kitx_int I.kIn True.intro e (fun z => nomatch z) h
  | str y => obtain ⟨t, q⟩ := (show ∃ t, u = Value.str y t from rx); cases q; exact PySem.W.kia_one PySem.W.kitx_str I.kIn True.intro e (fun z => nomatch z) h
  | flt y => obtain ⟨t, q⟩ := (show ∃ t, u = Value.float y t from rx); cases q; exact PySem.W.kia_one PySem.W.kitx_float I.kIn True.intro e (fun z => nomatch z) h
  | @lst a xs ea =>
    cases (show u = Value.ref a from rx)
    obtain ⟨_, _, n, _, h1⟩ := (show ObjOk X.prog X.w H s.heap a (.lst xs) from I.hok a _ ea)
    exact PySem.W.kia_one PySem.W.kitx_list I.kIn ⟨_, h1, rfl⟩ e (fun z => nomatch z) h
  | @frz a ob xs ea =>
    cases (show u = Value.ref a from rx)
    obtain ⟨_, _, _, n, _, h1⟩ := (show ObjOk X.prog X.w H s.heap a (.frz ob (.lst xs)) from I.hok a _ ea)
    exact PySem.W.kia_one PySem.W.kitx_list I.kIn ⟨_, h1, rfl⟩ e (fun z => nomatch z) h
  | @tup a xs ea =>
    cases (show u = Value.ref a from rx)
    obtain ⟨_, _, _, p, _⟩ := (show ObjOk X.prog X.w H s.heap a (.tup xs) from I.hok a _ ea)
    obtain ⟨o, h1, h2, _⟩ := p
    exact PySem.W.kia_one PySem.W.kitx_tuple I.kIn ⟨o, h1, h2⟩ e (fun z => nomatch z) h
  | @dK a kvs ea =>
    cases (show u = Value.ref a from rx)
    obtain ⟨_, _, vs, _, p⟩ := (show ObjOk X.prog X.w H s.heap a (.dK kvs) from I.hok a _ ea)
    obtain ⟨o, es, ep, h1, h2, _⟩ := p
    exact PySem.W.kia_one PySem.W.kitx_dict I.kIn ⟨o, h1, h2.1⟩ e (fun z => nomatch z) h
  | @dT a kvs ea =>
    cases (show u = Value.ref a from rx)
    obtain ⟨_, _, xs, _, o, es, ep, h1, h2, _⟩ := (show ObjOk X.prog X.w H s.heap a (.dT kvs) from I.hok a _ ea)
    exact PySem.W.kia_one PySem.W.kitx_dict I.kIn ⟨o, h1, h2.1⟩ e (fun z => nomatch z) h
  | @ins a C dx fs ea cl ha hn htk hm =>
    cases (show u = Value.ref a from rx)
    obtain ⟨mA, O, _⟩ := ins_get I.hok ea
    obtain ⟨od, J, _⟩ := O.look
    exact PySem.W.kia_one (PySem.W.kitx_own (cl.get _) cl.hd ha hn htk hm) I.kIn J e (fun z => nomatch z) h
end
end L2

namespace L2
open PySem PySem.Spec PyProof.Rows

/-! ### room -/
structure Room (k : Nat) (A : Around) (cm : Bool := true) : Prop where
  hd : cm = true → A.handled = none
  dp : A.depth + 3 * k + 5 < recursionLimit
  un : A.units + 16 * k + 200 < cLine
theorem Room.mono {j k : Nat} {A : Around} {cm : Bool} (r : Room k A cm) (h : j ≤ k) : Room j A cm := ⟨r.hd, by have := r.dp; omega, by have := r.un; omega⟩
theorem Room.deeper {k : Nat} {A : Around} {cm : Bool} (r : Room (k + 1) A cm) (env : Env) : Room k (A.deeper env) cm :=
  ⟨r.hd, by have := r.dp; show A.depth + 1 + 3 * k + 5 < _; omega, by have := r.un; show A.units + 3 + 16 * k + 200 < _; omega⟩
theorem Room.in1 {k : Nat} {A : Around} {cm : Bool} (r : Room (k + 1) A cm) : Room k A.in1 cm :=
  ⟨r.hd, by have := r.dp; show A.depth + 3 * k + 5 < _; omega, by have := r.un; show A.units + 1 + 16 * k + 200 < _; omega⟩
theorem Room.depth {k : Nat} {A : Around} {cm : Bool} (r : Room k A cm) : A.depth < recursionLimit := by have := r.dp; omega
theorem Room.units {k : Nat} {A : Around} {cm : Bool} (r : Room k A cm) : A.units + 64 < cLine := by have := r.un; omega
/-! ### argument lists and displays -/
def tNil : TA := fun _ H Q => Q [] H
def tCons (ta : TE) (tr : TA) : TA := fun σ H Q => ta σ H fun x H1 => tr σ H1 fun xs H2 => Q (x :: xs) H2
section
variable {X : Cx} {e : Expr} {es : List Expr} {te : TE} {t : TA} {pos : Pos}
theorem pa_nil : PA X [] tNil := fun _ _ _ _ H Q I h => Calls.spliced_nil ⟨[], H, I, .nil, h⟩
theorem pa_cons (ha : PE X e te) (hr : PA X es t) (hs : starEach (e :: es) X.env = (false, eval e X.env) :: starEach es X.env := by rfl) : PA X (e :: es) (tCons te t) := by
  intro pos pins s σ H Q I h
  rw [hs]
  show wpAny _ _ (spliced ((false, eval e X.env) :: backTo pos (starEach es X.env))) _ _ s
  refine Calls.spliced_cons (thn (ha pins s σ H _ I h) fun u s1 ⟨x, H1, I1, r1, q1⟩ => ?_)
  exact thn (hr pos pins s1 σ H1 _ I1 q1) fun us s2 ⟨xs, H2, I2, r2, q2⟩ => ⟨x :: xs, H2, I2, .cons r1 r2, q2⟩

/-- a tuple, a list of written items -/
def tTup (t : TA) : TE := fun σ H Q => t σ H fun xs H1 => xs.length ≤ sizeLine ∧ ∀ p, H1 p = none → Q (.ref p) (upd H1 p (.tup xs))
def tLst (t : TA) : TE := fun σ H Q => t σ H fun xs H1 => xs.length ≤ sizeLine ∧ ∀ p, H1 p = none → Q (.ref p) (upd H1 p (.lst xs))
theorem pe_tup {x1} (h : PA X es t) : PE X (.Tuple es x1 pos) (tTup t) := by
  intro pins s σ H Q I hq
  refine wpAny_Tuple_spliced (thn (h pos pins s σ H _ I hq) fun us s1 ⟨xs, H1, I1, r, z, q⟩ => ⟨by rw [← r.length]; exact z, ?_⟩)
  have hf : H1 s1.heap.objs.size = none := I1.hok.fresh (Nat.le_refl _)
  refine ⟨.ref s1.heap.objs.size, upd H1 s1.heap.objs.size (.tup xs), I1.laid (t' := s1.toks) (fun b u e => Heap.get?_push_of_some _ e) (Nat.le_refl _) ?_, rfl, q _ hf⟩
  exact ⟨z, us, r, ⟨_, Heap.get?_push_size _ rfl, rfl, _, rfl⟩, tup_nodict⟩
theorem pe_lst (h : PA X es t) : PE X (.List es pos) (tLst t) := by
  intro pins s σ H Q I hq
  refine wpAny_List_spliced (thn (h pos pins s σ H _ I hq) fun us s1 ⟨xs, H1, I1, r, z, q⟩ => ⟨by rw [← r.length]; exact z, ?_⟩)
  have hf : H1 s1.heap.objs.size = none := I1.hok.fresh (Nat.le_refl _)
  refine ⟨.ref s1.heap.objs.size, upd H1 s1.heap.objs.size (.lst xs), I1.laid (t' := s1.toks) (fun b u e => Heap.get?_push_of_some _ e) (Nat.le_refl _) ?_, rfl, q _ hf⟩
  exact ⟨z, us, 0, r, Heap.get?_push_size _ rfl⟩
end

/-! ### what a def promises -/
/-- a def's promise: the bound arguments in the parameters' order, the heap, the wanted end, the wanted exception -/
abbrev Sp := List V → Hp → VK → XK → Prop
/-- how an exception lies behind a call (file 08 gives it): the callers' frames, abstract heap and state ahead of the call, the wish, the exception, the state -/
abbrev CXT := List Env → Hp → Shared → XK → Value → Shared → Prop

/-- the state at a call -/
structure Env0 (P : Program) (w : World) (K : PySem.W.Frag) (mg : Str → Option Value) (base : Heap) (A : Around) (outer : List Env) (s : Shared) (H : Hp) : Prop where
  frames : A.frames = some outer
  mod : Mod K mg base
  bs : ∀ b o, base.get? b = some o → s.heap.get? b = some o ∧ H b = none
  bsz : base.objs.size ≤ s.heap.objs.size
  funs : s.heap.FunFrames base outer
  frf : ∀ b ∈ frs outer, H b = none
  hok : HOk P w H s.heap
  bare : AllBare s.gens
/-- a call's end -/
def CE (outer : List Env) (P : Program) (w : World) (H : Hp) (s : Shared) (Q : VK) (u : Value) (s' : Shared) : Prop :=
  ∃ v H', s'.os = s.os ∧ AllBare s'.gens ∧ Un (frs outer) [] H H' s.heap s'.heap ∧ HOk P w H' s'.heap ∧ RelV v u ∧ Q v H'
def CR (CX : CXT) (outer : List Env) (P : Program) (w : World) (H : Hp) (s : Shared) (Q : VK) (E : XK) (r : Result) (s' : Shared) : Prop :=
  match r with
  | .ok (.ret u) => CE outer P w H s Q u s'
  | .ok _ => False
  | .error e => CX outer H s E e s'
structure FnOk (P : Program) (w : World) (K : PySem.W.Frag) (mg : Str → Option Value) (base : Heap) (CX : CXT) (k : Nat) (f : Addr) (fd : FuncData) (ps : List Str) (sp : Sp) (cm : Bool := true) : Prop where
  len : ∀ vs H Q E, sp vs H Q E → vs.length = ps.length
  run : ∀ (A : Around) (outer : List Env) (s : Shared) (H : Hp) (args : Args) (us : List Value) (vs : List V) (Q : VK) (E : XK), Room k A cm → Env0 P w K mg base A outer s H → BindsTo s fd args (ps.zip us) → Vals vs us → sp vs H Q E →
    codeAny (model P w) A (.call (.ref f) args) (CR CX outer P w H s Q E) s
theorem FnOk.mono {P : Program} {w : World} {K : PySem.W.Frag} {mg : Str → Option Value} {base : Heap} {CX : CXT} {j k : Nat} {f : Addr} {fd : FuncData} {ps : List Str} {sp : Sp} {cm : Bool} (F : FnOk P w K mg base CX j f fd ps sp cm) (h : j ≤ k) :
    FnOk P w K mg base CX k f fd ps sp cm := ⟨F.len, fun A outer s H args us vs Q E hr => F.run A outer s H args us vs Q E (hr.mono h)⟩
/-- a weaker promise -/
theorem FnOk.imp {P : Program} {w : World} {K : PySem.W.Frag} {mg : Str → Option Value} {base : Heap} {CX : CXT} {k : Nat} {f : Addr} {fd : FuncData} {ps : List Str} {sp sp' : Sp} {cm : Bool} (F : FnOk P w K mg base CX k f fd ps sp cm)
    (h : ∀ vs H Q E, sp' vs H Q E → sp vs H Q E) : FnOk P w K mg base CX k f fd ps sp' cm :=
  ⟨fun vs H Q E q => F.len vs H Q E (h _ _ _ _ q), fun A outer s H args us vs Q E hr he hb hv hs => F.run A outer s H args us vs Q E hr he hb hv (h _ _ _ _ hs)⟩

theorem Env0.in1 {P : Program} {w : World} {K : PySem.W.Frag} {mg : Str → Option Value} {base : Heap} {A : Around} {outer : List Env} {s : Shared} {H : Hp} (e : Env0 P w K mg base A outer s H) :
    Env0 P w K mg base A.in1 outer s H := ⟨e.frames, e.mod, e.bs, e.bsz, e.funs, e.frf, e.hok, e.bare⟩

section
variable {X : Cx} {pins : List (Addr × Obj)} {σ : St} {H : Hp} {s s' : Shared}
/-- from a body: what a callee wants -/
theorem Inv.env0 (I : Inv X pins σ H s) : Env0 X.prog X.w X.K X.mg X.base X.A X.stack s H :=
  ⟨I.ok.frames, I.ok.mod, I.bs, Nat.le_trans I.ok.bsz I.sz, I.stack, I.stkFree, I.hok, I.bare⟩
/-- behind a call -/
theorem Inv.after {Q : VK} {u : Value} (I : Inv X pins σ H s) (h : CE X.stack X.prog X.w H s Q u s') : EP X pins σ Q u s' := by
  obtain ⟨v, H', os, bare, un, hok, r, q⟩ := h
  obtain ⟨hh, g, d, t, os'⟩ := s'
  obtain rfl : os' = s.os := os
  exact ⟨v, H', I.call (h' := hh) (g' := g) (d' := d) (t' := t) (ch := []) un hok bare (fun b z => absurd z (by simp)), r, q⟩
end

/-! ### calls -/
/-- f(..): the written arguments, then the defaults dvs; E: what is wanted of an exception -/
def tCall (sp : Sp) (dvs : List V) (E : XK) (t : TA) : TE := fun σ H Q => t σ H fun vs H1 => sp (vs ++ dvs) H1 Q E
/-- how the parameters are bound: us the positional arguments, kw the keywords' values by name, ds the defaults that fill up -/
def Binds (K : PySem.W.Frag) (fd : FuncData) (ps : List Str) (ds : List Value) : Prop :=
  ∀ (s : Shared) (us : List Value), K.In s.heap → (us ++ ds).length = ps.length → BindsTo s fd ⟨us, []⟩ (ps.zip (us ++ ds))
/-- every parameter is given -/
theorem Binds.all {K : PySem.W.Frag} {fd : FuncData} {ps : List Str} (h : ∀ us : List Value, us.length = ps.length → bindArgs fd ⟨us, []⟩ = pure (ps.zip us)) : Binds K fd ps [] := fun s us _ hl => by
  rw [List.append_nil] at hl ⊢
  exact .of_eq (h us hl)

/-- an exception of a callee reaches what this body wants of exceptions -/
def Passes (CX : CXT) (X : Cx) (E : XK) : Prop := ∀ (pins : List (Addr × Obj)) (σ : St) (H : Hp) (s : Shared) (e : Value) (s' : Shared), Inv X pins σ H s → CX X.stack H s E e s' → X.xe e s'

section
variable {cm : Bool} {X : Cx} {CX : CXT} {k : Nat} {f C : Addr} {fd : FuncData} {ps : List Str} {sp : Sp} {dvs : List V} {ds : List Value} {E : XK} {x m : Str} {p pos apos : Pos} {e o : Expr} {es : List Expr} {ta : TE} {t : TA}

/-- the callee runs -/
theorem run_fn {pins : List (Addr × Obj)} {σ : St} {H : Hp} {s : Shared} {Q : VK} {us : List Value} {vs : List V} (F : FnOk X.prog X.w X.K X.mg X.base CX k f fd ps sp cm) (hr : Room k X.A cm) (hb : Binds X.K fd ps ds) (hd : Vals dvs ds) (hx : Passes CX X E)
    (I : Inv X pins σ H s) (r : Vals vs us) (h : sp (vs ++ dvs) H Q E) : wpAny (model X.prog X.w) X.A (call (.ref f) us) (EP X pins σ Q) X.xe s := by
  have r2 : Vals (vs ++ dvs) (us ++ ds) := r.append hd
  have hl : (us ++ ds).length = ps.length := by rw [← r2.length]; exact F.len _ _ _ _ h
  refine wpAny_call (codeAny_mono (F.run X.A X.stack s H ⟨us, []⟩ (us ++ ds) (vs ++ dvs) Q E hr I.env0 (hb s us I.kIn hl) r2 h) fun r s' hq => ?_)
  cases r with
  | error e => exact hx pins σ H s e s' I hq
  | ok fl =>
    cases fl with
    | ret u => exact I.after hq
    | next => exact False.elim hq
    | brk => exact False.elim hq
    | cont => exact False.elim hq

theorem pe_call (F : FnOk X.prog X.w X.K X.mg X.base CX k f fd ps sp cm) (hr : Room k X.A cm) (hg : Gl X x) (hm : X.mg x = some (.ref f)) (hk : PySem.W.keepIn X.K (.ref f) = true) (hb : Binds X.K fd ps ds) (hd : Vals dvs ds) (hx : Passes CX X E)
    (ha : PA X (e :: es) t) (hdb : (x == ("__debug__" : Str)) = false := by decide) (he : starEach (e :: es) X.env = (false, eval e X.env) :: starEach es X.env := by rfl) (hpl : (backTo pos (starEach es X.env)).any (·.1) = false := by rfl) :
    PE X (.Call (.Name x p) (e :: es) [] pos) (tCall sp dvs E t) := by
  intro pins s σ H Q I h
  refine wpAny_Call_Name_kw (ld_glob I hg hm ?_ hdb)
  refine PySem.W.callWith_K (h₀ := X.base) I.ok.mod.kin hk (thn (ha pos pins s σ H _ I h) fun us s1 ⟨vs, H1, I1, r, q⟩ => ⟨I1.kIn, ?_⟩) he hpl
  exact run_fn F hr hb hd hx I1 r q
end

/-! ### keywords -/
section
variable {cm : Bool} {X : Cx} {CX : CXT} {k : Nat} {f C : Addr} {fd : FuncData} {ps ks : List Str} {sp : Sp} {E : XK} {x m : Str} {p pos apos kpos : Pos} {e o : Expr} {es : List Expr} {kws : List Keyword} {te ta : TE} {t tk : TA} {nm : Option Str}
variable {g : List Value → List Value → List Value} {gV : List V → List V → List V}
end

/-! ### a def's body keeps its promise -/
/-- names: the parameters first -/
structure FnScope (N P : List Str) (sc : Scope) : Prop where
  kind : sc.kind = .function
  co : sc.isCoroutine = false
  gen : sc.isGenerator = false
  nd : N.Nodup
  pre : N.take P.length = P
  par : ∀ x ∈ P, sc.names.lookup x = some .local ∨ sc.names.lookup x = some .cell
  nofree : ∀ y ∈ sc.names, y.2 ≠ .free

theorem bindL_out {kindOf : Str → Option NameKind} {x : Str} : ∀ {binds : List (Str × Value)} {m : Str → Option Value}, (∀ v, (x, v) ∉ binds) → bindL kindOf binds m x = m x
  | [], _, _ => rfl
  | (n, v) :: r, m, h => by
    unfold bindL
    rw [bindL_out fun w hw => h w (List.mem_cons_of_mem _ hw)]
    split
    · have : x ≠ n := by rintro rfl; exact h v List.mem_cons_self
      simp [this]
    · rfl
theorem bindC_out {kindOf : Str → Option NameKind} {x : Str} : ∀ {binds : List (Str × Value)} {m : Str → Option Value}, (∀ v, (x, v) ∉ binds) → bindC kindOf binds m x = m x
  | [], _, _ => rfl
  | (n, v) :: r, m, h => by
    unfold bindC
    rw [bindC_out fun w hw => h w (List.mem_cons_of_mem _ hw)]
    split
    · rfl
    · have : x ≠ n := by rintro rfl; exact h v List.mem_cons_self
      simp [this]
theorem bindL_get {kindOf : Str → Option NameKind} {x : Str} {v : Value} : ∀ {P : List Str} {vs : List Value} {i : Nat} {m : Str → Option Value}, P.Nodup → P[i]? = some x → vs[i]? = some v → kindOf x = some .local →
    bindL kindOf (P.zip vs) m x = some v
  | [], _, _, _, _, h, _, _ => by simp at h
  | _ :: _, [], _, _, _, _, h, _ => by simp at h
  | p :: P, w :: vs, 0, m, nd, h1, h2, hk => by
    simp at h1 h2; subst h1; subst h2
    show bindL kindOf ((p, w) :: P.zip vs) m p = _
    unfold bindL
    rw [bindL_out fun v hv => (List.nodup_cons.mp nd).1 (List.of_mem_zip hv).1, if_pos hk]
    simp
  | p :: P, w :: vs, i + 1, m, nd, h1, h2, hk => by
    show bindL kindOf ((p, w) :: P.zip vs) m x = _
    unfold bindL
    exact bindL_get (i := i) (List.nodup_cons.mp nd).2 (by simpa using h1) (by simpa using h2) hk
theorem bindC_get {kindOf : Str → Option NameKind} {x : Str} {v : Value} : ∀ {P : List Str} {vs : List Value} {i : Nat} {m : Str → Option Value}, P.Nodup → P[i]? = some x → vs[i]? = some v → kindOf x ≠ some .local →
    bindC kindOf (P.zip vs) m x = some v
  | [], _, _, _, _, h, _, _ => by simp at h
  | _ :: _, [], _, _, _, _, h, _ => by simp at h
  | p :: P, w :: vs, 0, m, nd, h1, h2, hk => by
    simp at h1 h2; subst h1; subst h2
    show bindC kindOf ((p, w) :: P.zip vs) m p = _
    unfold bindC
    rw [bindC_out fun v hv => (List.nodup_cons.mp nd).1 (List.of_mem_zip hv).1, if_neg hk]
    simp
  | p :: P, w :: vs, i + 1, m, nd, h1, h2, hk => by
    show bindC kindOf ((p, w) :: P.zip vs) m x = _
    unfold bindC
    exact bindC_get (i := i) (List.nodup_cons.mp nd).2 (by simpa using h1) (by simpa using h2) hk

/-- the names' values at the entry -/
def start (N : List Str) (vs : List V) : St := vs.map some ++ List.replicate (N.length - vs.length) none

/-- the context of a def's body, at its entry; an exception leaves the frame, then lies as CX says -/
def cxOf (CX : CXT) (P : Program) (w : World) (K : PySem.W.Frag) (mg : Str → Option Value) (base : Heap) (N : List Str) (qual : Str) (scope : Scope) (f : Addr) (cd : Value) (A : Around) (outer : List Env) (s : Shared) (H : Hp) (E : XK) (cm : Bool := true) : Cx where
  prog := P
  w := w
  K := K
  mg := mg
  base := base
  A := A.deeper (envOfC qual scope s.heap.objs.size f cd)
  N := N
  s₀ := s
  H₀ := H
  env := envOfC qual scope s.heap.objs.size f cd
  outer := outer
  stack := envOfC qual scope s.heap.objs.size f cd :: outer
  ex := []
  calm := cm
  fn := fun _ => true
  pn := []
  xe := fun e s' => wpAny (model P w) (A.deeper (envOfC qual scope s.heap.objs.size f cd)) (leaving (envOfC qual scope s.heap.objs.size f cd) e) (fun _ s'' => CX outer H s E e s'') (fun e' s'' => CX outer H s E e' s'') s'

theorem cell_has {sc : Scope} {n : Nat} {x : Str} (h : sc.names.lookup x = some .cell) : ∃ c, (cellsFrom n sc.names []).lookup x = some c := by
  have q := PySem.W.cellsFrom_some sc.names n [] (.inl h)
  exact Option.isSome_iff_exists.mp q

theorem inv_start {CX : CXT} {P : Program} {w : World} {K : PySem.W.Frag} {mg : Str → Option Value} {base : Heap} {N ps : List Str} {qual : Str} {scope : Scope} {f : Addr} {cd : Value} {A : Around} {outer : List Env} {s s1 : Shared} {H : Hp} {E : XK} {cm : Bool} {us : List Value} {vs : List V}
    (S : FnScope N ps scope) (hd : cm = true → A.handled = none) (e0 : Env0 P w K mg base A outer s H) (hl : vs.length = ps.length) (r : Vals vs us)
    (x : InCallC s s.heap.objs.size (bindL (envOfC qual scope s.heap.objs.size f cd).kindOf (ps.zip us) fun _ => none) (cellsFrom (s.heap.objs.size + 1) scope.names []) (bindC (envOfC qual scope s.heap.objs.size f cd).kindOf (ps.zip us) fun _ => none) s1) :
    Inv (cxOf CX P w K mg base N qual scope f cd A outer s H E cm) [] (start N vs) H s1 := by
  have hpl : ps.length ≤ N.length := by have := congrArg List.length S.pre; rw [List.length_take] at this; omega
  obtain ⟨h1, tk, rfl, hk⟩ := x.done
  have noA : ∀ b : Addr, b ∉ (cxOf CX P w K mg base N qual scope f cd A outer s H E cm).ex := fun b z => absurd (show b ∈ ([] : List Addr) from z) (by simp)
  refine ⟨⟨e0.mod, S.kind, rfl, rfl, Nat.le_refl _, fun y z c h1 h2 => ?_, fun y hy => ?_, fun y c _ h => ?_, hd, Around.frames_deeper e0.frames, .inr ⟨rfl, rfl⟩, fun b z => absurd z (noA b), e0.bs, e0.bsz, fun b _ _ => noA b, fun b z => absurd z (noA b), e0.funs, e0.frf⟩,
    rfl, e0.bare, Un.kept hk, ⟨_, x.toInCall.ns, fun i y v h1 h2 h3 => ?_⟩, fun y c h => ⟨_, x.cell y c h⟩, e0.hok.fresh (Nat.le_refl _), fun y c h => ?_, fun p hp => absurd (show p ∈ ([] : List (Addr × Obj)) from hp) (by simp), e0.hok.kept hk, ?_⟩
  · exact name_of_addr x.apart (PySem.mem_of_lookup h1) (PySem.mem_of_lookup h2)
  · have hy : scope.names.lookup y = some .cell ∨ scope.names.lookup y = some .free := hy
    rcases hy with hy | hy
    · exact cell_has hy
    · exact absurd rfl (S.nofree _ (PySem.mem_of_lookup hy))
  · exact Nat.le_of_lt (x.above y c (PySem.mem_of_lookup h))
  · have hi : i < vs.length := by
      unfold start at h2
      by_cases hi : i < vs.length
      · exact hi
      · rw [List.getElem?_append_right (by simpa using hi)] at h2
        rw [List.getElem?_replicate] at h2
        split at h2 <;> cases h2
    have ha : vs[i]? = some v := by
      unfold start at h2
      rw [List.getElem?_append_left (by simpa using hi), List.getElem?_map] at h2
      cases e : vs[i]? with
      | none => rw [e] at h2; cases h2
      | some a => rw [e] at h2; cases h2; rfl
    obtain ⟨u, hu, rv⟩ := r.get ha
    have hp : ps[i]? = some y := by
      rw [← S.pre, List.getElem?_take_of_lt (by omega)]; exact h1
    have ndP : ps.Nodup := by rw [← S.pre]; exact S.nd.sublist (List.take_sublist _ _)
    refine ⟨u, rv, ?_⟩
    rcases S.par y (List.mem_of_getElem? hp) with k | k
    · exact .inl ⟨k, bindL_get ndP hp hu k⟩
    · obtain ⟨c, e⟩ := cell_has (n := s.heap.objs.size + 1) k
      refine .inr ⟨.inl k, c, e, ?_⟩
      have q := x.cell y c e
      rw [bindC_get ndP hp hu (by show scope.names.lookup y ≠ _; rw [k]; decide)] at q
      exact q
  · exact e0.hok.fresh (Nat.le_of_lt (x.above y c (PySem.mem_of_lookup h)))
  · unfold start
    show _ = N.length
    rw [List.length_append, List.length_map, List.length_replicate]
    omega

/-- THE RULE: a def (or a method) of the text, by its body. The body's reading t is chosen for each entry; it is run at the parameters' values -/
theorem fn_of {CX : CXT} {P : Program} {w : World} {K : PySem.W.Frag} {mg : Str → Option Value} {base : Heap} {k : Nat} {f : Addr} {name qual : Str} {params : Arguments} {body : List Stmt} {scope : Scope} {dV kV doc pm cdv ct oc : Value} {an od : Option Addr}
    {osl : Array (Option Value)} {N ps : List Str} {sp : Sp} {cm : Bool} (lk : K.lookup f = some ⟨oc, od, .func (PySem.W.fnOf name qual params body scope dV kV doc pm an cdv ct), osl⟩) (hcd : PySem.W.codeIn K cdv qual = true) (S : FnScope N ps scope)
    (len : ∀ vs H Q E, sp vs H Q E → vs.length = ps.length)
    (hbody : ∀ (A : Around) (outer : List Env) (s : Shared) (H : Hp) (vs : List V) (Q : VK) (E : XK), Room k (A.deeper (envOfC qual scope s.heap.objs.size f cdv)) cm → sp vs H Q E →
      ∃ t, PSs (cxOf CX P w K mg base N qual scope f cdv A outer s H E cm) body t ∧ t { nx := fun _ H' => Q .non H', rt := Q } (start N vs) H) :
    FnOk P w K mg base CX (k + 1) f (PySem.W.fnOf name qual params body scope dV kV doc pm an cdv ct) ps sp cm := by
  refine ⟨len, fun A outer s H args us vs Q E hr e0 hb r hsp => ?_⟩
  have hl := len _ _ _ _ hsp
  have KX : K.In s.heap := e0.mod.kin.keeps fun b o e => (e0.bs b o e).1
  have lim : s.heap.NoLimit := e0.mod.nolimit.keeps fun b o e => (e0.bs b o e).1
  have hkind : ∀ y ∈ ps.zip us, scope.names.lookup y.1 = some .local ∨ (scope.names.lookup y.1 = some .cell ∧ ((cellsFrom (s.heap.objs.size + 1) scope.names []).lookup y.1).isSome = true) := fun ⟨n, v⟩ hy => by
    rcases S.par n (List.of_mem_zip hy).1 with q | q
    · exact .inl q
    · exact .inr ⟨q, PySem.W.cellsFrom_some _ _ _ (.inl q)⟩
  refine codeAny_call_function hr.depth (KX _ _ lk) rfl S.co S.gen rfl (PySem.W.codeRec_of KX hcd) (hb _ _ _ _ ?_)
  refine wpAny_newFunctionEnv_cells S.kind hkind fun env he s1 x => ?_
  subst he
  refine ⟨lim.keeps x.toInCall.keep, codeAny_func ?_⟩
  obtain ⟨t, ht, hq⟩ := hbody A outer s H vs Q E (hr.deeper _) hsp
  have I : Inv (cxOf CX P w K mg base N qual scope f cdv A outer s H E cm) [] (start N vs) H s1 := inv_start S hr.hd e0 hl r x
  refine wpAny_mono (ht [] s1 (start N vs) H _ I hq) (fun fl s' hs => ?_) fun e s' hs => hs
  have fin : ∀ {σ' : St} {H' : Hp} {v : V} {u : Value}, Inv (cxOf CX P w K mg base N qual scope f cdv A outer s H E cm) [] σ' H' s' → RelV v u → Q v H' → CE outer P w H s Q u s' :=
    fun {σ' H' v u} J rv q => ⟨v, H', J.os, J.bare, J.base, J.hok, rv, q⟩
  cases fl with
  | ret u =>
    obtain ⟨v, σ', H', J, rv, q⟩ := hs
    exact fin J rv q
  | next =>
    obtain ⟨σ', H', J, q⟩ := hs
    exact fin (v := V.non) (u := Value.none) J rfl q
  | brk =>
    obtain ⟨_, _, _, q⟩ := hs
    exact False.elim q
  | cont =>
    obtain ⟨_, _, _, q⟩ := hs
    exact False.elim q
end L2

namespace L2
open PySem PySem.Spec PyProof.Rows
section
variable {X : Cx} {x : Str} {p pos : Pos} {e : Expr} {es : List Expr} {t : TA} {id T : String} {r : List V → Hp → VK → Prop}

def tCB (r : List V → Hp → VK → Prop) (t : TA) : TE := fun σ H Q => t σ H fun vs H1 => r vs H1 Q
/-- f(e, ..), f a built-in function -/
theorem pe_callB (hc : CallR X (.builtin id) r) (hg : Gl X x) (hm : X.mg x = none) (hv : bootBuiltins x = some (.builtin id)) (ha : PA X (e :: es) t) (hn : x ≠ "__name__" := by decide) (hdb : (x == ("__debug__" : Str)) = false := by decide)
    (he : starEach (e :: es) X.env = (false, eval e X.env) :: starEach es X.env := by rfl) (hpl : (backTo pos (starEach es X.env)).any (·.1) = false := by rfl) : PE X (.Call (.Name x p) (e :: es) [] pos) (tCB r t) := by
  intro pins s σ H Q I h
  refine wpAny_Call_Name_kw (ld_blt I hg hm hv ?_ hn hdb)
  exact PyProof.Rows.callWith_builtin1 (thn (ha pos pins s σ H _ I h) fun us s1 ⟨vs, H1, I1, r1, q1⟩ => hc pins s1 σ H1 vs us Q I1 r1 q1) he hpl
/-- T(e, ..), T a built-in type -/
theorem pe_callTy (hc : CallR X (.type T) r) (hg : Gl X x) (hm : X.mg x = none) (hv : bootBuiltins x = some (.type T)) (ha : PA X (e :: es) t) (hn : x ≠ "__name__" := by decide) (hdb : (x == ("__debug__" : Str)) = false := by decide)
    (he : starEach (e :: es) X.env = (false, eval e X.env) :: starEach es X.env := by rfl) (hpl : (backTo pos (starEach es X.env)).any (·.1) = false := by rfl) : PE X (.Call (.Name x p) (e :: es) [] pos) (tCB r t) := by
  intro pins s σ H Q I h
  refine wpAny_Call_Name_kw (ld_blt I hg hm hv ?_ hn hdb)
  exact PyProof.Rows.callWith_type1 (thn (ha pos pins s σ H _ I h) fun us s1 ⟨vs, H1, I1, r1, q1⟩ => hc pins s1 σ H1 vs us Q I1 r1 q1) he hpl
end
end L2

namespace HT
open PySem PyProof.Rows

section
open PySem.SeqAt
open PySem.AutoSeq1 (wpAny_loadPart')
open PySem.MeetsSeq PySem.MeetsSeq2 PySem.MeetsSeq3

end

section
variable {prog : Program} {w : World} {A : Around} {E : Value → Shared → Prop} {s : Shared}

/-- t + u, t not empty -/
theorem cat_tup {t b : Addr} {vs ws : List Value} {Q : Value → Shared → Prop} (ht : IsTup s.heap t vs.toArray) (hb : IsTup s.heap b ws.toArray) (hv : vs ≠ [])
    (h1 : ws = [] → Q (.ref t) s) (h2 : ws ≠ [] → Q (.ref s.heap.objs.size) { s with heap := s.heap.push { cls := .type "tuple", data := .seq (vs ++ ws).toArray } })
    (hsz : vs.length + ws.length ≤ sizeLine) : wpAny (model prog w) A (binaryOp .Add (.ref t) (.ref b)) Q E s := by
  obtain ⟨⟨cls, dd, data, sl⟩, ho, hc, n, hd⟩ := id ht
  obtain ⟨⟨cls2, dd2, data2, sl2⟩, ho2, hc2, n2, hd2⟩ := id hb
  simp only at hc hd hc2 hd2
  subst hc hd hc2 hd2
  have e : vs.toArray ++ ws.toArray = (vs ++ ws).toArray := by simp
  by_cases hw : ws = []
  · exact concat_meets ⟨_, ho, rfl⟩ ⟨_, ho2, rfl⟩ noFill_tuple_add seq_tuple_add PySem.F.slot_tuple_add PySem.F.entry_tuple_add (PySem.F.args_tuple_add_2 _ _)
      (tuple_addW1 t b vs.toArray ws.toArray n n2 dd dd2 sl sl2 (by simpa using hv) (by simp [hw])) ⟨ho, ho2, h1 hw⟩
  · refine concat_meets ⟨_, ho, rfl⟩ ⟨_, ho2, rfl⟩ noFill_tuple_add seq_tuple_add PySem.F.slot_tuple_add PySem.F.entry_tuple_add (PySem.F.args_tuple_add_2 _ _)
      (tuple_addW2 t b vs.toArray ws.toArray n n2 dd dd2 sl sl2 (by simpa using hv) (by simpa using hw) (by rw [List.size_toArray, List.size_toArray]; exact hsz)) ⟨ho, ho2, ?_⟩
    rw [e]
    exact h2 hw

/-! ### t[a:b], not the whole -/
/-- a slice's bound as a place among n (d where it is left out) -/
def sIx (n d : Nat) : Option Int → Nat
  | none => d
  | some v => if v < 0 then (v + (n : Int)).toNat else min v.toNat n
theorem sIx_none (n d : Nat) : sIx n d none = d := rfl
theorem sIx_nat (n d k : Nat) : sIx n d (some (k : Int)) = min k n := by
  show (if (k : Int) < 0 then ((k : Int) + (n : Int)).toNat else min (k : Int).toNat n) = min k n
  rw [if_neg (by omega), Int.toNat_natCast]
end
end HT

namespace L2
open PySem PySem.Spec PyProof.Rows

/-! ### the parts of a slice -/
abbrev TO := St → Hp → (Option Int → Hp → Prop) → Prop
/-- a slice's part (left out, or an int) -/
def PO (X : Cx) (e : Option Expr) (t : TO) : Prop :=
  ∀ (pins : List (Addr × Obj)) (s : Shared) (σ : St) (H : Hp) (Q : Option Int → Hp → Prop), Inv X pins σ H s → t σ H Q →
    wpAny (model X.prog X.w) X.A (evalPart e X.env) (fun u s' => ∃ o H', Inv X pins σ H' s' ∧ IsPart u o ∧ Q o H') X.xe s
def tNoPart : TO := fun _ H Q => Q none H
def tPart (t : TE) : TO := fun σ H Q => t σ H fun x H1 => ∃ i, x = .int i ∧ Q (some i) H1

section
variable {X : Cx} {e : Expr} {te : TE} {lo hi : Option Expr} {tl th : TO} {pos p2 : Pos}

theorem po_none : PO X none tNoPart := by
  intro pins s σ H Q I h
  rw [evalPart_none]
  exact wpAny_pure ⟨none, H, I, .none, h⟩
theorem po_some (h : PE X e te) : PO X (some e) (tPart te) := by
  intro pins s σ H Q I hw
  rw [evalPart_some]
  refine thn (h pins s σ H _ I hw) fun u s1 ⟨x, H1, I1, r1, q1⟩ => ?_
  obtain ⟨i, rfl, q⟩ := q1
  obtain ⟨t, rfl⟩ := r1
  exact ⟨some i, H1, I1, .int i t, q⟩

/-- what a slice of a value is, by values: the slice object stands at sl -/
def SlR (X : Cx) (r : V → Option Int → Option Int → Hp → VK → Prop) : Prop :=
  ∀ (pins : List (Addr × Obj)) (s : Shared) (σ : St) (H : Hp) (x : V) (v vl vu : Value) (lo hi : Option Int) (sl : Addr) (Q : VK), Inv X pins σ H s → RelV x v → s.heap.IsSliceOf sl vl vu .none → IsPart vl lo → IsPart vu hi → r x lo hi H Q →
    ∃ T id, typeLookup (.type T) "__getitem__" = pure (some (.builtin id)) ∧ s.TypeIs v T ∧ wpAny (model X.prog X.w) X.A (getItem v (.ref sl)) (EP X pins σ Q) X.xe s
theorem SlR.or {r r' : V → Option Int → Option Int → Hp → VK → Prop} (h : SlR X r) (h' : SlR X r') : SlR X (fun x lo hi H Q => r x lo hi H Q ∨ r' x lo hi H Q) := by
  intro pins s σ H x v vl vu lo hi sl Q I rx hs pl pu q
  rcases q with q | q
  · exact h pins s σ H x v vl vu lo hi sl Q I rx hs pl pu q
  · exact h' pins s σ H x v vl vu lo hi sl Q I rx hs pl pu q
def tSl (r : V → Option Int → Option Int → Hp → VK → Prop) (te : TE) (tl th : TO) : TE := fun σ H Q => te σ H fun x H1 => tl σ H1 fun l H2 => th σ H2 fun u H3 => r x l u H3 Q
/-- a[lo:hi], any a -/
theorem pe_slice {r : V → Option Int → Option Int → Hp → VK → Prop} (hr : SlR X r) (he : PE X e te) (hl : PO X lo tl) (hu : PO X hi th) : PE X (.Subscript e (.Slice lo hi none p2) pos) (tSl r te tl th) := by
  intro pins s σ H Q I h
  refine Subscript_ (thn (he pins s σ H _ I h) fun v s1 ⟨x, H1, I1, r1, q1⟩ => ?_)
  refine wpAny_Slice (thn (hl pins s1 σ H1 _ I1 q1) fun vl s2 ⟨l, H2, I2, pl, q2⟩ => thn (hu pins s2 σ H2 _ I2 q2) fun vu s3 ⟨u, H3, I3, pu, q3⟩ => ?_)
  rw [evalPart_none]
  refine wpAny_pure ?_
  have I4 : Inv X pins σ H3 { s3 with heap := s3.heap.push { cls := .type "slice", data := .fields #[vl, vu, .none] } } := I3.kept (t' := s3.toks) fun b ob q => Heap.get?_push_of_some _ q
  obtain ⟨T, id, hT, ht, hg⟩ := hr pins { s3 with heap := s3.heap.push { cls := .type "slice", data := .fields #[vl, vu, .none] } } σ H3 x v vl vu l u s3.heap.objs.size Q I4 r1 (Heap.IsSliceOf.new ..) pl pu q3
  show wpAny (model X.prog X.w) X.A (subscriptTail e (.Slice lo hi none p2) v (.ref s3.heap.objs.size)) (EP X pins σ Q) X.xe { s3 with heap := s3.heap.push { cls := .type "slice", data := .fields #[vl, vu, .none] } }
  exact tail_any (ops := [.ref s3.heap.objs.size, v]) ht hT hg (by with_unfolding_all rfl)

/-- the items of xs[lo:hi] -/
def cutV (xs : List V) (lo hi : Option Int) : List V := (xs.drop (HT.sIx xs.length 0 lo)).take (HT.sIx xs.length xs.length hi - HT.sIx xs.length 0 lo)
theorem cutV_length (xs : List V) (lo hi : Option Int) : (cutV xs lo hi).length ≤ xs.length := by
  unfold cutV
  rw [List.length_take, List.length_drop]
  omega
/-! ### t < u, t + u -/
/-- t + u, t not empty: u empty gives t itself -/
def rCatT (K : PySem.W.Frag) : R2 := fun x y H Q => ∃ a b xs ys, x = .ref a ∧ y = .ref b ∧ SqT K H a xs ∧ SqT K H b ys ∧ xs ≠ [] ∧ xs.length + ys.length ≤ sizeLine ∧
  (ys = [] → Q (.ref a) H) ∧ (ys ≠ [] → ∀ p, H p = none → Q (.ref p) (upd H p (.tup (xs ++ ys))))
theorem Vals.nil_iff {xs : List V} {us : List Value} (r : Vals xs us) : us = [] ↔ xs = [] := by
  cases r with
  | nil => simp
  | cons _ _ => simp
theorem op_catT : OpR X (binaryOp .Add) (rCatT X.K) := by
  intro pins s σ H x y v u Q I rx ry h
  obtain ⟨a, b, xs, ys, rfl, rfl, ha, hb, hx, hz, q1, q2⟩ := h
  cases rx
  cases ry
  obtain ⟨its, r1, p1, _⟩ := I.tuple ha
  obtain ⟨its2, r2, p2, _⟩ := I.tuple hb
  refine HT.cat_tup p1 p2 (fun z => hx (r1.nil_iff.mp z)) (fun z => ⟨.ref a, H, I, rfl, q1 (r2.nil_iff.mp z)⟩) (fun z => ?_) (by rw [← r1.length, ← r2.length]; exact hz)
  refine ⟨.ref s.heap.objs.size, _, I.laid (t' := s.toks) (o := .tup (xs ++ ys)) (fun b ob q => Heap.get?_push_of_some _ q) (Nat.le_refl _) ?_, rfl, q2 (fun w => z (r2.nil_iff.mpr w)) _ (I.hok.fresh (Nat.le_refl _))⟩
  exact ⟨by rw [List.length_append]; exact hz, _, r1.append r2, IsTup.new _ _, tup_nodict⟩
end
end L2

namespace L2
open PySem PySem.Spec PyProof.Rows

/-! ### places -/
/-- the place that an index of any sign means -/
def ixN (n : Nat) (i : Int) : Option Nat := if 0 ≤ i then (if i < n then some i.toNat else none) else if -(n : Int) ≤ i then some (i + n).toNat else none
def atI {α : Type} (xs : List α) (i : Int) : Option α := (ixN xs.length i).bind fun j => xs[j]?
theorem ixN_seq {n : Nat} {i : Int} {j : Nat} (h : ixN n i = some j) : seqIndex? i n = some j ∧ j < n ∧ -(n : Int) ≤ i ∧ i < n := by
  unfold ixN at h
  by_cases h0 : 0 ≤ i
  · rw [if_pos h0] at h
    by_cases h1 : i < n
    · rw [if_pos h1] at h
      have e : i.toNat = j := Option.some.inj h
      exact ⟨by rw [seqIndex_of h0 h1, e], by omega, by omega, h1⟩
    · rw [if_neg h1] at h; cases h
  · rw [if_neg h0] at h
    by_cases h1 : -(n : Int) ≤ i
    · rw [if_pos h1] at h
      have e : (i + n).toNat = j := Option.some.inj h
      exact ⟨by rw [seqIndex_neg (by omega) h1, e], by omega, h1, by omega⟩
    · rw [if_neg h1] at h; cases h
theorem atI_get {α : Type} {xs : List α} {i : Int} {v : α} (h : atI xs i = some v) : ∃ j, seqIndex? i xs.length = some j ∧ xs[j]? = some v ∧ j < xs.length ∧ -(xs.length : Int) ≤ i ∧ i < xs.length := by
  unfold atI at h
  cases e : ixN xs.length i with
  | none => rw [e] at h; cases h
  | some j =>
    rw [e] at h
    obtain ⟨h1, h2, h3, h4⟩ := ixN_seq e
    exact ⟨j, h1, h, h2, h3, h4⟩
theorem atI_nat {α : Type} {xs : List α} {j : Nat} {v : α} (h : xs[j]? = some v) : atI xs (j : Int) = some v := by
  have hj : j < xs.length := (List.getElem?_eq_some_iff.mp h).1
  have e : ixN xs.length (j : Int) = some j := by
    unfold ixN
    rw [if_pos (by omega), if_pos (by omega)]; simp
  unfold atI; rw [e]; exact h
/-! ### what may be subscripted -/
/-- what stands as an index of a plain subscript -/
def PlainIx (b : Expr) : Prop := ∀ o i, subscripted b false o i = operate [o, i] (getItem o i)
/-- a subscript by values -/
def IxR (X : Cx) (r : R2) : Prop :=
  ∀ (value slice : Expr) (pins : List (Addr × Obj)) (s : Shared) (σ : St) (H : Hp) (x y : V) (v u : Value) (Q : VK), Inv X pins σ H s → RelV x v → RelV y u → r x y H Q →
    subscripted slice false v u = operate [v, u] (getItem v u) → wpAny (model X.prog X.w) X.A (subscriptTail value slice v u) (EP X pins σ Q) X.xe s
/-- a call of a builtin's method by values: the receiver, the arguments -/
def MtR (X : Cx) (id : String) (r : V → List V → Hp → VK → Prop) : Prop :=
  ∀ (pins : List (Addr × Obj)) (s : Shared) (σ : St) (H : Hp) (x : V) (xs : List V) (v : Value) (us : List Value) (Q : VK), Inv X pins σ H s → RelV x v → Vals xs us → r x xs H Q →
    wpAny (model X.prog X.w) X.A (call (.builtin id) (v :: us)) (EP X pins σ Q) X.xe s
section
variable {X : Cx} {a b : Expr} {ta tb : TE} {pos : Pos}
theorem IxR.or {r r' : R2} (h : IxR X r) (h' : IxR X r') : IxR X (fun x y H Q => r x y H Q ∨ r' x y H Q) := by
  intro value slice pins s σ H x y v u Q I rx ry q hs
  rcases q with q | q
  · exact h value slice pins s σ H x y v u Q I rx ry q hs
  · exact h' value slice pins s σ H x y v u Q I rx ry q hs
theorem MtR.or {id : String} {r r' : V → List V → Hp → VK → Prop} (h : MtR X id r) (h' : MtR X id r') : MtR X id (fun x xs H Q => r x xs H Q ∨ r' x xs H Q) := by
  intro pins s σ H x xs v us Q I rx rs q
  rcases q with q | q
  · exact h pins s σ H x xs v us Q I rx rs q
  · exact h' pins s σ H x xs v us Q I rx rs q
/-- a[b] -/
theorem pe_ix {r : R2} (hr : IxR X r) (ha : PE X a ta) (hb : PE X b tb) (hs : PlainIx b) : PE X (.Subscript a b pos) (tOp r ta tb) := by
  intro pins s σ H Q I h
  exact Subscript_ (binT ha hb I h fun v u s2 x y H2 I2 rx ry q => hr a b pins s2 σ H2 x y v u Q I2 rx ry q (hs _ _))

def rIxL (K : PySem.W.Frag) : R2 := fun x y H Q => ∃ p xs i v, x = .ref p ∧ y = .int i ∧ SqL K H p xs ∧ atI xs i = some v ∧ Q v H
def rIxT (K : PySem.W.Frag) : R2 := fun x y H Q => ∃ p xs i v, x = .ref p ∧ y = .int i ∧ SqT K H p xs ∧ atI xs i = some v ∧ Q v H
theorem ix_list : IxR X (rIxL X.K) := by
  intro value slice pins s σ H x y v u Q I rx ry h hs
  obtain ⟨p, xs, i, z, rfl, rfl, hq, he, q⟩ := h
  cases rx
  obtain ⟨t, rfl⟩ := ry
  obtain ⟨its, r, pl, hz⟩ := I.list hq
  obtain ⟨j, h1, h2, h3, h4, h5⟩ := atI_get he
  obtain ⟨w, ew, rw'⟩ := r.get h2
  have hl := r.length
  have hn := line63
  have fin : EP X pins σ Q w s := ⟨z, H, I, rw', q⟩
  by_cases h0 : 0 ≤ i
  · have hj : i.toNat = j := by
      rw [seqIndex_of h0 h5] at h1
      exact Option.some.inj h1
    exact item_listR pl.isList h0 (by omega) (by rw [hj]; simpa using ew) fin hs
  · have hj : (i + (its.toArray.size : Int)).toNat = j := by
      rw [seqIndex_neg (by omega) h4] at h1
      rw [List.size_toArray, ← hl]
      exact Option.some.inj h1
    exact subscriptTail_builtinR (x := w) pl.isList.typeIs slot_list_getitem.lookup
      (wpAny_getItem_list_neg (Q := fun r s' => r = w ∧ EP X pins σ Q r s') pl.isList (by omega) (by rw [List.size_toArray] <;> omega) (by omega) (by rw [hj]; simpa using ew) ⟨rfl, fin⟩) hs
theorem ix_tup : IxR X (rIxT X.K) := by
  intro value slice pins s σ H x y v u Q I rx ry h hs
  obtain ⟨p, xs, i, z, rfl, rfl, hq, he, q⟩ := h
  cases rx
  obtain ⟨t, rfl⟩ := ry
  obtain ⟨its, r, pl, hz⟩ := I.tuple hq
  obtain ⟨j, h1, h2, h3, h4, h5⟩ := atI_get he
  obtain ⟨w, ew, rw'⟩ := r.get h2
  have hl := r.length
  have hn := line63
  have fin : EP X pins σ Q w s := ⟨z, H, I, rw', q⟩
  exact subscriptTail_builtinR (x := w) pl.typeIs slot_tuple_getitem.lookup
    (getItem_tuple (j := j) (Q := fun r s' => r = w ∧ EP X pins σ Q r s') pl (by omega) (by omega) (by rw [List.size_toArray, ← hl]; exact h1) (by simpa using ew) ⟨rfl, fin⟩) hs
/-! ### xs[i] = v, any sign -/
/-- the list's object behind a store -/
theorem mapSeq_set (its : List Value) (n j : Nat) (u : Value) : Obj.mapSeq (·.setIfInBounds j u) { cls := .type "list", data := .seq its.toArray n } = { cls := .type "list", data := .seq (its.set j u).toArray n } := by
  simp [Obj.mapSeq]
theorem Inv.lst {pins : List (Addr × Obj)} {σ : St} {H : Hp} {s : Shared} {p : Addr} {xs : List V} (I : Inv X pins σ H s) (h : H p = some (.lst xs)) :
    ∃ (its : List Value) (n : Nat), Vals xs its ∧ s.heap.get? p = some { cls := .type "list", data := .seq its.toArray n } ∧ xs.length ≤ sizeLine := by
  obtain ⟨z, its, n, r, e⟩ := I.hok p _ h
  exact ⟨its, n, r, e, z⟩
/-- the list at p is written by an update of its object -/
theorem Inv.lstUpd {pins : List (Addr × Obj)} {σ : St} {H : Hp} {s : Shared} {p : Addr} {xs ys : List V} {its its' : List Value} {n n' : Nat} {f : Obj → Obj} (I : Inv X pins σ H s) (h : H p = some (.lst xs))
    (ho : s.heap.get? p = some { cls := .type "list", data := .seq its.toArray n }) (hf : f { cls := .type "list", data := .seq its.toArray n } = { cls := .type "list", data := .seq its'.toArray n' }) (r : Vals ys its') (hz : ys.length ≤ sizeLine) (t : Nat) :
    Inv X pins σ (upd H p (.lst ys)) { s with heap := s.heap.update p f, toks := t } := by
  have e : (s.heap.update p f).get? p = some { cls := .type "list", data := .seq its'.toArray n' } := by
    rw [Heap.get?_update_self f ho (by rw [hf] <;> rfl), hf]
  refine I.write (x := p) (e := p) (by rw [h]; trivial) (.inl rfl) (fun b u hb q => (Heap.get?_update_other _ _ (Ne.symm hb)).trans q) ⟨_, e⟩ ?_
  exact ⟨hz, its', n', r, e⟩
def rSetL : V → V → V → Hp → (Hp → Prop) → Prop := fun o i v H Q => ∃ p xs k j, o = .ref p ∧ i = .int k ∧ H p = some (.lst xs) ∧ ixN xs.length k = some j ∧ Q (upd H p (.lst (xs.set j v)))
theorem set_list : PSet X rSetL := by
  intro pins s σ H o i v ov iv u Q I ro ri rv h
  obtain ⟨p, xs, k, j, rfl, rfl, hp, hj, q⟩ := h
  cases ro
  obtain ⟨t, rfl⟩ := ri
  obtain ⟨its, n, r, ho, hz⟩ := I.lst hp
  obtain ⟨h1, h2, h3, h4⟩ := ixN_seq hj
  have hl := r.length
  have hn := line63
  have I' : Inv X pins σ (upd H p (.lst (xs.set j v))) { s with heap := s.heap.update p (Obj.mapSeq (·.setIfInBounds j u)) } :=
    I.lstUpd hp ho (mapSeq_set its n j u) (r.set rv j) (by rw [List.length_set]; exact hz) s.toks
  by_cases h0 : 0 ≤ k
  · have hk : k.toNat = j := by
      rw [seqIndex_of h0 h4] at h1
      exact Option.some.inj h1
    exact PySem.W.ki_setAt ho h0 (by omega) (by rw [List.size_toArray, ← hl]; exact h4) (by rw [hk]; exact ⟨_, I', q⟩)
  · have hk : (k + (its.toArray.size : Int)).toNat = j := by
      rw [seqIndex_neg (by omega) h3] at h1
      rw [List.size_toArray, ← hl]
      exact Option.some.inj h1
    exact PySem.W.ki_setBack ho (by omega) (by rw [List.size_toArray, ← hl]; exact h3) (by omega) (by rw [hk]; exact ⟨_, I', q⟩)

/-! ### slices -/
theorem slice_bounds (lo hi : Option Int) (n : Nat) : (sliceBounds lo hi none n).1 = ((HT.sIx n 0 lo : Nat) : Int) ∧ (sliceBounds lo hi none n).2.1 = ((HT.sIx n n hi : Nat) : Int) ∧ (sliceBounds lo hi none n).2.2 = 1 := by
  refine ⟨?_, ?_, rfl⟩
  · cases lo with
    | none => simp [sliceBounds, HT.sIx]
    | some i =>
      simp only [sliceBounds, HT.sIx, Option.getD_none, show (1 : Int) > 0 by decide, if_true]
      by_cases h : i < 0
      · simp only [h, if_true] <;> omega
      · simp only [h, if_false] <;> omega
  · cases hi with
    | none => simp [sliceBounds, HT.sIx]
    | some i =>
      simp only [sliceBounds, HT.sIx, Option.getD_none, show (1 : Int) > 0 by decide, if_true]
      by_cases h : i < 0
      · simp only [h, if_true] <;> omega
      · simp only [h, if_false] <;> omega
theorem slicePick_cut (its : List Value) (lo hi : Option Int) : slicePick its.toArray lo hi none = ((its.drop (HT.sIx its.length 0 lo)).take (HT.sIx its.length its.length hi - HT.sIx its.length 0 lo)).toArray := by
  obtain ⟨h1, h2, h3⟩ := slice_bounds lo hi its.toArray.size
  unfold slicePick
  rw [h1, h2, h3]
  simp only [sliceRange_one, pick_run, List.size_toArray] <;> rfl
/-- xs[lo:hi] of a list: a new list -/
def rSlL (K : PySem.W.Frag) : V → Option Int → Option Int → Hp → VK → Prop := fun x lo hi H Q => ∃ a xs, x = .ref a ∧ SqL K H a xs ∧ ∀ p, H p = none → Q (.ref p) (upd H p (.lst (cutV xs lo hi)))
theorem sl_list : SlR X (rSlL X.K) := by
  intro pins s σ H x v vl vu lo hi sl Q I rx hs pl pu h
  obtain ⟨a, xs, rfl, hx, q⟩ := h
  cases rx
  obtain ⟨its, r, ht, hz⟩ := I.list hx
  have hlen := r.length
  refine ⟨"list", _, slot_list_getitem.lookup, ht.isList.typeIs, ?_⟩
  refine wpAny_getItem_list_slice ht.isList hs pl pu .none (by simp) ?_ (by rw [List.size_toArray] <;> omega)
  rw [slicePick_cut, ← hlen]
  refine ⟨.ref s.heap.objs.size, _, I.laid (t' := s.toks) (o := .lst (cutV xs lo hi)) (fun b ob q => Heap.get?_push_of_some _ q) (Nat.le_refl _) ?_, rfl, q _ (I.hok.fresh (Nat.le_refl _))⟩
  exact ⟨Nat.le_trans (cutV_length xs lo hi) hz, _, 0, (r.drop (HT.sIx xs.length 0 lo)).take (HT.sIx xs.length xs.length hi - HT.sIx xs.length 0 lo), Heap.get?_push_size _ rfl⟩

/-! ### in, not in: flat items -/
def flatV : V → Bool
  | .non => true
  | .bl _ => true
  | .int _ => true
  | .str _ => true
  | _ => false
/-- == of flat values -/
def eqV : V → V → Bool
  | .non, .non => true
  | .bl a, .bl b => a == b
  | .bl a, .int b => (if a then 1 else 0) == b
  | .int a, .bl b => a == (if b then 1 else 0)
  | .int a, .int b => a == b
  | .str a, .str b => a == b
  | _, _ => false
theorem eqAt_V {A : Around} {s : Shared} {y x : V} {u v : Value} (ry : RelV y u) (rx : RelV x v) (fy : flatV y = true) (fx : flatV x = true) : SeqAt.EqAt A s u v (eqV y x) := by
  cases y with
  | non =>
    cases ry
    cases x with
    | non => cases rx; exact SeqAt.EqAt.same _
    | bl b => cases rx; exact SeqAt.EqAt.none_bool b
    | int b => obtain ⟨t, rfl⟩ := rx; exact SeqAt.EqAt.none_int b t
    | str b => obtain ⟨t, rfl⟩ := rx; exact SeqAt.EqAt.none_str b t
    | _ => exact absurd (show false = true from fx) Bool.false_ne_true
  | bl a =>
    cases ry
    cases x with
    | non => cases rx; exact SeqAt.EqAt.bool_none a
    | bl b => cases rx; exact SeqAt.EqAt.bool_bool a b
    | int b => obtain ⟨t, rfl⟩ := rx; exact SeqAt.EqAt.bool_int a b t
    | str b => obtain ⟨t, rfl⟩ := rx; exact SeqAt.EqAt.bool_str a b t
    | _ => exact absurd (show false = true from fx) Bool.false_ne_true
  | int a =>
    obtain ⟨t', rfl⟩ := ry
    cases x with
    | non => cases rx; exact SeqAt.EqAt.int_none a t'
    | bl b => cases rx; exact SeqAt.EqAt.int_bool a t' b
    | int b => obtain ⟨t, rfl⟩ := rx; exact SeqAt.EqAt.int_int a t' b t
    | str b => obtain ⟨t, rfl⟩ := rx; exact SeqAt.EqAt.int_str a t' b t
    | _ => exact absurd (show false = true from fx) Bool.false_ne_true
  | str a =>
    obtain ⟨t', rfl⟩ := ry
    cases x with
    | non => cases rx; exact SeqAt.EqAt.str_none a t'
    | bl b => cases rx; exact SeqAt.EqAt.str_bool a t' b
    | int b => obtain ⟨t, rfl⟩ := rx; exact SeqAt.EqAt.str_int a t' b t
    | str b => obtain ⟨t, rfl⟩ := rx; exact SeqAt.EqAt.str_str a t' b t
    | _ => exact absurd (show false = true from fx) Bool.false_ne_true
  | _ => exact absurd (show false = true from fy) Bool.false_ne_true
/-- the items' answers, read off the values (a value's own answer does not lean on its token) -/
def eqU (x : V) (u : Value) : Bool := match u with
  | .none => eqV .non x
  | .bool b => eqV (.bl b) x
  | .int i _ => eqV (.int i) x
  | .str z _ => eqV (.str z) x
  | _ => false
theorem eqU_of {x y : V} {u : Value} (r : RelV y u) (f : flatV y = true) : eqU x u = eqV y x := by
  cases y with
  | non => cases r; rfl
  | bl b => cases r; rfl
  | int i => obtain ⟨t, rfl⟩ := r; rfl
  | str z => obtain ⟨t, rfl⟩ := r; rfl
  | _ => exact absurd (show false = true from f) Bool.false_ne_true
theorem mem_eqAt {A : Around} {s : Shared} {x : V} {v : Value} (rx : RelV x v) (fx : flatV x = true) : ∀ {xs : List V} {us : List Value}, Vals xs us → xs.all flatV = true → ∀ u ∈ us, SeqAt.EqAt A s u v (eqU x u)
  | _, _, .nil, _ => fun u hu => by cases hu
  | y :: xs, u :: us, .cons r t, f => fun u' hu => by
    rw [List.all_cons, Bool.and_eq_true] at f
    rcases List.mem_cons.mp hu with rfl | hu
    · rw [eqU_of r f.1]; exact eqAt_V r rx f.1 fx
    · exact mem_eqAt rx fx t f.2 u' hu
/-! ### len, list(x), tuple(x) of any list or tuple that is read -/
theorem call_len_seq : CallR X (.builtin "len") (fun xs H Q => ∃ p ys, xs = [.ref p] ∧ (SqL X.K H p ys ∨ SqT X.K H p ys) ∧ Q (.int ys.length) H) := by
  intro pins s σ H xs us Q I r h
  obtain ⟨p, ys, rfl, hq, q⟩ := h
  obtain ⟨u, rfl, rx⟩ := vals1 r
  cases rx
  have hn := line63
  rcases hq with hq | hq
  · obtain ⟨its, r', pl, hz⟩ := I.list hq
    have hlen := r'.length
    exact Calls.call_len_list pl.isList (by simp only [List.size_toArray] <;> omega) ⟨.int ys.length, H, I.tok _, ⟨s.toks + 1, by rw [List.size_toArray, hlen]⟩, q⟩
  · obtain ⟨its, r', pl, hz⟩ := I.tuple hq
    have hlen := r'.length
    exact len_tuple pl (by simp only [List.size_toArray] <;> omega) ⟨.int ys.length, H, I.tok _, ⟨s.toks + 1, by rw [List.size_toArray, hlen]⟩, q⟩
theorem CallR.or {f : Value} {r r' : List V → Hp → VK → Prop} (h : CallR X f r) (h' : CallR X f r') : CallR X f (fun xs H Q => r xs H Q ∨ r' xs H Q) := by
  intro pins s σ H xs us Q I rs q
  rcases q with q | q
  · exact h pins s σ H xs us Q I rs q
  · exact h' pins s σ H xs us Q I rs q
theorem call_tuple_of : CallR X (.type "tuple") (fun xs H Q => ∃ p ys, xs = [.ref p] ∧ ((SqL X.K H p ys ∧ ∀ l, H l = none → Q (.ref l) (upd H l (.tup ys))) ∨ (SqT X.K H p ys ∧ Q (.ref p) H))) := by
  intro pins s σ H xs us Q I r h
  obtain ⟨p, ys, rfl, h⟩ := h
  obtain ⟨u, rfl, rx⟩ := vals1 r
  cases rx
  rcases h with ⟨hq, q⟩ | ⟨hq, q⟩
  · obtain ⟨its, r', pl, hz⟩ := I.list hq
    have hlen := r'.length
    refine call_tuple_list pl.isList (fun h' kp => ?_) (by simp only [List.size_toArray] <;> omega)
    have I1 : Inv X pins σ H { s with heap := h' } := I.kept (t' := s.toks) kp
    have I2 : Inv X pins σ (upd H h'.objs.size (.tup ys)) { s with heap := h'.push { cls := .type "tuple", data := .seq its.toArray } } :=
      I1.laid (t' := s.toks) (fun b o e => Heap.get?_push_of_some _ e) (Nat.le_refl _) (show ObjOk X.prog X.w _ _ _ (.tup ys) from ⟨hz, its, r', IsTup.new _ _, tup_nodict⟩)
    exact ⟨.ref h'.objs.size, _, I2, rfl, q _ (I1.hok.fresh (Nat.le_refl _))⟩
  · obtain ⟨its, r', pl, hz⟩ := I.tuple hq
    exact call_tuple_same pl ⟨.ref p, H, I, rfl, q⟩

/-! ### the call of a builtin's method: o.m(..) -/
/-- the value is of that builtin type -/
def tyV (K : PySem.W.Frag) (T : String) (x : V) (H : Hp) : Prop := match x with
  | .str _ => T = "str"
  | .int _ => T = "int"
  | .ref p => (T = "list" ∧ ∃ xs, SqL K H p xs) ∨ (T = "tuple" ∧ ((∃ o, K.lookup p = some o ∧ o.cls = .type "tuple" ∧ o.dict = none) ∨ ∃ xs, H p = some (.tup xs))) ∨
      (T = "dict" ∧ ((∃ kvs, H p = some (.dK kvs)) ∨ ∃ kvs, H p = some (.dT kvs))) ∨ (T = "set" ∧ ∃ S n, H p = some (.set S n))
  | _ => False
theorem tyV_is {pins : List (Addr × Obj)} {σ : St} {H : Hp} {s : Shared} {T : String} {x : V} {v : Value} (I : Inv X pins σ H s) (r : RelV x v) (ty : tyV X.K T x H) :
    s.TypeIs v T ∧ ∀ a, v = .ref a → ∃ ob, s.heap.get? a = some ob ∧ ob.dict = none := by
  cases x with
  | str z =>
    obtain ⟨t, rfl⟩ := r
    cases (show T = "str" from ty)
    exact ⟨typeIs_str s z t, fun _ e => nomatch e⟩
  | int i =>
    obtain ⟨t, rfl⟩ := r
    cases (show T = "int" from ty)
    exact ⟨typeIs_int s i t, fun _ e => nomatch e⟩
  | ref p =>
    cases r
    rcases ty with ⟨rfl, xs, hq⟩ | ⟨rfl, ⟨o, hk, hc, hd⟩ | ⟨xs, hk⟩⟩ | ⟨rfl, hk⟩ | ⟨rfl, S, n, hk⟩
    · obtain ⟨its, _, pl, _⟩ := I.list hq
      refine ⟨pl.isList.typeIs, fun a e => ?_⟩
      cases e
      obtain ⟨o, n, e, c, hd, _⟩ := pl
      exact ⟨o, e, hd⟩
    · refine ⟨⟨o, I.kIn p o hk, hc⟩, fun a e => ?_⟩
      cases e
      exact ⟨o, I.kIn _ o hk, hd⟩
    · obtain ⟨_, _, _, ⟨o, e, hc, _⟩, nd⟩ := (show ObjOk X.prog X.w H s.heap p (.tup xs) from I.hok p _ hk)
      refine ⟨⟨o, e, hc⟩, fun a e2 => ?_⟩
      cases e2
      exact ⟨o, e, nd o e⟩
    · have z : ∃ o, s.heap.get? p = some o ∧ o.ExactDict := by
        rcases hk with ⟨kvs, hk⟩ | ⟨kvs, hk⟩
        · obtain ⟨_, _, _, _, o, _, _, e, ex, _⟩ := I.hok p _ hk
          exact ⟨o, e, ex⟩
        · obtain ⟨_, _, _, _, o, _, _, e, ex, _⟩ := I.hok p _ hk
          exact ⟨o, e, ex⟩
      obtain ⟨o, e, ex⟩ := z
      refine ⟨⟨o, e, ex.1⟩, fun a e2 => ?_⟩
      cases e2
      exact ⟨o, e, ex.2.1⟩
    · obtain ⟨o, _, _, _, e, ex, _⟩ := I.hok p _ hk
      refine ⟨⟨o, e, ex.1⟩, fun a e2 => ?_⟩
      cases e2
      exact ⟨o, e, ex.2.1⟩
  | _ => exact False.elim ty
def tBM (K : PySem.W.Frag) (T : String) (r : V → List V → Hp → VK → Prop) (to : TE) (t : TA) : TE := fun σ H Q => to σ H fun x H1 => tyV K T x H1 ∧ t σ H1 fun xs H2 => r x xs H2 Q
variable {o e : Expr} {es : List Expr} {to : TE} {t : TA} {name : Str} {apos cpos : Pos} {T id : String} {r : V → List V → Hp → VK → Prop}
theorem pe_bm (pa : PlainAttrs T) (slot : Slot T name id) (hty : typeOf (.builtin id) = pure (.type "method_descriptor")) (hm : MtR X id r) (ho : PE X o to) (ha : PA X (e :: es) t)
    (hbase : attributeBase o name X.env (eval o X.env) = eval o X.env := by rfl)
    (hfew : ((backTo cpos (starEach (e :: es) X.env)).all (fun x => !x.1) && (backToKw cpos (keywordEach [] X.env)).all (fun x => x.1.isSome)
      && decide ((e :: es).length + ([] : List Keyword).length + (if ([] : List Keyword).isEmpty then 0 else 1) < 30)) = true := by rfl)
    (hline : (apos.endLine == cpos.line) = true := by rfl) (hs : starEach (e :: es) X.env = (false, eval e X.env) :: starEach es X.env := by rfl) (hplain : (backTo cpos (starEach es X.env)).any (·.1) = false := by rfl) :
    PE X (.Call (.Attribute o name apos) (e :: es) [] cpos) (tBM X.K T r to t) := by
  intro pins s σ H Q I h
  refine wpAny_Call_method_late hbase hfew hline rfl (thn (ho pins s σ H _ I h) fun v s1 ⟨x, H1, I1, r1, ty, q1⟩ => ?_)
  obtain ⟨h1, h2⟩ := tyV_is I1 r1 ty
  refine ⟨T, id, pa, slot, hty, h1, h2, ?_⟩
  have hA := ha cpos pins s1 σ H1 _ I1 q1
  rw [hs] at hA ⊢
  refine Calls.callWith_builtin (by show (false || (backTo cpos (starEach es X.env)).any (·.1)) = false; rw [hplain] <;> rfl) (Calls.evalArgs_plain ?_)
  exact thn hA fun us s2 ⟨vs, H2, I2, r2, q2⟩ => hm pins s2 σ H2 x vs v us Q I2 r1 r2 q2
/- xs.append(e), list.index on a module's tuple .. are MtR facts of 06m -/
end
end L2

namespace L2
open PySem PySem.Spec PyProof.Rows

def MtM (X : Cx) (id : String) (r : V → List V → Hp → VK → Prop) : Prop :=
  ∀ (pins : List (Addr × Obj)) (s : Shared) (σ : St) (H : Hp) (x : V) (xs : List V) (v : Value) (us : List Value) (Q : VK), Inv X pins σ H s → RelV x v → Vals xs us → r x xs H Q →
    wpAny (model X.prog X.w) X.A (call (.builtin id) (v :: us)) (EP X pins σ Q) X.xe s

/-! ### lists of values -/
theorem Vals.one : ∀ {x : V} {us : List Value}, Vals [x] us → ∃ u, us = [u] ∧ RelV x u
  | _, _, .cons r .nil => ⟨_, rfl, r⟩
theorem Vals.two : ∀ {x y : V} {us : List Value}, Vals [x, y] us → ∃ u v, us = [u, v] ∧ RelV x u ∧ RelV y v
  | _, _, _, .cons r (.cons q .nil) => ⟨_, _, rfl, r, q⟩
theorem Vals.zero : ∀ {us : List Value}, Vals [] us → us = []
  | _, .nil => rfl
theorem Vals.eraseIdx : ∀ {xs : List V} {us : List Value} (i : Nat), Vals xs us → Vals (xs.eraseIdx i) (us.eraseIdx i)
  | _, _, _, .nil => .nil
  | _, _, 0, .cons _ t => t
  | _, _, i + 1, .cons r t => .cons r (Vals.eraseIdx i t)
theorem Vals.reverse {xs : List V} {us : List Value} (h : Vals xs us) : Vals xs.reverse us.reverse := by
  induction h with
  | nil => exact .nil
  | cons r t ih => rw [List.reverse_cons, List.reverse_cons]; exact Vals.append ih (.cons r .nil)
theorem Vals.rep {xs : List V} {us : List Value} (h : Vals xs us) : ∀ k : Nat, Vals (List.replicate k xs).flatten (List.replicate k us).flatten
  | 0 => .nil
  | k + 1 => by
    rw [List.replicate_succ, List.replicate_succ, List.flatten_cons, List.flatten_cons]
    exact Vals.append h (Vals.rep h k)
theorem len_erase {α : Type} : ∀ (l : List α) (i : Nat), (l.eraseIdx i).length ≤ l.length
  | [], _ => Nat.le_refl _
  | _ :: _, 0 => Nat.le_succ _
  | _ :: r, i + 1 => Nat.succ_le_succ (len_erase r i)
theorem foldl_rep (its : List Value) : ∀ (k : Nat) (acc : List Value),
    List.foldl (fun x1 x2 => x1 ++ x2) acc.toArray (List.replicate k its.toArray) = (acc ++ (List.replicate k its).flatten).toArray
  | 0, acc => by simp
  | k + 1, acc => by
    have e : acc.toArray ++ its.toArray = (acc ++ its).toArray := by simp
    have e2 : (acc ++ its) ++ (List.replicate k its).flatten = acc ++ (List.replicate (k + 1) its).flatten := by
      rw [List.replicate_succ, List.flatten_cons, List.append_assoc]
    rw [← e2, ← foldl_rep its k (acc ++ its), ← e, List.replicate_succ, List.foldl_cons]

section
variable {X : Cx} {pins : List (Addr × Obj)} {σ : St} {H : Hp} {s : Shared} {l b : Addr} {xs ys zs : List V}

/-! ### the two steps: a tracked list is rewritten, a new list is laid -/
theorem Inv.lset {its its' : List Value} {n : Nat} {f : Array Value → Array Value} {t' : Nat} (I : Inv X pins σ H s) (hH : H l = some (.lst xs))
    (e : s.heap.get? l = some { cls := .type "list", data := .seq its.toArray n }) (hf : f its.toArray = its'.toArray) (hv : Vals ys its') (hz : ys.length ≤ sizeLine) :
    Inv X pins σ (upd H l (.lst ys)) { s with heap := s.heap.update l (Obj.mapSeq f), toks := t' } := by
  have q := PySem.IsL.update e f
  rw [hf] at q
  refine I.write (x := l) (e := l) (by rw [hH]; exact trivial) (.inl rfl) (fun b' u hb hu => (Heap.get?_update_other s.heap (Obj.mapSeq f) (Ne.symm hb)).trans hu) ⟨_, q⟩ ?_
  exact ⟨hz, its', _, hv, q⟩
theorem Inv.fresh (I : Inv X pins σ H s) : H s.heap.objs.size = none := I.hok.fresh (Nat.le_refl _)
theorem Inv.lstM (I : Inv X pins σ H s) (hH : H l = some (.lst xs)) : xs.length ≤ sizeLine ∧ ∃ (its : List Value) (n : Nat), Vals xs its ∧ xs.length = its.length ∧ s.heap.get? l = some { cls := .type "list", data := .seq its.toArray n } := by
  obtain ⟨z, its, n, r, e⟩ := I.hok l _ hH
  exact ⟨z, its, n, r, r.length, e⟩

theorem notLongL {n : Nat} (h : n ≤ sizeLine) : Builtin.List.listTooLong n = false := by
  unfold Builtin.List.listTooLong
  exact decide_eq_false (by omega)
end

section
variable {X : Cx}

/-! ### methods -/
def rAppend : V → List V → Hp → VK → Prop := fun x vs H Q => ∃ l xs y, x = .ref l ∧ vs = [y] ∧ H l = some (.lst xs) ∧ xs.length < sizeLine ∧ Q .non (upd H l (.lst (xs ++ [y])))
theorem mt_append : MtM X "list.append" rAppend := by
  intro pins s σ H x vs v us Q I rx rv h
  obtain ⟨l, xs, y, rfl, rfl, hH, hz, q⟩ := h
  cases rx
  obtain ⟨u, rfl, ru⟩ := rv.one
  obtain ⟨z, its, n, r, hl, e⟩ := I.lstM hH
  refine call_meets F.slot_list_append ⟨_, e, rfl⟩ F.entry_list_append (F.args_list_append_2 _ _) (PySem.list_append l its.toArray n u (by rw [List.size_toArray]; omega)) ⟨e, ?_⟩
  refine ⟨.non, _, I.lset (its' := its ++ [u]) hH e (by simp) (r.append (.cons ru .nil)) ?_, rfl, q⟩
  rw [List.length_append, List.length_singleton]
  omega

def rExtend : V → List V → Hp → VK → Prop := fun x vs H Q => ∃ l b xs zs, x = .ref l ∧ vs = [.ref b] ∧ H l = some (.lst xs) ∧ H b = some (.lst zs) ∧ xs.length + zs.length ≤ sizeLine ∧ Q .non (upd H l (.lst (xs ++ zs)))
theorem mt_extend : MtM X "list.extend" rExtend := by
  intro pins s σ H x vs v us Q I rx rv h
  obtain ⟨l, b, xs, zs, rfl, rfl, hH, hB, hz, q⟩ := h
  cases rx
  obtain ⟨u, rfl, ru⟩ := rv.one
  cases ru
  obtain ⟨z, its, n, r, hl, e⟩ := I.lstM hH
  obtain ⟨z2, its2, n2, r2, hl2, e2⟩ := I.lstM hB
  have hsz : its.toArray.size + its2.toArray.size ≤ sizeLine := by rw [List.size_toArray, List.size_toArray]; omega
  have hlong : ¬ (!its.toArray.isEmpty && Builtin.List.listTooLong (its.toArray.size + its2.toArray.size)) = true := by
    rw [notLongL hsz, Bool.and_false]
    exact Bool.false_ne_true
  refine call_meets F.slot_list_extend ⟨_, e, rfl⟩ F.entry_list_extend (F.args_list_extend_2 _ _)
    (AutoSeq1.list_extend_list_list_0 l its.toArray n b its2.toArray n2 hlong (by rw [List.size_toArray]; omega) (by omega)) ⟨e, e2, ?_⟩
  refine ⟨.non, _, I.lset (its' := its ++ its2) hH e (by simp) (r.append r2) ?_, rfl, q⟩
  rw [List.length_append]
  omega

def rPopAt : V → List V → Hp → VK → Prop := fun x vs H Q => ∃ l xs i k y, x = .ref l ∧ vs = [.int i] ∧ H l = some (.lst xs) ∧ -(2 ^ 63) ≤ i ∧ i < 2 ^ 63 ∧ seqIndex? i xs.length = some k ∧ xs[k]? = some y ∧ Q y (upd H l (.lst (xs.eraseIdx k)))
theorem mt_popAt : MtM X "list.pop" rPopAt := by
  intro pins s σ H x vs v us Q I rx rv h
  obtain ⟨l, xs, i, k, y, rfl, rfl, hH, h1, h2, hk, hy, q⟩ := h
  cases rx
  obtain ⟨u, rfl, ru⟩ := rv.one
  obtain ⟨t, rfl⟩ := ru
  obtain ⟨z, its, n, r, hl, e⟩ := I.lstM hH
  obtain ⟨w, hw, rw'⟩ := r.get hy
  refine call_meets F.slot_list_pop ⟨_, e, rfl⟩ F.entry_list_pop (F.args_list_pop_2 _ _)
    (MeetsSeq.list_pop_at l its.toArray n i t k w (fitsIndex_both h1 h2) (by rw [List.size_toArray, ← hl]; exact hk) (by rw [← Array.getElem?_toList]; exact hw) (by rw [List.size_toArray]; omega)) ⟨e, ?_⟩
  refine ⟨y, _, I.lset (its' := its.eraseIdx k) hH e ?_ (r.eraseIdx k) ?_, rw', q⟩
  · show its.toArray.eraseIdxIfInBounds k = (its.eraseIdx k).toArray
    rw [List.eraseIdxIfInBounds_toArray]
  · have := len_erase xs k
    omega

/-! ### list + list, list += list, list * int -/
theorem len_rep {α : Type} (xs : List α) (k : Nat) : (List.replicate k xs).flatten.length = k * xs.length := by
  induction k with
  | zero => simp
  | succ k ih => rw [List.replicate_succ, List.flatten_cons, List.length_append, ih, Nat.succ_mul, Nat.add_comm]
/-! ### del xs[i] -/
end

/-! ### xs[a:b] = ys -/
section
variable {prog : Program} {w : World} {A : Around} {E : Value → Shared → Prop} {s : Shared}
end

section
variable {X : Cx}
end
end L2

namespace Att
open PySem PySem.W PySem.Calls PyProof.Rows

/-! ### the script -/
theorem ints_of_wellAll {P : Params} {h : Heap} : ∀ (ns : List Int) (vs : List Value), WellAll P h vs (ns.map WData.int) → IntsAre vs ns := by
  intro ns
  induction ns with
  | nil =>
    intro vs w
    rw [List.map_nil] at w
    cases w
    exact .nil
  | cons n ns ih =>
    intro vs w
    rw [List.map_cons] at w
    cases w with
    | cons a b =>
      cases a
      exact .cons _ _ (ih _ b)

theorem script_of {l : OpenLaw} {n : Nat} (hn : l.most = some n) {P : Params} {h : Heap} {args : List WData} {vals : List Value}
    (hpre : l.row.toRowW.claim.pre args = true) (hwl : WellAll P h vals args) :
    ∃ a vs ns, vals = [Value.ref a] ∧ args = [WData.list (ns.map WData.int)] ∧ h.get? a = some { cls := .type "list", data := .seq vs.toArray } ∧ IntsAre vs ns ∧ ns.length ≤ n := by
  have hsh : WShape.hasAll [] args [.list .int] = true := (pre_splitW hpre).1
  have hc : l.pre.holds [] { args := args } = true := (pre_splitW hpre).2
  obtain ⟨d, r, rfl, h1, h2⟩ := hasAllW_cons hsh
  obtain rfl := hasAllW_nil h2
  obtain ⟨xs, rfl, h3⟩ := hasW_list h1
  obtain ⟨ns, rfl⟩ := items_int h3
  have hlen : ns.length ≤ n := by
    unfold OpenLaw.pre at hc
    have h4 : (WTm.not (.lt (.lit (.int (n : Int))) (.len (.arg 0)))).holds [] { args := [.list (ns.map .int)] } = true := by
      have h4 := (holds_andW hc).1
      rw [hn] at h4
      exact h4
    have h5 := condW_of h4 (w_not (w_lt w_lit (w_len_list (w_arg rfl))))
    rw [List.length_map] at h5
    refine Nat.le_of_not_lt fun q => ?_
    have q' : (n : Int) < ((ns.length : Nat) : Int) := by omega
    first
      | (rw [decide_eq_true q'] at h5; exact absurd h5 (by decide))
      | (simp at h5; omega)
  cases hwl with
  | cons w1 w2 =>
    cases w2
    cases w1 with
    | list ho hall => exact ⟨_, _, ns, rfl, rfl, ho, ints_of_wellAll ns _ hall, hlen⟩

theorem post_true (l : OpenLaw) (args : List WData) : l.row.toRowW.claim.post args (.bool true) args = true :=
  postW_of (r := l.row.toRowW) (X := (true == true))
    (show WShape.has [] (.bool true) .bool = true by first | rfl | decide | simp [WShape.has, WShape.arms, WShape.armsAll])
    (show (WTm.eq .res (.lit (.bool true))).value [] { args := args, res := some (.bool true), after := args } = some (.bool (true == true)) from w_eq_bool (w_res rfl) w_lit) rfl

/-! ### the attachment: holds_open's last premise (the goal 'hc' behind k_head) from a wpAny of the law's body -/
/-- the same from a codeAny of the CALL (for a layer whose function contracts speak of calls) -/
theorem attach_call {l : OpenLaw} {n : Nat} {q : Program} {loose : List Str} {XP : (Str → Option Value) → Heap → Prop} {YP : World → Heap → Prop} {d : DefRec}
    (hn : l.most = some n) (hdf : d.params.defaults = [])
    (call : ∀ (w : World) (s₀ s₁ : Shared) (mg mb : Str → Option Value) (fa : Addr) (o : Obj) (pm cd doc : Value) (a : Addr) (vs : List Value) (ns : List Int),
      Ground q loose [] XP w s₀ mg mb s₁.heap → YP w s₁.heap →
      s₁.heap.get? fa = some o → o.data = .func (docDef d.name d.params d.body d.scope pm cd doc) → s₁.heap.CodeRec cd d.name → mg d.name = some (.ref fa) →
      s₁.heap.get? a = some { cls := .type "list", data := .seq vs.toArray } → IntsAre vs ns → ns.length ≤ n → s₁.gens = #[] →
      codeAny (model l.prog w) callerA (.call (.ref fa) ⟨[.ref a], []⟩) (fun r s' => r = .ok (.ret (.bool true)) ∧ OldK s₁.heap s'.heap ∧ s'.os = s₁.os ∧ AllBare s'.gens) s₁) :
    WalkO q loose XP YP l.row.toRowW d [] (fun f vs => PySem.call f vs) := by
  intro w s₀ s₁ mg mb G Y fa o pm cd doc dV kV ho hd hcd hD hmg hg args vals as hpre hlay hrd hwl hlo
  obtain rfl : dV = .none := Dflts.none hD hdf
  obtain rfl : kV = .none := Dflts.noKw hD
  obtain ⟨a, vs, ns, rfl, rfl, hobj, hints, hlen⟩ := script_of hn hpre hwl
  refine enter_call (codeAny_mono (call w s₀ s₁ mg mb fa o pm cd doc a vs ns G Y ho (fd_plain hd) hcd hmg hobj hints hlen hg) fun r s' hq => ?_)
  obtain ⟨rfl, h2, h3, h4⟩ := hq
  exact ⟨.inl ⟨.bool true, .bool true, [], rfl, fun _ => rfl, .bool true, post_true l _, fun _ => ⟨List.Pairwise.nil, fun _ hm => (nomatch hm)⟩⟩, h2, h3, h4⟩

/-! ### rules over ANY heap (no ledger) from facts about the written part K: the library's own take a ledger (News) for what they write -/
section
variable {prog : Program} {w : World} {A : Around} {E : Value → Shared → Prop} {s : Shared} {K : Frag}

/-! the whole heap as the ledger: makes every rule that writes through a ledger a rule over any heap -/
def ledger (h : Heap) (L d : Addr) : List (Addr × Obj) := (List.range h.objs.size).filterMap fun a => if a = L ∨ a = d then none else (h.get? a).map fun o => (a, o)
end
end Att

namespace L2
open PySem PySem.Spec PyProof.Rows

theorem vals_ints : ∀ {vs : List Value} {ns : List Int}, IntsAre vs ns → Vals (ns.map V.int) vs
  | _, _, .nil => .nil
  | _, _, .cons n t h => .cons ⟨t, rfl⟩ (vals_ints h)

/-- nothing is tracked but the script, known to the object (or it is an object of the module) -/
def Only (H : Hp) : Prop := ∀ b, H b = none ∨ ∃ o xs, H b = some (.frz o (.lst xs))

/-- THE HEAD: the law's promise, at the heap behind the top. F, the promise of the law's def, may use that base is part of the heap (so K.In base, base.Ns mainGlobals mg stand in Mod) -/
theorem law_call {P : Program} {w : World} {K : PySem.W.Frag} {mg mb : Str → Option Value} {CX : CXT} {k : Nat} {fa a : Addr} {fd : FuncData} {x : Str} {sp : Sp} {s₁ : Shared} {vs : List Value} {ns : List Int}
    (KX : K.In s₁.heap) (hns : s₁.heap.Ns mainGlobals mg) (hb : s₁.heap.Ns builtinsNs mb) (hbb : ∀ x : Str, x ≠ "__name__" → mb x = bootBuiltins x) (hlim : s₁.heap.NoLimit) (hg : s₁.gens = #[])
    (ha : s₁.heap.get? a = some { cls := .type "list", data := .seq vs.toArray }) (hi : IntsAre vs ns) (hl : ns.length ≤ sizeLine) (hr : Room k callerA)
    (F : ∀ base : Heap, K.In base → base.Ns mainGlobals mg → FnOk P w K mg base CX k fa fd [x] sp) (hbind : ∀ (s : Shared) (u : Value), BindsTo s fd ⟨[u], []⟩ [(x, u)])
    (hsp : ∀ H : Hp, Only H → SqL K H a (ns.map V.int) → sp [.ref a] H (fun v _ => v = .bl true) fun _ _ _ => False)
    (hCX : ∀ H e s', CX [] H s₁ (fun _ _ _ => False) e s' → False) :
    codeAny (model P w) callerA (.call (.ref fa) ⟨[.ref a], []⟩) (fun r s' => r = .ok (.ret (.bool true)) ∧ OldK s₁.heap s'.heap ∧ s'.os = s₁.os ∧ AllBare s'.gens) s₁ := by
  have rv := vals_ints hi
  have lenV := hi.length
  -- from an abstract heap in which nothing but the script may be tracked
  have core : ∀ H : Hp, Only H → SqL K H a (ns.map V.int) → HOk P w H s₁.heap → (∀ b, H b ≠ none → b = a) → (H a ≠ none → K.lookup a = none) →
      codeAny (model P w) callerA (.call (.ref fa) ⟨[.ref a], []⟩) (fun r s' => r = .ok (.ret (.bool true)) ∧ OldK s₁.heap s'.heap ∧ s'.os = s₁.os ∧ AllBare s'.gens) s₁ := by
    intro H hO hS hok hA hK
    have base_of : ∀ {b : Addr} {o : Obj}, s₁.heap.get? b = some o → H b = none → (hidT s₁.heap H).get? b = some o := fun e n => hidT_get e n
    have noA : ∀ {b : Addr} {o : Obj} {es : Array DictEntry} {ep : Nat}, s₁.heap.get? b = some o → o.data = .dict es ep → H b = none := fun {b o es ep} e d => by
      cases q : H b with
      | none => rfl
      | some u =>
        have e' : b = a := hA b (by rw [q]; simp)
        subst e'
        rw [ha] at e; cases e
        have d' : Data.seq vs.toArray _ = Data.dict es ep := d
        cases d'
    have nsK : ∀ {b : Addr} {m : Str → Option Value}, s₁.heap.Ns b m → (hidT s₁.heap H).Ns b m := fun {b m} ⟨o, es, ep, e, d, r⟩ => ⟨o, es, ep, base_of e (noA e d), d, r⟩
    have hKb : K.In (hidT s₁.heap H) := fun b o e => base_of (KX b o e) (by
      cases q : H b with
      | none => rfl
      | some u =>
        have e' : b = a := hA b (by rw [q]; simp)
        subst e'
        rw [hK (by rw [q]; simp)] at e; cases e)
    have hM : Mod K mg (hidT s₁.heap H) := ⟨hKb, nsK hns, ⟨mb, nsK hb, hbb⟩, let ⟨mc, h1, h2⟩ := hlim; ⟨mc, nsK h1, h2⟩⟩
    have e0 : Env0 P w K mg (hidT s₁.heap H) callerA [] s₁ H := ⟨rfl, hM, fun b o e => of_hidT e, Nat.le_of_eq (hidT_size _ _), trivial, fun b hb => absurd (show b ∈ ([] : List Addr) from hb) (by simp), hok, .of_eq hg⟩
    refine codeAny_mono ((F _ hKb (nsK hns)).run callerA [] s₁ H ⟨[.ref a], []⟩ [.ref a] [.ref a] _ _ hr e0 (hbind s₁ (.ref a)) (.cons rfl .nil) (hsp H hO hS)) fun r s' h => ?_
    cases r with
    | error e => exact (hCX H e s' h).elim
    | ok fl =>
      cases fl with
      | next => exact False.elim h
      | brk => exact False.elim h
      | cont => exact False.elim h
      | ret u =>
        obtain ⟨v, H', os, bare, un, hok', r', q⟩ := h
        have q' : v = .bl true := q
        subst q'
        obtain rfl : u = Value.bool true := r'
        refine ⟨rfl, OldK.of_keep fun b o e => ?_, os, bare⟩
        cases q : H b with
        | none => exact un.keep b o e q (by intro z; exact absurd (show b ∈ ([] : List Addr) from z) (by simp)) (by simp)
        | some u =>
          rcases hO b with z | ⟨ob, xs, z⟩
          · rw [q] at z; cases z
          · have z2 := un.frzs b ob _ z
            obtain ⟨e1, _⟩ := hok b _ z
            obtain ⟨e2, _⟩ := hok' b _ z2
            rw [e] at e1; cases e1
            exact e2
  cases hk : K.lookup a with
  | some o =>
    -- the script is one of the module's own objects
    have e := KX a o hk
    rw [ha] at e
    cases e
    refine core (fun _ => none) (fun _ => .inl rfl) (.inr ⟨_, vs.toArray, _, hk, rfl, rfl, rfl, by rw [List.size_toArray, lenV]; exact hl, by simpa using rv⟩) (fun b u z => by have z' : (none : Option HO) = some u := z; cases z') (fun b z => absurd rfl z) fun z => absurd rfl z
  | none =>
    refine core (fun b => if b = a then some (.frz { cls := .type "list", data := .seq vs.toArray } (.lst (ns.map V.int))) else none) (fun b => ?_) (.inl (.inr ⟨{ cls := .type "list", data := .seq vs.toArray }, if_pos rfl⟩)) (fun b u z => ?_) (fun b z => ?_) fun _ => hk
    · by_cases hb : b = a
      · exact .inr ⟨_, _, if_pos hb⟩
      · exact .inl (if_neg hb)
    · by_cases hb : b = a
      · have z' := (if_pos hb).symm.trans z
        cases z'
        subst hb
        exact ⟨ha, by rw [List.length_map]; exact hl, vs, _, rv, ha⟩
      · have z' := (if_neg hb).symm.trans z
        cases z'
    · by_cases hb : b = a
      · exact hb
      · exact absurd (if_neg hb) z
end L2

namespace L2
open PySem PySem.Spec PyProof.Rows

/-- the goal that k_head leaves (case hc), from the law's promise. F gives the function object fd (K's own) once, then the promise over every base -/
theorem walk_of {l : PySem.W.OpenLaw} {n k : Nat} {q : Program} {loose : List Str} {XP : (Str → Option Value) → Heap → Prop} {YP : World → Heap → Prop} {d : DefRec} {K : Params → PySem.W.Frag} {CX : World → CXT} {sp : World → Sp} {x : Str}
    (hn : l.most = some n) (hn2 : n ≤ sizeLine) (hdf : d.params.defaults = []) (hr : Room k callerA)
    (hY : ∀ (w : World) (h : Heap), YP w h → (K w.params).In h)
    (F : ∀ (w : World) (mg : Str → Option Value) (fa : Addr) (h : Heap), (K w.params).In h → h.Ns mainGlobals mg → mg d.name = some (.ref fa) →
      ∃ fd : FuncData, (∀ (s : Shared) (u : Value), BindsTo s fd ⟨[u], []⟩ [(x, u)]) ∧
        ∀ base : Heap, (K w.params).In base → base.Ns mainGlobals mg → FnOk l.prog w (K w.params) mg base (CX w) k fa fd [x] (sp w))
    (hsp : ∀ (w : World) (H : Hp) (a : Addr) (ns : List Int), ns.length ≤ n → Only H → SqL (K w.params) H a (ns.map V.int) → sp w [.ref a] H (fun v _ => v = .bl true) fun _ _ _ => False)
    (hCX : ∀ (w : World) (H : Hp) (s : Shared) (e : Value) (s' : Shared), CX w [] H s (fun _ _ _ => False) e s' → False) :
    PySem.W.WalkO q loose XP YP l.row.toRowW d [] (fun f vs => PySem.call f vs) := by
  refine Att.attach_call hn hdf fun w s₀ s₁ mg mb fa o pm cd doc a vs ns G Y ho hd hcd hmg hobj hints hlen hg => ?_
  have KX := hY w _ Y
  obtain ⟨fd, hb, hF⟩ := F w mg fa _ KX G.T.g hmg
  exact law_call KX G.T.g G.T.b G.T.builtins G.T.nolimit hg hobj hints (Nat.le_trans hlen hn2) hr hF hb (fun H hO hS => hsp w H a ns hlen hO hS) fun H e s' => hCX w H s₁ e s'
end L2

/- THE LAST THEOREM (shape; LID, My.* are yours):
   My.Adr: a structure of the addresses that your layer names (classes, functions); My.Txt K t: a structure (Prop) of the equations over K;
   My.txt_mk : {K} {implicit addresses ..} (e1 : nsIn K mainGlobals "law" = some (some (.ref f))) (e2 : K.lookup f = some ⟨oc, od, .func (fnOf "law" "law" params body scope dV kV doc pm an cdv ct), sl⟩) (e3 : codeIn K cdv "law" = true) .. : ∃ t, My.Txt K t

(the tactic k_is has no namespace: write k_is) -/

/-! SHORT WORDS over the layer: a def of the text, its body, what a loop and a test want. -/
namespace L2
open PySem PySem.Spec PyProof.Rows

/-! ### the text by places -/
def defArgs (s : Stmt) : Arguments := match s with
  | .FunctionDef _ a _ _ _ _ _ _ _ _ => a
  | _ => { posonlyargs := [], args := [], vararg := none, kwonlyargs := [], kw_defaults := [], kwarg := none, defaults := [] }
def defBody (s : Stmt) : List Stmt := match s with
  | .FunctionDef _ _ b _ _ _ _ _ _ _ => b
  | _ => []
def defScope (s : Stmt) : Scope := match s with
  | .FunctionDef _ _ _ _ _ _ sc _ _ _ => sc
  | _ => { kind := .function, names := [], isGenerator := false, isCoroutine := false }

/-! ### no exception leaves a def -/
abbrev CX0 : CXT := fun _ _ _ _ _ _ => False
abbrev E0 : XK := fun _ _ _ => False
theorem pass0 {X : Cx} : Passes CX0 X E0 := fun _ _ _ _ _ _ _ h => h.elim

/-! ### a def (or method) of the text as it stands behind the top -/
structure Fun (K : PySem.W.Frag) (x qual : Str) (st : Stmt) (f : Addr) (fd : FuncData) : Prop where
  ex : ∃ (oc : Value) (od : Option Addr) (kV doc pm : Value) (an : Option Addr) (cdv ct : Value) (osl : Array (Option Value)),
    fd = PySem.W.fnOf x qual (defArgs st) (defBody st) (defScope st) .none kV doc pm an cdv ct ∧ K.lookup f = some ⟨oc, od, .func fd, osl⟩ ∧ PySem.W.codeIn K cdv qual = true
  kp : PySem.W.keepIn K (.ref f) = true
section
variable {P : Program} {w : World} {K : PySem.W.Frag} {mg : Str → Option Value} {base : Heap}
/-- THE RULE for a def: its body as a term of rules, and the reading of that term -/
theorem Fun.ok {x qual : Str} {st : Stmt} {f : Addr} {fd : FuncData} {N ps : List Str} {k : Nat} {sp : Sp} {cm : Bool} (F : Fun K x qual st f fd) (S : FnScope N ps (defScope st)) (len : ∀ vs H Q E, sp vs H Q E → vs.length = ps.length)
    (hbody : ∀ (cdv : Value) (A : Around) (outer : List Env) (s : Shared) (H : Hp) (vs : List V) (Q : VK) (E : XK), Room k (A.deeper (envOfC qual (defScope st) s.heap.objs.size f cdv)) cm → sp vs H Q E →
      ∃ t, PSs (cxOf CX0 P w K mg base N qual (defScope st) f cdv A outer s H E cm).nox (defBody st) t ∧ t { nx := fun _ H' => Q .non H', rt := Q } (start N vs) H) : FnOk P w K mg base CX0 (k + 1) f fd ps sp cm := by
  obtain ⟨oc, od, kV, doc, pm, an, cdv, ct, osl, rfl, lk, hcd⟩ := F.ex
  refine fn_of lk hcd S len fun A outer s H vs Q E hr hsp => ?_
  obtain ⟨t, h, q⟩ := hbody cdv A outer s H vs Q E hr hsp
  exact ⟨t, h.nox, q⟩
/-- how its arguments bind (no defaults): h is «fun _ _ _ _ _ _ us hl => match us, hl with | [_, _], _ => rfl», one _ a parameter -/
theorem Fun.binds {x qual : Str} {st : Stmt} {f : Addr} {fd : FuncData} {ps : List Str} (F : Fun K x qual st f fd)
    (h : ∀ (kV doc pm : Value) (an : Option Addr) (cdv ct : Value) (us : List Value), us.length = ps.length → bindArgs (PySem.W.fnOf x qual (defArgs st) (defBody st) (defScope st) .none kV doc pm an cdv ct) ⟨us, []⟩ = pure (ps.zip us)) : Binds K fd ps [] := by
  obtain ⟨oc, od, kV, doc, pm, an, cdv, ct, osl, rfl, lk, hcd⟩ := F.ex
  exact .all (h kV doc pm an cdv ct)
theorem fun_mk {x qual : Str} {st : Stmt} {f : Addr} {oc : Value} {od an : Option Addr} {osl : Array (Option Value)} {kV doc pm cdv ct : Value} (l : K.lookup f = some ⟨oc, od, .func (PySem.W.fnOf x qual (defArgs st) (defBody st) (defScope st) .none kV doc pm an cdv ct), osl⟩)
    (c : PySem.W.codeIn K cdv qual = true) (k : PySem.W.keepIn K (.ref f) = true) : Fun K x qual st f (PySem.W.fnOf x qual (defArgs st) (defBody st) (defScope st) .none kV doc pm an cdv ct) := ⟨⟨oc, od, kV, doc, pm, an, cdv, ct, osl, rfl, l, c⟩, k⟩
end
/-! ### expressions in short: the name that stands in the i-th slot -/
section
variable {X : Cx}
theorem pv (i : Nat) {x : Str} {pos : Pos} (hN : X.N[i]? = some x := by rfl) (hv : Vis X.env.scope x := by first | exact Or.inl rfl | exact Or.inr (Or.inl rfl) | exact Or.inr (Or.inr rfl)) (hd : (x == ("__debug__" : Str)) = false := by decide)
    (hcd : (x == ("__classdict__" : Str)) = false := by decide) : PE X (.Name x pos) (tVar i) := pe_var hN hv hd hcd
end

/-! ### tests -/
theorem iteF {A B : Prop} (h : B) : if false = true then A else B := by
  rw [if_neg Bool.false_ne_true]
  exact h
theorem iteT {A B : Prop} (h : A) : if true = true then A else B := by
  rw [if_pos rfl]
  exact h
theorem ite2 {c A B : Prop} [Decidable c] (h1 : c → A) (h2 : ¬ c → B) : if c then A else B := by
  by_cases h : c
  · rw [if_pos h]
    exact h1 h
  · rw [if_neg h]
    exact h2 h
theorem iteNS {c A B : Prop} [Decidable c] (hc : c) (h : B) : if (!decide c) = true then A else B := by
  rw [decide_eq_true hc]
  exact iteF h

/-! ### heaps -/
/-- all that was tracked is as it was -/
def Same (H H' : Hp) : Prop := ∀ b o, H b = some o → H' b = some o
theorem Same.refl (H : Hp) : Same H H := fun _ _ h => h
theorem Same.trans {H H1 H2 : Hp} (a : Same H H1) (b : Same H1 H2) : Same H H2 := fun c o h => b c o (a c o h)
theorem Same.free {H H' : Hp} (e : Same H H') {l : Addr} (h : H' l = Option.none) : H l = Option.none := by
  cases q : H l with
  | none => rfl
  | some o =>
    rw [e l o q] at h
    cases h
theorem Same.seq {K : PySem.W.Frag} {H H' : Hp} {a : Addr} {xs : List V} (e : Same H H') (h : SqL K H a xs) : SqL K H' a xs := by
  rcases h with (h | ⟨o, h⟩) | h
  · exact .inl (.inl (e _ _ h))
  · exact .inl (.inr ⟨o, e _ _ h⟩)
  · exact .inr h

end L2

set_option Elab.async false
set_option linter.all false
set_option maxRecDepth 100000
/-! ### list comprehensions (one for, none or one test) -/
namespace L2
open PySem PySem.Spec PyProof.Rows

section
variable {prog : Program} {w : World} {A : Around} {R : Result → Shared → Prop} {s : Shared}
theorem comp_loop_any {elt target iter : Expr} {ifs : List Expr} {scope : Scope} {pos : Pos} {it acc : Value} {env : Env} (I : Nat → Shared → Prop)
    (turn : ∀ n s, I n s → wpAny (model prog w) A (pyNext it) (fun r s₁ => match r with
      | none => R (.ok .next) s₁
      | some v => wpAny (model prog w) A (letOwnedTupleGo target it v) (fun _ s₁' => wpAny (model prog w) A (assign target env v) (fun _ s₂ =>
          wpAny (model prog w) A (forIn ifs true fun c r => if r = true then do let ok ← isTrue c env (eval c env); pure (ForInStep.yield ok) else pure (ForInStep.yield r)) (fun ok s₃ =>
            if ok = true then wpAny (model prog w) A (eval elt env) (fun x s₄ =>
              wpAny (model prog w) A (call (.builtin "list.append") [acc, x]) (fun _ s₅ => ∃ m, m < n ∧ I m s₅) (notedBy (model prog w) A env fun e s' => R (.error e) s') s₄) (notedBy (model prog w) A env fun e s' => R (.error e) s') s₃
            else ∃ m, m < n ∧ I m s₃) (notedBy (model prog w) A env fun e s' => R (.error e) s') s₂) (notedBy (model prog w) A env fun e s' => R (.error e) s') s₁') (notedBy (model prog w) A env fun e s' => R (.error e) s') s₁) (notedBy (model prog w) A env fun e s' => R (.error e) s') s)
    (n : Nat) (h : I n s) :
    codeAny (model prog w) A (.compLoop (.ListComp elt [⟨target, iter, ifs, 0⟩] scope pos) 0 it acc env) R s := by
  refine codeAny_loop rfl I (fun n s hI => ?_) n h
  show wpAny _ A ((compTurn (.ListComp elt [⟨target, iter, ifs, 0⟩] scope pos) 0 it acc env).onRaise (fun x => do noteFrame x env; theTreesLotGoes x)) _ _ s
  refine wpAny_noted ?_
  rw [compTurn_list]
  refine wpAny_bind (wpAny_standAt (wpAny_bind (wpAny_mono (turn n s hI) (fun r s₁ h₁ => ?_) fun _ _ h' => h')))
  cases r with
  | none => exact wpAny_pure h₁
  | some v =>
    refine wpAny_bind (wpAny_mono h₁ (fun _ s₁' h₁ => ?_) fun _ _ h' => h')
    refine wpAny_bind (wpAny_mono h₁ (fun _ s₂ h₂ => wpAny_bind (wpAny_mono h₂ (fun ok s₃ h₃ => ?_) fun _ _ h' => h')) fun _ _ h' => h')
    cases ok with
    | false => exact wpAny_pure ⟨rfl, h₃⟩
    | true =>
      exact wpAny_bind (wpAny_bind (wpAny_mono h₃ (fun x s₄ h₄ => wpAny_bind (wpAny_mono h₄ (fun _ s₅ h₅ => wpAny_pure (wpAny_pure ⟨rfl, h₅⟩)) fun _ _ h' => h')) fun _ _ h' => h'))
end

/-- the closure of a comprehension's block -/
def closL (env : Env) : List (Str × NameKind) → List (Str × Addr) → List (Str × Addr)
  | [], cs => cs
  | (n, k) :: r, cs => closL env r (if k == .free then (n, (env.cells.lookup n).getD 0) :: cs else cs)
def clos (scope : Scope) (env : Env) : List (Str × Addr) := closL env scope.names []
theorem forIn_closL {env : Env} : ∀ (ns : List (Str × NameKind)) (cs : List (Str × Addr)), (∀ x ∈ ns, x.2 = .free → ∃ c, env.cells.lookup x.1 = some c) →
    (forIn ns cs fun (x : Str × NameKind) (r : List (Str × Addr)) => (match x with | (name, kind) => if kind == .free then do let c ← cellOf env name; pure (ForInStep.yield ((name, c) :: r)) else pure (ForInStep.yield r) : Sem (ForInStep (List (Str × Addr))))) = (pure (closL env ns cs) : Sem (List (Str × Addr)))
  | [], cs, _ => rfl
  | (n, k) :: r, cs, h => by
    rw [List.forIn_cons]
    by_cases hk : k = .free
    · subst hk
      obtain ⟨c, hc⟩ := h (n, .free) List.mem_cons_self rfl
      have e : cellOf env n = pure c := by
        have hc' : env.cells.lookup n = some c := hc
        unfold cellOf; rw [hc']
      simp only [beq_self_eq_true, if_true, e, pure_bind]
      rw [forIn_closL r _ fun x hx => h x (List.mem_cons_of_mem _ hx)]
      have hc' : env.cells.lookup n = some c := hc
      simp [closL, hc']
    · have hb : (k == NameKind.free) = false := by simpa using hk
      simp only [hb, Bool.false_eq_true, if_false, pure_bind]
      rw [forIn_closL r _ fun x hx => h x (List.mem_cons_of_mem _ hx)]
      simp [closL, hb]
theorem closureFor_eq {scope : Scope} {env : Env} (h : ∀ x ∈ scope.names, x.2 = .free → ∃ c, env.cells.lookup x.1 = some c) : closureFor scope env = pure (clos scope env) := by
  unfold closureFor clos
  have := forIn_closL (env := env) scope.names [] h
  simp only [bind_pure]
  exact this
theorem closL_look {env : Env} {x : Str} {c : Addr} : ∀ (ns : List (Str × NameKind)) (cs : List (Str × Addr)), (∀ y ∈ ns, y.2 = .free → ∃ c, env.cells.lookup y.1 = some c) → (∀ c, cs.lookup x = some c → env.cells.lookup x = some c) →
    (closL env ns cs).lookup x = some c → env.cells.lookup x = some c
  | [], cs, _, hc, e => hc c e
  | (n, k) :: r, cs, h, hc, e => by
    refine closL_look r _ (fun y hy => h y (List.mem_cons_of_mem _ hy)) (fun c' e' => ?_) e
    by_cases hk : k = .free
    · subst hk
      obtain ⟨c₁, h₁⟩ := h (n, .free) List.mem_cons_self rfl
      have h₁' : env.cells.lookup n = some c₁ := h₁
      simp only [beq_self_eq_true, if_true, List.lookup_cons] at e'
      cases hx : x == n with
      | true =>
        rw [hx] at e'
        have hxn : x = n := by simpa using hx
        subst hxn
        rw [h₁'] at e' ⊢
        exact e'
      | false => rw [hx] at e'; exact hc c' e'
    · have hb : (k == NameKind.free) = false := by simpa using hk
      simp only [hb, Bool.false_eq_true, if_false] at e'
      exact hc c' e'
theorem closL_has {env : Env} {x : Str} : ∀ (ns : List (Str × NameKind)) (cs : List (Str × Addr)), ((x, NameKind.free) ∈ ns ∨ ∃ c, cs.lookup x = some c) → ∃ c, (closL env ns cs).lookup x = some c
  | [], cs, h => h.elim (fun z => nomatch z) fun z => z
  | (n, k) :: r, cs, h => by
    refine closL_has r _ ?_
    rcases h with h | ⟨c, h⟩
    · rcases List.mem_cons.mp h with e | h
      · cases e
        right
        simp
      · exact .inl h
    · right
      by_cases hk : k = .free
      · subst hk
        simp only [beq_self_eq_true, if_true, List.lookup_cons]
        cases x == n with
        | true => exact ⟨_, rfl⟩
        | false => exact ⟨c, h⟩
      · have hb : (k == NameKind.free) = false := by simpa using hk
        simp only [hb, Bool.false_eq_true, if_false]
        exact ⟨c, h⟩

theorem relabel_back {env : Env} {x : Str} {k' : NameKind} : ∀ {names : List (Str × NameKind)},
    (names.map fun (n, k) => if (k == NameKind.free && env.scope.kind == .function && env.kindOf n == some .cell) then (n, NameKind.cell) else (n, k)).lookup x = some k' →
    ∃ k, names.lookup x = some k ∧ (x, k) ∈ names ∧ (k' = k ∨ (k = .free ∧ k' = .cell))
  | [], h => by simp at h
  | (n, k) :: r, h => by
    have ih := @relabel_back env x k' r
    have h' : List.lookup x ((if (k == NameKind.free && env.scope.kind == .function && env.kindOf n == some .cell) = true then (n, NameKind.cell) else (n, k)) :: r.map fun (n, k) => if (k == NameKind.free && env.scope.kind == .function && env.kindOf n == some .cell) then (n, NameKind.cell) else (n, k)) = some k' := h
    cases hx : x == n with
    | true =>
      have hxn : x = n := by simpa using hx
      subst hxn
      refine ⟨k, by simp, List.mem_cons_self, ?_⟩
      by_cases hc : (k == NameKind.free && env.scope.kind == .function && env.kindOf x == some .cell) = true
      · rw [if_pos hc] at h'
        simp at h'
        have hk : k = .free := by
          cases k <;> simp at hc ⊢
        exact .inr ⟨hk, h'.symm⟩
      · rw [if_neg hc] at h'
        simp at h'
        exact .inl h'.symm
    | false =>
      have h2 : (r.map fun (n, k) => if (k == NameKind.free && env.scope.kind == .function && env.kindOf n == some .cell) then (n, NameKind.cell) else (n, k)).lookup x = some k' := by
        by_cases hc : (k == NameKind.free && env.scope.kind == .function && env.kindOf n == some .cell) = true
        · rw [if_pos hc] at h'; simp only [List.lookup_cons, hx] at h'; exact h'
        · rw [if_neg hc] at h'; simp only [List.lookup_cons, hx] at h'; exact h'
      obtain ⟨k0, e1, e2, e3⟩ := ih h2
      exact ⟨k0, by simp only [List.lookup_cons, hx]; exact e1, List.mem_cons_of_mem _ e2, e3⟩

/-- the block's context: s, H at the entry, ex the iterator's records -/
def cxC (X : Cx) (scope : Scope) (N : List Str) (C : Addr) (s : Shared) (H : Hp) (ex : List Addr) : Cx :=
  { X with N := N, s₀ := s, H₀ := H, env := compEnvC scope (clos scope X.env) C X.env, outer := X.stack, stack := X.stack, ex := ex, fn := fun _ => false, pn := [], xe := fun _ _ => False }

/-- a comprehension's scope in X; fr: its free names with their slots in X -/
structure CScope (X : Cx) (scope : Scope) (ls : List Str) (fr : List (Str × Nat)) : Prop where
  kind : scope.kind = .function
  nocell : ∀ y ∈ scope.names, y.2 ≠ .cell
  names : ∀ y ∈ scope.names, y.2 = .local → scope.names.lookup y.1 = some .local
  free : ∀ y ∈ scope.names, y.2 = .free → X.env.kindOf y.1 = some .cell ∨ X.env.kindOf y.1 = some .free
  slots : ∀ p ∈ fr, X.N[p.2]? = some p.1 ∧ scope.names.lookup p.1 = some .free

def startC (ls : List Str) (fr : List (Str × Nat)) (σ : St) : St := ls.map (fun _ => none) ++ fr.map fun p => (σ[p.2]?).join
section
variable {X : Cx} {scope : Scope} {ls : List Str} {fr : List (Str × Nat)}
theorem CScope.cells {pins : List (Addr × Obj)} {σ : St} {H : Hp} {s : Shared} (S : CScope X scope ls fr) (I : Inv X pins σ H s) : ∀ x ∈ scope.names, x.2 = .free → ∃ c, X.env.cells.lookup x.1 = some c :=
  fun x hx hk => I.ok.has x.1 (S.free x hx hk)
theorem CScope.look {pins : List (Addr × Obj)} {σ : St} {H : Hp} {s : Shared} (S : CScope X scope ls fr) (I : Inv X pins σ H s) {x : Str} {c : Addr} (e : (clos scope X.env).lookup x = some c) : X.env.cells.lookup x = some c :=
  closL_look scope.names [] (S.cells I) (fun _ z => by simp at z) e

theorem comp_ok {pins : List (Addr × Obj)} {σ : St} {H : Hp} {s : Shared} {C : Addr} {ex : List Addr} (S : CScope X scope ls fr) (I : Inv X pins σ H s) (hC : s.heap.objs.size ≤ C) (hex : ∀ b ∈ ex, FpOk X pins H b ∧ b < s.heap.objs.size) :
    (cxC X scope (ls ++ fr.map (·.1)) C s H ex).Ok where
  mod := I.ok.mod
  kind := S.kind
  glob := I.ok.glob
  blt := I.ok.blt
  above := hC
  inj := fun x y c e1 e2 => I.ok.inj x y c (S.look I e1) (S.look I e2)
  has := fun x h => by
    have h' : ∃ k', (relabel scope X.env).names.lookup x = some k' ∧ (k' = .cell ∨ k' = .free) := h.elim (fun z => ⟨_, z, .inl rfl⟩) fun z => ⟨_, z, .inr rfl⟩
    obtain ⟨k', e, hk⟩ := h'
    obtain ⟨k, e1, e2, e3⟩ := relabel_back e
    refine closL_has scope.names [] (.inl ?_)
    have hn := S.nocell _ e2
    rcases e3 with rfl | ⟨rfl, _⟩
    · rcases hk with rfl | rfl
      · exact absurd rfl hn
      · exact e2
    · exact e2
  cab := fun x c h => nomatch h
  hd := I.ok.hd
  frames := I.ok.frames
  stk := .inl rfl
  exf := fun b hb => by
    obtain ⟨⟨f0, f1, f2, f3, f4, f5⟩, hl⟩ := hex b hb
    exact ⟨Nat.ne_of_lt (Nat.lt_of_lt_of_le hl hC), fun x c e => f4 x c (S.look I e)⟩
  bs := I.bs
  bsz := Nat.le_trans I.ok.bsz I.sz
  noex := fun b o e hb => by
    obtain ⟨⟨f0, f1, f2, f3, f4, f5⟩, hl⟩ := hex b hb
    rcases f3 with z | z
    · exact I.ok.noex b o e z
    · exact absurd (Nat.lt_of_lt_of_le (Heap.lt_size e) (Nat.le_trans I.ok.bsz z)) (Nat.lt_irrefl _)
  exfs := fun b hb hf => by
    obtain ⟨⟨f0, f1, f2, f3, f4, f5⟩, hl⟩ := hex b hb
    exact (List.mem_cons.mp (I.stkSub b hf)).elim f1 f2
  funs := I.stack
  frf := I.stkFree

theorem comp_inv {pins : List (Addr × Obj)} {σ : St} {H : Hp} {s s' : Shared} {C : Addr} {m : Str → Option Value} {ex : List Addr} (S : CScope X scope ls fr) (I : Inv X pins σ H s) (hC : s.heap.objs.size ≤ C) (hex : ∀ b ∈ ex, FpOk X pins H b ∧ b < s.heap.objs.size)
    (ho : s'.os = s.os) (hg : AllBare s'.gens) (k : ∀ b o, s.heap.get? b = some o → s'.heap.get? b = some o) (hn : s'.heap.Ns C m) : Inv (cxC X scope (ls ++ fr.map (·.1)) C s H ex) [] (startC ls fr σ) H s' where
  ok := comp_ok S I hC hex
  os := ho
  bare := hg
  base := Un.kept k
  loc := by
    refine ⟨m, hn, fun i x v e1 e2 e3 => ?_⟩
    have e2' : (ls.map (fun _ => (none : Option V)) ++ fr.map fun p => (σ[p.2]?).join)[i]? = some (some v) := e2
    have e1' : (ls ++ fr.map (·.1))[i]? = some x := e1
    by_cases hi : i < ls.length
    · rw [List.getElem?_append_left (by simpa using hi), List.getElem?_map] at e2'
      cases q : ls[i]? with
      | none => rw [q] at e2'; cases e2'
      | some y => rw [q] at e2'; cases e2'
    · have hi' : ls.length ≤ i := Nat.le_of_not_lt hi
      rw [List.getElem?_append_right (by simpa using hi'), List.getElem?_map, List.length_map] at e2'
      rw [List.getElem?_append_right hi', List.getElem?_map] at e1'
      cases q : fr[i - ls.length]? with
      | none => rw [q] at e1'; cases e1'
      | some p =>
        rw [q] at e1' e2'
        have ex1 : p.1 = x := Option.some.inj e1'
        have hp : p ∈ fr := List.mem_of_getElem? q
        obtain ⟨hsl, hfree⟩ := S.slots p hp
        subst ex1
        have hv : σ[p.2]? = some (some v) := by
          have z : (σ[p.2]?).join = some v := Option.some.inj e2'
          cases w : σ[p.2]? with
          | none => rw [w] at z; cases z
          | some o => rw [w] at z; exact congrArg some z
        obtain ⟨m0, hn0, hl⟩ := id I.loc
        have vis' : ∃ k', (relabel scope X.env).names.lookup p.1 = some k' ∧ (k' = .local ∨ k' = .cell ∨ k' = .free) := by
          rcases e3 with z | z | z
          · exact ⟨_, z, .inl rfl⟩
          · exact ⟨_, z, .inr (.inl rfl)⟩
          · exact ⟨_, z, .inr (.inr rfl)⟩
        obtain ⟨k', ek, _⟩ := vis'
        obtain ⟨k0, f1, f2, f3⟩ := relabel_back ek
        rw [hfree] at f1
        cases f1
        have hk := S.free _ f2 rfl
        have hk' : k' = .cell ∨ k' = .free := f3.elim .inr fun z => .inl z.2
        have hvis : Vis X.env.scope p.1 := hk.elim (fun z => .inr (.inl z)) fun z => .inr (.inr z)
        obtain ⟨u, ru, lk⟩ := hl p.2 p.1 v hsl hv hvis
        obtain ⟨c', hc'⟩ : ∃ c, (clos scope X.env).lookup p.1 = some c := closL_has scope.names [] (.inl f2)
        refine ⟨u, ru, .inr ⟨hk'.elim (fun z => .inl (z ▸ ek)) fun z => .inr (z ▸ ek), c', hc', ?_⟩⟩
        rcases lk with ⟨z, _⟩ | ⟨_, c, ec, ic⟩
        · rcases hk with y | y <;> (rw [y] at z; cases z)
        · have := S.look I hc'
          rw [ec] at this
          cases this
          exact ic.keeps k
  cell := fun x c e => by
    obtain ⟨v, z⟩ := I.cell x c (S.look I e)
    exact ⟨v, z.keeps k⟩
  free := I.hok.fresh hC
  freeC := fun x c e => I.freeC x c (S.look I e)
  pin := fun p hp => nomatch hp
  hok := I.hok.kept k
  len := by simp [startC, cxC]

/-- none or one test -/
def PF (X : Cx) (ifs : List Expr) (t : TT) : Prop :=
  ∀ (pins : List (Addr × Obj)) (s : Shared) (σ : St) (H : Hp) (Q : Bool → Hp → Prop), Inv X pins σ H s → t σ H Q →
    wpAny (model X.prog X.w) X.A (forIn ifs true fun c r => if r = true then do let ok ← isTrue c X.env (eval c X.env); pure (ForInStep.yield ok) else pure (ForInStep.yield r)) (TP X pins σ Q) X.xe s
def tYes : TT := fun _ H Q => Q true H
theorem pf_nil {X : Cx} : PF X [] tYes := fun pins s σ H Q I h => wpAny_tests_nil ⟨H, I, h⟩
theorem pf_one {X : Cx} {c : Expr} {t : TT} (h : PT X c t) : PF X [c] t := fun pins s σ H Q I hw => wpAny_tests_one (h pins s σ H Q I hw)

/-- the list that was grown aside is tracked -/
theorem HOk.add {P : Program} {w : World} {H : Hp} {h : Heap} {a : Addr} {o : HO} (x : HOk P w H h) (hn : H a = none) (new : ObjOk P w (upd H a o) h a o) : HOk P w (upd H a o) h := fun b u e => by
  by_cases hb : b = a
  · subst hb; rw [upd_same] at e; cases e; exact new
  · rw [upd_ne hb] at e
    exact (x b u e).stay (fun _ _ _ q => q) (fun c q => by rw [upd_ne (ne_of_none q hn)]; exact q) fun c xs q => by rw [upd_ne (ne_of_none q hn)]; exact q
theorem Un.add {fs ex : List Addr} {H H' : Hp} {h h' : Heap} {a : Addr} {o : HO} (u : Un fs ex H H' h h') (ha : h.objs.size ≤ a) (hn : H' a = none) : Un fs ex H (upd H' a o) h h' where
  keep := u.keep
  slot := u.slot
  free := fun b ob q n hx => by rw [upd_ne (Nat.ne_of_lt (Nat.lt_of_lt_of_le (Heap.lt_size q) ha))]; exact u.free b ob q n hx
  there := u.there
  tups := fun b xs q => by
    have z := u.tups b xs q
    rw [upd_ne (ne_of_none z hn)]; exact z
  frzs := fun b ob xs q => by
    have z := u.frzs b ob xs q
    rw [upd_ne (ne_of_none z hn)]; exact z
  tbls := fun b ps q => by
    obtain ⟨more, z⟩ := u.tbls b ps q
    exact ⟨more, by rw [upd_ne (ne_of_none z hn)]; exact z⟩

/-- W: the invariant by the turn, a measure and the list so far -/
def tCompK (g : TG) (tf : TT) (te : TE) (σ0 : St) (J : It) (H : Hp) (Q : VK) : Prop :=
  ∃ W : Nat → Nat → List V → St → Hp → Prop, (∃ m, W 0 m [] σ0 H) ∧ ∀ i m ys σ H, W i m ys σ H →
    (J.stop i H ∧ ys.length ≤ sizeLine ∧ ∀ p, H p = none → Q (.ref p) (upd H p (.lst ys))) ∨
    (J.go i H ∧ ys.length ≤ sizeLine ∧ ∃ N : List V → St → Hp → Prop, (∀ ys σ' H', N ys σ' H' → ∃ m', m' < m ∧ W (i + 1) m' ys σ' H') ∧ ∀ x H1, J.yld i H x H1 → g x σ H1 fun σ2 H2 => tf σ2 H2 fun b H3 => if b = true then te σ2 H3 fun v H4 => N (ys ++ [v]) σ2 H4 else N ys σ2 H3)
def tComp (wi : TI) (ls : List Str) (fr : List (Str × Nat)) (g : TG) (tf : TT) (te : TE) : TE := fun σ H Q => wi σ H fun J H1 => tCompK g tf te (startC ls fr σ) J H1 Q

/-- the block, from the iterator on -/
theorem comp_block {pins : List (Addr × Obj)} {σ : St} {H : Hp} {s : Shared} {it : Addr} {fp : List Addr} {tn : Nat → Heap → Prop} {J : It} {tg elt iter : Expr} {ifs : List Expr} {pos : Pos} {g : TG} {tf : TT} {te : TE} {Q : VK} {E : Value → Shared → Prop} {RR : Value → Addr → Result → Shared → Prop}
    (S : CScope X scope ls fr) (hc : X.calm = true) (I : Inv X pins σ H s) (T : Turn X.prog X.w X.K tg J fp it tn) (st : tn 0 s.heap) (hf : ∀ b ∈ fp, FpOk X pins H b) (hq : tCompK g tf te (startC ls fr σ) J H Q)
    (hg : ∀ C s H ex, PG (cxC X scope (ls ++ fr.map (·.1)) C s H ex) tg g) (ht : ∀ C s H ex, PF (cxC X scope (ls ++ fr.map (·.1)) C s H ex) ifs tf) (he : ∀ C s H ex, PE (cxC X scope (ls ++ fr.map (·.1)) C s H ex) elt te)
    (hRR : ∀ (D C : Addr) (s' : Shared) (H' : Hp) (m : Str → Option Value), Inv X pins σ H' s' → s'.heap.Ns C m → s.heap.objs.size ≤ C → H' C = none → Q (.ref D) H' → RR (.ref D) C (.ok .next) s') :
    wpAny (model X.prog X.w) X.A (newList []) (fun acc s₃ => wpAny (model X.prog X.w) X.A (newFunctionEnv scope X.env.globals (clos scope X.env) [] X.env.qual none .none (some X.env)) (fun cenv s₄ =>
      codeAny (model X.prog X.w) X.A (.compStart (.ListComp elt [⟨tg, iter, ifs, 0⟩] scope pos) 0 (.ref it) acc { cenv with scope := relabel scope X.env }) (RR acc cenv.locals) s₄) E s₃) E s := by
  refine wpAny_newObj_type (wpAny_newFunctionEnv S.nocell (by intro y hy; simp at hy) (fun h₁ hns₁ hsb₁ => ?_) S.kind)
  dsimp only at hns₁ hsb₁ ⊢
  generalize hH2 : s.heap.push { cls := .type "list", dict := none, data := .seq ([] : List Value).toArray } = H2 at hns₁ hsb₁ ⊢
  have hC : H2.objs.size = s.heap.objs.size + 1 := by rw [← hH2, Heap.size_push]
  have hDC : s.heap.objs.size ≠ H2.objs.size := by rw [hC]; exact Nat.ne_of_lt (Nat.lt_succ_self _)
  have hCle : s.heap.objs.size ≤ H2.objs.size := by rw [hC]; exact Nat.le_succ _
  have below : ∀ b, b < s.heap.objs.size → b ≠ H2.objs.size ∧ b ≠ s.heap.objs.size := fun b hb => ⟨by rw [hC]; exact Nat.ne_of_lt (Nat.lt_succ_of_lt hb), Nat.ne_of_lt hb⟩
  have old : ∀ b o, s.heap.get? b = some o → h₁.get? b = some o := fun b o e => hsb₁.extBut b o (below b (Heap.lt_size e)).1 (Heap.get?_push_of_some _ (hH2 ▸ Heap.get?_push_of_some _ e))
  have hacc : h₁.PlainList s.heap.objs.size #[] := ⟨_, hsb₁.extBut _ _ hDC (Heap.get?_push_of_some _ (hH2 ▸ Heap.get?_push_size _ rfl))⟩
  have hfl : ∀ b ∈ fp, b < s.heap.objs.size := fun b hb => by
    obtain ⟨o, e, _⟩ := T.obj _ _ st b hb
    exact Heap.lt_size e
  have hex : ∀ b ∈ fp, FpOk X pins H b ∧ b < s.heap.objs.size := fun b hb => ⟨hf b hb, hfl b hb⟩
  generalize hs4 : ({ s with heap := h₁, toks := s.toks + ([] : List (Str × Value)).length } : Shared) = s4
  generalize hX : cxC X scope (ls ++ fr.map (·.1)) H2.objs.size s H fp = Y
  have I4 : Inv Y [] (startC ls fr σ) H s4 := by
    rw [← hX, ← hs4]
    exact comp_inv S I hCle hex rfl I.bare old hns₁
  have YP : Y.prog = X.prog := by rw [← hX]; rfl
  have Yw : Y.w = X.w := by rw [← hX]; rfl
  have YK : Y.K = X.K := by rw [← hX]; rfl
  have YA : Y.A = X.A := by rw [← hX]; rfl
  have Yc : Y.calm = true := by rw [← hX]; exact hc
  have Yx : Y.xe = fun _ _ => False := by rw [← hX]; rfl
  have Yl : Y.env.locals = H2.objs.size := by rw [← hX]; rfl
  have Yok : (cxC X scope (ls ++ fr.map (·.1)) H2.objs.size s H fp).Ok := comp_ok S I hCle hex
  have fpY : ∀ {H' : Hp} {o : Obj}, (∀ b ∈ fp, H' b = none) → ∀ b ∈ fp, FpOk Y [(s.heap.objs.size, o)] H' b := fun {H' o} hn b hb => by
    rw [← hX]
    obtain ⟨f0, f1, f2, f3, f4, f5⟩ := hf b hb
    refine ⟨hn b hb, (below b (hfl b hb)).1, fun z => Yok.exfs b hb z, .inl hb, fun x c e => f4 x c (S.look I e), fun p hp => ?_⟩
    have e : p = (s.heap.objs.size, o) := by simpa [cxC] using hp
    subst e
    exact Ne.symm (below b (hfl b hb)).2
  have pinD : ∀ {σ' : St} {H' : Hp} {s' : Shared} {its : Array Value} {n : Nat}, Inv Y [] σ' H' s' → H' s.heap.objs.size = none → s'.heap.get? s.heap.objs.size = some { cls := .type "list", data := .seq its n } →
      Inv Y [(s.heap.objs.size, { cls := .type "list", data := .seq its n })] σ' H' s' := fun {σ' H' s' its n} I' hn e => I'.pins_of fun p hp => by
    have ep : p = (s.heap.objs.size, { cls := .type "list", data := .seq its n }) := by simpa using hp
    subst ep
    refine ⟨e, hn, by rw [Yl]; exact hDC, ?_, fun v z => nomatch z⟩
    rw [← hX]
    exact fun hb => I.nofs (Nat.le_refl _) ((List.mem_cons.mp (I.stkSub _ hb)).resolve_left fun z => absurd I.lt (by rw [← z]; exact Nat.lt_irrefl _))
  obtain ⟨W, ⟨m0, w0⟩, turn⟩ := hq
  have E1 : ∀ {α : Type} {t : Sem α} {Q1 : α → Shared → Prop} {s1 : Shared} {E1 : Value → Shared → Prop}, wpAny (model X.prog X.w) X.A t Q1 Y.xe s1 → wpAny (model X.prog X.w) X.A t Q1 E1 s1 := fun h => wpAny_mono h (fun _ _ z => z) fun _ _ z => by rw [Yx] at z; exact z.elim
  have endC : ∀ {σ' : St} {H' : Hp} {s' : Shared} {its : List Value} {ys : List V}, Inv Y [] σ' H' s' → H' s.heap.objs.size = none → s'.heap.PlainList s.heap.objs.size its.toArray → Vals ys its → ys.length ≤ sizeLine →
      (∀ p, H' p = none → Q (.ref p) (upd H' p (.lst ys))) → RR (.ref s.heap.objs.size) H2.objs.size (.ok .next) s' := fun {σ' H' s' its ys} I' hn ⟨n, e⟩ rv hz q => by
    subst hX
    obtain ⟨m, hm, _⟩ := id I'.loc
    have hCn : H' H2.objs.size = none := I'.free
    refine hRR _ _ s' (upd H' s.heap.objs.size (.lst ys)) m (I.call' I'.os (Un.add I'.base (Nat.le_refl _) hn) (I'.hok.add hn ⟨hz, its, n, rv, e⟩) I'.bare fun b hb => ?_) hm hCle (by rw [upd_ne (Ne.symm hDC)]; exact hCn) (q _ hn)
    obtain ⟨f0, f1, f2, f3, f4, f5⟩ := hf b hb
    exact ⟨f3, f1, f4, f5⟩
  have loop : codeAny (model X.prog X.w) X.A (.compLoop (.ListComp elt [⟨tg, iter, ifs, 0⟩] scope pos) 0 (.ref it) (.ref s.heap.objs.size) Y.env) (RR (.ref s.heap.objs.size) H2.objs.size) s4 := by
    refine comp_loop_any (fun n s' => ∃ (i : Nat) (σ' : St) (H' : Hp) (ys : List V) (its : List Value), Inv Y [] σ' H' s' ∧ tn i s'.heap ∧ (∀ b ∈ fp, H' b = none) ∧ H' s.heap.objs.size = none ∧ s'.heap.PlainList s.heap.objs.size its.toArray ∧ Vals ys its ∧ W i n ys σ' H') ?_ m0
      ⟨0, startC ls fr σ, H, [], [], I4, T.keep _ _ _ st fun b _ o e => by rw [← hs4]; exact old b o e, fun b hb => (hf b hb).1, I.hok.fresh (Nat.le_refl _), by rw [← hs4]; exact hacc, .nil, w0⟩
    rintro n s5 ⟨i, σ5, H5, ys, its, I5, st5, fr5, hn5, ⟨nn, e5⟩, rv, w5⟩
    have I5p := pinD I5 hn5 e5
    rcases turn i n ys σ5 H5 w5 with ⟨stop, hz, qn⟩ | ⟨go, hz, NN, hNN, step⟩
    · rw [← YA]
      refine thn (T.done Y YP Yw YK Yc i _ s5 σ5 H5 _ I5p (fpY fr5) st5 stop) fun r s6 ⟨hr, I6⟩ => ?_
      subst hr
      exact endC (I6.pins_of fun p hp => nomatch hp) hn5 ⟨nn, (I6.pin _ (List.mem_append_right _ List.mem_cons_self)).1⟩ rv hz qn
    · have hit := T.item Y YP Yw YK Yc i _ s5 σ5 H5 (notedBy (model X.prog X.w) X.A Y.env fun e s' => RR (Value.ref s.heap.objs.size) H2.objs.size (Except.error e) s') I5p (fpY fr5) st5 go
      rw [YA] at hit
      refine thn hit fun r s6 ⟨u, hr, h6⟩ => ?_
      subst hr
      refine thn h6 fun _ s7 ⟨x, H7, I7, r7, y7, st7, fr7⟩ => ?_
      have I7' := I7.pinned (fpY fr7) (T.obj _ _ st7)
      have h8 := hg H2.objs.size s H fp
      have h9 := ht H2.objs.size s H fp
      have h10 := he H2.objs.size s H fp
      rw [hX] at h8 h9 h10
      have a8 := h8 _ s7 σ5 H7 x u _ I7' r7 (step x H7 y7)
      rw [YP, Yw, YA] at a8
      refine thn (E1 a8) fun _ s8 ⟨σ8, H8, I8, q8⟩ => ?_
      have a9 := h9 _ s8 σ8 H8 _ I8 q8
      rw [YP, Yw, YA] at a9
      refine thn (E1 a9) fun b s9 ⟨H9, I9, q9⟩ => ?_
      have back : ∀ {σ' : St} {H' : Hp} {s' : Shared}, Inv Y ([(s.heap.objs.size, { cls := .type "list", data := .seq its.toArray nn })] ++ pinsAt fp s7.heap) σ' H' s' →
          tn (i + 1) s'.heap ∧ (∀ b ∈ fp, H' b = none) ∧ H' s.heap.objs.size = none ∧ s'.heap.PlainList s.heap.objs.size its.toArray := fun {σ' H' s'} I' => by
        have hp := I'.pin (s.heap.objs.size, { cls := .type "list", data := .seq its.toArray nn }) (List.mem_append_right _ (List.mem_append_left _ List.mem_cons_self))
        refine ⟨T.keep _ _ _ st7 fun b hb o e => (I'.pin (b, o) (List.mem_append_right _ (List.mem_append_right _ (mem_pinsAt hb e)))).1, fun b hb => ?_, hp.2.1, ⟨nn, hp.1⟩⟩
        obtain ⟨o, e, d⟩ := T.obj _ _ st7 b hb
        exact (I'.pin (b, o) (List.mem_append_right _ (List.mem_append_right _ (mem_pinsAt hb e)))).2.1
      cases b with
      | false =>
        rw [if_neg Bool.false_ne_true] at q9 ⊢
        obtain ⟨m', hm, w9⟩ := hNN _ _ _ q9
        obtain ⟨z1, z2, z3, z4⟩ := back I9
        exact ⟨m', hm, i + 1, σ8, H9, ys, its, I9.pins_of (fun p hp => nomatch hp), z1, z2, z3, z4, rv, w9⟩
      | true =>
        rw [if_pos rfl] at q9 ⊢
        have a10 := h10 _ s9 σ8 H9 _ I9 q9
        rw [YP, Yw, YA] at a10
        refine thn (E1 a10) fun xv s10 ⟨v, H10, I10, rx, q10⟩ => ?_
        obtain ⟨m', hm, w10⟩ := hNN _ _ _ q10
        obtain ⟨z1, z2, z3, z4⟩ := back I10
        have hlen : its.length = ys.length := (rv.length).symm
        refine wpAny_list_append_plain z4 (fun h' pl sb => ?_) (by rw [List.size_toArray, hlen]; exact hz)
        refine ⟨m', hm, i + 1, σ8, H10, ys ++ [v], its ++ [xv], ?_, ?_, z2, z3, ?_, rv.append (.cons rx .nil), w10⟩
        · have I10' : Inv Y [] σ8 H10 s10 := I10.pins_of fun p hp => nomatch hp
          refine I10'.turned (t' := s10.toks) (it := s.heap.objs.size) (fun b o hb e => (sb.2 b hb).trans e) z3 (by rw [Yl]; exact hDC) (.inr ?_) (fun x c e => ?_) fun p hp => ?_
          · rw [← hX]; exact Nat.le_refl _
          · rw [← hX] at e
            intro z
            obtain ⟨v0, q0⟩ := I.cell x c (S.look I e)
            exact absurd q0.lt (by rw [z]; exact Nat.lt_irrefl _)
          · rw [← hX] at hp; exact nomatch hp
        · refine T.keep _ _ _ z1 fun b hb o e => (sb.2 b (below b (hfl b hb)).2).trans e
        · have : (its ++ [xv]).toArray = its.toArray.push xv := by simp
          rw [this]; exact pl
  have hYe : Y.env = { newEnv scope H2.objs.size X.env.globals (clos scope X.env) X.env.qual none .none (some X.env) builtinsNs with scope := relabel scope X.env } := by rw [← hX]; rfl
  rw [← hYe]
  rw [hYe] at loop ⊢
  refine codeAny_compStart_list loop ?_
  exact T.self _ 0 _ _ _ (T.keep _ _ _ st fun b _ o e => by rw [← hs4]; exact old b o e) loop

/-- a comprehension as a value -/
theorem pe_comp {wi : TI} {tg elt iter : Expr} {ifs : List Expr} {pos : Pos} {g : TG} {tf : TT} {te : TE} (S : CScope X scope ls fr) (hc : X.calm = true) (hi : PI X tg iter wi)
    (hg : ∀ C s H ex, PG (cxC X scope (ls ++ fr.map (·.1)) C s H ex) tg g) (ht : ∀ C s H ex, PF (cxC X scope (ls ++ fr.map (·.1)) C s H ex) ifs tf) (he : ∀ C s H ex, PE (cxC X scope (ls ++ fr.map (·.1)) C s H ex) elt te)
    (hs : ∀ x, foldedSetIterable iter X.env x = pure x := by intro _; rfl) : PE X (.ListComp elt [⟨tg, iter, ifs, 0⟩] scope pos) (tComp wi ls fr g tf te) := by
  intro pins s σ H Q I h
  rw [eval_ListComp]
  refine wpAny_comprehension_free (use := none) rfl hs (closureFor_eq (S.cells I)) S.kind S.names (thn (hi pins s σ H _ I h) fun xv s₁ h₁ => thn h₁ fun itv s₂ h₂ => ?_)
  obtain ⟨it, fp, tn, J, H2, rfl, I2, T, st, hf, q⟩ := h₂
  refine comp_block (RR := fun acc C => compPost (model X.prog X.w) X.A X.xe none (EP X pins σ Q) acc C) S hc I2 T st hf q hg ht he ?_
  intro D C s' H' m I' hn hC hCn hq
  refine ⟨m, hn, fun h' sb => ?_⟩
  have nC : ∀ {b : Addr}, b < s₂.heap.objs.size → b ≠ C := fun hb => Nat.ne_of_lt (Nat.lt_of_lt_of_le hb hC)
  refine ⟨.ref D, H', I'.turned (t' := s'.toks) (it := C) (fun b o hb e => (sb.2 b hb).trans e) hCn (Ne.symm (nC I2.lt)) (.inr (Nat.le_trans I2.sz hC)) (fun x c e => ?_) fun p hp => ?_, rfl, hq⟩
  · obtain ⟨v0, q0⟩ := I2.cell x c e
    exact nC q0.lt
  · exact nC (Heap.lt_size (I2.pin p hp).1)
/-- x = [..] (the name is stored ahead of the block's end) -/
theorem ps_comp {wi : TI} {tg elt iter : Expr} {ifs : List Expr} {pos spos py : Pos} {y : Str} {i : Nat} {g : TG} {tf : TT} {te : TE} (S : CScope X scope ls fr) (hc : X.calm = true) (hi : PI X tg iter wi)
    (hg : ∀ C s H ex, PG (cxC X scope (ls ++ fr.map (·.1)) C s H ex) tg g) (ht : ∀ C s H ex, PF (cxC X scope (ls ++ fr.map (·.1)) C s H ex) ifs tf) (he : ∀ C s H ex, PE (cxC X scope (ls ++ fr.map (·.1)) C s H ex) elt te)
    (hN : X.N.Nodup) (hy : X.N[i]? = some y) (hl : X.env.scope.names.lookup y = some .local) (hsw : swapsWith (.ListComp elt [⟨tg, iter, ifs, 0⟩] scope pos) (some (.Name y py)) spos.line X.env = pure true)
    (hs : ∀ x, foldedSetIterable iter X.env x = pure x := by intro _; rfl) : PS X (.Assign [.Name y py] (.ListComp elt [⟨tg, iter, ifs, 0⟩] scope pos) spos) (tAsg (tComp wi ls fr g tf te) (gName i)) := by
  intro pins s σ H D I h
  rw [exec_Assign_Name_used _ _ _ _ hsw]
  refine wpAny_bind (wpAny_standAt (wpAny_bind ?_))
  show wpAny _ X.A (do let _ ← comprehension (.ListComp elt [⟨tg, iter, ifs, 0⟩] scope pos) scope X.env _ (newList []) false (eval iter X.env) (some (assign (.Name y py) X.env))) _ _ s
  refine wpAny_bind (wpAny_mono (wpAny_comprehension_free (use := some (assign (.Name y py) X.env)) (Q := fun _ s' => SP X pins D .next s') rfl hs (closureFor_eq (S.cells I)) S.kind S.names
    (thn (hi pins s σ H _ I h) fun xv s₁ h₁ => thn h₁ fun itv s₂ h₂ => ?_)) (fun _ s' hq => wpAny_pure (wpAny_pure hq)) fun _ _ e => e)
  obtain ⟨it, fp, tn, J, H2, rfl, I2, T, st, hf, q⟩ := h₂
  refine comp_block (RR := fun acc C => compPost (model X.prog X.w) X.A X.xe (some (assign (.Name y py) X.env)) (fun _ s' => SP X pins D .next s') acc C) S hc I2 T st hf q hg ht he ?_
  intro D1 C s' H' m I' hn hC hCn hq
  have nC : ∀ {b : Addr}, b < s₂.heap.objs.size → b ≠ C := fun hb => Nat.ne_of_lt (Nat.lt_of_lt_of_le hb hC)
  have cC : ∀ x c, X.env.cells.lookup x = some c → c ≠ C := fun x c e => by
    obtain ⟨v0, q0⟩ := I2.cell x c e
    exact nC q0.lt
  show wpAny _ X.A (assign (.Name y py) X.env (.ref D1)) _ _ _
  refine wpAny_assign_Name (store_ok2 I' hN hy (.inl hl) (v := .ref D1) rfl (fun s3 I3 hsb => ?_) (.inr hl))
  obtain ⟨a, sb1, ha⟩ := hsb
  have haC : C ≠ a := by
    rcases ha with rfl | e
    · exact Ne.symm (nC I2.lt)
    · exact Ne.symm (cC _ _ e)
  refine ⟨m, hn.sameBut sb1 haC, fun h' sb => ⟨_, H', I3.turned (t' := s3.toks) (it := C) (fun b o hb e => (sb.2 b hb).trans e) hCn (Ne.symm (nC I2.lt)) (.inr (Nat.le_trans I2.sz hC)) cC fun p hp => nC (Heap.lt_size (I2.pin p hp).1), hq⟩⟩
end

/-! ### the forms one uses -/
theorem comp_list {K : PySem.W.Frag} {a : Addr} {xs : List V} {g : TG} {tf : TT} {te : TE} {σ : St} {H : Hp} {Q : VK} (Pv : Nat → List V → St → Hp → Prop) (h0 : Pv 0 [] σ H) (hl : ∀ i ys σ H, i ≤ xs.length → Pv i ys σ H → SqL K H a xs ∧ ys.length ≤ sizeLine)
    (hs : ∀ i x ys σ H, xs[i]? = some x → Pv i ys σ H → g x σ H fun σ2 H2 => tf σ2 H2 fun b H3 => if b = true then te σ2 H3 fun v H4 => Pv (i + 1) (ys ++ [v]) σ2 H4 else Pv (i + 1) ys σ2 H3)
    (hd : ∀ ys σ H, Pv xs.length ys σ H → ∀ p, H p = none → Q (.ref p) (upd H p (.lst ys))) : tCompK g tf te σ (Itl K a) H Q := by
  refine ⟨fun i m ys σ H => m = xs.length - i ∧ i ≤ xs.length ∧ Pv i ys σ H, ⟨xs.length, by simp, Nat.zero_le _, h0⟩, ?_⟩
  rintro i m ys σ H ⟨rfl, hi, p⟩
  obtain ⟨q, hz⟩ := hl i ys σ H hi p
  by_cases hlt : i < xs.length
  · refine .inr ⟨⟨xs, xs[i], q, by simp [hlt]⟩, hz, Pv (i + 1), fun ys' σ' H' p' => ⟨xs.length - (i + 1), by omega, rfl, hlt, p'⟩, fun x H' y => ?_⟩
    obtain ⟨e, y⟩ := y
    subst e
    exact hs i x ys σ _ (y xs q) p
  · have e : i = xs.length := by omega
    subst e
    exact .inl ⟨⟨xs, q, Nat.le_refl _⟩, hz, hd ys σ H p⟩
theorem comp_tup {K : PySem.W.Frag} {a : Addr} {xs : List V} {g : TG} {tf : TT} {te : TE} {σ : St} {H : Hp} {Q : VK} (Pv : Nat → List V → St → Hp → Prop) (h0 : Pv 0 [] σ H) (hl : ∀ i ys σ H, i ≤ xs.length → Pv i ys σ H → SqT K H a xs ∧ ys.length ≤ sizeLine)
    (hs : ∀ i x ys σ H, xs[i]? = some x → Pv i ys σ H → g x σ H fun σ2 H2 => tf σ2 H2 fun b H3 => if b = true then te σ2 H3 fun v H4 => Pv (i + 1) (ys ++ [v]) σ2 H4 else Pv (i + 1) ys σ2 H3)
    (hd : ∀ ys σ H, Pv xs.length ys σ H → ∀ p, H p = none → Q (.ref p) (upd H p (.lst ys))) : tCompK g tf te σ (Itt K a) H Q := by
  refine ⟨fun i m ys σ H => m = xs.length - i ∧ i ≤ xs.length ∧ Pv i ys σ H, ⟨xs.length, by simp, Nat.zero_le _, h0⟩, ?_⟩
  rintro i m ys σ H ⟨rfl, hi, p⟩
  obtain ⟨q, hz⟩ := hl i ys σ H hi p
  by_cases hlt : i < xs.length
  · refine .inr ⟨⟨xs, xs[i], q, by simp [hlt]⟩, hz, Pv (i + 1), fun ys' σ' H' p' => ⟨xs.length - (i + 1), by omega, rfl, hlt, p'⟩, fun x H' y => ?_⟩
    obtain ⟨e, y⟩ := y
    subst e
    exact hs i x ys σ _ (y xs q) p
  · have e : i = xs.length := by omega
    subst e
    exact .inl ⟨⟨xs, q, Nat.le_refl _⟩, hz, hd ys σ H p⟩
theorem comp_range {lo : Int} {n : Nat} {g : TG} {tf : TT} {te : TE} {σ : St} {H : Hp} {Q : VK} (Pv : Nat → List V → St → Hp → Prop) (h0 : Pv 0 [] σ H) (hl : ∀ i ys σ H, i ≤ n → Pv i ys σ H → ys.length ≤ sizeLine)
    (hs : ∀ i ys σ H, i < n → Pv i ys σ H → g (.int (lo + i)) σ H fun σ2 H2 => tf σ2 H2 fun b H3 => if b = true then te σ2 H3 fun v H4 => Pv (i + 1) (ys ++ [v]) σ2 H4 else Pv (i + 1) ys σ2 H3)
    (hd : ∀ ys σ H, Pv n ys σ H → ∀ p, H p = none → Q (.ref p) (upd H p (.lst ys))) : tCompK g tf te σ (Itr lo n) H Q := by
  refine ⟨fun i m ys σ H => m = n - i ∧ i ≤ n ∧ Pv i ys σ H, ⟨n, by simp, Nat.zero_le _, h0⟩, ?_⟩
  rintro i m ys σ H ⟨rfl, hi, p⟩
  have hz := hl i ys σ H hi p
  by_cases hlt : i < n
  · refine .inr ⟨hlt, hz, Pv (i + 1), fun ys' σ' H' p' => ⟨n - (i + 1), by omega, rfl, hlt, p'⟩, fun x H' y => ?_⟩
    obtain ⟨e, y⟩ := y
    subst e y
    exact hs i ys σ _ hlt p
  · have e : i = n := by omega
    subst e
    exact .inl ⟨Nat.le_refl _, hz, hd ys σ H p⟩

/-- the scope's conditions, to be decided -/
def cscopeB (sc : Scope) (N : List Str) (scope : Scope) (fr : List (Str × Nat)) : Bool :=
  (scope.kind == .function) && scope.names.all (fun y => y.2 != .cell) && scope.names.all (fun y => y.2 != .local || scope.names.lookup y.1 == some .local) &&
  scope.names.all (fun y => y.2 != .free || sc.names.lookup y.1 == some .cell || sc.names.lookup y.1 == some .free) && fr.all (fun p => N[p.2]? == some p.1 && scope.names.lookup p.1 == some .free)
theorem cs_of {X : Cx} {scope : Scope} {ls : List Str} {fr : List (Str × Nat)} (sc : Scope) (N : List Str) (h1 : X.env.scope = sc) (h2 : X.N = N) (h : cscopeB sc N scope fr = true) : CScope X scope ls fr := by
  subst h1 h2
  simp only [cscopeB, Bool.and_eq_true, List.all_eq_true, Bool.or_eq_true, bne_iff_ne, beq_iff_eq, ne_eq] at h
  obtain ⟨⟨⟨⟨a, b⟩, c⟩, d⟩, e⟩ := h
  refine ⟨a, b, fun y hy hk => (c y hy).resolve_left fun z => z hk, fun y hy hk => ?_, e⟩
  rcases d y hy with (z | z) | z
  · exact absurd hk z
  · exact .inl z
  · exact .inr z
theorem pgc {X : Cx} {scope : Scope} {ls : List Str} {fr : List (Str × Nat)} {C : Addr} {s : Shared} {H : Hp} {ex : List Addr} {x : Str} {pos : Pos} (i : Nat) (hN : (ls ++ fr.map (·.1)).Nodup) (hi : (ls ++ fr.map (·.1))[i]? = some x) (hx : scope.names.lookup x = some .local) :
    PG (cxC X scope (ls ++ fr.map (·.1)) C s H ex) (.Name x pos) (gName i) :=
  pg_name hN hi (.inl (lookup_relabel_local hx)) (.inr (lookup_relabel_local hx))
/-- names within a block, to be decided over the two scopes -/
def relN (scope sc : Scope) : List (Str × NameKind) := scope.names.map fun (n, k) => if (k == .free && sc.kind == .function && sc.names.lookup n == some .cell) then (n, .cell) else (n, k)
def visB (scope sc : Scope) (x : Str) : Bool := match (relN scope sc).lookup x with | some .local => true | some .cell => true | some .free => true | _ => false
theorem pvc (sc : Scope) (i : Nat) {X : Cx} {scope : Scope} {N : List Str} {C : Addr} {s : Shared} {H : Hp} {ex : List Addr} {x : Str} {pos : Pos} (hN : N[i]? = some x := by rfl) (hs : X.env.scope = sc := by rfl) (hv : visB scope sc x = true := by decide +kernel)
    (hd : (x == ("__debug__" : Str)) = false := by decide +kernel) (hcd : (x == ("__classdict__" : Str)) = false := by decide +kernel) : PE (cxC X scope N C s H ex) (.Name x pos) (tVar i) := by
  subst hs
  refine pe_var hN ?_ hd hcd
  have hv' : visB scope X.env.scope x = true := hv
  unfold visB at hv'
  show (relN scope X.env.scope).lookup x = some .local ∨ (relN scope X.env.scope).lookup x = some .cell ∨ (relN scope X.env.scope).lookup x = some .free
  split at hv'
  · rename_i e; exact .inl e
  · rename_i e; exact .inr (.inl e)
  · rename_i e; exact .inr (.inr e)
  · cases hv'
theorem glc (sc : Scope) {X : Cx} {scope : Scope} {N : List Str} {C : Addr} {s : Shared} {H : Hp} {ex : List Addr} {x : Str} (hs : X.env.scope = sc := by rfl) (h : ((relN scope sc).lookup x == some .globalImplicit) = true := by decide +kernel) : Gl (cxC X scope N C s H ex) x := by
  subst hs
  exact eq_of_beq h
end L2

set_option Elab.async false
set_option linter.all false
set_option maxRecDepth 100000
namespace L2
open PySem PySem.Spec PyProof.Rows

/-! ### ints sorted falling -/
section
variable {prog : Program} {w : World} {A : Around} {E : Value → Shared → Prop} {s : Shared}
end

section
variable {X : Cx}
theorem small64 {n : Nat} (h : n < 64) : n ≤ sizeLine := Nat.le_trans (Nat.le_of_lt h) (by decide)
theorem preSum_list (ns : List Int) : ∀ j, preSum (fun i => ns.getD i 0) j = (ns.take j).sum
  | 0 => by simp [preSum]
  | j + 1 => by
    rw [preSum, preSum_list ns j]
    by_cases h : j < ns.length
    · rw [List.take_succ_eq_append_getElem h, List.sum_append, List.sum_cons, List.sum_nil]
      have e : ns.getD j 0 = ns[j] := by simp [h]
      rw [e]
      omega
    · rw [List.take_of_length_le (by omega), List.take_of_length_le (by omega)]
      have : ns[j]? = none := List.getElem?_eq_none (by omega)
      simp [List.getD, this]
theorem vals_int_at {ns : List Int} {its : List Value} (r : Vals (ns.map V.int) its) (i : Nat) (v : Value) (e : its.toArray[i]? = some v) : ∃ t, v = .int (ns.getD i 0) t := by
  have e' : its[i]? = some v := by simpa using e
  have hi : i < its.length := (List.getElem?_eq_some_iff.mp e').1
  have hl := r.length
  rw [List.length_map] at hl
  have hx : (ns.map V.int)[i]? = some (V.int (ns.getD i 0)) := by
    have hi' : i < ns.length := by omega
    simp [hi']
  obtain ⟨u, hu, t, rfl⟩ := r.get hx
  rw [e'] at hu
  cases hu
  exact ⟨t, rfl⟩
/-- sum(x) of a list or tuple of ints -/
theorem call_sum_ints (hc : X.calm = true) : CallR X (.builtin "sum") (fun xs H Q => ∃ (a : Addr) (ns : List Int), xs = [.ref a] ∧ (SqL X.K H a (ns.map V.int) ∨ SqT X.K H a (ns.map V.int)) ∧ Q (.int ns.sum) H) := by
  intro pins s σ H xs us Q I r h
  obtain ⟨a, ns, rfl, hq, q⟩ := h
  obtain ⟨u, rfl, ru⟩ := vals1 r
  cases ru
  have hh : X.A.in1.handled = none := I.ok.hd hc
  have fin : ∀ {its : List Value} (h' : Heap) (tk : Nat) (t' : Tok), Vals (ns.map V.int) its → (∀ b o, s.heap.get? b = some o → h'.get? b = some o) → EP X pins σ Q (.int (preSum (fun i => ns.getD i 0) its.toArray.size) t') { s with heap := h', toks := tk } := fun {its} h' tk t' r' hk => by
    have hl := r'.length
    rw [List.length_map] at hl
    refine ⟨.int ns.sum, H, I.kept hk, ⟨t', ?_⟩, q⟩
    rw [preSum_list, List.size_toArray, ← hl, List.take_length]
  rcases hq with hq | hq
  · obtain ⟨its, r', pl, hz⟩ := I.list hq
    have hlt : a < s.heap.objs.size := by obtain ⟨_, e, _⟩ := pl.isList; exact Heap.lt_size e
    refine call_sum_walkG (wpAny_pyIter_list pl.isList ⟨_, _, _, _, _, _, fun i => ns.getD i 0, rfl, Walks.list (A := X.A.in1) hh _ a (Nat.ne_of_lt hlt) its.toArray, ⟨⟨_, Heap.get?_push_size _ rfl, rfl, rfl⟩, pl.isList.push _⟩, fun b hb => ?_, vals_int_at r', fun h' tk t' hk => fin h' tk t' r' fun b o e => hk b o (by simpa using Nat.ne_of_lt (Heap.lt_size e)) (Heap.get?_push_of_some _ e)⟩)
    show b < (s.heap.push _).objs.size
    rw [Heap.size_push]
    rcases List.mem_cons.mp hb with rfl | hb
    · exact Nat.lt_succ_self _
    · rcases List.mem_cons.mp hb with rfl | hb
      · exact Nat.lt_succ_of_lt hlt
      · cases hb
  · obtain ⟨its, r', pl, hz⟩ := I.tuple hq
    have pl' : s.heap.IsTuple a its.toArray := pl
    have hlt : a < s.heap.objs.size := by obtain ⟨_, e, _⟩ := pl; exact Heap.lt_size e
    refine call_sum_walkG (wpAny_pyIter_tuple pl' ⟨_, _, _, _, _, _, fun i => ns.getD i 0, rfl, Walks.tuple (A := X.A.in1) hh _ a (Nat.ne_of_lt hlt) its.toArray, ⟨⟨_, Heap.get?_push_size _ rfl, rfl, rfl⟩, pl'.at fun o e => Heap.get?_push_of_some _ e⟩, fun b hb => ?_, vals_int_at r', fun h' tk t' hk => fin h' tk t' r' fun b o e => hk b o (by simpa using Nat.ne_of_lt (Heap.lt_size e)) (Heap.get?_push_of_some _ e)⟩)
    show b < (s.heap.push _).objs.size
    rw [Heap.size_push]
    rcases List.mem_cons.mp hb with rfl | hb
    · exact Nat.lt_succ_self _
    · rcases List.mem_cons.mp hb with rfl | hb
      · exact Nat.lt_succ_of_lt hlt
      · cases hb

/-! ### x.count(y) over flat items -/
def cntV (y : V) (xs : List V) : Nat := xs.countP fun x => eqV x y
theorem cnt_eqU {x : V} : ∀ {xs : List V} {us : List Value}, Vals xs us → xs.all flatV = true → us.countP (eqU x) = cntV x xs
  | _, _, .nil, _ => rfl
  | y :: xs, u :: us, .cons r t, f => by
    rw [List.all_cons, Bool.and_eq_true] at f
    unfold cntV
    rw [List.countP_cons, List.countP_cons, eqU_of r f.1, cnt_eqU t f.2]
    rfl
def rCount (K : PySem.W.Frag) (SQ : PySem.W.Frag → Hp → Addr → List V → Prop) : V → List V → Hp → VK → Prop := fun x vs H Q => ∃ a xs y, x = .ref a ∧ vs = [y] ∧ SQ K H a xs ∧ flatV y = true ∧ xs.all flatV = true ∧ Q (.int (cntV y xs)) H
theorem mt_countT : MtR X "tuple.count" (rCount X.K SqT) := by
  intro pins s σ H x vs v us Q I rx rv h
  obtain ⟨a, xs, y, rfl, rfl, hq, fy, fs, q⟩ := h
  cases rx
  obtain ⟨u, rfl, ru⟩ := rv.one
  obtain ⟨its, r, pl, hz⟩ := I.tuple hq
  obtain ⟨o, ho, hc, n, hd⟩ := pl
  obtain ⟨c, dd, dt, sl⟩ := o
  cases hc
  cases hd
  refine call_meets F.slot_tuple_count ⟨_, ho, rfl⟩ F.entry_tuple_count (F.args_tuple_count_2 _ _) (SeqAt.tuple_countAt a its.toArray n dd sl u (eqU y)) ⟨ho, fun w hw => mem_eqAt ru fy r fs w (by simpa using hw), ?_⟩
  refine ⟨.int _, H, I.tok _, ⟨s.toks, ?_⟩, q⟩
  rw [show its.toArray.toList = its from rfl, cnt_eqU r fs]
theorem cntV_ints (k : Int) (ns : List Int) : cntV (.int k) (ns.map V.int) = ns.count k := by
  unfold cntV
  rw [List.countP_map, List.count_eq_countP]
  congr 1
theorem flat_ints (ns : List Int) : (ns.map V.int).all flatV = true := by
  rw [List.all_map]; simp [flatV]

/-! ### isinstance(x, T), T a built-in type -/
theorem call_isi : CallR X (.builtin "isinstance") (fun xs H Q => ∃ x T t b, xs = [x, .ty T] ∧ TyOf X.K H x t ∧ PySem.W.kitOne X.K t (.type T) = some b ∧ Q (.bl b) H) := by
  intro pins s σ H xs us Q I r h
  obtain ⟨x, T, t, b, rfl, ty, hk, q⟩ := h
  obtain ⟨u, v, rfl, ru, rv⟩ := vals2 r
  cases (show v = Value.type T from rv)
  exact isinst_ok I ru ty hk fun tk => ⟨.bl b, H, I.tok tk, rfl, q⟩
end
/-! ### which built-in type lies beneath which -/
theorem kit_int_int {K : PySem.W.Frag} : PySem.W.kitOne K (.type "int") (.type "int") = some true := by unfold PySem.W.kitOne; rw [if_pos (by decide +kernel)]
theorem kit_int_bool {K : PySem.W.Frag} : PySem.W.kitOne K (.type "int") (.type "bool") = some false := by
  unfold PySem.W.kitOne
  rw [if_neg (by decide +kernel)]
  rfl
theorem kit_tup_tup {K : PySem.W.Frag} : PySem.W.kitOne K (.type "tuple") (.type "tuple") = some true := by unfold PySem.W.kitOne; rw [if_pos (by decide +kernel)]
theorem kit_list_list {K : PySem.W.Frag} : PySem.W.kitOne K (.type "list") (.type "list") = some true := by unfold PySem.W.kitOne; rw [if_pos (by decide +kernel)]
end L2

set_option Elab.async false
set_option linter.all false
set_option maxRecDepth 100000
namespace L2
open PySem PySem.Spec PyProof.Rows
/-! ### the drawn state: [great, rest, cells, count] -/
theorem noPylong_big {x y : Int} (h0 : 0 < y) (h : y ≤ 10 ^ 100) : Builtin.divisionGoesByPylong x y = false := by
  refine PyProof.noPylong_of_log2 ?_
  have hn : y.natAbs ≠ 0 := by omega
  have h1 : y.natAbs ≤ 10 ^ 100 := by omega
  refine (Nat.log2_lt hn).mpr (Nat.lt_of_le_of_lt h1 (by decide +kernel))
def CDivB (i j : Int) : Prop := 0 < j ∧ j ≤ 10 ^ 100
theorem op_fdivB {X : Cx} : OpR X (binaryOp .FloorDiv) (rI CDivB fun i j => .int (i / j)) := opI fun i j _ _ _ _ _ hc q => by
  refine floordiv_int (by have := hc.1; omega) ?_ (.inl (noPylong_big hc.1 hc.2))
  rw [Int.fdiv_eq_ediv_of_nonneg _ (Int.le_of_lt hc.1)]
  exact q
theorem get_list {X : Cx} : PGet X (fun x y H Q => ∃ p xs i v, x = .ref p ∧ y = .int i ∧ SqL X.K H p xs ∧ 0 ≤ i ∧ xs[i.toNat]? = some v ∧ Q v H) := by
  intro pins s σ H o i ov iv Q I ro ri h
  obtain ⟨p, xs, k, v, rfl, rfl, hq, h0, hv, q⟩ := h
  cases ro
  obtain ⟨t, rfl⟩ := ri
  obtain ⟨its, r, pl, hz⟩ := I.list hq
  have hlen := r.length
  have hn := line63
  obtain ⟨u, hu, ru⟩ := r.get hv
  have hk := (List.getElem?_eq_some_iff.mp hv).1
  exact wpAny_getItem_list pl.isList h0 (by omega) (by simpa using hu) ⟨v, H, I, ru, q⟩

/-- what holds between two statements -/
theorem seqJoin {A B : TS} {D : Ends} {σ : St} {H : Hp} (R : St → Hp → Prop) (h : ∀ nx : St → Hp → Prop, (∀ σ' H', R σ' H' → nx σ' H') → A { D with nx := nx } σ H) (hR : ∀ σ' H', R σ' H' → B D σ' H') : tSeq A B D σ H := h (B D) hR
/-- what may change is at S alone -/
def Keep (S : List Addr) (H H' : Hp) : Prop := ∀ b o, H b = some o → b ∉ S → H' b = some o
theorem Keep.refl (S : List Addr) (H : Hp) : Keep S H H := fun _ _ h _ => h
theorem Keep.trans {S : List Addr} {H H1 H2 : Hp} (a : Keep S H H1) (b : Keep S H1 H2) : Keep S H H2 := fun c o h n => b c o (a c o h n) n
theorem Keep.new {S : List Addr} {H : Hp} {p : Addr} {o : HO} (h : H p = none) : Keep S H (upd H p o) := fun b u e _ => by rw [upd_ne (ne_of_none e h)]; exact e
theorem Keep.set {S : List Addr} {H : Hp} {p : Addr} {o : HO} (h : p ∈ S) : Keep S H (upd H p o) := fun b u e n => by
  have hb : b ≠ p := fun z => n (by rw [z]; exact h)
  rw [upd_ne hb]; exact e
theorem Same.keep {S : List Addr} {H H' : Hp} (h : Same H H') : Keep S H H' := fun b o e _ => h b o e
structure StAt (H : Hp) (st ga ca : Addr) (N : Nat) : Prop where
  ex : ∃ (gs cs : List Int) (q n : Int), H st = some (.lst [.ref ga, .int q, .ref ca, .int n]) ∧ H ga = some (.lst (gs.map V.int)) ∧ H ca = some (.lst (cs.map V.int)) ∧
    gs.length ≤ 63 ∧ (∀ x ∈ gs, 0 < x) ∧ 0 ≤ q ∧ 0 ≤ n ∧ n ≤ N
  gc : ga ≠ ca
  sg : st ≠ ga
  sc : st ≠ ca
theorem StAt.nin {H : Hp} {st ga ca : Addr} {N : Nat} (S : StAt H st ga ca N) {p : Addr} (h : H p = none) : p ∉ [st, ga] := by
  obtain ⟨gs, cs, q, n, h1, h2, _⟩ := S.ex
  intro z
  rcases List.mem_cons.mp z with rfl | z
  · rw [h1] at h; cases h
  · rcases List.mem_cons.mp z with rfl | z
    · rw [h2] at h; cases h
    · cases z
theorem StAt.mono {H : Hp} {st ga ca : Addr} {N M : Nat} (S : StAt H st ga ca N) (h : N ≤ M) : StAt H st ga ca M := by
  obtain ⟨gs, cs, q, n, h1, h2, h3, h4, h5, h6, h7, h8⟩ := S.ex
  exact ⟨⟨gs, cs, q, n, h1, h2, h3, h4, h5, h6, h7, by omega⟩, S.gc, S.sg, S.sc⟩
theorem StAt.same {H H' : Hp} {st ga ca : Addr} {N : Nat} (S : StAt H st ga ca N) (h : Same H H') : StAt H' st ga ca N := by
  obtain ⟨gs, cs, q, n, h1, h2, h3, r⟩ := S.ex
  exact ⟨⟨gs, cs, q, n, h _ _ h1, h _ _ h2, h _ _ h3, r⟩, S.gc, S.sg, S.sc⟩
theorem Same.new {H : Hp} {p : Addr} {o : HO} (h : H p = none) : Same H (upd H p o) := fun b u e => by rw [upd_ne (ne_of_none e h)]; exact e
theorem pick {ns : List Int} {r : Int} (h0 : 0 ≤ r) (h1 : r < ns.length) : ∃ v, v ∈ ns ∧ atI (ns.map V.int) r = some (.int v) := by
  obtain ⟨j, rfl⟩ : ∃ j : Nat, r = (j : Int) := ⟨r.toNat, by omega⟩
  have hj : j < ns.length := by omega
  exact ⟨ns[j], List.getElem_mem hj, atI_nat (by rw [List.getElem?_map, List.getElem?_eq_getElem hj]; rfl)⟩
theorem Keep.at {S : List Addr} {H H' : Hp} (k : Keep S H H') {b : Addr} {o : HO} (h : H b = some o) (n : b ∉ S) : H' b = some o := k b o h n
theorem Keep.free {S : List Addr} {H H' : Hp} (k : Keep S H H') {b : Addr} (h : H' b = none) (n : b ∉ S) : H b = none := by
  cases q : H b with
  | none => rfl
  | some o => rw [k b o q n] at h; cases h
theorem map_at {ns : List Int} {i : Nat} {x : V} (h : (ns.map V.int)[i]? = some x) : ∃ z, ns[i]? = some z ∧ x = .int z := by
  rw [List.getElem?_map] at h
  cases hn : ns[i]? with
  | none => rw [hn] at h; cases h
  | some z => rw [hn] at h; exact ⟨z, rfl, (Option.some.inj h).symm⟩
/-- one heap lies in another -/
def lies (ns ms : List Int) : Bool := ns.all fun x => decide (ns.count x ≤ ms.count x)
theorem StAt.nin3 {H : Hp} {st ga ca : Addr} {N : Nat} (S : StAt H st ga ca N) {p : Addr} (h : H p = none) : p ∉ [st, ga, ca] := by
  obtain ⟨gs, cs, q, n, h1, h2, h3, _⟩ := S.ex
  intro z
  simp only [List.mem_cons, List.not_mem_nil, or_false] at z
  rcases z with rfl | rfl | rfl
  · rw [h1] at h; cases h
  · rw [h2] at h; cases h
  · rw [h3] at h; cases h
theorem nin2 {st ga ca p : Addr} (h : p ∉ [st, ga, ca]) : p ∉ [st, ga] := fun z => h (by
  simp only [List.mem_cons, List.not_mem_nil, or_false] at z ⊢
  rcases z with z | z
  · exact .inl z
  · exact .inr (.inl z))
theorem StAt.upd {H : Hp} {st ga ca : Addr} {N : Nat} {p : Addr} {o : HO} (S : StAt H st ga ca N) (h : p ∉ [st, ga, ca]) : StAt (upd H p o) st ga ca N := by
  obtain ⟨gs, cs, q, n, h1, h2, h3, r⟩ := S.ex
  have n1 : st ≠ p := fun z => h (by simp [z])
  have n2 : ga ≠ p := fun z => h (by simp [z])
  have n3 : ca ≠ p := fun z => h (by simp [z])
  exact ⟨⟨gs, cs, q, n, by rw [upd_ne n1]; exact h1, by rw [upd_ne n2]; exact h2, by rw [upd_ne n3]; exact h3, r⟩, S.gc, S.sg, S.sc⟩
theorem Keep.updN {S : List Addr} {H H' : Hp} {p : Addr} {o : HO} (k : Keep S H H') (h : H p = none) : Keep S H (L2.upd H' p o) := fun b u e n => by
  rw [upd_ne (ne_of_none e h)]
  exact k b u e n
/-- the law's list of parts between two statements -/
structure PartsAt (st ga ca l : Addr) (N L : Nat) (B : Int) (H0 H' : Hp) (ms : List Int) : Prop where
  li : H' l = some (.lst (ms.map V.int))
  nw : H0 l = none
  ni : l ∉ [st, ga, ca]
  ln : ms.length ≤ L
  bd : ∀ x ∈ ms, 1 ≤ x ∧ x ≤ B
  sa : StAt H' st ga ca N
  kp : Keep [st, ga] H0 H'
theorem PartsAt.mono {st ga ca l : Addr} {N L N' L' : Nat} {B B' : Int} {H0 H' : Hp} {ms : List Int} (P : PartsAt st ga ca l N L B H0 H' ms) (h1 : N ≤ N') (h2 : L ≤ L') (h3 : B ≤ B') : PartsAt st ga ca l N' L' B' H0 H' ms :=
  ⟨P.li, P.nw, P.ni, Nat.le_trans P.ln h2, fun x hx => ⟨(P.bd x hx).1, Int.le_trans (P.bd x hx).2 h3⟩, P.sa.mono h1, P.kp⟩
/-- behind a draw -/
theorem PartsAt.drawn {st ga ca l : Addr} {N N' L : Nat} {B : Int} {H0 H' H2 : Hp} {ms : List Int} (P : PartsAt st ga ca l N L B H0 H' ms) (S2 : StAt H2 st ga ca N') (K2 : Keep [st, ga] H' H2) : PartsAt st ga ca l N' L B H0 H2 ms :=
  ⟨K2.at P.li (nin2 P.ni), P.nw, P.ni, P.ln, P.bd, S2, P.kp.trans K2⟩
/-- the list is written anew -/
theorem PartsAt.write {st ga ca l : Addr} {N L L' : Nat} {B B' : Int} {H0 H' : Hp} {ms ms' : List Int} (P : PartsAt st ga ca l N L B H0 H' ms) (hl : ms'.length ≤ L') (hb : ∀ x ∈ ms', 1 ≤ x ∧ x ≤ B') : PartsAt st ga ca l N L' B' H0 (upd H' l (.lst (ms'.map V.int))) ms' :=
  ⟨upd_same, P.nw, P.ni, hl, hb, P.sa.upd P.ni, P.kp.updN P.nw⟩
/-- a list made anew -/
theorem PartsAt.new {st ga ca l : Addr} {N L : Nat} {B : Int} {H0 H' : Hp} {ms : List Int} (S : StAt H' st ga ca N) (K : Keep [st, ga] H0 H') (h : H' l = none) (hl : ms.length ≤ L) (hb : ∀ x ∈ ms, 1 ≤ x ∧ x ≤ B) : PartsAt st ga ca l N L B H0 (upd H' l (.lst (ms.map V.int))) ms :=
  ⟨upd_same, K.free h (S.nin h), S.nin3 h, hl, hb, S.upd (S.nin3 h), K.updN (K.free h (S.nin h))⟩
theorem map_erase : ∀ (ms : List Int) (j : Nat), (ms.map V.int).eraseIdx j = (ms.eraseIdx j).map V.int
  | [], _ => rfl
  | _ :: _, 0 => rfl
  | x :: r, j + 1 => by
    show V.int x :: (r.map V.int).eraseIdx j = V.int x :: (r.eraseIdx j).map V.int
    rw [map_erase r j]
end L2

set_option Elab.async false
set_option linter.all false
set_option maxRecDepth 100000
namespace L2
open PySem PySem.Spec PyProof.Rows

/-! ### == and != of tuples and lists, whatever they hold -/
/-- the values of a tuple, of a list -/
inductive All2 {α : Type} (R : α → V → Hp → Prop) (H : Hp) : List α → List V → Prop
  | nil : All2 R H [] []
  | cons {a : α} {v : V} {l : List α} {xs : List V} : R a v H → All2 R H l xs → All2 R H (a :: l) (v :: xs)
theorem All2.length {α : Type} {R : α → V → Hp → Prop} {H : Hp} : ∀ {l : List α} {xs : List V}, All2 R H l xs → l.length = xs.length
  | _, _, .nil => rfl
  | _, _, .cons _ t => by simp [t.length]
theorem All2.get {α : Type} {R : α → V → Hp → Prop} {H : Hp} : ∀ {l : List α} {xs : List V} {i : Nat} {x : V}, All2 R H l xs → xs[i]? = some x → ∃ a, l[i]? = some a ∧ R a x H
  | _, _, _, _, .nil, e => by simp at e
  | _, _, 0, _, .cons r _, e => by simp at e; subst e; exact ⟨_, rfl, r⟩
  | _, _, i + 1, x, .cons _ t, e => by
    obtain ⟨u, h1, h2⟩ := All2.get (i := i) (x := x) t (by simpa using e)
    exact ⟨u, by simpa using h1, h2⟩
theorem All2.append {α : Type} {R : α → V → Hp → Prop} {H : Hp} : ∀ {l l' : List α} {xs xs' : List V}, All2 R H l xs → All2 R H l' xs' → All2 R H (l ++ l') (xs ++ xs')
  | _, _, _, _, .nil, s => s
  | _, _, _, _, .cons r t, s => .cons r (t.append s)
theorem All2.imp {α : Type} {R : α → V → Hp → Prop} {H H' : Hp} (f : ∀ a v, R a v H → R a v H') : ∀ {l : List α} {xs : List V}, All2 R H l xs → All2 R H' l xs
  | _, _, .nil => .nil
  | _, _, .cons r t => .cons (f _ _ r) (t.imp f)
def RInt : Int → V → Hp → Prop := fun i v _ => v = .int i
theorem all2_ints {H : Hp} : ∀ (ns : List Int), All2 RInt H ns (ns.map V.int)
  | [] => .nil
  | _ :: r => .cons rfl (all2_ints r)
/-- a tuple of such values -/
def RTup (K : PySem.W.Frag) {α : Type} (R : α → V → Hp → Prop) : List α → V → Hp → Prop := fun l v H => ∃ p xs, v = .ref p ∧ SqT K H p xs ∧ All2 R H l xs
def RLst (K : PySem.W.Frag) {α : Type} (R : α → V → Hp → Prop) : List α → V → Hp → Prop := fun l v H => ∃ p xs, v = .ref p ∧ SqL K H p xs ∧ All2 R H l xs
section
variable {X : Cx}
variable {α : Type} [DecidableEq α] {R : α → V → Hp → Prop} {n : Nat}
end
/-- of ints -/
theorem RTup.ints {K : PySem.W.Frag} {H : Hp} {p : Addr} {ns : List Int} (h : SqT K H p (ns.map V.int)) : RTup K RInt ns (.ref p) H := ⟨p, _, rfl, h, all2_ints ns⟩
theorem RLst.ints {K : PySem.W.Frag} {H : Hp} {p : Addr} {ns : List Int} (h : SqL K H p (ns.map V.int)) : RLst K RInt ns (.ref p) H := ⟨p, _, rfl, h, all2_ints ns⟩
end L2
namespace L2
open PySem PySem.Spec PyProof.Rows
theorem huR {A : Around} {k n : Nat} {cm : Bool} (hr : Room k A cm) (h : n ≤ 64 := by decide) : A.units + n < cLine := Nat.lt_of_le_of_lt (Nat.add_le_add_left h _) hr.units
end L2
namespace HT
open PySem PySem.Spec PyProof.Rows
section
variable {prog : Program} {w : World} {A : Around} {E : Value → Shared → Prop} {s : Shared}
end
end HT
namespace L2
open PySem PySem.Spec PyProof.Rows
section
variable {X : Cx}
end
end L2

set_option Elab.async false
set_option linter.all false
set_option maxRecDepth 100000
namespace HT
open PySem PySem.Spec PyProof.Rows
section
open PySem.SeqAt
open PySem.AutoSeq1 (wpAny_loadPart')
open PySem.MeetsSeq PySem.MeetsSeq2 PySem.MeetsSeq3
end

section
variable {prog : Program} {w : World} {A : Around} {E : Value → Shared → Prop} {s : Shared}

end
end HT
namespace L2
open PySem PySem.Spec PyProof.Rows
section
variable {X : Cx}
/-! ### texts -/
/-! ### a loop over a text's signs -/
end
end L2

set_option Elab.async false
set_option linter.all false
set_option maxRecDepth 100000
namespace L2
open PySem PySem.Spec PyProof.Rows
section
variable {X : Cx} {tg : Expr}
end
section
variable {X : Cx}
/-- all(list of truths) -/
theorem call_all_bools (hc : X.calm = true) : CallR X (.builtin "all") (fun xs H Q => ∃ (a : Addr) (bs : List Bool), xs = [.ref a] ∧ SqL X.K H a (bs.map V.bl) ∧ Q (.bl (bs.all id)) H) := by
  intro pins s σ H xs us Q I r h
  obtain ⟨a, bs, rfl, hq, q⟩ := h
  obtain ⟨u, rfl, ru⟩ := vals1 r
  cases ru
  have hh : X.A.in1.handled = none := I.ok.hd hc
  obtain ⟨its, r', pl, hz⟩ := I.list hq
  have hl := r'.length
  rw [List.length_map] at hl
  have hlt : a < s.heap.objs.size := by obtain ⟨_, e, _⟩ := pl.isList; exact Heap.lt_size e
  refine call_all_walk (wpAny_pyIter_list pl.isList ⟨_, _, _, _, _, _, fun i => bs.getD i false, rfl, Walks.list (A := X.A.in1) hh _ a (Nat.ne_of_lt hlt) its.toArray, ⟨⟨_, Heap.get?_push_size _ rfl, rfl, rfl⟩, pl.isList.push _⟩, ?_, fun h' tk hk => ?_⟩)
  · intro i v s' Q' E' hv hQ
    have hv' : its[i]? = some v := by simpa using hv
    have hi : i < bs.length := by have := (List.getElem?_eq_some_iff.mp hv').1; omega
    have hx : (bs.map V.bl)[i]? = some (V.bl (bs.getD i false)) := by simp [hi]
    obtain ⟨u, hu, ru⟩ := r'.get hx
    rw [hv'] at hu
    cases hu
    cases ru
    exact wpAny_truthy_bool hQ
  · have e : (List.range its.toArray.size).all (fun i => bs.getD i false) = bs.all id := by
      rw [List.size_toArray, ← hl, Bool.eq_iff_iff]
      simp only [List.all_eq_true, List.mem_range, id]
      constructor
      · intro h b hb
        obtain ⟨i, hi, rfl⟩ := List.mem_iff_getElem.mp hb
        have := h i hi
        simpa [hi] using this
      · intro h i hi
        have := h bs[i] (List.getElem_mem hi)
        simpa [hi] using this
    rw [e]
    exact ⟨.bl _, H, I.kept fun b o e => hk b o (by simpa using Nat.ne_of_lt (Heap.lt_size e)) (Heap.get?_push_of_some _ e), rfl, q⟩
end
end L2

set_option Elab.async false
set_option linter.all false
set_option maxRecDepth 100000
namespace L2
open PySem PySem.Spec PyProof.Rows PySem.NumText PySem.Calls
/-! ### numbers written -/
/-! ### joined and split by one sign -/
end L2

set_option Elab.async false
set_option linter.all false
set_option maxRecDepth 100000
namespace L2
open PySem PySem.Spec PyProof.Rows PySem.NumText
/-- a heap of the document: at most n parts, from 1 on, below B, falling -/
structure IsHeap (n : Nat) (B : Int) (hs : List Int) : Prop where
  ln : hs.length ≤ n
  bd : ∀ x ∈ hs, 1 ≤ x ∧ x < B
  pw : hs.Pairwise (· ≥ ·)
theorem IsHeap.take {n k : Nat} {B : Int} {hs : List Int} (h : IsHeap n B hs) : IsHeap n B (hs.take k) :=
  ⟨by rw [List.length_take]; have := h.ln; omega, fun x hx => h.bd x (List.mem_of_mem_take hx), h.pw.sublist (List.take_sublist _ _)⟩
end L2

set_option Elab.async false
set_option linter.all false
set_option maxRecDepth 100000
namespace L2
open PySem PySem.Spec PyProof.Rows

/-! ### exceptions: how one lies behind a call, and within a body -/
/-- B: all that stays as it is while the exception flies (all but the frames, the exception and its records) -/
structure Cov (s₀ : Heap) (H₀ : Hp) (fr ex : List Addr) (H' : Hp) (B : Heap) : Prop where
  trk : ∀ b u, H' b = some u → ∃ o, B.get? b = some o
  old : ∀ b o, s₀.get? b = some o → H₀ b = none → b ∉ fr → b ∉ ex → B.get? b = some o
  all : ∀ b o, s₀.get? b = some o → b ∉ fr → b ∉ ex → ∃ o', B.get? b = some o'
def CX1 (P : Program) (w : World) : CXT := fun outer H s E ev s' => ∃ (e : Addr) (C : Value) (H' : Hp), ev = .ref e ∧ E C none H' ∧ s'.os = s.os ∧ AllBare s'.gens ∧ Un (frs outer) [] H H' s.heap s'.heap ∧ HOk P w H' s'.heap ∧ H' e = none ∧
  ∃ B a0, Heap.FlyingW B outer e C a0 s'.heap ∧ Cov s.heap H (frs outer) [] H' B
/-- within a body: just made, come from a callee, or noted here -/
inductive ExcSt (B : Heap) (l : List Env) (L e : Addr) (C : Value) (h : Heap) : Prop where
  | made (oe : Obj) (vs : Array Value) (a0 : Value) : B.StaysIn h → h.FunFrames B l → B.get? e = none → h.get? e = some oe → oe.cls = C → oe.data = .fields vs → vs[1]? = some .none → vs[0]? = some a0 → ExcSt B l L e C h
  | fly (a0 : Value) : Heap.FlyingW B l e C a0 h → ExcSt B l L e C h
  | held (a0 : Value) : Heap.HeldW B l e C a0 L h → ExcSt B l L e C h
theorem ExcSt.stays {B : Heap} {l : List Env} {L e : Addr} {C : Value} {h : Heap} (x : ExcSt B l L e C h) : B.StaysIn h := by
  cases x with
  | made oe vs a0 a b c => exact a
  | fly a0 a => exact a.1
  | held a0 a => exact a.1
theorem ExcSt.frames {B : Heap} {l : List Env} {L e : Addr} {C : Value} {h : Heap} (x : ExcSt B l L e C h) : h.FunFrames B l := by
  cases x with
  | made oe vs a0 a b c => exact b
  | fly a0 a => exact a.2.2.1
  | held a0 a => exact a.2.2.1
structure ExcAt (X : Cx) (H' : Hp) (e : Addr) (C : Value) (s' : Shared) : Prop where
  os : s'.os = X.s₀.os
  bare : AllBare s'.gens
  un : Un X.fs X.ex X.H₀ H' X.s₀.heap s'.heap
  hok : HOk X.prog X.w H' s'.heap
  fe : H' e = none
  st : ∃ B, Cov X.s₀.heap X.H₀ (frs X.stack) X.ex H' B ∧ ExcSt B X.stack X.env.locals e C s'.heap
/-- the heap turns while the exception flies -/
theorem Cov.turn {P : Program} {w : World} {s₀ h h' : Heap} {H₀ H' : Hp} {fr fs ex : List Addr} {B : Heap} (c : Cov s₀ H₀ fr ex H' B) (hs : ∀ b ∈ fs, b ∈ fr) (hnf : ∀ b ∈ fr, ∃ o, h.get? b = some o ∧ ∀ vs, o.data ≠ .fields vs) (b1 : B.StaysIn h) (b2 : B.StaysIn h')
    (up : ∀ b o, h.get? b = some o → (∀ vs, o.data ≠ .fields vs) → ∃ sl, h'.get? b = some { o with slots := sl }) (un : Un fs ex H₀ H' s₀ h) (hok : HOk P w H' h)
    (hfs : ∀ b o, s₀.get? b = some o → b ∈ fr → b ∈ fs) : Un fs ex H₀ H' s₀ h' ∧ HOk P w H' h' := by
  refine ⟨⟨fun b o q n hb hx => ?_, fun b o q n hb hx => ?_, un.free, fun b o q hx => ?_, un.tups, un.frzs, un.tbls⟩, fun b u e => ?_⟩
  · by_cases hf : b ∈ fr
    · exact absurd (hfs b o q hf) hb
    · exact b2 b o (c.old b o q n hf hx)
  · obtain ⟨sl, e1⟩ := un.slot b o q n hb hx
    obtain ⟨o1, e2, nf⟩ := hnf b (hs b hb)
    rw [e1] at e2
    cases e2
    obtain ⟨sl', e3⟩ := up b _ e1 nf
    exact ⟨sl', e3⟩
  · by_cases hf : b ∈ fr
    · obtain ⟨o1, e2, nf⟩ := hnf b hf
      obtain ⟨sl', e3⟩ := up b _ e2 nf
      exact ⟨_, e3⟩
    · obtain ⟨o', e⟩ := c.all b o q hf hx
      exact ⟨o', b2 b o' e⟩
  · refine (hok b u e).stay (fun d v hd q => ?_) (fun _ q => q) fun _ _ q => q
    have hd' : ∃ u', H' d = some u' := by
      rcases hd with rfl | hd
      · exact ⟨u, e⟩
      · exact ⟨_, hd⟩
    obtain ⟨u', hu'⟩ := hd'
    obtain ⟨o, ho⟩ := c.trk d u' hu'
    have := b1 d o ho
    rw [q] at this
    cases this
    exact b2 d v ho
theorem frames_nf {B h : Heap} {l : List Env} (x : h.FunFrames B l) : ∀ b ∈ frs l, ∃ o, h.get? b = some o ∧ ∀ vs, o.data ≠ .fields vs := fun b hb => by
  obtain ⟨_, o, ho, hnf⟩ := x.mem hb
  exact ⟨o, ho, hnf⟩
/-- what is wanted of an exception that leaves a body -/
def XE (X : Cx) (E : XK) : Value → Shared → Prop := fun ev s' => ∃ (e : Addr) (C : Value) (H' : Hp), ev = .ref e ∧ E C none H' ∧ ExcAt X H' e C s'
section
variable {X : Cx} {outer : List Env}
/-- a body's own frame is the top one -/
structure Own (X : Cx) : Prop where
  ok : X.Ok
  top : X.stack = X.env :: X.outer
  fr : X.env.frame = some X.env.locals
theorem Own.sub (o : Own X) : ∀ b ∈ X.fs, b ∈ frs X.stack := fun b hb => by
  rw [o.top]; unfold frs; rw [List.filterMap_cons, o.fr]; exact List.mem_cons_of_mem _ hb
theorem Own.old (o : Own X) : ∀ b ob, X.s₀.heap.get? b = some ob → b ∈ frs X.stack → b ∈ X.fs := fun b ob q hb => by
  rw [o.top] at hb
  unfold frs at hb
  rw [List.filterMap_cons, o.fr] at hb
  rcases List.mem_cons.mp hb with rfl | hb
  · exact absurd (Nat.lt_of_lt_of_le (Heap.lt_size q) o.ok.above) (Nat.lt_irrefl _)
  · exact hb
/-- noted here -/
theorem ExcAt.note {M : Model} {E' : Value → Shared → Prop} {H' : Hp} {e : Addr} {C : Value} {s' : Shared} {Q : Unit → Shared → Prop} (o : Own X) (x : ExcAt X H' e C s')
    (h : ∀ s'', ExcAt X H' e C s'' → (∃ B a0, Heap.HeldW B X.stack e C a0 X.env.locals s''.heap ∧ Cov X.s₀.heap X.H₀ (frs X.stack) X.ex H' B) → Q () s'') : wpAny M X.A (noteFrame (.ref e) X.env) Q E' s' := by
  obtain ⟨B, c, st⟩ := x.st
  have fin : ∀ {h' : Heap} {a0 : Value}, Heap.HeldW B X.stack e C a0 X.env.locals h' → (∀ b o, s'.heap.get? b = some o → (∀ vs, o.data ≠ .fields vs) → ∃ sl, h'.get? b = some { o with slots := sl }) → Q () { s' with heap := h' } := fun {h' a0} hh up => by
    obtain ⟨u, k⟩ := c.turn o.sub (frames_nf st.frames) st.stays hh.1 up x.un x.hok o.old
    exact h _ ⟨x.os, x.bare, u, k, x.fe, B, c, .held a0 hh⟩ ⟨B, a0, hh, c⟩
  have hfr : X.A.frames = some (X.env :: X.outer) := by rw [← o.top]; exact o.ok.frames
  cases st with
  | made oe vs a0 b1 b2 b3 he hc hd h1 h0 =>
    subst hc
    unfold noteFrame
    simp only [o.fr]
    refine wpAny_bind (wpAny_field he hd h1 ?_)
    rw [if_neg (by decide)]
    rw [o.top] at b2
    have := wpAny_entryW (M := M) (A := X.A) (E := E') (hadNext := ((Value.none : Value) != .none)) (head := .none) (Q := Q) hfr b2 o.fr he b1 b3 hd (Array.getElem?_eq_some_iff.mp h1).1 h0 (fun h' hN => by
      obtain ⟨x1, x2, x3, x4⟩ := hN
      exact fin ⟨x1, b3, by rw [o.top]; exact x2, x3⟩ x4)
    exact this
  | fly a0 hf =>
    rw [o.top] at hf
    exact wpAny_looks_onW hfr o.fr hf fun h' hh up => fin (by rw [o.top]; exact hh) up
  | held a0 hh =>
    exact wpAny_noteFrame_againW o.fr hh.2.2.2 (fin hh fun b ob q _ => ⟨ob.slots, q⟩)
/-- flight set once more -/
theorem ExcAt.back {M : Model} {E' : Value → Shared → Prop} {H' : Hp} {e : Addr} {C : Value} {s' : Shared} {Q : Unit → Shared → Prop} (o : Own X) (x : ExcAt X H' e C s') (hx : ∃ B a0, Heap.HeldW B X.stack e C a0 X.env.locals s'.heap ∧ Cov X.s₀.heap X.H₀ (frs X.stack) X.ex H' B)
    (h : ∀ s'', ExcAt X H' e C s'' → Q () s'') : wpAny M X.A (do
      if (← field (.ref e) 1) == .none then unsupported "frame.own-activation:exception-without-traceback"
      setFlight (.ref e) X.env.frame) Q E' s' := by
  obtain ⟨B, a0, ⟨f1, f2, f3, f4⟩, c⟩ := hx
  obtain ⟨oe, vs, T, oT, ts, he, hcls, hd, h1, hnT, hTe, hT, hdT, h3⟩ := id f4
  have hsz3 : 3 < ts.size := (Array.getElem?_eq_some_iff.mp h3).1
  refine wpAny_bind (wpAny_field he hd h1 ?_)
  rw [if_neg (show ¬ ((Value.ref T == Value.none) = true) from by simp)]
  rw [o.fr]
  have other : ∀ b, b ≠ T → (s'.heap.update T (Obj.mapFields (·.setIfInBounds 3 ((some X.env.locals : Option Addr).elim Value.none fun f => rawInt f)))).get? b = s'.heap.get? b := fun b hb => Heap.get?_update_other _ _ (Ne.symm hb)
  have noRecord : ∀ b ob, s'.heap.get? b = some ob → (∀ vs, ob.data ≠ .fields vs) → b ≠ T := fun b ob hb hnf q => by
    rw [q, hT] at hb; injection hb with hb; subst hb; exact hnf ts hdT
  unfold setFlight
  refine wpAny_bind (wpAny_field he hd h1 ?_)
  rw [if_pos (show (Value.ref T != Value.none) = true from by simp)]
  refine wpAny_setField hT hdT hsz3 ?_
  have k1 : B.StaysIn (s'.heap.update T (Obj.mapFields (·.setIfInBounds 3 ((some X.env.locals : Option Addr).elim Value.none fun f => rawInt f)))) := fun b ob hbo => (other b fun q => by rw [q, hnT] at hbo; cases hbo).trans (f1 b ob hbo)
  have hh : Heap.HeldW B X.stack e C a0 X.env.locals (s'.heap.update T (Obj.mapFields (·.setIfInBounds 3 ((some X.env.locals : Option Addr).elim Value.none fun f => rawInt f)))) :=
    ⟨k1, f2, f3.of_keeps fun b ob hb hnf => ⟨ob, (other b (noRecord b ob hb hnf)).trans hb, rfl⟩,
      oe, vs, T, _, _, (other e (Ne.symm hTe)).trans he, hcls, hd, h1, hnT, hTe, Heap.get?_update_self _ hT (Obj.isFreed_of_fields (Obj.data_mapFields hdT _)), Obj.data_mapFields hdT _, by simp [hsz3]⟩
  obtain ⟨u, k⟩ := c.turn o.sub (frames_nf f3) f1 k1 (fun b ob q nf => ⟨ob.slots, (other b (noRecord b ob q nf)).trans q⟩) x.un x.hok o.old
  exact h _ ⟨x.os, x.bare, u, k, x.fe, B, c, .held a0 hh⟩
theorem XE.passes {E : XK} (o : Own X) : PassesOwn (model X.prog X.w) X.A X.env (XE X E) := fun ev s' hx => by
  obtain ⟨e, C, H', rfl, hE, x⟩ := hx
  exact x.note o fun s'' x'' hh => x''.back o hh fun s3 x3 => ⟨e, C, H', rfl, hE, x3⟩
/-- the exception leaves the body -/
theorem ExcAt.leave {M : Model} {E' : Value → Shared → Prop} {H' : Hp} {e : Addr} {C : Value} {s' : Shared} {E : XK} (o : Own X) (hex : X.ex = []) (x : ExcAt X H' e C s') (hE : E C none H') :
    wpAny M X.A (leaving X.env (.ref e)) (fun _ s'' => CX1 X.prog X.w X.outer X.H₀ X.s₀ E (.ref e) s'') E' s' := by
  obtain ⟨B, c, st⟩ := x.st
  have hfr : X.A.frames = some (X.env :: X.outer) := by rw [← o.top]; exact o.ok.frames
  have fin : ∀ {h' : Heap} {a0 : Value}, Heap.FlyingW B X.outer e C a0 h' → (∀ b o, s'.heap.get? b = some o → (∀ vs, o.data ≠ .fields vs) → ∃ sl, h'.get? b = some { o with slots := sl }) → CX1 X.prog X.w X.outer X.H₀ X.s₀ E (.ref e) { s' with heap := h' } := fun {h' a0} hf up => by
    obtain ⟨u, k⟩ := c.turn o.sub (frames_nf st.frames) st.stays hf.1 up x.un x.hok o.old
    rw [hex] at u c
    refine ⟨e, C, H', rfl, hE, x.os, x.bare, u, k, x.fe, B, a0, hf, c.trk, fun b ob q n hb hx => c.old b ob q n (fun z => hb (o.old b ob q z)) hx, fun b ob q hb hx => c.all b ob q (fun z => hb (o.old b ob q z)) hx⟩
  cases st with
  | made oe vs a0 b1 b2 b3 he hc hd h1 h0 =>
    subst hc
    rw [o.top] at b2
    refine wpAny_leaving_firstW (a0 := a0) hfr b2 o.fr he b1 b3 hd h1 h0 fun h' hL => ?_
    obtain ⟨k1, ⟨_, _, k2⟩, k3, k4⟩ := hL
    exact fin ⟨k1, b3, k2, k3⟩ k4
  | fly a0 hf =>
    rw [o.top] at hf
    exact wpAny_leaves_onW hfr o.fr hf fun h' hh up => fin hh up
  | held a0 hh =>
    rw [o.top] at hh
    unfold leaving
    refine wpAny_bind (wpAny_noteFrame_againW o.fr hh.2.2.2 ?_)
    refine wpAny_landsW hh fun h' hfl up => ?_
    obtain ⟨k1, k2, ⟨_, _, k3⟩, k4⟩ := hfl
    exact fin ⟨k1, k2, k3, k4⟩ up
/-- an exception of a callee, in the caller's body -/
theorem ExcAt.come {pins : List (Addr × Obj)} {σ : St} {H : Hp} {s : Shared} {E : XK} {ev : Value} {s' : Shared} (o : Own X) (I : Inv X pins σ H s) (h : CX1 X.prog X.w X.stack H s E ev s') :
    ∃ (e : Addr) (C : Value) (H' : Hp), ev = .ref e ∧ E C none H' ∧ ExcAt X H' e C s' := by
  obtain ⟨e, C, H', rfl, hE, hos, hb, un, hok, fe, B, a0, hf, c⟩ := h
  have neL : ∀ b ob, X.s₀.heap.get? b = some ob → b ≠ X.env.locals := fun b ob q => Nat.ne_of_lt (Nat.lt_of_lt_of_le (Heap.lt_size q) I.ok.above)
  refine ⟨e, C, H', rfl, hE, hos.trans I.os, hb, ⟨fun b ob q n hb hx => ?_, fun b ob q n hb hx => ?_, fun b ob q n hx => ?_, fun b ob q hx => ?_, fun b xs q => un.tups b xs (I.base.tups b xs q), fun b ob u q => un.frzs b ob u (I.base.frzs b ob u q), fun b ps q => ?_⟩, hok, fe, B, ⟨c.trk, fun b ob q n hb hx => ?_, fun b ob q hb hx => ?_⟩, .fly a0 hf⟩
  · refine un.keep b ob (I.base.keep b ob q n hb hx) (I.base.free b ob q n hx) (fun z => ?_) (by simp)
    exact hb (o.old b ob q z)
  · obtain ⟨sl, e1⟩ := I.base.slot b ob q n hb hx
    obtain ⟨sl', e2⟩ := un.any e1 (I.base.free b ob q n hx) (by simp)
    exact ⟨sl', e2⟩
  · obtain ⟨o', e1⟩ := I.base.there b ob q hx
    exact un.free b o' e1 (I.base.free b ob q n hx) (by simp)
  · obtain ⟨o', e1⟩ := I.base.there b ob q hx
    exact un.there b o' e1 (by simp)
  · obtain ⟨m1, e1⟩ := I.base.tbls b ps q
    obtain ⟨m2, e2⟩ := un.tbls b _ e1
    exact ⟨m1 ++ m2, by rw [e2, Array.append_assoc]⟩
  · exact c.old b ob (I.base.keep b ob q n (fun z => hb (o.sub b z)) hx) (I.base.free b ob q n hx) hb (by simp)
  · obtain ⟨o', e1⟩ := I.base.there b ob q hx
    exact c.all b o' e1 hb (by simp)
end
end L2

set_option Elab.async false
set_option linter.all false
set_option maxRecDepth 100000
namespace L2
open PySem PySem.Spec PyProof.Rows

theorem PSs.wished {X : Cx} {E : Value → Shared → Prop} {st : List Stmt} {t : TS} (h : PSs (X.wish E) st t) (hE : X.Ok → ∀ ev s', E ev s' → X.xe ev s') : PSs X st t := fun pins s σ H D I hw =>
  wpAny_mono (h pins s σ H D (I.wish E) hw) (fun f s' q => q.unwish) fun ev s' q => hE I.ok ev s' q
section
variable {P : Program} {w : World} {K : PySem.W.Frag} {mg : Str → Option Value} {base : Heap}
/-- a def's body and what may leave it: E of every exception's class and heap -/
theorem Fun.okE {x qual : Str} {st : Stmt} {f : Addr} {fd : FuncData} {N ps : List Str} {k : Nat} {sp : Sp} {cm : Bool} (F : Fun K x qual st f fd) (S : FnScope N ps (defScope st)) (len : ∀ vs H Q E, sp vs H Q E → vs.length = ps.length)
    (hbody : ∀ (cdv : Value) (A : Around) (outer : List Env) (s : Shared) (H : Hp) (vs : List V) (Q : VK) (E : XK), Room k (A.deeper (envOfC qual (defScope st) s.heap.objs.size f cdv)) cm → sp vs H Q E →
      ∃ t, PSs ((cxOf (CX1 P w) P w K mg base N qual (defScope st) f cdv A outer s H E cm).wish (XE (cxOf (CX1 P w) P w K mg base N qual (defScope st) f cdv A outer s H E cm) E)) (defBody st) t ∧ t { nx := fun _ H' => Q .non H', rt := Q } (start N vs) H) : FnOk P w K mg base (CX1 P w) (k + 1) f fd ps sp cm := by
  obtain ⟨oc, od, kV, doc, pm, an, cdv, ct, osl, rfl, lk, hcd⟩ := F.ex
  refine fn_of lk hcd S len fun A outer s H vs Q E hr hsp => ?_
  obtain ⟨t, h, q⟩ := hbody cdv A outer s H vs Q E hr hsp
  refine ⟨t, h.wished fun ok ev s' hx => ?_, q⟩
  obtain ⟨e, C, H', rfl, hE, x⟩ := hx
  exact ExcAt.leave (X := cxOf (CX1 P w) P w K mg base N qual (defScope st) f cdv A outer s H E cm) ⟨ok, rfl, rfl⟩ rfl x hE
end
/-- a callee that never raises, under another wish -/
theorem FnOk.calm {P : Program} {w : World} {K : PySem.W.Frag} {mg : Str → Option Value} {base : Heap} {k : Nat} {f : Addr} {fd : FuncData} {ps : List Str} {sp : Sp} {CX : CXT} {cm : Bool} (F : FnOk P w K mg base CX0 k f fd ps sp cm) : FnOk P w K mg base CX k f fd ps sp cm :=
  ⟨F.len, fun A outer s H args us vs Q E hr he hb hv hs => codeAny_mono (F.run A outer s H args us vs Q E hr he hb hv hs) fun r s' h => by
    cases r with
    | error e => exact (show False from h).elim
    | ok fl => cases fl <;> exact h⟩
/-- what a callee raises reaches this body's wish -/
theorem pass1 {X : Cx} {E E' : XK} (top : X.stack = X.env :: X.outer) (fr : X.env.frame = some X.env.locals) (h : ∀ C H', E' C none H' → E C none H') : Passes (CX1 X.prog X.w) (X.wish (XE X E)) E' := fun pins σ H s e s' I hx => by
  obtain ⟨e, C, H', rfl, hE, x⟩ := ExcAt.come (X := X) ⟨I.unwish.ok, top, fr⟩ I.unwish hx
  exact ⟨e, C, H', rfl, h C H' hE, x⟩
/-- the loops' condition -/
theorem own1 {X : Cx} {E : XK} (top : X.stack = X.env :: X.outer) (fr : X.env.frame = some X.env.locals) (ok : X.Ok) : PassesOwn (model (X.wish (XE X E)).prog (X.wish (XE X E)).w) (X.wish (XE X E)).A (X.wish (XE X E)).env (X.wish (XE X E)).xe := XE.passes (X := X) ⟨ok, top, fr⟩

/-! ### raise -/
theorem ObjOk.some {P : Program} {w : World} {H : Hp} {h : Heap} {a : Addr} {o : HO} (x : ObjOk P w H h a o) : ∃ ob, h.get? a = some ob := by
  induction o with
  | lst xs => obtain ⟨_, _, _, _, e⟩ := x; exact ⟨_, e⟩
  | tup xs => obtain ⟨_, _, _, ⟨ob, e, _⟩, _⟩ := x; exact ⟨_, e⟩
  | dK kvs => obtain ⟨_, _, _, _, o, _, _, e, _⟩ := x; exact ⟨_, e⟩
  | dT kvs => obtain ⟨_, _, _, _, o, _, _, e, _⟩ := x; exact ⟨_, e⟩
  | set S n => obtain ⟨ob, _, _, _, e, _⟩ := x; exact ⟨_, e⟩
  | ins C dx fs => obtain ⟨_, _, _, e, _⟩ := x; exact ⟨_, e⟩
  | own y => exact x
  | xd fs => obtain ⟨_, ⟨ob, _, _, e, _⟩, _⟩ := x; exact ⟨_, e⟩
  | rng lo hi => obtain ⟨_, _, _, e⟩ := x; exact ⟨_, e⟩
  | frz ob u _ => exact ⟨_, x.1⟩
  | tbl ps => exact ⟨_, x⟩
  | met f y => exact ⟨_, x⟩
  | ext φ => exact x.2.1
/-- an exception just made -/
theorem ExcAt.made {X : Cx} {pins : List (Addr × Obj)} {σ : St} {H : Hp} {s : Shared} {h' : Heap} {e : Addr} {C : Value} {args : List Value} (I : Inv X pins σ H s) (m : Heap.MadeExcOf s.heap h' e C args) : ExcAt X H e C { s with heap := h' } := by
  obtain ⟨t, he, htn, ht⟩ := m.there
  have k : ∀ b ob, s.heap.get? b = some ob → h'.get? b = some ob := m.keeps
  have hnone : H e = none := by
    cases q : H e with
    | none => rfl
    | some u =>
      obtain ⟨ob, e1⟩ := (I.hok e u q).some
      rw [m.new] at e1
      cases e1
  have sub : ∀ b, b ∉ frs X.stack → b ∉ X.fs := fun b hb z => by
    rcases I.ok.stk with e | ⟨e, hf⟩
    · rw [e] at hb; exact hb z
    · rw [e] at hb
      unfold frs at hb
      rw [List.filterMap_cons, hf] at hb
      exact hb (List.mem_cons_of_mem _ z)
  refine ⟨I.os, I.bare, I.base.trans (Un.kept k), I.hok.kept k, hnone, PySem.W.hideAll s.heap (frs X.stack), ⟨fun b u q => ?_, fun b ob q n hb hx => ?_, fun b ob q hb hx => ?_⟩, ?_⟩
  · obtain ⟨ob, e1⟩ := (I.hok b u q).some
    exact ⟨ob, PySem.W.hideAll_get _ e1 fun z => by rw [I.stkFree b z] at q; cases q⟩
  · exact PySem.W.hideAll_get _ (I.base.keep b ob q n (sub b hb) hx) hb
  · obtain ⟨o', e1⟩ := I.base.there b ob q hx
    exact ⟨o', PySem.W.hideAll_get _ e1 hb⟩
  · refine .made _ _ (.ref t) (fun b ob q => k b ob (PySem.W.of_hideAll _ q)) ?_ ?_ he rfl rfl rfl rfl
    · refine (PySem.W.funFrames_hide I.stack fun env hm a ha => List.mem_filterMap.mpr ⟨env, hm, ha⟩).of_keeps fun b ob q _ => ⟨ob, k b ob q, rfl⟩
    · cases q : (PySem.W.hideAll s.heap (frs X.stack)).get? e with
      | none => rfl
      | some ob => have := PySem.W.of_hideAll _ q; rw [m.new] at this; cases this
/-- an own exception class beneath ValueError, without an __init__ along the way -/
def bmV : List Value := [.type "ValueError", .type "Exception", .type "BaseException", .type "object"]
structure ExcC (K : PySem.W.Frag) (C : Addr) : Prop where
  inn : PySem.W.excIn K C bmV "ValueError.__new__" = true
  kp : PySem.W.keepIn K (.ref C) = true
theorem ExcC.obj {K : PySem.W.Frag} {C : Addr} {h : Heap} (c : ExcC K C) (X : K.In h) : ∃ (bm : List Value) (N : Addr) (nm q : Str) (bs : List Value) (hdct : Bool) (sn : List Str) (sub : List Value) (ab : Bool) (col : Option Bool) (dd : Option Addr) (k0 k1 k2 k3 k5 : Option Value) (mN : Str → Option Value),
    h.get? C = some (excClassObj nm q C N bs bm hdct sn sub ab col dd k0 k1 k2 k3 k5 "ValueError.__new__") ∧ h.Ns N mN ∧ mN "__init__" = none ∧ OwnTail h bmV bm ∧ K.lookup C = some (excClassObj nm q C N bs bm hdct sn sub ab col dd k0 k1 k2 k3 k5 "ValueError.__new__") := by
  have q := c.inn
  unfold PySem.W.excIn at q
  split at q
  · rename_i dd cd sl ho
    split at q
    · rename_i C' bm k0 k1 k2 k3 n k5 hm hs
      simp only [Bool.and_eq_true, beq_iff_eq, Bool.not_eq_true'] at q
      obtain ⟨⟨⟨⟨⟨rfl, rfl⟩, hdel⟩, ht⟩, hok⟩, hni⟩ := q
      obtain ⟨nm, bs, mro, ns, qn, hd, sn, sub, ab, col, del⟩ := cd
      dsimp only at hm hdel hok hni
      subst hm hdel
      have hsl : sl = #[k0, k1, k2, k3, some (.builtin "ValueError.__new__"), k5] := by
        obtain ⟨l⟩ := sl
        simp only at hs
        rw [hs]
      subst hsl
      exact ⟨bm, ns, nm, qn, bs, hd, sn, sub, ab, col, dd, k0, k1, k2, k3, k5, _, X _ _ ho, .of_isNs (PySem.W.isNs_of_in X hok), PySem.W.nsMap_none_of_in X hok hni, PySem.W.tail_of_in X ht, ho⟩
    · cases q
  · cases q
/-- raise C(args) -/
def tRaise (C : Addr) (E : XK) (ta : TA) : TS := fun _ σ H => ta σ H fun vs H1 => vs.length ≤ sizeLine ∧ E (.ref C) none H1
theorem ps_raise {X : Cx} {E : XK} {C : Addr} {x : Str} {a : Expr} {args : List Expr} {np cpos pos : Pos} {ta : TA} (hc : X.calm = true) (c : ExcC X.K C) (hg : Gl (X.wish (XE X E)) x) (hm : X.mg x = some (.ref C)) (ha : PA (X.wish (XE X E)) (a :: args) ta)
    (hd : (x == ("__debug__" : Str)) = false := by decide) (he : starEach (a :: args) X.env = (false, eval a X.env) :: starEach args X.env := by rfl) (hplain : (backTo cpos (starEach args X.env)).any (·.1) = false := by rfl) :
    PS (X.wish (XE X E)) (.Raise (some (.Call (.Name x np) (a :: args) [] cpos)) none pos) (tRaise C E ta) := by
  intro pins s σ H D I hw
  obtain ⟨bm, N, nm, q, bs, hdct, sn, sub, ab, col, dd, k0, k1, k2, k3, k5, mN, hC, hn, hni, hT, hlk⟩ := c.obj I.ok.mod.kin
  have hpl : (backTo cpos (starEach (a :: args) X.env)).any (·.1) = false := by
    rw [he]
    show (false || (backTo cpos (starEach args X.env)).any (·.1)) = false
    rw [hplain]; rfl
  refine wpAny_Raise_call_subU (C := C) (mN := mN) (nm := nm) (q := q) (N := N) (bs := bs) (hdct := hdct) (sn := sn) (sub := sub) (ab := ab) (col := col) (dd := dd) (k0 := k0) (k1 := k1) (k2 := k2) (k3 := k3) (k5 := k5) (bmB := bmV) PySem.F.excBase_ValueError (by decide) PySem.F.excBase_ValueError (hT.hasType (by decide)) (I.ok.hd hc) hpl hni ?_
  refine ld_glob I hg hm ⟨rfl, ?_⟩ hd
  have hA := ha cpos pins s σ H _ I hw
  rw [show (X.wish (XE X E)).env = X.env from rfl, he] at hA
  rw [he]
  refine Calls.evalArgs_plain (thn hA fun us s1 ⟨vs, H1, I1, r, hl, hE⟩ => ?_)
  have kb : ∀ b ob, X.base.get? b = some ob → s1.heap.get? b = some ob := I1.bk
  exact ⟨rfl, by rw [← r.length]; exact hl, kb _ _ hC, hn.keeps kb, hT.keeps kb, fun h' e m => ⟨e, .ref C, H1, rfl, hE, ExcAt.made I1.unwish m⟩⟩
end L2

set_option Elab.async false
set_option linter.all false
set_option maxRecDepth 100000
namespace L2
open PySem PySem.Spec PyProof.Rows

/-! ### an exception that has landed: noted here, its flight ended -/
structure Lnd (X : Cx) (s : Shared) (H H' : Hp) (e : Addr) (C : Value) (s3 : Shared) : Prop where
  os : s3.os = s.os
  bare : AllBare s3.gens
  un : Un (frs X.stack) [] H H' s.heap s3.heap
  hok : HOk X.prog X.w H' s3.heap
  fe : H' e = none
  st : ∃ B a0, Heap.FlyingW B X.stack e C a0 s3.heap ∧ Cov s.heap H (frs X.stack) [] H' B
def IsExc (e : Addr) (C : Value) (h : Heap) : Prop := ∃ oe vs, h.get? e = some oe ∧ oe.cls = C ∧ oe.data = .fields vs
section
variable {X : Cx} {pins : List (Addr × Obj)} {σ : St} {H H' : Hp} {s s3 : Shared} {e : Addr} {C : Value}
theorem Lnd.again {M : Model} {A : Around} {E' : Value → Shared → Prop} {Q : Unit → Shared → Prop} (l : Lnd X s H H' e C s3) (hQ : ∀ s4, Lnd X s H H' e C s4 → Q () s4) : wpAny M A (setFlight (.ref e) none) Q E' s3 := by
  obtain ⟨B, a0, ⟨f1, f2, f3, f4⟩, c⟩ := l.st
  refine wpAny_setFlight_noneW f1 f3 f4 fun h' k1 k2 k3 k4 => ?_
  obtain ⟨u, k⟩ := c.turn (P := X.prog) (w := X.w) (fs := frs X.stack) (fun _ z => z) (frames_nf f3) f1 k1 (fun b o q nf => ⟨o.slots, k4 b o q nf⟩) l.un l.hok (fun _ _ _ z => z)
  exact hQ _ ⟨l.os, l.bare, u, k, l.fe, B, a0, ⟨k1, f2, k2, k3⟩, c⟩
theorem Lnd.obj (l : Lnd X s H H' e C s3) : IsExc e C s3.heap := by
  obtain ⟨B, a0, ⟨f1, f2, f3, oe, vs, T, oT, ts, he, hc, hd, _⟩, c⟩ := l.st
  exact ⟨oe, vs, he, hc.1, hd⟩
theorem Lnd.new (l : Lnd X s H H' e C s3) : s.heap.get? e = none := by
  obtain ⟨oe, vs, he, hc, hd⟩ := l.obj
  obtain ⟨B, a0, ⟨f1, f2, f3, f4⟩, c⟩ := l.st
  cases q : s.heap.get? e with
  | none => rfl
  | some o =>
    by_cases hm : e ∈ frs X.stack
    · obtain ⟨o1, e1, nf⟩ := frames_nf f3 e hm
      rw [he] at e1; cases e1
      exact absurd hd (nf vs)
    · obtain ⟨o', e'⟩ := c.all e o q hm (by simp)
      rw [f2] at e'; cases e'
/-- .. and tracked -/
theorem Lnd.tracked (I : Inv X pins σ H s) (l : Lnd X s H H' e C s3) : Inv X pins σ (upd H' e (.ext (IsExc e C))) s3 := by
  have hnew := l.new
  have ne : ∀ b u, H b = some u → b ≠ e := fun b u q z => by
    obtain ⟨o, ho⟩ := (I.hok b u q).some
    rw [z, hnew] at ho; cases ho
  have ne' : ∀ b o, s.heap.get? b = some o → b ≠ e := fun b o q z => by rw [z, hnew] at q; cases q
  have hn : ∀ b u, H' b = some u → b ≠ e := fun b u q z => by rw [z, l.fe] at q; cases q
  refine I.call' l.os ⟨l.un.keep, l.un.slot, fun b o q n hx => ?_, l.un.there, fun b xs q => ?_, fun b o u q => ?_, fun b ps q => ?_⟩ (fun b u q => ?_) l.bare (fun b z => nomatch z)
  · rw [upd_ne (ne' b o q)]; exact l.un.free b o q n hx
  · rw [upd_ne (ne b _ q)]; exact l.un.tups b xs q
  · rw [upd_ne (ne b _ q)]; exact l.un.frzs b o u q
  · rw [upd_ne (ne b _ q)]; exact l.un.tbls b ps q
  · by_cases hb : b = e
    · subst hb; rw [upd_same] at q; cases q
      obtain ⟨oe, vs, he, hc, hd⟩ := l.obj
      exact ⟨⟨oe, vs, he, hc, hd⟩, ⟨oe, he⟩, fun h h' ⟨oe, vs, he, hc, hd⟩ k => ⟨oe, vs, k oe he, hc, hd⟩⟩
    · rw [upd_ne hb] at q
      exact (l.hok b u q).stay (fun _ _ _ q => q) (fun c q => by rw [upd_ne (hn c _ q)]; exact q) fun c xs q => by rw [upd_ne (hn c _ q)]; exact q
end

/-! ### within the suite: the exception is marked -/
section
variable {X : Cx} {pins : List (Addr × Obj)} {σ : St} {H : Hp} {s : Shared} {e : Addr}
end
end L2

set_option Elab.async false
set_option linter.all false
set_option maxRecDepth 100000
namespace L2
open PySem PySem.Spec PyProof.Rows PySem.W PySem.Calls PySem.Builtin PySem.Builtin.ObjectAttr PySem.Builtin.Getset_descriptor

/-! ### isinstance of an exception: only its class is known -/
def ClsAt (e D : Addr) (h : Heap) : Prop := ∃ oe, h.get? e = some oe ∧ oe.cls = .ref D
theorem IsExc.cls {e D : Addr} {h : Heap} (x : IsExc e (.ref D) h) : ClsAt e D h := let ⟨oe, _, a, b, _⟩ := x; ⟨oe, a, b⟩
/-- what the fragment says of an own class whose instances have no dict yet -/
structure ClsE (K : Frag) (D : Addr) : Prop where
  ga : findIn K (.ref D) "__getattribute__" = some (some (.builtin "BaseException.__getattribute__"))
  gn : findIn K (.ref D) "__getattr__" = some none
  fd : findIn K (.ref D) "__class__" = some (some (.builtin "object.__class__"))
  sp : specialIn K (.builtin "object.__class__") "__get__" = some (some (.builtin "getset_descriptor.__get__"))
  tk : takesIn K (.builtin "object.__class__") = some true
  ob : mroIn K D (.type "object") = some true
  be : mroIn K D (.type "BaseException") = some true
theorem cls_of_mro {K : Frag} {D : Addr} {v : Value} {b : Bool} (h : mroIn K D v = some b) : (clsIn K D).isSome = true := by
  unfold mroIn at h
  obtain ⟨cd, e, _⟩ := Option.bind_eq_some_iff.mp h
  rw [e]; rfl
theorem ClsE.cl {K : Frag} {D : Addr} (c : ClsE K D) : (clsIn K D).isSome = true := cls_of_mro c.ob
theorem ClsE.find {K : Frag} {D e : Addr} {M : Model} {h : Heap} (c : ClsE K D) (X : K.In h) : Looks M h (find (.ref e) (.ref D) "__class__") (.bind (.builtin "getset_descriptor.__get__") (.builtin "object.__class__")) := by
  have a1 := looks_findIn (M := M) X c.fd
  have a2 : Looks M h (getOf (some (.builtin "object.__class__"))) (some (.builtin "getset_descriptor.__get__")) := looks_specialIn X c.sp
  have a3 := looks_takesIn (M := M) X c.tk
  have a4 : Looks M h (dataDescriptor? (some (.builtin "object.__class__")) (some (.builtin "getset_descriptor.__get__"))) (some (.builtin "getset_descriptor.__get__", .builtin "object.__class__")) := a3.andThen .now
  exact a1.andThen (a2.andThen (a4.andThen (Looks.tag .now)))
/-! ### which classes an except clause takes -/
end L2

set_option Elab.async false
set_option linter.all false
set_option maxRecDepth 100000
namespace L2
open PySem PySem.Spec PyProof.Rows PySem.W

/-! ### try: f(..) except S as n: suite -/
section
variable {X : Cx} {k : Nat} {f : Addr} {fd : FuncData} {ps : List Str} {sp : Sp} {dvs : List V} {ds : List Value} {x : Str} {p pos : Pos} {e : Expr} {es : List Expr} {t : TA} {cm : Bool}
end
end L2

set_option Elab.async false
set_option linter.all false
set_option maxRecDepth 100000
namespace L2
open PySem PySem.Spec PyProof.Rows PySem.W
/-- with the context's facts at hand -/
theorem ps_ok {X : Cx} {st : Stmt} {t : TS} (h : X.Ok → PS X st t) : PS X st t := fun pins s σ H D I hw => h I.ok pins s σ H D I hw
/-- a callee that may raise, called where it doesn't -/
theorem pass01 {X : Cx} {P : Program} {w : World} : Passes (CX1 P w) X E0 := fun _ _ _ _ _ _ _ ⟨_, _, _, _, h, _⟩ => h.elim
theorem ownE {X : Cx} {E : XK} (ok : (X.wish (XE X E)).Ok) (top : X.stack = X.env :: X.outer := by rfl) (fr : X.env.frame = some X.env.locals := by rfl) : PassesOwn (model (X.wish (XE X E)).prog (X.wish (XE X E)).w) (X.wish (XE X E)).A (X.wish (XE X E)).env (X.wish (XE X E)).xe := own1 top fr ok.unwish
theorem passE {X : Cx} {E : XK} (top : X.stack = X.env :: X.outer := by rfl) (fr : X.env.frame = some X.env.locals := by rfl) : Passes (CX1 X.prog X.w) (X.wish (XE X E)) E := pass1 top fr fun _ _ h => h
theorem FnOk.any {P : Program} {w : World} {K : Frag} {mg : Str → Option Value} {base : Heap} {CX : CXT} {k : Nat} {f : Addr} {fd : FuncData} {ps : List Str} {sp : Sp} (F : FnOk P w K mg base CX k f fd ps sp false) : FnOk P w K mg base CX k f fd ps sp :=
  ⟨F.len, fun A outer s H args us vs Q E hr => F.run A outer s H args us vs Q E ⟨(fun z => nomatch z), hr.dp, hr.un⟩⟩
end L2

set_option Elab.async false
set_option linter.all false
set_option maxRecDepth 100000
namespace L2
open PySem PySem.Spec PyProof.Rows

/-! ### zip(a, b) walked by a tuple target -/
def itName : Bool → String
  | true => "tuple_iterator"
  | false => "list_iterator"
/-- an iterator over a tuple (k = true) or a list -/
def IterAt (k : Bool) (h : Heap) (it l : Addr) (i : Nat) : Prop := ∃ o, h.get? it = some o ∧ o.cls = .type (itName k) ∧ o.data = .fields #[.ref l, .int i 0]
def SeqIs (k : Bool) (h : Heap) (l : Addr) (items : Array Value) : Prop :=
  match k with
  | true => h.IsTuple l items
  | false => h.IsList l items
theorem IterAt.kept {k : Bool} {h h' : Heap} {it l : Addr} {i : Nat} (x : IterAt k h it l i) (f : ∀ o, h.get? it = some o → h'.get? it = some o) : IterAt k h' it l i :=
  let ⟨o, e, r⟩ := x; ⟨o, f o e, r⟩
theorem IterAt.lt {k : Bool} {h : Heap} {it l : Addr} {i : Nat} (x : IterAt k h it l i) : it < h.objs.size := let ⟨_, e, _⟩ := x; Heap.lt_size e
theorem SeqIs.kept {k : Bool} {h h' : Heap} {l : Addr} {items : Array Value} (x : SeqIs k h l items) (f : ∀ o, h.get? l = some o → h'.get? l = some o) : SeqIs k h' l items := by
  cases k
  · obtain ⟨o, e, r⟩ := x; exact ⟨o, f o e, r⟩
  · obtain ⟨o, e, r⟩ := x; exact ⟨o, f o e, r⟩
theorem SeqIs.lt {k : Bool} {h : Heap} {l : Addr} {items : Array Value} (x : SeqIs k h l items) : l < h.objs.size := by
  cases k
  · obtain ⟨o, e, _⟩ := x; exact Heap.lt_size e
  · obtain ⟨o, e, _⟩ := x; exact Heap.lt_size e
section
variable {prog : Program} {w : World} {A : Around} {E : Value → Shared → Prop} {s : Shared}
theorem nextOf_tup {it l : Addr} {i : Nat} {items : Array Value} {Q : Value → Shared → Prop} (hit : s.heap.IsTupleIter it l i) (ht : s.heap.IsTuple l items)
    (h : match items[i]? with
      | some x => ∀ h', h'.IsTupleIter it l (i + 1) → Heap.SameBut it s.heap h' → Q x { s with heap := h' }
      | none => A.handled = none ∧ ∀ h' e, Heap.ExtBut it s.heap h' → (∃ o, h'.get? e = some o ∧ o.cls = .type "StopIteration") → E (.ref e) { s with heap := h' }) :
    wpAny (model prog w) A (Builtin.SmallTypes.nextOf (.ref it)) Q E s := by
  obtain ⟨oi, e1, c1, d1⟩ := id hit
  obtain ⟨ot, e2, _, m2, d2⟩ := ht
  unfold Builtin.SmallTypes.nextOf
  refine wpAny_bind (wpAny_callSpecial?_slot (name := Str.ofString "__next__") hit.typeIs F.slot_tuple_iterator_next (wpAny_call_entry F.slot_tuple_iterator_next hit.typeIs F.entry_tuple_iterator_next ?_ (F.args_tuple_iterator_next_1 _)))
  show wpAny _ _ (field (.ref it) 0 >>= _) _ _ s
  refine wpAny_bind (wpAny_field e1 d1 (x := .ref l) rfl ?_)
  show wpAny _ _ (if (Value.ref l == Value.none) = true then _ else _) _ _ s
  rw [if_neg (show ¬ ((Value.ref l == Value.none) = true) from Bool.false_ne_true)]
  show wpAny _ _ (field (.ref it) 1 >>= _) _ _ s
  refine wpAny_bind (wpAny_field e1 d1 (x := .int i 0) rfl ?_)
  show wpAny _ _ (seqItems? (.ref l) >>= _) _ _ s
  refine wpAny_bind (wpAny_seqItems e2 d2 ?_)
  cases hx : items[i]? with
  | some x =>
    rw [hx] at h
    simp only [Int.toNat_natCast, hx]
    refine wpAny_bind (wpAny_setField e1 d1 (by simp) (wpAny_pure ⟨x, rfl, wpAny_pure (h _ ?_ (Heap.SameBut.update ..))⟩))
    refine ⟨_, Heap.get?_update_self _ e1 (Obj.isFreed_of_fields (Obj.data_mapFields d1 _)), (Obj.cls_mapFields ..).trans c1, ?_⟩
    rw [Obj.data_mapFields d1]
    simp [rawInt]
  | none =>
    rw [hx] at h
    obtain ⟨hh, h⟩ := h
    simp only [Int.toNat_natCast, hx]
    refine wpAny_bind (wpAny_rule (wpAny_bind (wpAny_setField e1 d1 (by simp) ?_)))
    show wpAny _ _ (newExc (.type "StopIteration") [] >>= _) _ _ _
    refine wpAny_bind ?_
    simp only [newExc, newTuple]
    refine wpAny_bind (wpAny_newObj_type ?_ (by size_fits))
    refine wpAny_bind (m := firstArgMember _ _) (wpAny_of_eq (a := Value.none) (by first | rfl | (simp only [firstArgMember]; rfl)) ?_)
    refine wpAny_newObj_type ?_ (by size_fits)
    simp only [raiseNew]
    refine wpAny_bind (wpAny_handled ?_)
    first | rw [show A.in1.handled = none from hh] | rw [hh]
    exact wpAny_bind (wpAny_pure (wpAny_throw (h _ _ (((Heap.SameBut.update ..).extBut.push _).push _) ⟨_, Heap.get?_push_size _ rfl, rfl⟩)))
/-- the next one of a list's or tuple's iterator -/
theorem nextS {k : Bool} {it l : Addr} {i : Nat} {items : Array Value} {x : Value} {Q : Value → Shared → Prop} (hit : IterAt k s.heap it l i) (hl : SeqIs k s.heap l items) (hx : items[i]? = some x)
    (hQ : ∀ h', IterAt k h' it l (i + 1) → Heap.SameBut it s.heap h' → Q x { s with heap := h' }) : wpAny (model prog w) A (Builtin.SmallTypes.nextOf (.ref it)) Q E s := by
  cases k
  · exact wpAny_nextOf_list_item hit hl hx hQ
  · exact nextOf_tup hit hl (by rw [hx]; exact hQ)
theorem endS {k : Bool} {it l : Addr} {i : Nat} {items : Array Value} {Q : Value → Shared → Prop} (hh : A.handled = none) (hit : IterAt k s.heap it l i) (hl : SeqIs k s.heap l items) (hx : items[i]? = none)
    (hE : ∀ h' e, Heap.ExtBut it s.heap h' → (∃ o, h'.get? e = some o ∧ o.cls = .type "StopIteration") → E (.ref e) { s with heap := h' }) : wpAny (model prog w) A (Builtin.SmallTypes.nextOf (.ref it)) Q E s := by
  cases k
  · exact wpAny_nextOf_list_end hh hit hl hx hE
  · exact nextOf_tup hit hl (by rw [hx]; exact ⟨hh, hE⟩)
theorem pyIterS {k : Bool} {l : Addr} {items : Array Value} {Q : Value → Shared → Prop} (hl : SeqIs k s.heap l items)
    (hQ : Q (.ref s.heap.objs.size) { s with heap := s.heap.push { cls := .type (itName k), data := .fields #[.ref l, .int 0 0] } }) : wpAny (model prog w) A (pyIter (.ref l)) Q E s := by
  cases k
  · exact wpAny_pyIter_list hl hQ
  · exact wpAny_pyIter_tuple hl hQ

/-- the zip object, its two tuples, its two iterators -/
structure ZipAt (k1 k2 : Bool) (h : Heap) (z TI TO i1 i2 l1 l2 : Addr) (f0 : Value) (j1 j2 : Nat) : Prop where
  zz : IsZip h z TI TO f0
  ti : IsPair h TI (.ref i1) (.ref i2)
  tO : ∃ a b, IsPair h TO a b
  a1 : IterAt k1 h i1 l1 j1
  a2 : IterAt k2 h i2 l2 j2
theorem ZipAt.kept {k1 k2 : Bool} {h h' : Heap} {z TI TO i1 i2 l1 l2 : Addr} {f0 : Value} {j1 j2 : Nat} (x : ZipAt k1 k2 h z TI TO i1 i2 l1 l2 f0 j1 j2) (f : ∀ b ∈ [z, TI, TO, i1, i2], ∀ o, h.get? b = some o → h'.get? b = some o) :
    ZipAt k1 k2 h' z TI TO i1 i2 l1 l2 f0 j1 j2 := by
  obtain ⟨a, b, ⟨c, d, e⟩, p, q⟩ := x
  exact ⟨f z (by simp) _ a, f TI (by simp) _ b, ⟨c, d, f TO (by simp) _ e⟩, p.kept (f i1 (by simp)), q.kept (f i2 (by simp))⟩
theorem zip_item {k1 k2 : Bool} {z TI TO i1 i2 l1 l2 : Addr} {j1 j2 : Nat} {xs ys : Array Value} {x y : Value} {Q : Value → Shared → Prop} (D : ZipApart z TI TO i1 i2 l1 l2) (Z : ZipAt k1 k2 s.heap z TI TO i1 i2 l1 l2 .none j1 j2)
    (b1 : SeqIs k1 s.heap l1 xs) (b2 : SeqIs k2 s.heap l2 ys) (hx : xs[j1]? = some x) (hy : ys[j2]? = some y)
    (hQ : ∀ h', ZipAt k1 k2 h' z TI TO i1 i2 l1 l2 (rawInt s.heap.objs.size) (j1 + 1) (j2 + 1) → IsPair h' s.heap.objs.size x y → (∀ c o, c ∉ [z, TO, i1, i2] → s.heap.get? c = some o → h'.get? c = some o) → Q (.ref s.heap.objs.size) { s with heap := h' }) :
    wpAny (model prog w) A (Builtin.«zip.__next__» ⟨[.ref z], []⟩) (fun fin s' => ∃ v, fin = .done (.ret v) ∧ Q v s') E s := by
  obtain ⟨g0, g1, ⟨oa, ob, g2⟩, p1, p2⟩ := Z
  show wpAny _ _ (field (.ref z) 2 >>= _) _ _ _
  refine wpAny_bind (wpAny_field g0 rfl (x := .bool false) rfl ?_)
  show wpAny _ _ (field (.ref z) 3 >>= _) _ _ _
  refine wpAny_bind (wpAny_field g0 rfl (x := .ref TI) rfl ?_)
  refine wpAny_bind (wpAny_seqItems g1 rfl ?_)
  show wpAny _ _ (Builtin.SmallTypes.ownedTupleIsFree (.ref z) >>= _) _ _ _
  refine wpAny_bind ?_
  unfold Builtin.SmallTypes.ownedTupleIsFree
  refine wpAny_bind (wpAny_field g0 rfl (x := .none) rfl (wpAny_pure ?_))
  simp only [if_true]
  refine wpAny_bind (wpAny_rule ?_)
  refine wpAny_bind (wpAny_field g0 rfl (x := .ref TO) rfl ?_)
  refine wpAny_bind (wpAny_setField_rec g0 (by simp) fun ha za sa => ?_)
  replace za : IsZip ha z TI TO .ellipsis := za
  refine wpAny_bind ?_
  simp only [List.zipIdx_cons, List.zipIdx_nil, List.forIn_cons, List.forIn_nil]
  refine wpAny_bind (wpAny_bind (wpAny_onRaise ?_))
  show wpAny _ _ (Builtin.SmallTypes.nextOf (.ref i1) >>= _) _ _ _
  refine wpAny_bind (nextS (p1.kept fun o e => sa.extBut _ _ D.i1z e) (b1.kept fun o e => sa.extBut _ _ D.l1z e) hx fun hb p1b sb => wpAny_pure ?_)
  have t2 : IsPair hb TO oa ob := sb.extBut _ _ D.TOi1 (sa.extBut _ _ D.TOz g2)
  refine wpAny_bind (wpAny_seqItems t2 rfl ?_)
  refine wpAny_bind (wpAny_updateSeq_pair t2 fun hc t3 sc => ?_)
  replace t3 : IsPair hc TO x ob := t3
  refine wpAny_bind (wpAny_letGo (wpAny_pure ?_))
  refine wpAny_bind (wpAny_bind (wpAny_onRaise ?_))
  show wpAny _ _ (Builtin.SmallTypes.nextOf (.ref i2) >>= _) _ _ _
  refine wpAny_bind (nextS (p2.kept fun o e => sc.extBut _ _ D.TOi2.symm (sb.extBut _ _ D.i12.symm (sa.extBut _ _ D.i2z e))) (b2.kept fun o e => sc.extBut _ _ D.l2TO (sb.extBut _ _ D.l2i1 (sa.extBut _ _ D.l2z e))) hy fun hd p2d sd => wpAny_pure ?_)
  have t4 : IsPair hd TO x ob := sd.extBut _ _ D.TOi2 t3
  refine wpAny_bind (wpAny_seqItems t4 rfl ?_)
  refine wpAny_bind (wpAny_updateSeq_pair t4 fun he t5 se => ?_)
  replace t5 : IsPair he TO x y := t5
  refine wpAny_bind (wpAny_letGo (wpAny_pure (wpAny_pure ?_)))
  refine wpAny_bind (wpAny_seqItems t5 rfl ?_)
  refine wpAny_bind (wpAny_newTuple ?_)
  have size : he.objs.size = s.heap.objs.size := by rw [se.1, sd.1, sc.1, sb.1, sa.1]
  have ze : IsZip he z TI TO .ellipsis := se.extBut _ _ D.TOz.symm (sd.extBut _ _ D.i2z.symm (sc.extBut _ _ D.TOz.symm (sb.extBut _ _ D.i1z.symm za)))
  have ke : ∀ c o, c ∉ [z, TO, i1, i2] → s.heap.get? c = some o → he.get? c = some o := fun c o n e => by
    simp only [List.mem_cons, List.not_mem_nil, or_false, not_or] at n
    exact se.extBut _ _ n.2.1 (sd.extBut _ _ n.2.2.2 (sc.extBut _ _ n.2.1 (sb.extBut _ _ n.2.2.1 (sa.extBut _ _ n.1 e))))
  have q1 : IterAt k1 he i1 l1 (j1 + 1) := p1b.kept fun o e => se.extBut _ _ D.TOi1.symm (sd.extBut _ _ D.i12 (sc.extBut _ _ D.TOi1.symm e))
  have q2 : IterAt k2 he i2 l2 (j2 + 1) := p2d.kept fun o e => se.extBut _ _ D.TOi2.symm e
  have tie : IsPair he TI (.ref i1) (.ref i2) := se.extBut _ _ D.TITO (sd.extBut _ _ D.TIi2 (sc.extBut _ _ D.TITO (sb.extBut _ _ D.TIi1 (sa.extBut _ _ D.TIz g1))))
  have zlt : z < he.objs.size := Heap.lt_size ze
  show wpAny _ _ (Builtin.SmallTypes.ownedTupleHandOut (.ref z) (.ref he.objs.size) >>= _) _ _ _
  refine wpAny_bind ?_
  unfold Builtin.SmallTypes.ownedTupleHandOut
  have zf : IsZip (he.push { cls := .type "tuple", data := .seq #[x, y] }) z TI TO .ellipsis := Heap.get?_push_of_some _ ze
  refine wpAny_bind (wpAny_setField_rec zf (by simp) fun hg zg sg => ?_)
  replace zg : IsZip hg z TI TO (rawInt he.objs.size) := zg
  refine wpAny_setField_rec zg (by simp) fun hn zn sn => ?_
  replace zn : IsZip hn z TI TO (rawInt he.objs.size) := zn
  have up : ∀ c o, c ≠ z → he.get? c = some o → hn.get? c = some o := fun c o n e => sn.extBut _ _ n (sg.extBut _ _ n (Heap.get?_push_of_some _ e))
  have tn : IsPair hn he.objs.size x y := sn.extBut _ _ (Nat.ne_of_gt zlt) (sg.extBut _ _ (Nat.ne_of_gt zlt) (Heap.get?_push_size _ rfl))
  rw [size] at zn tn
  refine wpAny_pure ⟨_, rfl, ?_⟩
  show Q (.ref he.objs.size) _
  rw [size]
  refine hQ hn ⟨zn, up _ _ D.TIz tie, ⟨_, _, up _ _ D.TOz t5⟩, q1.kept fun o e => up _ _ D.i1z e, q2.kept fun o e => up _ _ D.i2z e⟩ tn fun c o n e => up c o (fun z => n (by simp [z])) (ke c o n e)
theorem zip_end {k1 k2 : Bool} {z TI TO i1 i2 l1 l2 : Addr} {j1 j2 : Nat} {xs ys : Array Value} {Q : Fin → Shared → Prop} (hh : A.handled = none) (D : ZipApart z TI TO i1 i2 l1 l2) (Z : ZipAt k1 k2 s.heap z TI TO i1 i2 l1 l2 .none j1 j2)
    (b1 : SeqIs k1 s.heap l1 xs) (b2 : SeqIs k2 s.heap l2 ys) (hend : xs[j1]? = none ∨ ys[j2]? = none)
    (hE : ∀ h' e, (∀ c o, c ∉ [z, TO, i1, i2] → s.heap.get? c = some o → h'.get? c = some o) → (∃ o, h'.get? e = some o ∧ o.cls = .type "StopIteration") → E (.ref e) { s with heap := h' }) :
    wpAny (model prog w) A (Builtin.«zip.__next__» ⟨[.ref z], []⟩) Q E s := by
  obtain ⟨g0, g1, ⟨oa, ob, g2⟩, p1, p2⟩ := Z
  show wpAny _ _ (field (.ref z) 2 >>= _) _ _ _
  refine wpAny_bind (wpAny_field g0 rfl (x := .bool false) rfl ?_)
  show wpAny _ _ (field (.ref z) 3 >>= _) _ _ _
  refine wpAny_bind (wpAny_field g0 rfl (x := .ref TI) rfl ?_)
  refine wpAny_bind (wpAny_seqItems g1 rfl ?_)
  show wpAny _ _ (Builtin.SmallTypes.ownedTupleIsFree (.ref z) >>= _) _ _ _
  refine wpAny_bind ?_
  unfold Builtin.SmallTypes.ownedTupleIsFree
  refine wpAny_bind (wpAny_field g0 rfl (x := .none) rfl (wpAny_pure ?_))
  simp only [if_true]
  refine wpAny_bind (wpAny_rule ?_)
  refine wpAny_bind (wpAny_field g0 rfl (x := .ref TO) rfl ?_)
  refine wpAny_bind (wpAny_setField_rec g0 (by simp) fun ha za sa => ?_)
  replace za : IsZip ha z TI TO .ellipsis := za
  refine wpAny_bind ?_
  simp only [List.zipIdx_cons, List.zipIdx_nil, List.forIn_cons, List.forIn_nil]
  refine wpAny_bind (wpAny_bind (wpAny_onRaise ?_))
  show wpAny _ _ (Builtin.SmallTypes.nextOf (.ref i1) >>= _) _ _ _
  cases hx : xs[j1]? with
  | none =>
    refine wpAny_bind (endS hh (p1.kept fun o e => sa.extBut _ _ D.i1z e) (b1.kept fun o e => sa.extBut _ _ D.l1z e) hx fun hb e sb te => ?_)
    obtain ⟨oe, e1, e2⟩ := te
    have zb : IsZip hb z TI TO .ellipsis := sb _ _ D.i1z.symm za
    have nez : e ≠ z := fun q => by subst q; rw [zb] at e1; cases e1; simp at e2
    refine wpAny_setField_rec zb (by simp) fun hc _ sc => hE hc e (fun c o n q => ?_) ⟨oe, sc.extBut _ _ nez e1, e2⟩
    simp only [List.mem_cons, List.not_mem_nil, or_false, not_or] at n
    exact sc.extBut _ _ n.1 (sb _ _ n.2.2.1 (sa.extBut _ _ n.1 q))
  | some x =>
    have hy : ys[j2]? = none := hend.resolve_left (by rw [hx]; intro q; cases q)
    refine wpAny_bind (nextS (p1.kept fun o e => sa.extBut _ _ D.i1z e) (b1.kept fun o e => sa.extBut _ _ D.l1z e) hx fun hb p1b sb => wpAny_pure ?_)
    have t2 : IsPair hb TO oa ob := sb.extBut _ _ D.TOi1 (sa.extBut _ _ D.TOz g2)
    refine wpAny_bind (wpAny_seqItems t2 rfl ?_)
    refine wpAny_bind (wpAny_updateSeq_pair t2 fun hc t3 sc => ?_)
    refine wpAny_bind (wpAny_letGo (wpAny_pure ?_))
    refine wpAny_bind (wpAny_bind (wpAny_onRaise ?_))
    show wpAny _ _ (Builtin.SmallTypes.nextOf (.ref i2) >>= _) _ _ _
    refine wpAny_bind (endS hh (p2.kept fun o e => sc.extBut _ _ D.TOi2.symm (sb.extBut _ _ D.i12.symm (sa.extBut _ _ D.i2z e))) (b2.kept fun o e => sc.extBut _ _ D.l2TO (sb.extBut _ _ D.l2i1 (sa.extBut _ _ D.l2z e))) hy fun hd e sd te => ?_)
    obtain ⟨oe, e1, e2⟩ := te
    have zd : IsZip hd z TI TO .ellipsis := sd _ _ D.i2z.symm (sc.extBut _ _ D.TOz.symm (sb.extBut _ _ D.i1z.symm za))
    have nez : e ≠ z := fun q => by subst q; rw [zd] at e1; cases e1; simp at e2
    refine wpAny_setField_rec zd (by simp) fun he _ se => hE he e (fun c o n q => ?_) ⟨oe, se.extBut _ _ nez e1, e2⟩
    simp only [List.mem_cons, List.not_mem_nil, or_false, not_or] at n
    exact se.extBut _ _ n.1 (sd _ _ n.2.2.2 (sc.extBut _ _ n.2.1 (sb.extBut _ _ n.2.2.1 (sa.extBut _ _ n.1 q))))
theorem pyNext_zip {k1 k2 : Bool} {z TI TO i1 i2 l1 l2 : Addr} {j1 j2 : Nat} {xs ys : Array Value} {x y : Value} {Q : Option Value → Shared → Prop} (D : ZipApart z TI TO i1 i2 l1 l2) (Z : ZipAt k1 k2 s.heap z TI TO i1 i2 l1 l2 .none j1 j2)
    (b1 : SeqIs k1 s.heap l1 xs) (b2 : SeqIs k2 s.heap l2 ys) (hx : xs[j1]? = some x) (hy : ys[j2]? = some y)
    (hQ : ∀ h', ZipAt k1 k2 h' z TI TO i1 i2 l1 l2 (rawInt s.heap.objs.size) (j1 + 1) (j2 + 1) → IsPair h' s.heap.objs.size x y → (∀ c o, c ∉ [z, TO, i1, i2] → s.heap.get? c = some o → h'.get? c = some o) → Q (some (.ref s.heap.objs.size)) { s with heap := h' }) :
    wpAny (model prog w) A (pyNext (.ref z)) Q E s := by
  have ty : s.TypeIs (.ref z) "zip" := ⟨_, Z.zz, rfl⟩
  unfold pyNext
  exact wpAny_bind (wpAny_attempt (wpAny_callSpecial?_slot (name := Str.ofString "__next__") ty F.slot_zip_next (wpAny_call_entry F.slot_zip_next ty F.entry_zip_next (zip_item D Z b1 b2 hx hy fun h' r1 r2 r3 => wpAny_pure (hQ h' r1 r2 r3)) (F.args_zip_next_1 _))))
theorem pyNext_zipEnd {k1 k2 : Bool} {z TI TO i1 i2 l1 l2 : Addr} {j1 j2 : Nat} {xs ys : Array Value} {Q : Option Value → Shared → Prop} (hh : A.handled = none) (D : ZipApart z TI TO i1 i2 l1 l2) (Z : ZipAt k1 k2 s.heap z TI TO i1 i2 l1 l2 .none j1 j2)
    (b1 : SeqIs k1 s.heap l1 xs) (b2 : SeqIs k2 s.heap l2 ys) (hend : xs[j1]? = none ∨ ys[j2]? = none)
    (hQ : ∀ h', (∀ c o, c ∉ [z, TO, i1, i2] → s.heap.get? c = some o → h'.get? c = some o) → Q none { s with heap := h' }) : wpAny (model prog w) A (pyNext (.ref z)) Q E s := by
  have ty : s.TypeIs (.ref z) "zip" := ⟨_, Z.zz, rfl⟩
  unfold pyNext
  refine wpAny_bind (wpAny_attempt (wpAny_callSpecial?_slot (name := Str.ofString "__next__") ty F.slot_zip_next (wpAny_call_entry F.slot_zip_next ty F.entry_zip_next (zip_end hh D Z b1 b2 hend fun h' e hk he => ?_) (F.args_zip_next_1 _))))
  obtain ⟨o, e1, e2⟩ := he
  exact wpAny_bind (wpAny_isInstance (T := "StopIteration") (b := true) ⟨o, e1, e2⟩ isSubtype_stop (wpAny_pure (hQ _ hk)))
end
def zH1 (k1 : Bool) (h : Heap) (l1 : Addr) : Heap := h.push { cls := .type (itName k1), data := .fields #[.ref l1, .int 0 0] }
def zH2 (k1 k2 : Bool) (h : Heap) (l1 l2 : Addr) : Heap := (zH1 k1 h l1).push { cls := .type (itName k2), data := .fields #[.ref l2, .int 0 0] }
def zH3 (k1 k2 : Bool) (h : Heap) (l1 l2 : Addr) : Heap := (zH2 k1 k2 h l1 l2).push { cls := .type "tuple", data := .seq #[.ref h.objs.size, .ref (zH1 k1 h l1).objs.size] }
def zH4 (k1 k2 : Bool) (h : Heap) (l1 l2 : Addr) : Heap := (zH3 k1 k2 h l1 l2).push { cls := .type "tuple", data := .seq #[.none, .none] }
def zH5 (k1 k2 : Bool) (h : Heap) (l1 l2 : Addr) : Heap := (zH4 k1 k2 h l1 l2).push { cls := .type "zip", data := .fields #[.none, .bool false, .bool false, .ref (zH2 k1 k2 h l1 l2).objs.size, .ref (zH3 k1 k2 h l1 l2).objs.size] }
theorem zip_new_meets (k1 k2 : Bool) (l1 l2 : Addr) (xs ys : Array Value) :
    Meets (Builtin.«zip.__new__» ⟨[.type "zip", .ref l1, .ref l2], []⟩) (fun _ R s => SeqIs k1 s.heap l1 xs ∧ SeqIs k2 s.heap l2 ys ∧ R (.ok (.ret (.ref (zH4 k1 k2 s.heap l1 l2).objs.size))) { s with heap := zH5 k1 k2 s.heap l1 l2 }) :=
  .of_wp fun prog w A R s h => by
    obtain ⟨hp, gn, dr, tk, os⟩ := s
    obtain ⟨q1, q2, h⟩ := h
    have hsub := sub_zip
    have r1 : SeqIs k1 (Shared.heap ⟨hp, gn, dr, tk, os⟩) l1 xs := q1
    have r2 : SeqIs k2 (Shared.heap ⟨hp.push { cls := .type (itName k1), data := .fields #[.ref l1, .int 0 0] }, gn, dr, tk, os⟩) l2 ys := SeqIs.kept q2 fun o e => Heap.get?_push_of_some _ e
    wp_walk using pyIterS r1, pyIterS r2
    exact ⟨_, rfl, h⟩
section
variable {prog : Program} {w : World} {A : Around} {E : Value → Shared → Prop} {s : Shared}
theorem call_zip {k1 k2 : Bool} {l1 l2 : Addr} {xs ys : Array Value} {Q : Value → Shared → Prop} (b1 : SeqIs k1 s.heap l1 xs) (b2 : SeqIs k2 s.heap l2 ys)
    (hQ : ∀ h', ZipAt k1 k2 h' (s.heap.objs.size + 4) (s.heap.objs.size + 2) (s.heap.objs.size + 3) s.heap.objs.size (s.heap.objs.size + 1) l1 l2 .none 0 0 → (∀ c o, s.heap.get? c = some o → h'.get? c = some o) → Q (.ref (s.heap.objs.size + 4)) { s with heap := h' }) :
    wpAny (model prog w) A (call (.type "zip") [.ref l1, .ref l2]) Q E s := by
  refine callType_new F.called_zip (by decide) (F.typeCall_zip_2 _ _) (F.newCall_zip_2 _ _) (fun obj => F.args_object_init_3 obj _ _) F.entry_zip_new (zip_new_meets k1 k2 l1 l2 xs ys) ⟨b1, b2, ?_⟩
  have n1 : (zH1 k1 s.heap l1).objs.size = s.heap.objs.size + 1 := Heap.size_push ..
  have n2 : (zH2 k1 k2 s.heap l1 l2).objs.size = s.heap.objs.size + 2 := by unfold zH2; rw [Heap.size_push, n1]
  have n3 : (zH3 k1 k2 s.heap l1 l2).objs.size = s.heap.objs.size + 3 := by unfold zH3; rw [Heap.size_push, n2]
  have n4 : (zH4 k1 k2 s.heap l1 l2).objs.size = s.heap.objs.size + 4 := by unfold zH4; rw [Heap.size_push, n3]
  have f5 : (zH5 k1 k2 s.heap l1 l2).get? (zH4 k1 k2 s.heap l1 l2).objs.size = some _ := Heap.get?_push_size _ rfl
  have f4 : (zH5 k1 k2 s.heap l1 l2).get? (zH3 k1 k2 s.heap l1 l2).objs.size = some _ := Heap.get?_push_of_some _ (Heap.get?_push_size _ rfl)
  have f3 : (zH5 k1 k2 s.heap l1 l2).get? (zH2 k1 k2 s.heap l1 l2).objs.size = some _ := Heap.get?_push_of_some _ (Heap.get?_push_of_some _ (Heap.get?_push_size _ rfl))
  have f2 : (zH5 k1 k2 s.heap l1 l2).get? (zH1 k1 s.heap l1).objs.size = some _ := Heap.get?_push_of_some _ (Heap.get?_push_of_some _ (Heap.get?_push_of_some _ (Heap.get?_push_size _ rfl)))
  have f1 : (zH5 k1 k2 s.heap l1 l2).get? s.heap.objs.size = some _ := Heap.get?_push_of_some _ (Heap.get?_push_of_some _ (Heap.get?_push_of_some _ (Heap.get?_push_of_some _ (Heap.get?_push_size _ rfl))))
  show _ ∧ _
  rw [n2, n3, n4] at f5
  rw [n1, n2] at f3
  rw [n3] at f4
  rw [n1] at f2
  rw [n4]
  exact ⟨⟨_, f5, rfl⟩, hQ _ ⟨f5, f3, ⟨_, _, f4⟩, ⟨_, f1, rfl, rfl⟩, ⟨_, f2, rfl, rfl⟩⟩ fun c o e => Heap.get?_push_of_some _ (Heap.get?_push_of_some _ (Heap.get?_push_of_some _ (Heap.get?_push_of_some _ (Heap.get?_push_of_some _ e))))⟩
end
end L2

set_option Elab.async false
set_option linter.all false
set_option maxRecDepth 100000
namespace L2
open PySem PySem.Spec PyProof.Rows
section
variable {X : Cx} {pins : List (Addr × Obj)} {σ : St} {H : Hp} {s : Shared} {h' : Heap}
/-- untracked records of ours have turned -/
theorem Inv.turnedL {t' : Nat} {ch : List Addr} (I : Inv X pins σ H s) (hf : ∀ b ∈ ch, FpOk X pins H b) (k : ∀ b o, b ∉ ch → s.heap.get? b = some o → h'.get? b = some o) : Inv X pins σ H { s with heap := h', toks := t' } := by
  have nch : ∀ b u, H b = some u → b ∉ ch := fun b u e z => by rw [(hf b z).1] at e; cases e
  refine I.step (g' := s.gens) (d' := s.drawn) (ch := ch) (fun b hb => ⟨(hf b hb).2.2.2.1, (hf b hb).2.1, (hf b hb).2.2.2.2.1, (hf b hb).2.2.2.2.2⟩) (fun b o _ _ hc e _ => k b o hc e) (fun b o _ _ hc e _ => ⟨o.slots, k b o hc e⟩) (fun _ _ _ _ n => n)
    (fun b o hc e => ⟨o, k b o hc e⟩) (fun _ _ e => e) (fun _ _ _ e => e) (fun b ps e => ⟨#[], by rw [e]; simp⟩) (fun m hm => ?_) (fun b u e => ?_) I.bare
  · obtain ⟨o, es, ep, ho, r⟩ := hm
    exact ⟨o, es, ep, k _ o (fun z => (hf _ z).2.1 rfl) ho, r⟩
  · refine (I.hok b u e).stay (fun c v hc q => k c v ?_ q) (fun _ q => q) fun _ _ q => q
    rcases hc with z | z
    · rw [z]; exact nch b u e
    · exact nch c _ z
/-- .. and a new object is laid and tracked -/
theorem Inv.turnedN {t' : Nat} {ch : List Addr} {T : Addr} {o : HO} (I : Inv X pins σ H s) (hf : ∀ b ∈ ch, FpOk X pins H b) (k : ∀ b o, b ∉ ch → s.heap.get? b = some o → h'.get? b = some o) (hT : s.heap.objs.size ≤ T)
    (new : ObjOk X.prog X.w (upd H T o) h' T o) : Inv X pins σ (upd H T o) { s with heap := h', toks := t' } := by
  have nch : ∀ b u, H b = some u → b ∉ ch := fun b u e z => by rw [(hf b z).1] at e; cases e
  have hn : H T = none := I.hok.fresh hT
  refine I.step (g' := s.gens) (d' := s.drawn) (ch := ch) (fun b hb => ⟨(hf b hb).2.2.2.1, (hf b hb).2.1, (hf b hb).2.2.2.2.1, (hf b hb).2.2.2.2.2⟩) (fun b o _ _ hc e _ => k b o hc e) (fun b o _ _ hc e _ => ⟨o.slots, k b o hc e⟩)
    (fun b u _ e n => by rw [upd_ne (Nat.ne_of_lt (Nat.lt_of_lt_of_le (Heap.lt_size e) hT))]; exact n)
    (fun b o hc e => ⟨o, k b o hc e⟩) (fun b xs e => by rw [upd_ne (ne_of_none e hn)]; exact e) (fun b u xs e => by rw [upd_ne (ne_of_none e hn)]; exact e) (fun b ps e => ⟨#[], by rw [upd_ne (ne_of_none e hn), e]; simp⟩) (fun m hm => ?_) (fun b u e => ?_) I.bare
  · obtain ⟨o, es, ep, ho, r⟩ := hm
    exact ⟨o, es, ep, k _ o (fun z => (hf _ z).2.1 rfl) ho, r⟩
  · by_cases hb : b = T
    · subst hb; rw [upd_same] at e; cases e; exact new
    · rw [upd_ne hb] at e
      refine (I.hok b u e).stay (fun c v hc q => k c v ?_ q) (fun c q => by rw [upd_ne (ne_of_none q hn)]; exact q) fun c xs q => by rw [upd_ne (ne_of_none q hn)]; exact q
      rcases hc with z | z
      · rw [z]; exact nch b u e
      · exact nch c _ z
end
/-- a list or a tuple -/
def Sq (k : Bool) (K : PySem.W.Frag) (H : Hp) (a : Addr) (xs : List V) : Prop :=
  match k with
  | true => SqT K H a xs
  | false => SqL K H a xs
theorem Inv.sq {X : Cx} {pins : List (Addr × Obj)} {σ : St} {H : Hp} {s : Shared} {k : Bool} {a : Addr} {xs : List V} (I : Inv X pins σ H s) (h : Sq k X.K H a xs) : ∃ its : List Value, Vals xs its ∧ SeqIs k s.heap a its.toArray ∧ xs.length ≤ sizeLine := by
  cases k
  · obtain ⟨its, r, p, z⟩ := I.list h
    exact ⟨its, r, p.isList, z⟩
  · exact I.tuple h
theorem Inv.sq_inj {X : Cx} {pins : List (Addr × Obj)} {σ : St} {H : Hp} {s : Shared} {k : Bool} {a : Addr} {xs ys : List V} (I : Inv X pins σ H s) (h : Sq k X.K H a xs) (h' : Sq k X.K H a ys) : xs = ys := by
  cases k
  · exact I.list_inj h h'
  · exact I.tuple_inj h h'
def Itz (K : PySem.W.Frag) (k1 k2 : Bool) (a b : Addr) : It :=
  ⟨fun i H => ∃ xs ys x y, Sq k1 K H a xs ∧ Sq k2 K H b ys ∧ xs[i]? = some x ∧ ys[i]? = some y,
   fun i H v H' => ∃ T x y, H T = none ∧ v = .ref T ∧ H' = upd H T (.tup [x, y]) ∧ (∀ xs, Sq k1 K H a xs → xs[i]? = some x) ∧ ∀ ys, Sq k2 K H b ys → ys[i]? = some y,
   fun i H => ∃ xs ys, Sq k1 K H a xs ∧ Sq k2 K H b ys ∧ (xs.length ≤ i ∨ ys.length ≤ i)⟩
theorem pair_ok {P : Program} {w : World} {H : Hp} {h : Heap} {T : Addr} {x y : V} {u v : Value} (r1 : RelV x u) (r2 : RelV y v) (e : IsPair h T u v) : ObjOk P w H h T (.tup [x, y]) := by
  refine ⟨by show 2 ≤ sizeLine; decide, [u, v], .cons r1 (.cons r2 .nil), ⟨_, e, rfl, _, rfl⟩, fun o q => ?_⟩
  rw [e] at q
  cases q
  rfl
theorem turn_zip {P : Program} {w : World} {K : PySem.W.Frag} {elts : List Expr} {x1 : Nat} {pos : Pos} (k1 k2 : Bool) (a b z TI TO i1 i2 : Addr) (D : ZipApart z TI TO i1 i2 a b) :
    Turn P w K (.Tuple elts x1 pos) (Itz K k1 k2 a b) [z, TI, TO, i1, i2] z (fun i h => ZipAt k1 k2 h z TI TO i1 i2 a b .none i i) where
  mem := by simp
  obj := fun i h st c hc => by
    obtain ⟨g0, g1, ⟨oa, ob, g2⟩, ⟨o1, e1, _, d1⟩, ⟨o2, e2, _, d2⟩⟩ := st
    simp only [List.mem_cons, List.not_mem_nil, or_false] at hc
    rcases hc with rfl | rfl | rfl | rfl | rfl
    · exact ⟨_, g0, fun v q => by cases q⟩
    · exact ⟨_, g1, fun v q => by cases q⟩
    · exact ⟨_, g2, fun v q => by cases q⟩
    · exact ⟨_, e1, fun v q => by rw [d1] at q; cases q⟩
    · exact ⟨_, e2, fun v q => by rw [d2] at q; cases q⟩
  keep := fun i h h' st k => st.kept k
  item := by
    intro X hP hw hK hc i pins s σ H E I hf st hg
    subst hP hw hK
    obtain ⟨xs, ys, x, y, hq1, hq2, hx, hy⟩ := hg
    obtain ⟨us, rv1, p1, _⟩ := I.sq hq1
    obtain ⟨ws, rv2, p2, _⟩ := I.sq hq2
    obtain ⟨u, hu, ru⟩ := rv1.get hx
    obtain ⟨v, hv, rv⟩ := rv2.get hy
    refine pyNext_zip D st p1 p2 (x := u) (y := v) (by simpa using hu) (by simpa using hv) fun h' st' tp kk => ⟨_, rfl, ?_⟩
    refine wpAny_letOwnedTupleGo_zip st'.zz fun h2 hz2 sb => ?_
    have up : ∀ c o, c ≠ z → h'.get? c = some o → h2.get? c = some o := fun c o n e => (sb.2 c n).trans e
    have lt : z < s.heap.objs.size := Heap.lt_size st.zz
    have tp2 : IsPair h2 s.heap.objs.size u v := up _ _ (Nat.ne_of_gt lt) tp
    have I1 : Inv X pins σ (upd H s.heap.objs.size (.tup [x, y])) { s with heap := h2 } := I.turnedN (t' := s.toks) (ch := [z, TI, TO, i1, i2]) hf (fun c o n e => up c o (fun q => n (by simp [q])) (kk c o (fun q => n (by
      simp only [List.mem_cons, List.not_mem_nil, or_false] at q ⊢
      rcases q with q | q | q | q <;> simp [q])) e)) (Nat.le_refl _) (pair_ok ru rv tp2)
    refine ⟨.ref s.heap.objs.size, _, I1, rfl, ⟨_, x, y, I.hok.fresh (Nat.le_refl _), rfl, rfl, fun xs' h => by rw [I.sq_inj h hq1]; exact hx, fun ys' h => by rw [I.sq_inj h hq2]; exact hy⟩,
      ⟨hz2, up _ _ D.TIz st'.ti, ?_, st'.a1.kept (fun o e => up _ _ D.i1z e), st'.a2.kept fun o e => up _ _ D.i2z e⟩, fun c hc => ?_⟩
    · obtain ⟨oa, ob, e⟩ := st'.tO
      exact ⟨oa, ob, up _ _ D.TOz e⟩
    · have hlt : c < s.heap.objs.size := by
        obtain ⟨g0, g1, ⟨oa, ob, g2⟩, ⟨o1, e1, _, d1⟩, ⟨o2, e2, _, d2⟩⟩ := st
        simp only [List.mem_cons, List.not_mem_nil, or_false] at hc
        rcases hc with rfl | rfl | rfl | rfl | rfl
        · exact Heap.lt_size g0
        · exact Heap.lt_size g1
        · exact Heap.lt_size g2
        · exact Heap.lt_size e1
        · exact Heap.lt_size e2
      rw [upd_ne (Nat.ne_of_lt hlt)]
      exact (hf c hc).1
  done := by
    intro X hP hw hK hc i pins s σ H E I hf st hg
    subst hP hw hK
    obtain ⟨xs, ys, hq1, hq2, hend⟩ := hg
    obtain ⟨us, rv1, p1, _⟩ := I.sq hq1
    obtain ⟨ws, rv2, p2, _⟩ := I.sq hq2
    have l1 := rv1.length
    have l2 := rv2.length
    refine pyNext_zipEnd (I.ok.hd hc) D st p1 p2 ?_ fun h' kk => ⟨rfl, I.turnedL (t' := s.toks) (ch := [z, TI, TO, i1, i2]) hf fun c o n e => kk c o (fun q => n (by
      simp only [List.mem_cons, List.not_mem_nil, or_false] at q ⊢
      rcases q with q | q | q | q <;> simp [q])) e⟩
    rcases hend with q | q
    · exact .inl (by simp; omega)
    · exact .inr (by simp; omega)
  self := fun _ _ _ _ _ st h => wpAny_pyIter_zip st.zz h
section
variable {X : Cx} {elts : List Expr} {x1 : Nat} {tpos : Pos}
def iZip (K : PySem.W.Frag) (k1 k2 : Bool) (ta : TA) : TI := fun σ H R => ta σ H fun vs H1 => ∃ a b, vs = [.ref a, .ref b] ∧ (∃ xs, Sq k1 K H1 a xs) ∧ (∃ ys, Sq k2 K H1 b ys) ∧ R (Itz K k1 k2 a b) H1
theorem pi_zip (k1 k2 : Bool) {a b : Expr} {ta : TA} {p pos : Pos} (hg : Gl X "zip") (hm : X.mg "zip" = none) (ha : PA X [a, b] ta) (hs : starEach [a, b] X.env = [(false, eval a X.env), (false, eval b X.env)] := by rfl) (hs2 : starEach [b] X.env = [(false, eval b X.env)] := by rfl) :
    PI X (.Tuple elts x1 tpos) (.Call (.Name "zip" p) [a, b] [] pos) (iZip X.K k1 k2 ta) := by
  intro pins s σ H R I h
  refine Call_ (ld_blt I hg hm boot_zip (PyProof.Rows.callWith_type1 (thn (ha pos pins s σ H _ I h) fun us s1 ⟨vs, H1, I1, r1, q1⟩ => ?_) (by rw [hs, hs2]) (by rw [hs2]; rfl)))
  obtain ⟨a, b, e, ⟨xs, hq1⟩, ⟨ys, hq2⟩, q⟩ := q1
  subst e
  cases r1 with
  | cons r rr =>
    cases rr with
    | cons r' rr =>
      cases rr
      cases r
      cases r'
      obtain ⟨us, rv1, p1, _⟩ := I1.sq hq1
      obtain ⟨ws, rv2, p2, _⟩ := I1.sq hq2
      refine call_zip p1 p2 fun h' Z kk => ?_
      have D := PyProof.Rows.zipApart_new p1.lt p2.lt
      have I2 : Inv X pins σ H1 { s1 with heap := h' } := I1.kept (t' := s1.toks) kk
      refine wpAny_pyIter_zip (s := { s1 with heap := h' }) Z.zz ⟨_, [s1.heap.objs.size + 4, s1.heap.objs.size + 2, s1.heap.objs.size + 3, s1.heap.objs.size, s1.heap.objs.size + 1], _, _, H1, rfl, I2, turn_zip k1 k2 a b _ _ _ _ _ D, Z, fun c hc => ?_, q⟩
      have hle : s1.heap.objs.size ≤ c := by
        simp only [List.mem_cons, List.not_mem_nil, or_false] at hc
        have hc' : c = s1.heap.objs.size + 4 ∨ c = s1.heap.objs.size + 2 ∨ c = s1.heap.objs.size + 3 ∨ c = s1.heap.objs.size ∨ c = s1.heap.objs.size + 1 := hc
        rcases hc' with e | e | e | e | e <;> rw [e] <;> first | exact Nat.le_refl _ | exact Nat.le_add_right _ _
      exact I1.fpOk hle (I1.hok.fresh hle)
end
end L2

set_option Elab.async false
set_option linter.all false
set_option maxRecDepth 100000
namespace L2
open PySem PySem.Spec PyProof.Rows
/-! ### zip in a comprehension, in a loop -/
theorem comp_zip {K : PySem.W.Frag} {k1 k2 : Bool} {a b : Addr} {xs ys : List V} {g : TG} {tf : TT} {te : TE} {σ : St} {H : Hp} {Q : VK} (Pv : Nat → List V → St → Hp → Prop) (h0 : Pv 0 [] σ H)
    (hl : ∀ i zs σ H, i ≤ min xs.length ys.length → Pv i zs σ H → Sq k1 K H a xs ∧ Sq k2 K H b ys ∧ zs.length ≤ sizeLine)
    (hs : ∀ i x y zs σ H T, xs[i]? = some x → ys[i]? = some y → Pv i zs σ H → H T = none → g (.ref T) σ (upd H T (.tup [x, y])) fun σ2 H2 => tf σ2 H2 fun b H3 => if b = true then te σ2 H3 fun v H4 => Pv (i + 1) (zs ++ [v]) σ2 H4 else Pv (i + 1) zs σ2 H3)
    (hd : ∀ zs σ H, Pv (min xs.length ys.length) zs σ H → ∀ p, H p = none → Q (.ref p) (upd H p (.lst zs))) : tCompK g tf te σ (Itz K k1 k2 a b) H Q := by
  refine ⟨fun i m zs σ H => m = min xs.length ys.length - i ∧ i ≤ min xs.length ys.length ∧ Pv i zs σ H, ⟨_, (Nat.sub_zero _).symm, Nat.zero_le _, h0⟩, ?_⟩
  rintro i m zs σ H ⟨rfl, hi, p⟩
  obtain ⟨q1, q2, hz⟩ := hl i zs σ H hi p
  by_cases hlt : i < min xs.length ys.length
  · have l1 : i < xs.length := by omega
    have l2 : i < ys.length := by omega
    refine .inr ⟨⟨xs, ys, xs[i], ys[i], q1, q2, by simp [l1], by simp [l2]⟩, hz, Pv (i + 1), fun ys' σ' H' p' => ⟨min xs.length ys.length - (i + 1), by omega, rfl, hlt, p'⟩, fun x H' y => ?_⟩
    obtain ⟨T, u, v, hT, rfl, rfl, e1, e2⟩ := y
    exact hs i u v zs σ H T (e1 xs q1) (e2 ys q2) p hT
  · have e : i = min xs.length ys.length := by omega
    rw [e] at p
    exact .inl ⟨⟨xs, ys, q1, q2, by omega⟩, hz, hd zs σ H p⟩
/-! ### max and min of ints, with a default or without -/
section
variable {prog : Program} {w : World} {A : Around} {E : Value → Shared → Prop} {s : Shared}
end
section
variable {prog : Program} {w : World} {A : Around} {R : Result → Shared → Prop} {I : Addr} {fp wr : List Addr} {n : Nat} {P : Nat → Value → Prop} {St : Nat → Heap → Prop}
end
section
variable {prog : Program} {w : World} {A : Around} {E : Value → Shared → Prop} {s : Shared}
end
section
variable {X : Cx}
end

section
variable {prog : Program} {w : World} {A : Around} {R : Result → Shared → Prop} {I : Addr} {fp wr : List Addr} {n : Nat} {P : Nat → Value → Prop} {St : Nat → Heap → Prop}
end
section
variable {prog : Program} {w : World} {A : Around} {E : Value → Shared → Prop} {s : Shared}
end
section
variable {X : Cx}
end
end L2

set_option Elab.async false
set_option linter.all false
set_option maxRecDepth 100000
namespace L2
open PySem PySem.Spec PyProof.Rows
/-! ### a tuple times an int of two at least -/
theorem noFill_tuple_mul : fillsNumberSlot (.type "tuple") "mul" = pure false :=
  PySem.fillsNumberSlot_seq (id := "tuple.__mul__") (r := some (.builtin "tuple.__rmul__")) F.slot_tuple_mul.lookup (by decide +kernel) F.slot_tuple_rmul.lookup (by decide +kernel)
theorem repeat_tuple : seqRepeat? (.type "tuple") = pure (some (.builtin "tuple.__mul__")) := by
  unfold seqRepeat?
  rw [PySem.seqSlot_of (T := "tuple") (name := "__mul__") (id := "tuple.__mul__") F.slot_tuple_mul.lookup (by decide +kernel), PySem.seqSlot_of (T := "tuple") (name := "__rmul__") (id := "tuple.__rmul__") F.slot_tuple_rmul.lookup (by decide +kernel)]
  rfl
theorem rmul_tuple (a : Int) (t : Tok) (l : Addr) (its : Array Value) (n : Nat) (dd : Option Addr) (sl : Array (Option Value)) :
    Meets (Builtin.«int.__rmul__» ⟨[.int a t, .ref l], []⟩) (fun _ R s => s.heap.get? l = some { cls := .type "tuple", dict := dd, data := .seq its n, slots := sl } ∧ R (.ok (.ret Value.notImplemented)) s) :=
  .of_wp fun prog w A R s h => by obtain ⟨hp, g, d, tk, os⟩ := s; obtain ⟨hl, h⟩ := h; wp_walk; exact ⟨_, rfl, h⟩
theorem mul_tuple_meets (l : Addr) (its : Array Value) (n : Nat) (dd : Option Addr) (sl : Array (Option Value)) (x : Int) (u : Tok) (h0 : ¬ (x < -(2 ^ 63) || x ≥ 2 ^ 63) = true) (h1 : ¬ (its.isEmpty || x == 1) = true) (h2 : ¬ (x ≤ 0 || its.isEmpty) = true)
    (h3 : ¬ ((its.size : Nat) : Int) * x > (2 ^ 63 - 1) / 8) (h4 : ¬ Builtin.Tuple.tupleTooMany (((its.size : Nat) : Int) * x) = true) (h5 : (List.foldl (fun x1 x2 => x1 ++ x2) #[] (List.replicate x.toNat its)).size ≤ sizeLine) :
    Meets (Builtin.«tuple.__mul__» ⟨[.ref l, .int x u], []⟩) (fun _ R s => s.heap.get? l = some { cls := .type "tuple", dict := dd, data := .seq its n, slots := sl } ∧ R (.ok (.ret (Value.ref s.heap.objs.size))) { s with heap := s.heap.push { cls := Value.type "tuple", data := Data.seq (List.foldl (fun x1 x2 => x1 ++ x2) #[] (List.replicate x.toNat its)) }, toks := s.toks }) :=
  .of_wp fun prog w A R s h => by
    obtain ⟨hp, g, d, tk, os⟩ := s
    obtain ⟨hl, h⟩ := h
    wp_walk
    refine wpAny_ite_false (decide_eq_false h0) ?_
    wp_walk
    refine wpAny_ite_false (decide_eq_false h3) ?_
    wp_walk
    exact ⟨_, rfl, h⟩
def rRepT (K : PySem.W.Frag) : R2 := fun x y H Q => ∃ l k xs, x = .ref l ∧ y = .int k ∧ SqT K H l xs ∧ xs ≠ [] ∧ 2 ≤ k ∧ k < 2 ^ 59 ∧ xs.length * k.toNat ≤ sizeLine ∧ ∀ p, H p = none → Q (.ref p) (upd H p (.tup (List.replicate k.toNat xs).flatten))
theorem op_repT {X : Cx} : OpR X (binaryOp .Mult) (rRepT X.K) := by
  intro pins s σ H x y v u Q I rx ry h
  obtain ⟨l, k, xs, rfl, rfl, hq, hne, k2, k3, hz, q⟩ := h
  cases rx
  obtain ⟨t, rfl⟩ := ry
  obtain ⟨its, r, pl, _⟩ := I.tuple hq
  have hlen := r.length
  obtain ⟨o, ho, hc, n, hd⟩ := pl
  obtain ⟨c, dd, dt, sl⟩ := o
  cases hc
  cases hd
  have hpos : its ≠ [] := fun e => hne (by rw [e] at hlen; exact List.length_eq_zero_iff.mp hlen)
  have hemp : its.toArray.isEmpty = false := by simp [hpos]
  have hfold : List.foldl (fun x1 x2 => x1 ++ x2) #[] (List.replicate k.toNat its.toArray) = (List.replicate k.toNat its).flatten.toArray := by
    have := foldl_rep its k.toNat []
    rw [List.nil_append] at this
    exact this
  have hsz : ((its.toArray.size : Nat) : Int) * k = ((xs.length * k.toNat : Nat) : Int) := by
    rw [List.size_toArray, ← hlen, Int.natCast_mul, Int.toNat_of_nonneg (by omega)]
  have hl2 : (xs.length * k.toNat : Nat) ≤ 2 ^ 59 := Nat.le_trans hz (by decide)
  refine wpAny_binaryOp_repeat_ref (T := "tuple") (U := "int") (by decide) ⟨_, ho, rfl⟩ (fun s' => typeIs_int s' k t) noFill_tuple_mul F.fills_int_mul F.slot_int_rmul repeat_tuple F.slot_int_index.lookup
    (call_meets F.slot_int_rmul (typeIs_int s k t) F.entry_int_rmul (F.args_int_rmul_2 _ _) (rmul_tuple k t l its.toArray n dd sl)
      ⟨ho, rfl, ⟨_, ho, rfl⟩, call_meets F.slot_tuple_mul ⟨_, ho, rfl⟩ F.entry_tuple_mul (F.args_tuple_mul_2 _ _) (mul_tuple_meets l its.toArray n dd sl k t ?_ ?_ ?_ ?_ ?_ ?_) ⟨ho, ?_⟩⟩)
  · simp only [Bool.or_eq_true, decide_eq_true_eq, not_or]
    omega
  · rw [hemp, Bool.false_or, beq_iff_eq]
    omega
  · rw [hemp, Bool.or_false, decide_eq_true_eq]
    omega
  · rw [hsz]
    omega
  · rw [hsz]
    show ¬ decide (_ > (sizeLine : Int)) = true
    rw [decide_eq_true_eq]
    omega
  · rw [hfold, List.size_toArray, len_rep, ← hlen, Nat.mul_comm]
    exact hz
  · rw [hfold]
    refine ⟨.ref _, _, I.laid (t' := s.toks) (fun b o e => Heap.get?_push_of_some _ e) (Nat.le_refl _) (show ObjOk X.prog X.w _ _ _ (.tup (List.replicate k.toNat xs).flatten) from ⟨by rw [len_rep, Nat.mul_comm]; exact hz, _, r.rep k.toNat, ⟨_, Heap.get?_push_size _ rfl, rfl, _, rfl⟩, tup_nodict⟩), rfl, q _ (I.hok.fresh (Nat.le_refl _))⟩
/-- a tuple as a comprehension's target -/
theorem pg_tupC {X : Cx} {scope : Scope} {N : List Str} {C : Addr} {s : Shared} {H : Hp} {ex : List Addr} {es : List Expr} {k : Nat} {t : TGs} {pos : Pos} (n : Nat) (hc : X.calm = true) (h : PGs (cxC X scope N C s H ex) es t)
    (hn : (assignEach es (cxC X scope N C s H ex).env).length = n) (hst : (assignEach es (cxC X scope N C s H ex).env).findIdx? (·.1) = none) : PG (cxC X scope N C s H ex) (.Tuple es k pos) (gTup X.K n t) := pg_tup hc h hn hst
end L2

set_option Elab.async false
set_option linter.all false
set_option maxRecDepth 100000
namespace L2
open PySem PySem.Spec PyProof.Rows

/-! ### lists of pairs as tables -/
section
variable {κ : Type} [DecidableEq κ]
def valV (kvs : List (κ × V)) (k : κ) : Option V := (kvs.find? fun kv => decide (kv.1 = k)).map (·.2)
/-- in its place, or at the end -/
def putK (kvs : List (κ × V)) (k : κ) (v : V) : List (κ × V) :=
  if (kvs.any fun kv => decide (kv.1 = k)) = true then kvs.map (fun kv => if kv.1 = k then (kv.1, v) else kv) else kvs ++ [(k, v)]
def dropK (kvs : List (κ × V)) (k : κ) : List (κ × V) := kvs.filter fun kv => decide (kv.1 ≠ k)

theorem valV_pos {p : κ × V} {r : List (κ × V)} {k : κ} (e : p.1 = k) : valV (p :: r) k = some p.2 := by simp [valV, List.find?_cons, e]
theorem valV_neg {p : κ × V} {r : List (κ × V)} {k : κ} (e : ¬ p.1 = k) : valV (p :: r) k = valV r k := by simp [valV, List.find?_cons, e]
theorem valV_any (k : κ) : ∀ kvs : List (κ × V), (kvs.any fun kv => decide (kv.1 = k)) = (valV kvs k).isSome
  | [] => rfl
  | p :: r => by
    rw [List.any_cons]
    by_cases e : p.1 = k
    · simp only [valV_pos e, decide_eq_true e, Bool.true_or, Option.isSome_some]
    · rw [valV_neg e, decide_eq_false e, Bool.false_or]; exact valV_any k r
theorem valV_map (k j : κ) (y : V) : ∀ kvs : List (κ × V), valV (kvs.map fun kv => if kv.1 = k then (kv.1, y) else kv) j = (valV kvs j).map fun x => if j = k then y else x
  | [] => rfl
  | p :: r => by
    have ih := valV_map k j y r
    rw [List.map_cons]
    by_cases h : p.1 = k
    · rw [if_pos h]
      by_cases e : p.1 = j
      · rw [valV_pos (p := (p.1, y)) e, valV_pos e, Option.map_some, if_pos (e.symm.trans h)]
      · rw [valV_neg (p := (p.1, y)) e, valV_neg e, ih]
    · rw [if_neg h]
      by_cases e : p.1 = j
      · rw [valV_pos (p := p) e, valV_pos e, Option.map_some, if_neg (fun z => h (e.trans z))]
      · rw [valV_neg (p := p) e, valV_neg e, ih]
theorem valV_snoc (k j : κ) (y : V) : ∀ kvs : List (κ × V), valV kvs k = none → valV (kvs ++ [(k, y)]) j = if j = k then some y else valV kvs j
  | [], _ => by
    by_cases e : k = j
    · rw [if_pos e.symm]; exact valV_pos (p := (k, y)) e
    · rw [if_neg (fun z => e z.symm)]; exact valV_neg (p := (k, y)) e
  | p :: r, hn => by
    rw [List.cons_append]
    have hk : ¬ p.1 = k := fun z => by rw [valV_pos z] at hn; cases hn
    rw [valV_neg hk] at hn
    have ih := valV_snoc k j y r hn
    by_cases e : p.1 = j
    · rw [valV_pos e, valV_pos e, if_neg (fun z => hk (e.trans z))]
    · rw [valV_neg e, valV_neg e, ih]
theorem valV_put (kvs : List (κ × V)) (k j : κ) (y : V) : valV (putK kvs k y) j = if j = k then some y else valV kvs j := by
  unfold putK
  by_cases a : (kvs.any fun kv => decide (kv.1 = k)) = true
  · rw [if_pos a, valV_map]
    rw [valV_any] at a
    by_cases e : j = k
    · obtain ⟨x, hx⟩ := Option.isSome_iff_exists.mp a
      rw [if_pos e, e, hx, Option.map_some, if_pos rfl]
    · rw [if_neg e]
      cases valV kvs j with
      | none => rfl
      | some x => rw [Option.map_some, if_neg e]
  · rw [if_neg a]
    refine valV_snoc k j y kvs ?_
    rw [valV_any] at a
    cases q : valV kvs k with
    | none => rfl
    | some x => rw [q] at a; exact (a rfl).elim
theorem length_putK (kvs : List (κ × V)) (k : κ) (v : V) : (putK kvs k v).length ≤ kvs.length + 1 := by
  unfold putK
  split
  · rw [List.length_map]; omega
  · rw [List.length_append, List.length_cons, List.length_nil]; omega
theorem putK_new {kvs : List (κ × V)} {k : κ} (v : V) (h : valV kvs k = none) : putK kvs k v = kvs ++ [(k, v)] := by
  unfold putK
  rw [valV_any, h]
  exact if_neg (by decide)

theorem RelO.isSome_eq {o : Option V} {u : Option Value} (r : RelO o u) : o.isSome = u.isSome := by
  cases o with
  | none => cases u with
    | none => rfl
    | some _ => exact (show False from r).elim
  | some _ => cases u with
    | none => exact (show False from r).elim
    | some _ => rfl
theorem RelO.getD {o : Option V} {u : Option Value} {d : V} {d' : Value} (r : RelO o u) (rd : RelV d d') : RelV (o.getD d) (u.getD d') := by
  cases o with
  | none => cases u with
    | none => exact rd
    | some _ => exact (show False from r).elim
  | some _ => cases u with
    | none => exact (show False from r).elim
    | some _ => exact r

/-- raw tables of the same keys -/
theorem KV.val {kvs : List (κ × V)} {vs : List (κ × Value)} (r : KV kvs vs) (k : κ) : RelO (valV kvs k) (valueAt vs k) := by
  unfold KV at r
  induction r with
  | nil => exact True.intro
  | @cons p q ps qs h t ih =>
    obtain ⟨h1, h2⟩ := h
    by_cases e : p.1 = k
    · have e' : q.1 = k := h1.symm.trans e
      have b : valueAt (q :: qs) k = some q.2 := by simp [valueAt, List.find?_cons, e']
      rw [valV_pos e, b]; exact h2
    · have e' : ¬ q.1 = k := fun z => e (h1.trans z)
      have b : valueAt (q :: qs) k = valueAt qs k := by simp [valueAt, List.find?_cons, e']
      rw [valV_neg e, b]; exact ih
theorem KV.any {kvs : List (κ × V)} {vs : List (κ × Value)} (r : KV kvs vs) (k : κ) : (kvs.any fun kv => decide (kv.1 = k)) = vs.any fun kv => decide (kv.1 = k) := by
  unfold KV at r
  induction r with
  | nil => rfl
  | cons h t ih => rw [List.any_cons, List.any_cons, ih, h.1]
theorem KV.repl {kvs : List (κ × V)} {vs : List (κ × Value)} (r : KV kvs vs) (k : κ) {y : V} {u : Value} (ry : RelV y u) :
    KV (kvs.map fun kv => if kv.1 = k then (kv.1, y) else kv) (vs.map fun kv => if kv.1 = k then (kv.1, u) else kv) := by
  unfold KV at r ⊢
  induction r with
  | nil => exact .nil
  | @cons p q ps qs h t ih =>
    rw [List.map_cons, List.map_cons]
    refine .cons ?_ ih
    obtain ⟨h1, h2⟩ := h
    by_cases e : p.1 = k
    · rw [if_pos e, if_pos (h1.symm.trans e)]; exact ⟨h1, ry⟩
    · rw [if_neg e, if_neg (fun z => e (h1.trans z))]; exact ⟨h1, h2⟩
theorem KV.put {kvs : List (κ × V)} {vs : List (κ × Value)} (r : KV kvs vs) (k : κ) {y : V} {u : Value} (ry : RelV y u) : KV (putK kvs k y) (stored vs k u) := by
  unfold putK stored
  rw [r.any k]
  by_cases e : (vs.any fun kv => decide (kv.1 = k)) = true
  · rw [if_pos e, if_pos e]; exact r.repl k ry
  · rw [if_neg e, if_neg e]; exact Paired.snoc r ⟨rfl, ry⟩
theorem KV.drop {kvs : List (κ × V)} {vs : List (κ × Value)} (r : KV kvs vs) (k : κ) : KV (dropK kvs k) (without vs k) := by
  unfold KV at r ⊢
  unfold dropK without
  induction r with
  | nil => exact .nil
  | @cons p q ps qs h t ih =>
    obtain ⟨h1, h2⟩ := h
    rw [List.filter_cons, List.filter_cons]
    by_cases e : p.1 = k
    · have a : ¬ decide (p.1 ≠ k) = true := by simp [e]
      have b : ¬ decide (q.1 ≠ k) = true := by simp [h1.symm.trans e]
      rw [if_neg a, if_neg b]; exact ih
    · have e' : ¬ q.1 = k := fun z => e (h1.trans z)
      have a : decide (p.1 ≠ k) = true := by simp [e]
      have b : decide (q.1 ≠ k) = true := by simp [e']
      rw [if_pos a, if_pos b]; exact .cons ⟨h1, h2⟩ ih
theorem KV.keys {kvs : List (κ × V)} {vs : List (κ × Value)} (r : KV kvs vs) : kvs.map (·.1) = vs.map (·.1) := by
  unfold KV at r
  induction r with
  | nil => rfl
  | cons h t ih => rw [List.map_cons, List.map_cons, ih, h.1]
theorem KV.length {kvs : List (κ × V)} {vs : List (κ × Value)} (r : KV kvs vs) : kvs.length = vs.length := Paired.length r
end


/-! ### a tracked dict, its keys ints and texts or tuples of these -/
theorem kV_is {P : Program} {w : World} {k : Key} {u : Value} (r : RelV (kV k) u) : (mixKind P w).is k u = true := by
  cases k with
  | inl i => obtain ⟨t, e⟩ := (show ∃ t, u = Value.int i t from r); subst e; exact mixKind_int P w i t
  | inr x => obtain ⟨t, e⟩ := (show ∃ t, u = Value.str x t from r); subst e; exact mixKind_str P w x t
theorem items_are {P : Program} {w : World} : ∀ {ks : List Key} {us : List Value}, Vals (ks.map kV) us → ItemsAre (mixKind P w) ks us
  | [], _, r => by rw [List.map_nil] at r; cases r; exact .nil
  | k :: ks, _, r => by
    rw [List.map_cons] at r
    cases r with
    | cons h t => exact .cons (kV_is h) (items_are t)

/-- raw entries of a dict with tuple keys -/
abbrev KT (H : Hp) : List (List Key × V) → List (List Key × Addr × Value) → Prop := Paired fun p q => p.1 = q.1 ∧ H q.2.1 = some (.tup (p.1.map kV)) ∧ RelV p.2 q.2.2
theorem KT.val {H : Hp} {kvs : List (List Key × V)} {xs : List (List Key × Addr × Value)} (r : KT H kvs xs) (k : List Key) : RelO (valV kvs k) ((atKey xs k).map (·.2)) := by
  induction r with
  | nil => exact True.intro
  | @cons p q ps qs h t ih =>
    obtain ⟨h1, _, h2⟩ := h
    by_cases e : p.1 = k
    · have e' : q.1 = k := h1.symm.trans e
      have b : atKey (q :: qs) k = some q.2 := by simp [atKey, List.find?_cons, e']
      rw [valV_pos e, b]; exact h2
    · have e' : ¬ q.1 = k := fun z => e (h1.trans z)
      have b : atKey (q :: qs) k = atKey qs k := by simp [atKey, List.find?_cons, e']
      rw [valV_neg e, b]; exact ih
theorem KT.repl {H : Hp} {kvs : List (List Key × V)} {xs : List (List Key × Addr × Value)} (r : KT H kvs xs) (k : List Key) {y : V} {u : Value} (ry : RelV y u) :
    KT H (kvs.map fun kv => if kv.1 = k then (kv.1, y) else kv) (xs.map (putAt k u)) := by
  induction r with
  | nil => exact .nil
  | @cons p q ps qs h t ih =>
    rw [List.map_cons, List.map_cons]
    refine .cons ?_ ih
    obtain ⟨h1, h2, h3⟩ := h
    unfold putAt
    by_cases e : p.1 = k
    · rw [if_pos e, if_pos (h1.symm.trans e)]; exact ⟨h1, h2, ry⟩
    · rw [if_neg e, if_neg (fun z => e (h1.trans z))]; exact ⟨h1, h2, h3⟩
theorem KT.put {H : Hp} {kvs : List (List Key × V)} {xs : List (List Key × Addr × Value)} (r : KT H kvs xs) (k : List Key) {b : Addr} {y : V} {u : Value} (hb : H b = some (.tup (k.map kV))) (ry : RelV y u) :
    KT H (putK kvs k y) (storedH xs k b u) := by
  have e : (kvs.any fun kv => decide (kv.1 = k)) = (atKey xs k).isSome := by
    rw [valV_any, (r.val k).isSome_eq, Option.isSome_map]
  unfold putK storedH
  rw [e]
  by_cases q : (atKey xs k).isSome = true
  · rw [if_pos q, if_pos q]; exact r.repl k ry
  · rw [if_neg q, if_neg q]; exact Paired.snoc r ⟨rfl, hb, ry⟩
theorem KT.keeps {H H' : Hp} {kvs : List (List Key × V)} {xs : List (List Key × Addr × Value)} (r : KT H kvs xs) (ht : ∀ b ys, H b = some (.tup ys) → H' b = some (.tup ys)) : KT H' kvs xs :=
  Paired.mapP r fun _ _ z => ⟨z.1, ht _ _ z.2.1, z.2.2⟩

section
variable {P : Program} {w : World} {H : Hp} {h : Heap} {a : Addr}
theorem rd_of {u : HO} (ok : HOk P w H h) (e : Rd H a u) : ObjOk P w H h a u := e.ok ok
theorem dk_rd {kvs : List (Key × V)} (ok : HOk P w H h) (e : Rd H a (.dK kvs)) : kvs.length ≤ sizeLine ∧ (a == sysModules) = false ∧ ∃ vs, KV kvs vs ∧ h.DictOf (mixKind P w) a vs :=
  show ObjOk P w H h a (.dK kvs) from rd_of ok e
/-- a tracked tuple of ints and texts is a key -/
theorem key_of {ks : List Key} (ok : HOk P w H h) (e : H a = some (.tup (ks.map kV))) : (tupleKind (mixKind P w)).is h ks a := by
  obtain ⟨_, its, r, ⟨o, h1, h2, n, h3⟩, _⟩ := (show ObjOk P w H h a (.tup (ks.map kV)) from ok a _ e)
  exact ⟨o, its.toArray, n, h1, h2, h3, by simpa using items_are r⟩
theorem dt_rd {kvs : List (List Key × V)} (ok : HOk P w H h) (e : Rd H a (.dT kvs)) : kvs.length ≤ sizeLine ∧ (a == sysModules) = false ∧
    ∃ xs, KT H kvs xs ∧ h.DictOfH (tupleKind (mixKind P w)) a xs := by
  obtain ⟨z, y, xs, r, o, es, ep, h1, h2, h3, h4, h5⟩ := (show ObjOk P w H h a (.dT kvs) from rd_of ok e)
  refine ⟨z, y, xs, r, o, es, ep, h1, h2, h3, h4, fun x hx => ?_, h5⟩
  have all : ∀ {l : List (List Key × V)} {m : List (List Key × Addr × Value)}, KT H l m → ∀ x ∈ m, (tupleKind (mixKind P w)).is h x.1 x.2.1 := by
    intro l m q
    induction q with
    | nil => intro x hx; exact nomatch hx
    | @cons p q ps qs hq t ih =>
      intro x hx
      rcases List.mem_cons.mp hx with e | hx
      · subst e
        exact key_of ok (by rw [← hq.1]; exact hq.2.1)
      · exact ih x hx
  exact all r x hx
end

/-- what the dict at a holds at the key y -/
def DGet (H : Hp) (a : Addr) (y : V) (r : Option V) : Prop :=
  (∃ kvs k, Rd H a (.dK kvs) ∧ y = kV k ∧ r = valV kvs k) ∨ ∃ kvs k b, Rd H a (.dT kvs) ∧ y = .ref b ∧ H b = some (.tup (k.map kV)) ∧ r = valV kvs k
/-- the heap behind a[y] = v -/
def DPut (H : Hp) (a : Addr) (y v : V) (H' : Hp) : Prop :=
  (∃ kvs k, H a = some (.dK kvs) ∧ y = kV k ∧ kvs.length < sizeLine ∧ H' = upd H a (.dK (putK kvs k v))) ∨
  ∃ kvs k b, H a = some (.dT kvs) ∧ y = .ref b ∧ H b = some (.tup (k.map kV)) ∧ kvs.length < sizeLine ∧ H' = upd H a (.dT (putK kvs k v))
theorem DGet.k {H : Hp} {a : Addr} {kvs : List (Key × V)} {k : Key} (e : H a = some (.dK kvs)) : DGet H a (kV k) (valV kvs k) := .inl ⟨kvs, k, .inl e, rfl, rfl⟩
theorem DGet.t {H : Hp} {a b : Addr} {kvs : List (List Key × V)} {k : List Key} (e : H a = some (.dT kvs)) (eb : H b = some (.tup (k.map kV))) : DGet H a (.ref b) (valV kvs k) := .inr ⟨kvs, k, b, .inl e, rfl, eb, rfl⟩
theorem DPut.k {H : Hp} {a : Addr} {kvs : List (Key × V)} {k : Key} {v : V} (e : H a = some (.dK kvs)) (hl : kvs.length < sizeLine) : DPut H a (kV k) v (upd H a (.dK (putK kvs k v))) := .inl ⟨kvs, k, e, rfl, hl, rfl⟩
theorem DPut.t {H : Hp} {a b : Addr} {kvs : List (List Key × V)} {k : List Key} {v : V} (e : H a = some (.dT kvs)) (eb : H b = some (.tup (k.map kV))) (hl : kvs.length < sizeLine) :
    DPut H a (.ref b) v (upd H a (.dT (putK kvs k v))) := .inr ⟨kvs, k, b, e, rfl, eb, hl, rfl⟩


section
variable {X : Cx} {pins : List (Addr × Obj)} {σ : St} {H : Hp} {s : Shared} {a : Addr} {y v : V} {u r : Value} {o : Option V} {A : Around} {E : Value → Shared → Prop}

theorem Inv.big (I : Inv X pins σ H s) : sysModules < s.heap.objs.size := by
  have h : mainGlobals < s.heap.objs.size := (I.mod.glob.keeps I.bk).lt
  exact Nat.lt_trans (by decide) h

/-- d[y], there -/
theorem d_getItem {Q : Value → Shared → Prop} (hu : A.units + 1 < cLine) (I : Inv X pins σ H s) (g : DGet H a y (some v)) (ry : RelV y u) (h : ∀ w' s', Inv X pins σ H s' → RelV v w' → Q w' s') :
    wpAny (model X.prog X.w) A (getItem (.ref a) u) Q E s := by
  rcases g with ⟨kvs, k, e, ey, l⟩ | ⟨kvs, k, b, e, ey, eb, l⟩
  · subst ey
    obtain ⟨z, hd, vs, rel, dd⟩ := dk_rd I.hok e
    obtain ⟨w', hw, rw'⟩ := RelO.some_of (v := v) (o := valueAt vs k) (by rw [l]; exact rel.val k)
    exact wpAny_getItem_of (kV_is ry) dd.mapOf hw (h w' _ (I.tok _) rw')
  · subst ey
    cases (show u = Value.ref b from ry)
    obtain ⟨z, hd, xs, rel, dd⟩ := dt_rd I.hok e
    obtain ⟨w', hw, rw'⟩ := RelO.some_of (v := v) (o := (atKey xs k).map (·.2)) (by rw [l]; exact rel.val k)
    obtain ⟨p, hp, hp2⟩ := Option.map_eq_some_iff.mp hw
    refine wpAny_getItem_heap (tupleKind_room_in1 hu) (key_of I.hok eb) dd hp ?_
    rw [hp2]
    exact h w' _ (I.tok _) rw'
theorem d_notIn {Q : Value → Shared → Prop} (hu : A.units + 1 < cLine) (I : Inv X pins σ H s) (g : DGet H a y o) (ry : RelV y u) (h : ∀ s', Inv X pins σ H s' → Q (.bool (!o.isSome)) s') :
    wpAny (model X.prog X.w) A (compareOp .NotIn u (.ref a)) Q E s := by
  rcases g with ⟨kvs, k, e, ey, l⟩ | ⟨kvs, k, b, e, ey, eb, l⟩
  · subst ey
    obtain ⟨z, hd, vs, rel, dd⟩ := dk_rd I.hok e
    refine wpAny_notIn_of (kV_is ry) hd dd.mapOf ?_
    rw [← (rel.val k).isSome_eq, ← l]
    exact h _ (I.tok _)
  · subst ey
    cases (show u = Value.ref b from ry)
    obtain ⟨z, hd, xs, rel, dd⟩ := dt_rd I.hok e
    refine wpAny_notIn_heap (tupleKind_room_in1 hu) (key_of I.hok eb) hd dd ?_
    have q := (rel.val k).isSome_eq
    rw [Option.isSome_map] at q
    rw [← q, ← l]
    exact h _ (I.tok _)
theorem dk_new {P : Program} {w : World} {H' : Hp} {h' : Heap} {kvs : List (Key × V)} {vs : List (Key × Value)} (z : kvs.length ≤ sizeLine) (hd : (a == sysModules) = false) (rel : KV kvs vs) (dd : h'.DictOf (mixKind P w) a vs) :
    ObjOk P w H' h' a (.dK kvs) := ⟨z, hd, vs, rel, dd⟩
end

section
variable {X : Cx} {pins : List (Addr × Obj)} {σ : St} {H : Hp} {s : Shared} {a : Addr} {kvs : List (Key × V)} {k : Key} {u : Value} {A : Around} {E : Value → Shared → Prop}
end


/-! ### readings and rules -/
/-- the element of a subscription, not a slice -/
def NoSl (i : Expr) : Prop := ∀ ov iv, subscripted i false ov iv = operate [ov, iv] (getItem ov iv)
theorem subD_of {prog : Program} {w : World} {A : Around} {E : Value → Shared → Prop} {s : Shared} {env : Env} {value slice : Expr} {pos : Pos} {T id : String} {Q : Value → Shared → Prop}
    (hl : typeLookup (.type T) "__getitem__" = pure (some (.builtin id))) (hs : NoSl slice)
    (h : wpAny (model prog w) A (eval value env) (fun o s₁ => wpAny (model prog w) A (eval slice env) (fun i s₂ => s₂.TypeIs o T ∧ wpAny (model prog w) A (getItem o i) Q E s₂) E s₁) E s) :
    wpAny (model prog w) A (eval (.Subscript value slice pos) env) Q E s := by
  refine Subscript_ (wpAny_mono h (fun o s₁ h₁ => wpAny_mono h₁ (fun i s₂ h₂ => ?_) fun _ _ x => x) fun _ _ x => x)
  obtain ⟨hT, h₂⟩ := h₂
  unfold subscriptTail
  refine wpAny_bind ?_
  rw [getitemInPython_of_ne hT.not_modules]
  refine wpAny_bind (wpAny_specialOf hT hl ?_)
  have fin : wpAny (model prog w) A (subscripted slice false o i) (fun r s₃ => wpAny (model prog w) A (letTemporaryGo value o r >>= fun _ => pure r) Q E s₃) E s₂ := by
    rw [hs o i]
    exact wpAny_operating (wpAny_mono h₂ (fun r s₃ h₃ => wpAny_bind (wpAny_letTemporaryGo (wpAny_pure h₃))) fun _ _ x => x)
  first
    | exact wpAny_pure (wpAny_bind fin)
    | exact wpAny_bind (wpAny_pure (wpAny_bind fin))
    | exact wpAny_bind fin

theorem dict_typeIs {X : Cx} {pins : List (Addr × Obj)} {σ : St} {H : Hp} {s : Shared} {a : Addr} {y : V} {o : Option V} (I : Inv X pins σ H s) (g : DGet H a y o) : s.TypeIs (.ref a) "dict" := by
  rcases g with ⟨kvs, k, e, _, _⟩ | ⟨kvs, k, b, e, _, _, _⟩
  · obtain ⟨_, _, vs, _, dd⟩ := dk_rd I.hok e
    exact dd.typeIs
  · obtain ⟨_, _, xs, _, dd⟩ := dt_rd I.hok e
    exact dd.typeIs
/-- d[y] -/
def tDGet (td ty : TE) : TE := fun σ H Q => td σ H fun x H1 => ty σ H1 fun y H2 => ∃ a v, x = .ref a ∧ DGet H2 a y (some v) ∧ Q v H2
section
variable {X : Cx} {o i e value : Expr} {pos pos' tpos : Pos} {td ty tv : TE}
theorem pe_dget (hu : X.A.units + 1 < cLine) (ho : PE X o td) (hi : PE X i ty) (hs : NoSl i) : PE X (.Subscript o i pos) (tDGet td ty) := by
  intro pins s σ H Q I h
  refine subD_of PySem.F.slot_dict_getitem.lookup hs (thn (ho pins s σ H _ I h) fun u s1 ⟨x, H1, I1, rx, q1⟩ => thn (hi pins s1 σ H1 _ I1 q1) fun iv s2 ⟨y, H2, I2, ry, a, v, ex, g, q2⟩ => ?_)
  subst ex
  obtain rfl : u = Value.ref a := rx
  exact ⟨dict_typeIs I2 g, d_getItem hu I2 g ry fun w' s3 I3 rw' => ⟨v, H2, I3, rw', q2⟩⟩
end


/-! ### displays -/
section
variable {X : Cx} {pos : Pos}
end

/-! ### methods -/
section
variable {X : Cx} {pins : List (Addr × Obj)} {σ : St} {H : Hp} {s : Shared} {a : Addr} {y d : V} {u r : Value} {o : Option V} {A : Around} {E : Value → Shared → Prop}
end

section
variable {X : Cx} {o e f : Expr} {apos cpos : Pos} {td ty tx : TE}
end

/-! ### dict(d): a copy -/
section
variable {X : Cx} {pins : List (Addr × Obj)} {σ : St} {H : Hp} {s : Shared} {a : Addr} {kvs : List (Key × V)} {A : Around} {E : Value → Shared → Prop}
end


section
variable {X : Cx} {pins : List (Addr × Obj)} {σ : St} {H : Hp} {s : Shared} {a : Addr} {y : V} {u : Value} {A : Around} {E : Value → Shared → Prop}
end
end L2
namespace L2
open PySem PySem.Spec PyProof.Rows
/-! ### a dict's pairs: keys that differ -/
section
variable {κ : Type} [DecidableEq κ]
theorem valV_in {kvs : List (κ × V)} {k : κ} {v : V} (h : valV kvs k = some v) : k ∈ kvs.map (·.1) := by
  have q : (kvs.any fun kv => decide (kv.1 = k)) = true := by
    rw [valV_any, h]
    all_goals rfl
  obtain ⟨p, hp, e⟩ := List.any_eq_true.mp q
  exact List.mem_map.mpr ⟨p, hp, of_decide_eq_true e⟩
end
end L2

set_option Elab.async false
set_option linter.all false
set_option maxRecDepth 100000
namespace L2
open PySem PySem.Spec PyProof.Rows
/-! ### sorted(d, reverse=b), d a dict whose keys are ints -/
section
variable {prog : Program} {w : World} {A : Around} {E : Value → Shared → Prop} {s : Shared}
end
section
variable {X : Cx}
end
end L2

set_option Elab.async false
set_option linter.all false
set_option maxRecDepth 100000
namespace L2
open PySem PySem.Spec PyProof.Rows
section
variable {X : Cx}
/-- t + u, whatever they hold -/
def rCatA (K : PySem.W.Frag) : R2 := fun x y H Q => ∃ a b xs ys, x = .ref a ∧ y = .ref b ∧ SqT K H a xs ∧ SqT K H b ys ∧ xs.length + ys.length ≤ sizeLine ∧
  (xs = [] → Q (.ref b) H) ∧ (xs ≠ [] → ys = [] → Q (.ref a) H) ∧ (xs ≠ [] → ys ≠ [] → ∀ p, H p = none → Q (.ref p) (upd H p (.tup (xs ++ ys))))
theorem op_catA : OpR X (binaryOp .Add) (rCatA X.K) := by
  intro pins s σ H x y v u Q I rx ry h
  obtain ⟨a, b, xs, ys, rfl, rfl, ha, hb, hz, q0, q1, q2⟩ := h
  by_cases hx : xs = []
  · cases rx
    cases ry
    obtain ⟨its, r1, p1, _⟩ := I.tuple ha
    obtain ⟨its2, r2, p2, _⟩ := I.tuple hb
    obtain ⟨⟨cls, dd, data, sl⟩, ho, hc, n, hd⟩ := id p1
    obtain ⟨⟨cls2, dd2, data2, sl2⟩, ho2, hc2, n2, hd2⟩ := id p2
    simp only at hc hd hc2 hd2
    subst hc hd hc2 hd2
    have e0 : its.toArray.isEmpty = true := by
      have := r1.nil_iff.mpr hx
      simp [this]
    exact concat_meets ⟨_, ho, rfl⟩ ⟨_, ho2, rfl⟩ noFill_tuple_add seq_tuple_add PySem.F.slot_tuple_add PySem.F.entry_tuple_add (PySem.F.args_tuple_add_2 _ _)
      (tuple_addW0 a b its.toArray its2.toArray n n2 dd dd2 sl sl2 e0) ⟨ho, ho2, ⟨.ref b, H, I, rfl, q0 hx⟩⟩
  · exact op_catT pins s σ H (.ref a) (.ref b) v u Q I rx ry ⟨a, b, xs, ys, rfl, rfl, ha, hb, hx, hz, q1 hx, q2 hx⟩
end
end L2

set_option Elab.async false
set_option linter.all false
namespace L2
/-! ### heaps turned about -/
def cntG (ns : List Int) (k : Int) : Nat := (ns.filter fun x => decide (k ≤ x)).length
def turn (ns : List Int) : List Int := (List.range (ns.headD 0).toNat).map fun (k : Nat) => ((cntG ns ((k : Int) + 1) : Nat) : Int)
end L2

set_option Elab.async false
set_option linter.all false
namespace L2
open PySem PySem.Spec PyProof.Rows
/-! ### tuples stay; lists of tuples of ints -/
def Tups (H H' : Hp) : Prop := ∀ b xs, H b = some (.tup xs) → H' b = some (.tup xs)
theorem Tups.refl (H : Hp) : Tups H H := fun _ _ h => h
theorem Tups.trans {H H1 H2 : Hp} (a : Tups H H1) (b : Tups H1 H2) : Tups H H2 := fun c xs h => b c xs (a c xs h)
theorem Same.tups {H H' : Hp} (h : Same H H') : Tups H H' := fun b xs e => h b _ e
theorem Keep.tups {H H' : Hp} {st ga ca : Addr} {N : Nat} (K : Keep [st, ga] H H') (S : StAt H st ga ca N) : Tups H H' := fun b xs e => K b _ e (fun z => by
  obtain ⟨gs, cs, q, n, h1, h2, _⟩ := S.ex
  simp only [List.mem_cons, List.not_mem_nil, or_false] at z
  rcases z with rfl | rfl
  · rw [h1] at e; cases e
  · rw [h2] at e; cases e)
theorem Tups.set {H : Hp} {l : Addr} {xs : List V} {o : HO} (h : H l = some (.lst xs)) : Tups H (upd H l o) := fun b ys e => by
  rw [upd_ne (ne_of e h (by intro z; cases z))]; exact e
def Tup1 (hs : List Int) (v : V) (H : Hp) : Prop := ∃ q, v = .ref q ∧ H q = some (.tup (hs.map V.int))
theorem Tup1.mv {H H' : Hp} {hs : List Int} {v : V} (t : Tups H H') (h : Tup1 hs v H) : Tup1 hs v H' := let ⟨q, e, h⟩ := h; ⟨q, e, t _ _ h⟩
theorem All2.mv {H H' : Hp} {ls : List (List Int)} {xs : List V} (t : Tups H H') (h : All2 Tup1 H ls xs) : All2 Tup1 H' ls xs := h.imp fun _ _ z => z.mv t
theorem All2.at {α : Type} {R : α → V → Hp → Prop} {H : Hp} : ∀ {l : List α} {xs : List V} {i : Nat} {a : α}, All2 R H l xs → l[i]? = some a → ∃ x, xs[i]? = some x ∧ R a x H
  | _, _, _, _, .nil, e => by simp at e
  | _, _, 0, _, .cons r _, e => by simp at e; subst e; exact ⟨_, rfl, r⟩
  | _, _, i + 1, a, .cons _ t, e => by
    obtain ⟨u, h1, h2⟩ := All2.at (i := i) (a := a) t (by simpa using e)
    exact ⟨u, by simpa using h1, h2⟩
theorem All2.snoc {α : Type} {R : α → V → Hp → Prop} {H : Hp} {l : List α} {xs : List V} {a : α} {x : V} (h : All2 R H l xs) (r : R a x H) : All2 R H (l ++ [a]) (xs ++ [x]) := h.append (.cons r .nil)
theorem All2.take {α : Type} {R : α → V → Hp → Prop} {H : Hp} : ∀ {l : List α} {xs : List V} (n : Nat), All2 R H l xs → All2 R H (l.take n) (xs.take n)
  | _, _, 0, _ => .nil
  | _, _, _ + 1, .nil => .nil
  | _, _, n + 1, .cons r t => .cons r (t.take n)
/-! ### joined heaps -/
/-! ### choices -/
def chG (ns : List Int) : List (List Int) := ns.foldl (fun cs n => cs ++ cs.map (· ++ [n])) [[]]
theorem putK_keys {κ : Type} [DecidableEq κ] {kvs : List (κ × V)} {k : κ} {v w : V} (h : valV kvs k = some v) : (putK kvs k w).map (·.1) = kvs.map (·.1) := by
  unfold putK
  rw [if_pos (by rw [valV_any, h]; rfl), List.map_map]
  refine List.map_congr_left fun x _ => ?_
  show (if x.1 = k then (x.1, w) else x).1 = x.1
  split <;> rfl
end L2

set_option Elab.async false
set_option linter.all false
namespace L2
open PySem PySem.Spec PyProof.Rows
/-! ### rules within a comprehension: the fragment by its own name -/
section
variable {X : Cx}
theorem OpR.kk {f : Value → Value → Sem Value} (K0 : PySem.W.Frag) (r : PySem.W.Frag → R2) (ho : OpR X f (r X.K)) (h : X.K = K0) : OpR X f (r K0) := by subst h; exact ho
theorem IxR.kk (K0 : PySem.W.Frag) (r : PySem.W.Frag → R2) (ho : IxR X (r X.K)) (h : X.K = K0) : IxR X (r K0) := by subst h; exact ho
theorem SlR.kk (K0 : PySem.W.Frag) (r : PySem.W.Frag → V → Option Int → Option Int → Hp → VK → Prop) (ho : SlR X (r X.K)) (h : X.K = K0) : SlR X (r K0) := by subst h; exact ho
theorem CallR.kk {f : Value} (K0 : PySem.W.Frag) (r : PySem.W.Frag → List V → Hp → VK → Prop) (ho : CallR X f (r X.K)) (h : X.K = K0) : CallR X f (r K0) := by subst h; exact ho
theorem MtR.kk {id : String} (K0 : PySem.W.Frag) (r : PySem.W.Frag → V → List V → Hp → VK → Prop) (ho : MtR X id (r X.K)) (h : X.K = K0) : MtR X id (r K0) := by subst h; exact ho
theorem PE.kk {e : Expr} (K0 : PySem.W.Frag) (t : PySem.W.Frag → TE) (ho : PE X e (t X.K)) (h : X.K = K0) : PE X e (t K0) := by subst h; exact ho
theorem PT.kk {e : Expr} (K0 : PySem.W.Frag) (t : PySem.W.Frag → TT) (ho : PT X e (t X.K)) (h : X.K = K0) : PT X e (t K0) := by subst h; exact ho
theorem op_catAK (K0 : PySem.W.Frag) (h : X.K = K0) : OpR X (binaryOp .Add) (rCatA K0) := OpR.kk K0 rCatA op_catA h
theorem ix_tupK (K0 : PySem.W.Frag) (h : X.K = K0) : IxR X (rIxT K0) := IxR.kk K0 rIxT ix_tup h
theorem ix_listK (K0 : PySem.W.Frag) (h : X.K = K0) : IxR X (rIxL K0) := IxR.kk K0 rIxL ix_list h
variable {o e : Expr} {es : List Expr} {to : TE} {t : TA} {name : Str} {apos cpos : Pos} {T id : String} {r : V → List V → Hp → VK → Prop}
end
end L2

set_option Elab.async false
set_option linter.all false
namespace L2
open PySem PySem.Spec PyProof.Rows
/-- a heap of a rule -/
structure GoodH (n : Nat) (h : List Int) : Prop where
  ln : h.length ≤ n
  bd : ∀ x ∈ h, 1 ≤ x ∧ x ≤ 10 ^ 60
  pw : h.Pairwise (· ≥ ·)
theorem GoodH.mono {n m : Nat} {h : List Int} (g : GoodH n h) (hm : n ≤ m) : GoodH m h := ⟨Nat.le_trans g.ln hm, g.bd, g.pw⟩
/-- the rule so far -/
structure RB (H0 H : Hp) (st ga ca l : Addr) (N i : Nat) (rule : List (List Int)) (xs : List V) : Prop where
  li : H l = some (.lst xs)
  h2 : All2 Tup1 H rule xs
  nw : H0 l = none
  ni : l ∉ [st, ga, ca]
  ln : rule.length = i
  gd : ∀ h ∈ rule, GoodH (4 + i) h
  sa : StAt H st ga ca N
  kp : Keep [st, ga] H0 H
theorem RB.drawn {H0 H H2 : Hp} {st ga ca l : Addr} {N M i : Nat} {rule : List (List Int)} {xs : List V} (R : RB H0 H st ga ca l N i rule xs) (S2 : StAt H2 st ga ca M) (K2 : Keep [st, ga] H H2) : RB H0 H2 st ga ca l M i rule xs :=
  ⟨K2.at R.li (nin2 R.ni), R.h2.mv (K2.tups R.sa), R.nw, R.ni, R.ln, R.gd, S2, R.kp.trans K2⟩
theorem RB.same {H0 H H2 : Hp} {st ga ca l : Addr} {N i : Nat} {rule : List (List Int)} {xs : List V} (R : RB H0 H st ga ca l N i rule xs) (s : Same H H2) : RB H0 H2 st ga ca l N i rule xs :=
  R.drawn (R.sa.same s) s.keep
theorem RB.mono {H0 H : Hp} {st ga ca l : Addr} {N M i : Nat} {rule : List (List Int)} {xs : List V} (R : RB H0 H st ga ca l N i rule xs) (h : N ≤ M) : RB H0 H st ga ca l M i rule xs :=
  ⟨R.li, R.h2, R.nw, R.ni, R.ln, R.gd, R.sa.mono h, R.kp⟩
theorem RB.push {H0 H : Hp} {st ga ca l : Addr} {N i : Nat} {rule : List (List Int)} {xs : List V} {q : Addr} {hs : List Int} (R : RB H0 H st ga ca l N i rule xs) (hq : H q = some (.tup (hs.map V.int))) (g : GoodH (4 + (i + 1)) hs) :
    RB H0 (upd H l (.lst (xs ++ [.ref q]))) st ga ca l N (i + 1) (rule ++ [hs]) (xs ++ [.ref q]) := by
  have t : Tups H (upd H l (.lst (xs ++ [.ref q]))) := Tups.set R.li
  refine ⟨upd_same, (R.h2.mv t).snoc ⟨q, rfl, t _ _ hq⟩, R.nw, R.ni, by simp [R.ln], fun h hh => ?_, R.sa.upd R.ni, R.kp.updN R.nw⟩
  rcases List.mem_append.mp hh with hh | hh
  · exact (R.gd h hh).mono (by omega)
  · have : h = hs := by simpa using hh
    rw [this]; exact g
/-- one part ahead of a parting -/
theorem cat_front {K : PySem.W.Frag} {H : Hp} {q : Addr} {hs : List Int} {z : Int} {t : Addr} {Q : V → Hp → Prop} (hq : H q = some (.tup (hs.map V.int))) (ht : H t = some (.tup [V.int z])) (hl : hs.length ≤ 100)
    (k : ∀ (v : V) (H' : Hp), Tup1 (z :: hs) v H' → Same H H' → Q v H') : rCatA K (.ref t) (.ref q) H Q := by
  refine ⟨t, q, _, _, rfl, rfl, SqT.of ht, SqT.of hq, ?_, (fun e => by cases e), fun _ e => ?_, fun _ _ p hp => ?_⟩
  · rw [List.length_map]
    exact Nat.le_trans (m := 101) (by simp; omega) (by decide)
  · have : hs = [] := List.map_eq_nil_iff.mp e
    subst this
    exact k _ _ ⟨t, rfl, ht⟩ (fun _ _ h => h)
  · exact k _ _ ⟨p, rfl, by rw [upd_same]; rfl⟩ (Same.new hp)
/-- a filter, one by one -/
theorem filter_take {α : Type} (p : α → Bool) {l : List α} {i : Nat} {x : α} (h : l[i]? = some x) : (l.take (i + 1)).filter p = (l.take i).filter p ++ if p x = true then [x] else [] := by
  obtain ⟨hi, e⟩ := List.getElem?_eq_some_iff.mp h
  rw [List.take_succ_eq_append_getElem hi, List.filter_append, e]
  by_cases c : p x = true
  · rw [List.filter_cons, if_pos c, if_pos c]; rfl
  · rw [List.filter_cons, if_neg c, if_neg c]; rfl
/-- a rule at its place -/
structure RuleAt (H : Hp) (p : Addr) (rs : List V) (rule : List (List Int)) : Prop where
  at_ : H p = some (.tup rs)
  h2 : All2 Tup1 H rule rs
  ln : rule.length ≤ 6
  gd : ∀ h ∈ rule, GoodH 10 h
theorem RuleAt.mv {H H' : Hp} {p : Addr} {rs : List V} {rule : List (List Int)} (h : RuleAt H p rs rule) (t : Tups H H') : RuleAt H' p rs rule := ⟨t _ _ h.at_, h.h2.mv t, h.ln, h.gd⟩
theorem RuleAt.small {H : Hp} {p : Addr} {rs : List V} {rule : List (List Int)} (h : RuleAt H p rs rule) : ∀ x ∈ rule, x.length ≤ 1000 := fun x hx => Nat.le_trans (h.gd x hx).ln (by decide)
/-- the dict so far -/
structure SeenAt (H0 H : Hp) (d : Addr) (L : List Int) : Prop where
  ex : ∃ (kvs : List (Key × V)) (ns : List Int), H d = some (.dK kvs) ∧ kvs.map (·.1) = ns.map Sum.inl ∧ ns.length ≤ L.length ∧ ∀ x, x ∈ ns ↔ x ∈ L
  sm : ∀ b o, H0 b = some o → H b = some o
  nw : H0 d = none
theorem SeenAt.put {H0 H : Hp} {d : Addr} {L : List Int} {z : Int} (h : SeenAt H0 H d L) (hl : L.length < 1000) : ∃ H', DPut H d (.int z) (.bl true) H' ∧ SeenAt H0 H' d (L ++ [z]) := by
  obtain ⟨⟨kvs, ns, hd, hk, hn, hm⟩, sm, nw⟩ := h
  have hlen : kvs.length = ns.length := by
    have := congrArg List.length hk
    simpa using this
  refine ⟨upd H d (.dK (putK kvs (Sum.inl z) (.bl true))), DPut.k (k := Sum.inl z) hd (Nat.lt_of_lt_of_le (show kvs.length < 1000 by omega) (by decide)), ⟨?_, fun b o e => ?_, nw⟩⟩
  · cases e : valV kvs (Sum.inl z) with
    | none =>
      refine ⟨_, ns ++ [z], upd_same, ?_, by simp; omega, fun x => ?_⟩
      · rw [putK_new _ e, List.map_append, hk, List.map_append]
        rfl
      · simp [hm]
    | some v =>
      have hin := valV_in e
      rw [hk] at hin
      have hz : z ∈ ns := by
        obtain ⟨y, hy, e2⟩ := List.mem_map.mp hin
        have : y = z := Sum.inl.inj e2
        rw [← this]; exact hy
      refine ⟨_, ns, upd_same, ?_, by simp; omega, fun x => ?_⟩
      · have : (putK kvs (Sum.inl z) (V.bl true)).map (·.1) = kvs.map (·.1) := putK_keys e
        rw [this, hk]
      · rw [List.mem_append, ← hm]
        constructor
        · exact Or.inl
        · rintro (h | h)
          · exact h
          · have : x = z := by simpa using h
            rw [this]; exact hz
  · rw [upd_ne (ne_of_none e nw)]
    exact sm b o e
end L2

set_option Elab.async false
set_option linter.all false
set_option maxRecDepth 100000
namespace L2
open PySem PySem.Spec PyProof.Rows
open AutoSeq1 (wpAny_loadPart')
/-! ### enumerate(a), a a list or a tuple, walked by a tuple target -/
section
variable {prog : Program} {w : World} {A : Around} {E : Value → Shared → Prop} {s : Shared}
end
section
variable {X : Cx} {elts : List Expr} {x1 : Nat} {tpos : Pos}
end
end L2

set_option Elab.async false
set_option linter.all false
set_option maxRecDepth 100000
namespace L2
open PySem PySem.Spec PyProof.Rows PySem.W
/-! ### try: f(..) except S: suite, without a name -/
/-! ### f'text{e}', e an int -/
def tFs (x : Str) (te : TE) : TE := fun σ H Q => te σ H fun v H1 => ∃ i, v = .int i ∧ i.natAbs.log2 < 1920 ∧ (x ++ (toString i : Str)).length ≤ sizeLine ∧ Q (.str (x ++ toString i)) H1
theorem empty_cat (x : Str) : Str.empty ++ x = x := by
  show (⟨#[] ++ x.cps⟩ : Str) = x
  simp
theorem pe_fstr {X : Cx} {x : Str} {j : Nat} {e : Expr} {te : TE} {p1 p2 pos : Pos} (hx : x.length ≤ sizeLine) (he : PE X e te) (hs : evalEach [] X.env = [] := by rfl) : PE X (.JoinedStr [.Constant (.str x) j p1, .FormattedValue e (-1) none p2] pos) (tFs x te) := by
  intro pins s σ H Q I h
  refine JoinedStr_many (joinParts_cons (Calls.Constant_str ?_))
  show (Str.empty ++ x).length ≤ sizeLine ∧ _
  rw [empty_cat, hs]
  obtain I1 := I.tok (s.toks + 1)
  refine ⟨hx, joinParts_cons (FormattedValue_plain (thn (he pins _ σ H _ I1 h) fun v s1 ⟨y, H1, I2, r, q⟩ => ?_))⟩
  obtain ⟨i, rfl, hd, hl, q⟩ := q
  obtain ⟨t, rfl⟩ := r
  refine formatField_int_small hd ?_
  exact ⟨hl, joinParts_nil ⟨.str _, H1, (I2.tok _).tok _, ⟨_, rfl⟩, q⟩ hl⟩
end L2

set_option Elab.async false
set_option linter.all false
set_option maxRecDepth 100000
namespace L2
open PySem PySem.Spec PyProof.Rows
/-! ### range(n, 0, -1) -/
/-- n, n - 1, .. 1 -/
def Itd (n : Nat) : It := ⟨fun i _ => i < n, fun i H x H' => H' = H ∧ x = .int ((n : Int) - i), fun i _ => n ≤ i⟩
theorem turn_down {P : Program} {w : World} {K : PySem.W.Frag} {tg : Expr} (it : Addr) (n : Nat) : Turn P w K tg (Itd n) [it] it (fun i h => IsRangeIter h it ((n : Int) + (i : Nat) * (-1)) ((n : Int) - (i : Nat)) (-1)) where
  mem := by simp
  obj := fun i h st b hb => by
    have e : b = it := by simpa using hb
    subst e
    exact ⟨_, st, fun v z => by
      have z' : Data.fields _ = Data.cell v := z
      cases z'⟩
  keep := fun i h h' st k => k it (by simp) _ st
  item := by
    intro X hP hw hK hc i pins s σ H E I hf st hg
    subst hP hw hK
    obtain ⟨f0, f1, f2, f3, f4, f5⟩ := hf it (by simp)
    have W := Walks.range (prog := X.prog) (w := X.w) (I.ok.hd hc) it (n : Int) (-1) n
    refine W.item i s _ _ hg st fun v h' tk hv st' kk => ?_
    obtain ⟨t, rfl⟩ := hv
    have I1 : Inv X pins σ H { s with heap := h', toks := tk } := I.turned (fun b o hb e => kk b o (by simpa using hb) e) f0 f1 f3 f4 f5
    refine ⟨_, rfl, go_of (s := { s with heap := h', toks := tk }) (n := "range_iterator") st' rfl rfl (by decide) ⟨.int ((n : Int) - i), H, I1, ⟨t, ?_⟩, ⟨rfl, rfl⟩, st', fun b hb => (hf b hb).1⟩⟩
    have : (n : Int) + (i : Int) * (-1) = (n : Int) - i := by omega
    rw [this]
  done := by
    intro X hP hw hK hc i pins s σ H E I hf st hg
    subst hP hw hK
    obtain ⟨f0, f1, f2, f3, f4, f5⟩ := hf it (by simp)
    exact wpAny_pyNext_range_end (I.ok.hd hc) st (by have : n ≤ i := hg; omega) fun h' eb => ⟨rfl, I.turned (t' := s.toks) (fun b o hb e => eb b o hb e) f0 f1 f3 f4 f5⟩
  self := fun _ _ _ _ _ st h => wpAny_pyIter_rangeiter st h
section
variable {X : Cx} {tg : Expr}
theorem size_down (n : Nat) : Builtin.Range.rangeSize (n : Int) 0 (-1) = (n : Int) := by
  unfold Builtin.Range.rangeSize
  rw [if_neg (by decide)]
  have e : ((-(-1 : Int))) = 1 := by decide
  split
  · rw [e, Int.ediv_one]; omega
  · omega
theorem small_down {n : Nat} (h : n ≤ 100000) : Builtin.Range.small (n : Int) 0 (-1) = true := by
  unfold Builtin.Range.small
  rw [size_down]
  simp only [Builtin.Range.rangeFitsLong, Bool.and_eq_true, Bool.or_eq_true, decide_eq_true_eq, beq_iff_eq, show ¬ ((-1 : Int) > 0) by decide, if_false]
  omega
def iDown (ta : TA) : TI := fun σ H R => ta σ H fun vs H1 => ∃ n : Nat, vs = [.int n, .int 0, .int (-1)] ∧ n ≤ 100000 ∧ R (Itd n) H1
theorem pi_down {a b c : Expr} {ta : TA} {p pos : Pos} (hg : Gl X "range") (hm : X.mg "range" = none) (ha : PA X [a, b, c] ta) (hs : starEach [a, b, c] X.env = (false, eval a X.env) :: starEach [b, c] X.env := by rfl) (hs2 : (backTo pos (starEach [b, c] X.env)).any (·.1) = false := by rfl) :
    PI X tg (.Call (.Name "range" p) [a, b, c] [] pos) (iDown ta) := by
  intro pins s σ H R I h
  refine Call_ (ld_blt I hg hm boot_range (PyProof.Rows.callWith_type1 (thn (ha pos pins s σ H _ I h) fun us s1 ⟨vs, H1, I1, r1, q1⟩ => ?_) hs hs2))
  obtain ⟨n, e, hn, q⟩ := q1
  subst e
  cases r1 with
  | cons r rr =>
    cases rr with
    | cons r' rr =>
      cases rr with
      | cons r'' rr =>
        cases rr
        obtain ⟨t, rfl⟩ := r
        obtain ⟨t', rfl⟩ := r'
        obtain ⟨t'', rfl⟩ := r''
        refine call_range_3 (by decide) ?_ (.inl (PyProof.noPylong_small (by decide)))
        refine wpAny_pyIter_range (s := { s1 with heap := s1.heap.push { cls := .type "range", data := .fields #[.int n t, .int 0 t', .int (-1) t''] } }) (Heap.get?_push_size _ rfl) (small_down hn) ?_
        have I2 : Inv X pins σ H1 { s1 with heap := s1.heap.push { cls := .type "range", data := .fields #[.int n t, .int 0 t', .int (-1) t''] } } := I1.kept (t' := s1.toks) fun b o e => Heap.get?_push_of_some _ e
        refine ⟨_, [(s1.heap.push { cls := .type "range", data := .fields #[.int n t, .int 0 t', .int (-1) t''] }).objs.size], _, _, H1, rfl, I2.kept (t' := s1.toks) fun b o e => Heap.get?_push_of_some _ e, turn_down _ n, ?_, fun b hb => ?_, q⟩
        · show IsRangeIter _ _ ((n : Int) + ((0 : Nat) : Int) * (-1)) ((n : Int) - ((0 : Nat) : Int)) (-1)
          have e1 : (n : Int) + ((0 : Nat) : Int) * (-1) = n := by simp
          have e2 : (n : Int) - ((0 : Nat) : Int) = Builtin.Range.rangeSize (n : Int) 0 (-1) := by rw [size_down]; simp
          rw [e1, e2]
          exact Heap.get?_push_size _ rfl
        · have e : b = (s1.heap.push { cls := .type "range", data := .fields #[.int n t, .int 0 t', .int (-1) t''] }).objs.size := by simpa using hb
          subst e
          exact I2.fpOk (Nat.le_refl _) (I2.hok.fresh (Nat.le_refl _))
end
theorem for_down {n : Nat} {g : TG} {tb : TS} {D : Ends} {σ : St} {H : Hp} (Pv : Nat → St → Hp → Prop) (h0 : Pv 0 σ H)
    (hs : ∀ i σ H, i < n → Pv i σ H → g (.int ((n : Int) - i)) σ H fun σ2 H2 => tb { D with nx := Pv (i + 1), ct := Pv (i + 1), bk := D.nx } σ2 H2) (hd : ∀ σ H, Pv n σ H → D.nx σ H) :
    ∃ W : Nat → Nat → St → Hp → Prop, (∃ m, W 0 m σ H) ∧ ∀ i m σ H, W i m σ H →
      ((Itd n).stop i H ∧ D.nx σ H) ∨ ((Itd n).go i H ∧ ∃ N : St → Hp → Prop, (∀ σ' H', N σ' H' → ∃ m', m' < m ∧ W (i + 1) m' σ' H') ∧ ∀ x H', (Itd n).yld i H x H' → g x σ H' fun σ2 H2 => tb { D with nx := N, ct := N, bk := D.nx } σ2 H2) := by
  refine ⟨fun i m σ H => m = n - i ∧ i ≤ n ∧ Pv i σ H, ⟨n, by simp, Nat.zero_le _, h0⟩, ?_⟩
  rintro i m σ H ⟨rfl, hi, p⟩
  by_cases hlt : i < n
  · refine .inr ⟨hlt, Pv (i + 1), fun σ' H' p' => ⟨n - (i + 1), by omega, rfl, hlt, p'⟩, fun x H' y => ?_⟩
    obtain ⟨e, y⟩ := y
    subst e y
    exact hs i σ _ hlt p
  · have e : i = n := by omega
    subst e
    exact .inl ⟨Nat.le_refl _, hd σ H p⟩
/-- a def of which nothing is asked -/
theorem FnOk.none {P : Program} {w : World} {K : PySem.W.Frag} {mg : Str → Option Value} {base : Heap} {CX : CXT} {k : Nat} {f : Addr} {fd : FuncData} {ps : List Str} {sp : Sp} {cm : Bool} (h : ∀ vs H Q E, ¬ sp vs H Q E) : FnOk P w K mg base CX k f fd ps sp cm :=
  ⟨fun vs H Q E z => absurd z (h vs H Q E), fun A outer s H args us vs Q E hr he hb hv hs => absurd hs (h _ _ _ _)⟩
end L2

set_option Elab.async false
set_option linter.all false
namespace L2
open PySem PySem.Spec PyProof.Rows
/-! ### partings, what lies in a heap -/
/-- f: more than n -/
def partF : Nat → Nat → Nat → List (List Int)
  | 0, _, _ => []
  | f + 1, n, g => if n = 0 then [[]] else (List.range (min n g)).flatMap fun i => (partF f (n - (min n g - i)) (min n g - i)).map (((min n g - i : Nat) : Int) :: ·)
/-- the first i of them -/
def partP (f n k i : Nat) : List (List Int) := (List.range i).flatMap fun i => (partF f (n - (k - i)) (k - i)).map (((k - i : Nat) : Int) :: ·)
theorem partF_succ (f n g : Nat) : partF (f + 1) n g = if n = 0 then [[]] else partP f n (min n g) (min n g) := rfl
theorem partP_succ (f n k i : Nat) : partP f n k (i + 1) = partP f n k i ++ (partF f (n - (k - i)) (k - i)).map (((k - i : Nat) : Int) :: ·) := by
  unfold partP
  rw [List.range_succ, List.flatMap_append]
  simp
theorem partP_len {f : Nat} (ih : ∀ n g, (partF f n g).length ≤ 2 ^ n) {n k : Nat} (hk : k ≤ n) : ∀ i, i ≤ k → (partP f n k i).length ≤ 2 ^ (n - k + i)
  | 0, _ => by simp [partP]
  | i + 1, hi => by
    have h1 := partP_len ih hk i (by omega)
    rw [partP_succ, List.length_append, List.length_map]
    have h2 := ih (n - (k - i)) (k - i)
    have e : n - (k - i) = n - k + i := by omega
    rw [e] at h2
    have e2 : n - k + (i + 1) = (n - k + i) + 1 := by omega
    rw [e2, Nat.pow_succ]
    rw [e]
    omega
theorem partF_len : ∀ f n g, (partF f n g).length ≤ 2 ^ n
  | 0, n, g => Nat.zero_le _
  | f + 1, n, g => by
    rw [partF_succ]
    split
    · rename_i h; rw [h]; exact Nat.le_refl _
    · have := partP_len (partF_len f) (n := n) (k := min n g) (Nat.min_le_left _ _) (min n g) (Nat.le_refl _)
      have e : n - min n g + min n g = n := by omega
      rw [e] at this
      exact this
theorem partF_mem : ∀ f n g, ∀ h ∈ partF f n g, h.length ≤ n
  | 0, n, g, h, hh => nomatch hh
  | f + 1, n, g, h, hh => by
    rw [partF_succ] at hh
    split at hh
    · have : h = [] := by simpa using hh
      rw [this]; exact Nat.zero_le _
    · unfold partP at hh
      obtain ⟨i, hi, hh⟩ := List.mem_flatMap.mp hh
      rw [List.mem_range] at hi
      obtain ⟨r, hr, rfl⟩ := List.mem_map.mp hh
      have := partF_mem f _ _ r hr
      rw [List.length_cons]
      omega
def idxP (rule : List (List Int)) (hs : List Int) (i : Nat) : List Int := ((List.range i).filter fun i => lies (rule.getD i []) hs).map fun (k : Nat) => (k : Int)
def idxG (rule : List (List Int)) (hs : List Int) : List Int := idxP rule hs rule.length
theorem pow24 {n : Nat} (h : n ≤ 24) : 2 ^ n ≤ sizeLine := Nat.le_trans (Nat.pow_le_pow_right (by decide) h) (by decide)
end L2

set_option Elab.async false
set_option linter.all false
namespace L2
open PySem PySem.Spec PyProof.Rows
/-! ### pairs of a heap and a choice -/
def Pair1 (pc : List Int × List Int) (v : V) (H : Hp) : Prop := ∃ q a b, v = .ref q ∧ H q = some (.tup [.ref a, .ref b]) ∧ H a = some (.tup (pc.1.map V.int)) ∧ H b = some (.tup (pc.2.map V.int))
theorem Pair1.mv {H H' : Hp} {pc : List Int × List Int} {v : V} (t : Tups H H') (h : Pair1 pc v H) : Pair1 pc v H' := let ⟨q, a, b, e, h1, h2, h3⟩ := h; ⟨q, a, b, e, t _ _ h1, t _ _ h2, t _ _ h3⟩
/-- the pairs of one heap -/
def pairs1 (rule : List (List Int)) (h : List Int) : List (List Int × List Int) := (chG (idxG rule h)).map fun c => (h, c)
end L2

set_option Elab.async false
set_option linter.all false
namespace L2
open PySem PySem.Spec PyProof.Rows
/-! ### coins -/
end L2

set_option Elab.async false
set_option linter.all false
set_option maxRecDepth 100000
namespace L2
open PySem PySem.Spec PyProof.Rows
/-! ### xs.insert(i, e), i a place there or behind the last one -/
/-! ### slices of tuples of ints from 1 on -/
end L2

set_option Elab.async false
set_option linter.all false
set_option maxRecDepth 100000
namespace L2
open PySem PySem.Spec PyProof.Rows
/-! ### ways by the rule of the left over ones: the last one first -/
/-! ### coins, once more -/
end L2

set_option Elab.async false
set_option linter.all false
namespace L2
open PySem PySem.Spec PyProof.Rows
/-! ### pairs and partners -/
/-- rising, from l on, below n -/
def isCh (n : Nat) : Int → List Int → Bool
  | _, [] => true
  | l, x :: r => if x < l ∨ (n : Int) ≤ x then false else isCh n (x + 1) r
/-! ### a heap in which all heaps of a rule lie -/
def CovU (rule : List (List Int)) (U : List Int) : Prop := ∀ h ∈ rule, ∀ x, h.count x ≤ U.count x
theorem CovU.cons {rule : List (List Int)} {U hs : List Int} (c : CovU rule U) : CovU (hs :: rule) (hs ++ U) := fun h hh x => by
  rw [List.count_append]
  rcases List.mem_cons.mp hh with rfl | hh
  · omega
  · have := c h hh x
    omega
theorem CovU.mem {rule : List (List Int)} {U hs : List Int} (c : CovU rule U) (m : hs ∈ rule) : CovU (hs :: rule) U := fun h hh x => by
  rcases List.mem_cons.mp hh with rfl | hh
  · exact c _ m x
  · exact c h hh x
theorem CovU.big {rule : List (List Int)} {U hs : List Int} {b : Int} (c : CovU (hs :: rule) U) : CovU ((b :: hs) :: rule) (b :: U) := fun h hh x => by
  rcases List.mem_cons.mp hh with rfl | hh
  · have := c hs List.mem_cons_self x
    rw [List.count_cons, List.count_cons]
    omega
  · have := c h (List.mem_cons_of_mem _ hh) x
    rw [List.count_cons]
    omega
theorem CovU.snoc {rule : List (List Int)} {U hs hs' : List Int} (p : hs'.Perm hs) (c : CovU (hs :: rule) U) : CovU (rule ++ [hs']) U := fun h hh x => by
  rcases List.mem_append.mp hh with hh | hh
  · exact c h (List.mem_cons_of_mem _ hh) x
  · have e : h = hs' := by simpa using hh
    rw [e, p.count_eq x]
    exact c hs List.mem_cons_self x
end L2

set_option Elab.async false
set_option linter.all false
namespace L2
open PySem PySem.Spec PyProof.Rows
/-! ### sorted(t), t a tuple of ints -/
section
variable {prog : Program} {w : World} {A : Around} {E : Value → Shared → Prop} {s : Shared}
end
end L2

set_option Elab.async false
set_option linter.all false
namespace L2
open PySem PySem.Spec PyProof.Rows
structure PairF (rule : List (List Int)) (pc : List Int × List Int) (m : Int) : Prop where
  le : ∀ x ∈ pc.2, m ≤ x
  pw : pc.2.Pairwise (· < ·)
  ch : isCh rule.length 0 pc.2 = true
  al : ∀ j ∈ pc.2, lies (rule.getD j.toNat []) pc.1 = true
  m0 : 0 ≤ m
  m1 : m < rule.length
  ml : lies (rule.getD m.toNat []) pc.1 = true
/-- the least one is the first one -/
theorem PairF.head {rule : List (List Int)} {pc : List Int × List Int} {m : Int} (p : PairF rule pc m) (h : m ∈ pc.2) : ∃ r, pc.2 = m :: r ∧ ∀ x ∈ r, m < x := by
  have pw := p.pw
  have le := p.le
  cases e : pc.2 with
  | nil => rw [e] at h; cases h
  | cons y r =>
    rw [e] at h pw le
    have hy := le y List.mem_cons_self
    have hr : ∀ x ∈ r, y < x := (List.pairwise_cons.mp pw).1
    rcases List.mem_cons.mp h with rfl | h
    · exact ⟨r, rfl, hr⟩
    · have := hr m h
      omega
theorem ne_int {a b : Int} (h : a ≠ b) : ¬ decide (V.int a = V.int b) = true := fun z => by
  have := of_decide_eq_true z
  injection this with e
  exact h e
end L2

set_option Elab.async false
set_option linter.all false
namespace L2
open PySem PySem.Spec PyProof.Rows PySem.W
theorem isinst_tup {X : Cx} {pins : List (Addr × Obj)} {σ : St} {H : Hp} {s : Shared} {A : Around} {E : Value → Shared → Prop} {Q : Value → Shared → Prop} {b : Bool}
    {x : V} {u t : Value} {tp : Addr} {dd : Option Addr} {its : List Value} {n : Nat} {sl : Array (Option Value)} (I : Inv X pins σ H s) (rx : RelV x u) (ty : TyOf X.K H x t)
    (hg : s.heap.get? tp = some { cls := Value.type "tuple", dict := dd, data := Data.seq its.toArray n, slots := sl }) (e : kitAny X.K t its = some b) (h : ∀ tk, Q (.bool b) { s with toks := tk }) :
    wpAny (model X.prog X.w) A (call (.builtin "isinstance") [u, .ref tp]) Q E s := by
  cases ty with
  | non => cases (show u = Value.none from rx); exact kia_tup kitx_none I.kIn True.intro hg e (fun z => nomatch z) h
  | bl y => cases (show u = Value.bool y from rx); exact kia_tup kitx_bool I.kIn True.intro hg e (fun z => nomatch z) h
  | int i => obtain ⟨t, q⟩ := (show ∃ t, u = Value.int i t from rx); cases q; exact kia_tup kitx_int I.kIn True.intro hg e (fun z => nomatch z) h
  | str y => obtain ⟨t, q⟩ := (show ∃ t, u = Value.str y t from rx); cases q; exact kia_tup kitx_str I.kIn True.intro hg e (fun z => nomatch z) h
  | flt y => obtain ⟨t, q⟩ := (show ∃ t, u = Value.float y t from rx); cases q; exact kia_tup kitx_float I.kIn True.intro hg e (fun z => nomatch z) h
  | @lst a xs ea =>
    cases (show u = Value.ref a from rx)
    obtain ⟨_, _, n, _, h1⟩ := (show ObjOk X.prog X.w H s.heap a (.lst xs) from I.hok a _ ea)
    exact kia_tup kitx_list I.kIn ⟨_, h1, rfl⟩ hg e (fun z => nomatch z) h
  | @frz a ob xs ea =>
    cases (show u = Value.ref a from rx)
    obtain ⟨_, _, _, n, _, h1⟩ := (show ObjOk X.prog X.w H s.heap a (.frz ob (.lst xs)) from I.hok a _ ea)
    exact kia_tup kitx_list I.kIn ⟨_, h1, rfl⟩ hg e (fun z => nomatch z) h
  | @tup a xs ea =>
    cases (show u = Value.ref a from rx)
    obtain ⟨_, _, _, p, _⟩ := (show ObjOk X.prog X.w H s.heap a (.tup xs) from I.hok a _ ea)
    obtain ⟨o, h1, h2, _⟩ := p
    exact kia_tup kitx_tuple I.kIn ⟨o, h1, h2⟩ hg e (fun z => nomatch z) h
  | @dK a kvs ea =>
    cases (show u = Value.ref a from rx)
    obtain ⟨_, _, vs, _, p⟩ := (show ObjOk X.prog X.w H s.heap a (.dK kvs) from I.hok a _ ea)
    obtain ⟨o, es, ep, h1, h2, _⟩ := p
    exact kia_tup kitx_dict I.kIn ⟨o, h1, h2.1⟩ hg e (fun z => nomatch z) h
  | @dT a kvs ea =>
    cases (show u = Value.ref a from rx)
    obtain ⟨_, _, xs, _, o, es, ep, h1, h2, _⟩ := (show ObjOk X.prog X.w H s.heap a (.dT kvs) from I.hok a _ ea)
    exact kia_tup kitx_dict I.kIn ⟨o, h1, h2.1⟩ hg e (fun z => nomatch z) h
  | @ins a C dx fs ea cl ha hn htk hm =>
    cases (show u = Value.ref a from rx)
    obtain ⟨mA, O, _⟩ := ins_get I.hok ea
    obtain ⟨od, J, _⟩ := O.look
    exact kia_tup (kitx_own (cl.get _) cl.hd ha hn htk hm) I.kIn J hg e (fun z => nomatch z) h
theorem vals_ty {Ts : List String} {us : List Value} (h : Vals (Ts.map V.ty) us) : us = Ts.map Value.type := by
  induction Ts generalizing us with
  | nil => cases h; rfl
  | cons a r ih =>
    cases h with
    | cons h1 h2 =>
      rw [ih h2]
      cases (show _ = Value.type a from h1)
      rfl
theorem call_isiT {X : Cx} : CallR X (.builtin "isinstance") (fun xs H Q => ∃ x tp Ts t b, xs = [x, .ref tp] ∧ H tp = some (.tup (List.map V.ty Ts)) ∧ TyOf X.K H x t ∧ kitAny X.K t (Ts.map Value.type) = some b ∧ Q (.bl b) H) := by
  intro pins s σ H xs us Q I r h
  obtain ⟨x, tp, Ts, t, b, rfl, ht, ty, hk, q⟩ := h
  obtain ⟨u, v, rfl, ru, rv⟩ := vals2 r
  cases (show v = Value.ref tp from rv)
  obtain ⟨_, its, r2, ⟨o, h1, h2, n, h3⟩, _⟩ := (show ObjOk X.prog X.w H s.heap tp (.tup (Ts.map V.ty)) from I.hok tp _ ht)
  cases vals_ty r2
  cases o
  cases h2
  cases h3
  exact isinst_tup I ru ty h1 hk fun tk => ⟨.bl b, H, I.tok tk, rfl, q⟩
theorem kit_list_tuple {K : Frag} : kitOne K (.type "list") (.type "tuple") = some false := by
  unfold kitOne
  rw [if_neg (by decide +kernel)]
  rfl
theorem kitA0_list {K : Frag} : kitAny K (.type "list") (["tuple", "list"].map Value.type) = some true := by rfl
theorem kitA0_int {K : Frag} : kitAny K (.type "int") (["tuple", "list"].map Value.type) = some false := by rfl
end L2

set_option Elab.async false
set_option linter.all false
set_option maxRecDepth 100000
namespace L2
open PySem PySem.Spec PyProof.Rows
/-! ### range(hi, hi - n, -1) -/
section
variable {X : Cx} {tg : Expr}
end
end L2

set_option Elab.async false
set_option linter.all false
set_option maxRecDepth 100000
namespace L2
end L2

set_option Elab.async false
set_option linter.all false
set_option maxRecDepth 100000
namespace L2
open PySem PySem.Spec PyProof.Rows PySem.W
/-! ### try: f(..) except S as n: suite else: other -/
end L2

set_option Elab.async false
set_option linter.all false
set_option maxRecDepth 100000
namespace L2
def sumN : Nat → (Nat → Int) → Int
  | 0, _ => 0
  | n + 1, f => sumN n f + f n
theorem sumN_congr {n : Nat} {f g : Nat → Int} (h : ∀ j, j < n → f j = g j) : sumN n f = sumN n g := by
  induction n with
  | zero => rfl
  | succ n ih => rw [sumN, sumN, ih fun j hj => h j (by omega), h n (by omega)]
theorem sumN_sub (n : Nat) (f g : Nat → Int) : sumN n (fun j => f j - g j) = sumN n f - sumN n g := by
  induction n with
  | zero => rfl
  | succ n ih => rw [sumN, sumN, sumN, ih]; omega
theorem sumN_zero (n : Nat) : sumN n (fun _ => 0) = 0 := by
  induction n with
  | zero => rfl
  | succ n ih => rw [sumN, ih]; rfl
theorem sumN_list (n : Nat) (f : Nat → Int) : ((List.range n).map f).sum = sumN n f := by
  induction n with
  | zero => rfl
  | succ n ih => rw [List.range_succ, List.map_append, List.sum_append, ih, sumN]; simp
theorem sumN_up (p k : Nat) (h : Nat → Int) : sumN (p + k) (fun j => if p ≤ j then h (j - p) else 0) = sumN k h := by
  induction k with
  | zero =>
    rw [Nat.add_zero, sumN_congr (g := fun _ => 0) fun j hj => by rw [if_neg (by omega)], sumN_zero]
    rfl
  | succ k ih =>
    show sumN (p + k) _ + (if p ≤ p + k then h (p + k - p) else 0) = _
    rw [ih, if_pos (by omega), Nat.add_sub_cancel_left]
    rfl
theorem sumN_low (p k : Nat) (h : Nat → Int) : sumN (k + p) (fun j => if j < k then h j else 0) = sumN k h := by
  induction p with
  | zero => exact sumN_congr fun j hj => if_pos (show j < k from hj)
  | succ p ih =>
    show sumN (k + p) _ + (if k + p < k then h (k + p) else 0) = _
    rw [ih, if_neg (by omega), Int.add_zero]
def convN (f g : Nat → Int) (n : Nat) : Int := sumN (n + 1) fun j => f j * g (n - j)
theorem convN_step {f f' g g' : Nat → Int} {p n : Nat} (hf : ∀ j, j ≤ n → f' j = f j - (if p ≤ j then f (j - p) else 0)) (hg : ∀ j, j ≤ n → g' j = g j + (if p ≤ j then g' (j - p) else 0)) : convN f' g' n = convN f g n := by
  have e1 : convN f' g' n = sumN (n + 1) (fun j => f j * g' (n - j)) - sumN (n + 1) (fun j => if p ≤ j then f (j - p) * g' (n - j) else 0) := by
    rw [← sumN_sub]
    refine sumN_congr fun j hj => ?_
    rw [hf j (by omega)]
    by_cases c : p ≤ j
    · rw [if_pos c, if_pos c, Int.sub_mul]
    · rw [if_neg c, if_neg c, Int.sub_zero, Int.sub_zero]
  have e2 : convN f g n = sumN (n + 1) (fun j => f j * g' (n - j)) - sumN (n + 1) (fun j => if p ≤ n - j then f j * g' (n - j - p) else 0) := by
    rw [← sumN_sub]
    refine sumN_congr fun j hj => ?_
    have h := hg (n - j) (by omega)
    by_cases c : p ≤ n - j
    · rw [if_pos c] at h
      rw [if_pos c, h, Int.mul_add]
      omega
    · rw [if_neg c] at h
      rw [if_neg c, h]
      simp
  rw [e1, e2]
  congr 1
  by_cases hp : p ≤ n
  · have en : n + 1 = p + (n + 1 - p) := by omega
    rw [en]
    rw [sumN_congr (g := fun j => if p ≤ j then (fun i => f i * g' (n - p - i)) (j - p) else 0) fun j hj => by
      by_cases c : p ≤ j
      · rw [if_pos c, if_pos c]
        show _ = f (j - p) * g' (n - p - (j - p))
        rw [show n - p - (j - p) = n - j by omega]
      · rw [if_neg c, if_neg c]]
    rw [sumN_up p (n + 1 - p) (fun i => f i * g' (n - p - i)), Nat.add_comm p]
    rw [sumN_congr (f := fun j => if p ≤ n - j then f j * g' (n - j - p) else 0) (g := fun j => if j < n + 1 - p then (fun i => f i * g' (n - p - i)) j else 0) fun j hj => by
      by_cases c : j < n + 1 - p
      · rw [if_pos c, if_pos (by omega)]
        show _ = f j * g' (n - p - j)
        rw [show n - p - j = n - j - p by omega]
      · by_cases hp0 : p = 0
        · omega
        · rw [if_neg c, if_neg (by omega)]]
    rw [sumN_low p (n + 1 - p) (fun i => f i * g' (n - p - i))]
  · rw [sumN_congr (g := fun _ => 0) fun j hj => by rw [if_neg (by omega)]]
    rw [sumN_congr (f := fun j => if p ≤ n - j then f j * g' (n - j - p) else 0) (g := fun _ => 0) fun j hj => by rw [if_neg (by omega)]]
theorem one_at (b n : Nat) : ((1 : Int) :: List.replicate b 0).getD n 0 = if n = 0 then 1 else 0 := by
  cases n with
  | zero => rfl
  | succ n =>
    rw [if_neg (by omega), List.getD_cons_succ, List.getD_eq_getElem?_getD, List.getElem?_replicate]
    split <;> rfl
end L2

set_option Elab.async false
set_option linter.all false
set_option maxRecDepth 100000
namespace L2
open PySem PySem.Spec PyProof.Rows
/-! ### set(t) of ints, and its length -/
section
variable {X : Cx}
end
end L2

set_option Elab.async false
set_option linter.all false
set_option maxRecDepth 100000
namespace L2
open PySem PySem.Spec PyProof.Rows
/-! ### products of great ints -/
def CMulB (i j : Int) : Prop := i.natAbs < 2 ^ 5000 ∧ j.natAbs < 2 ^ 5000
theorem CMulB.ok {i j : Int} (h : CMulB i j) : IntMulOk i j :=
  IntMulOk.of_bits (Nat.le_trans (PySem.intBits_le_iff.mpr h.1) (by decide)) (Nat.le_trans (PySem.intBits_le_iff.mpr h.2) (by decide))
section
variable {X : Cx}
end
/-! ### for k, x in enumerate(xs) -/
/-! ### xs[::-1] -/
section
variable {X : Cx} {e st : Expr} {te : TE} {ts : TO} {p2 pos : Pos}
end
/-! ### trailing noughts dropped -/
def trimI : List Int → List Int
  | [] => []
  | a :: r => match trimI r with
    | [] => if a = 0 then [] else [a]
    | b :: s => a :: b :: s
theorem trim_zero (xs : List Int) : trimI (xs ++ [0]) = trimI xs := by
  induction xs with
  | nil => rfl
  | cons a r ih => rw [List.cons_append, trimI, ih, trimI]
theorem trim_last (xs : List Int) {a : Int} (h : a ≠ 0) : trimI (xs ++ [a]) = xs ++ [a] := by
  induction xs with
  | nil =>
    show (if a = 0 then [] else [a]) = [a]
    rw [if_neg h]
  | cons b r ih =>
    rw [List.cons_append, trimI, ih]
    cases r <;> rfl
theorem trim_len (xs : List Int) : (trimI xs).length ≤ xs.length := by
  induction xs with
  | nil => exact Nat.le_refl _
  | cons a r ih =>
    rw [trimI]
    split
    · split <;> simp
    · rename_i b s h
      rw [h] at ih
      simp only [List.length_cons] at ih ⊢
      omega
theorem take_snoc {α : Type} {ns : List α} {t : Nat} (h : t < ns.length) : ns.take (t + 1) = ns.take t ++ [ns[t]] := by
  rw [List.take_succ, List.getElem?_eq_getElem h]
  rfl
/-! ### products of polynomials -/
theorem tab_at {n k : Nat} (h : k < n) (f : Nat → Int) : ((List.range n).map f)[k]? = some (f k) := by
  rw [List.getElem?_map, List.getElem?_range h]
  rfl
def plusL (a b : List Int) : List Int := (List.range (max a.length b.length)).map fun k => a.getD k 0 + b.getD k 0
end L2

set_option Elab.async false
set_option linter.all false
set_option maxRecDepth 100000
namespace L2
open PySem PySem.Spec PyProof.Rows
section
variable {X : Cx} {tg l : Expr} {t1 t2 : TI}
end
/-! ### how many unlike ones -/
/-! ### tuples within tuples, the same -/
def SmT : Nat → Hp → V → V → Prop
  | 0, _, _, _ => False
  | n + 1, H, x, y => (∃ i : Int, x = .int i ∧ y = .int i) ∨ (∃ (f d : Addr) (xs ys : List V), x = .ref f ∧ y = .ref d ∧ H f = some (.tup xs) ∧ H d = some (.tup ys) ∧ xs.length = ys.length ∧ xs.length ≤ 1000 ∧ ∀ (i : Nat) (x y : V), xs[i]? = some x → ys[i]? = some y → SmT n H x y)
theorem SmT.mv {H H' : Hp} (s : Tups H H') : ∀ {n : Nat} {x y : V}, SmT n H x y → SmT n H' x y
  | 0, _, _, h => False.elim h
  | n + 1, x, y, .inl h => .inl h
  | n + 1, x, y, .inr ⟨f, d, xs, ys, e1, e2, h1, h2, h3, h4, h5⟩ => .inr ⟨f, d, xs, ys, e1, e2, s _ _ h1, s _ _ h2, h3, h4, fun i x y hx hy => (h5 i x y hx hy).mv s⟩
theorem SmT.ints {H : Hp} {n : Nat} {f d : Addr} {ns : List Int} (h1 : H f = some (.tup (ns.map V.int))) (h2 : H d = some (.tup (ns.map V.int))) (hl : ns.length ≤ 1000) : SmT (n + 2) H (.ref f) (.ref d) :=
  Or.inr ⟨f, d, _, _, rfl, rfl, h1, h2, rfl, by rw [List.length_map]; exact hl, fun i x y hx hy => by
    rw [hx] at hy
    cases hy
    obtain ⟨z, _, rfl⟩ := map_at hx
    exact Or.inl ⟨z, rfl, rfl⟩⟩
theorem SmT.rows {H : Hp} {n : Nat} {f d : Addr} {ls : List (List Int)} {xs ys : List V} (h1 : H f = some (.tup xs)) (h2 : H d = some (.tup ys)) (a1 : All2 Tup1 H ls xs) (a2 : All2 Tup1 H ls ys) (hl : ls.length ≤ 1000) (hb : ∀ l ∈ ls, l.length ≤ 1000) : SmT (n + 3) H (.ref f) (.ref d) :=
  Or.inr ⟨f, d, xs, ys, rfl, rfl, h1, h2, by rw [← a1.length, ← a2.length], by rw [← a1.length]; exact hl, fun i x y hx hy => by
    obtain ⟨l, hl1, q, rfl, hq⟩ := a1.get hx
    obtain ⟨l', hl2, q', rfl, hq'⟩ := a2.get hy
    rw [hl1] at hl2
    cases hl2
    exact SmT.ints hq hq' (hb l (List.mem_of_getElem? hl1))⟩
def PairO (H : Hp) (p : Addr) (m : Nat) (zs : List Int) : Prop := ∃ (o1 o2 : Addr) (ts us : List V), H p = some (.tup [.ref o1, .ref o2]) ∧ H o1 = some (.tup ts) ∧ All2 Tup1 H (zs.map fun z => List.replicate m z) ts ∧ H o2 = some (.tup us) ∧ All2 Tup1 H (zs.map fun z => [(m : Int) * z]) us
theorem PairO.mv {H H' : Hp} {p : Addr} {m : Nat} {zs : List Int} (s : Tups H H') : PairO H p m zs → PairO H' p m zs
  | ⟨o1, o2, ts, us, h1, h2, h3, h4, h5⟩ => ⟨o1, o2, ts, us, s _ _ h1, s _ _ h2, h3.mv s, s _ _ h4, h5.mv s⟩
theorem PairO.sm {H : Hp} {p d : Addr} {m : Nat} {zs : List Int} (hm : m ≤ 100) (hz : zs.length ≤ 100) : PairO H p m zs → PairO H d m zs → SmT 4 H (.ref p) (.ref d)
  | ⟨o1, o2, ts, us, h1, h2, h3, h4, h5⟩, ⟨q1, q2, vs, ws, g1, g2, g3, g4, g5⟩ => Or.inr ⟨p, d, _, _, rfl, rfl, h1, g1, rfl, by show 2 ≤ 1000; decide, fun i x y hx hy => by
    match i with
    | 0 =>
      cases hx
      cases hy
      refine SmT.rows (n := 0) h2 g2 h3 g3 (by rw [List.length_map]; omega) fun l hl => ?_
      obtain ⟨z, _, rfl⟩ := List.mem_map.mp hl
      rw [List.length_replicate]
      omega
    | 1 =>
      cases hx
      cases hy
      refine SmT.rows (n := 0) h4 g4 h5 g5 (by rw [List.length_map]; omega) fun l hl => ?_
      obtain ⟨z, _, rfl⟩ := List.mem_map.mp hl
      show 1 ≤ 1000
      decide
    | i + 2 => cases hx⟩
end L2

set_option Elab.async false
set_option linter.all false
set_option maxRecDepth 100000
namespace L2
open PySem PySem.Spec PyProof.Rows
/-! ### tuple(range(hi, lo, -1)) -/
section
variable {prog : Program} {w : World} {A : Around} {E : Value → Shared → Prop} {s : Shared}
end
section
variable {X : Cx}
end
end L2

set_option Elab.async false
set_option linter.all false
set_option maxRecDepth 100000
namespace L2
open PySem PySem.Spec PyProof.Rows
theorem decV (a b : Int) : decide (V.int a = V.int b) = decide (a = b) := by
  rw [Bool.eq_iff_iff]
  simp
/-! ### hi, hi - 1, .. -/
/-! ### the left one of a number -/
end L2

set_option Elab.async false
set_option linter.all false
set_option maxRecDepth 100000
namespace L2
open PySem PySem.Spec PyProof.Rows
/-! ### strict heaps with a slope of run -/
def StepF (run t : Nat) (x y : Int) : Prop := (t < run ∧ x = y + 1) ∨ (t = run ∧ y + 2 ≤ x) ∨ (run < t ∧ y + 1 ≤ x)
def FitsF (run : Nat) : Nat → List Int → Prop
  | _, [] => True
  | _, [x] => 1 ≤ x
  | t, x :: y :: r => StepF run (t + 1) x y ∧ FitsF run (t + 1) (y :: r)
theorem FitsF.cons {run t : Nat} {v : Int} {hs : List Int} (h : FitsF run (t + 1) hs) (h0 : hs = [] → 1 ≤ v) (h1 : ∀ y r, hs = y :: r → StepF run (t + 1) v y) : FitsF run t (v :: hs) := by
  cases hs with
  | nil => exact h0 rfl
  | cons y r => exact ⟨h1 y r rfl, h⟩
theorem StepF.gt {run t : Nat} {x y : Int} (h : StepF run t x y) : y + 1 ≤ x := by
  rcases h with ⟨_, h⟩ | ⟨_, h⟩ | ⟨_, h⟩ <;> omega
theorem FitsF.pos {run : Nat} : ∀ {t : Nat} {hs : List Int}, FitsF run t hs → ∀ x ∈ hs, 1 ≤ x
  | _, [], _, _, h => nomatch h
  | _, [x], h, y, hy => by
    have : y = x := by simpa using hy
    subst this
    exact h
  | t, x :: y :: r, h, z, hz => by
    have ih := FitsF.pos h.2
    rcases List.mem_cons.mp hz with e | hz
    · have := ih y List.mem_cons_self
      have := h.1.gt
      omega
    · exact ih z hz
theorem FitsF.step {run : Nat} : ∀ {t : Nat} {hs : List Int}, FitsF run t hs → ∀ i, i + 1 < hs.length → StepF run (t + i + 1) (hs.getD i 0) (hs.getD (i + 1) 0)
  | _, [], _, i, hi => by simp at hi
  | _, [x], _, i, hi => by simp at hi
  | t, x :: y :: r, h, 0, hi => h.1
  | t, x :: y :: r, h, i + 1, hi => by
    have ih := FitsF.step h.2 i (by simpa using hi)
    rw [List.getD_cons_succ, List.getD_cons_succ, show t + (i + 1) + 1 = t + 1 + i + 1 by omega]
    exact ih
/-! ### the slope, known by its parts -/
/-! ### shifted -/
theorem getD_append (a b : List Int) (i : Nat) : (a ++ b).getD i 0 = if i < a.length then a.getD i 0 else b.getD (i - a.length) 0 := by
  simp only [List.getD_eq_getElem?_getD]
  split
  · rw [List.getElem?_append_left (by assumption)]
  · rw [List.getElem?_append_right (by omega)]
end L2

set_option Elab.async false
set_option linter.all false
set_option maxRecDepth 100000
namespace L2
open PySem PySem.Spec PyProof.Rows
theorem ext_getD {a b : List Int} (hl : a.length = b.length) (h : ∀ i, i < a.length → a.getD i 0 = b.getD i 0) : a = b := by
  refine List.ext_getElem hl fun i h1 h2 => ?_
  have := h i h1
  rw [List.getD_eq_getElem?_getD, List.getD_eq_getElem?_getD, List.getElem?_eq_getElem h1, List.getElem?_eq_getElem h2] at this
  exact this
/-! ### slices -/
section
variable {X : Cx}
end
end L2

set_option Elab.async false
set_option linter.all false
set_option maxRecDepth 100000
set_option exponentiation.threshold 200000
namespace L2
open PySem PySem.Spec PyProof.Rows
/-! ### products of ints of up to 100000 bits -/
def CMulC (i j : Int) : Prop := i.natAbs < 2 ^ 100000 ∧ j.natAbs < 2 ^ 100000
theorem CMulC.ok {i j : Int} (h : CMulC i j) : IntMulOk i j :=
  IntMulOk.of_bits (Nat.le_trans (PySem.intBits_le_iff.mpr h.1) (by decide)) (Nat.le_trans (PySem.intBits_le_iff.mpr h.2) (by decide))
section
variable {X : Cx}
theorem op_mulC : OpR X (binaryOp .Mult) (rI CMulC fun i j => .int (i * j)) := opI fun _ _ _ _ _ _ _ hc q => mul_int q hc.ok
end
/-! ### heads of a fraction -/
def hdL (T B : Nat → Int) : Nat → List Int
  | 0 => []
  | n + 1 => hdL T B n ++ [T n - sumN n fun i => B (i + 1) * (hdL T B n).getD (n - (i + 1)) 0]
theorem hdL_len (T B : Nat → Int) : ∀ n, (hdL T B n).length = n
  | 0 => rfl
  | n + 1 => by rw [hdL, List.length_append, hdL_len T B n]; rfl
theorem hdL_pre (T B : Nat → Int) (n : Nat) : ∀ d j, j < n → (hdL T B (n + d)).getD j 0 = (hdL T B n).getD j 0
  | 0, _, _ => rfl
  | d + 1, j, h => by
    rw [← Nat.add_assoc, hdL, getD_append, if_pos (by rw [hdL_len]; omega), hdL_pre T B n d j h]
def hd (T B : Nat → Int) (n : Nat) : Int := (hdL T B (n + 1)).getD n 0
theorem hdL_at (T B : Nat → Int) {n j : Nat} (h : j < n) : (hdL T B n).getD j 0 = hd T B j := by
  unfold hd
  rw [show n = j + 1 + (n - (j + 1)) by omega, hdL_pre T B (j + 1) _ j (by omega)]
theorem hd_eq (T B : Nat → Int) (n : Nat) : hd T B n = T n - sumN n fun i => B (i + 1) * hd T B (n - (i + 1)) := by
  have h : hd T B n = (hdL T B (n + 1)).getD n 0 := rfl
  rw [h, hdL, getD_append, if_neg (by rw [hdL_len]; omega), hdL_len, Nat.sub_self]
  show T n - _ = _
  congr 1
  exact sumN_congr fun i hi => by rw [hdL_at T B (by omega)]
theorem sumN_head (n : Nat) (f : Nat → Int) : sumN (n + 1) f = f 0 + sumN n fun i => f (i + 1) := by
  induction n with
  | zero => show 0 + f 0 = f 0 + 0; omega
  | succ n ih =>
    rw [sumN, ih, sumN]
    omega
/-- the bottom times the heads is the top -/
theorem hd_conv (T B : Nat → Int) (h : B 0 = 1) (n : Nat) : convN B (hd T B) n = T n := by
  unfold convN
  rw [sumN_head, h, Int.one_mul, Nat.sub_zero, hd_eq]
  omega
theorem hd_unique (T B D : Nat → Int) (h : B 0 = 1) (N : Nat) (hD : ∀ n, n < N → convN B D n = T n) : ∀ n, n < N → D n = hd T B n := by
  intro n
  induction n using Nat.strongRecOn with
  | _ n ih =>
    intro hn
    have e := hD n hn
    unfold convN at e
    rw [sumN_head, h, Int.one_mul, Nat.sub_zero] at e
    rw [hd_eq]
    have : (sumN n fun i => B (i + 1) * D (n - (i + 1))) = sumN n fun i => B (i + 1) * hd T B (n - (i + 1)) := sumN_congr fun i hi => by rw [ih (n - (i + 1)) (by omega) (by omega)]
    omega
theorem sumN_abs (n : Nat) (f : Nat → Int) (M : Nat) (h : ∀ i, i < n → (f i).natAbs ≤ M) : (sumN n f).natAbs ≤ n * M := by
  induction n with
  | zero => simp [sumN]
  | succ n ih =>
    have h1 := ih fun i hi => h i (by omega)
    have h2 := h n (by omega)
    rw [sumN, Nat.add_mul, Nat.one_mul]
    omega
theorem hd_small (T B : Nat → Int) (hT : ∀ n, (T n).natAbs ≤ 2 ^ 200) (hB : ∀ n, (B n).natAbs ≤ 2 ^ 200) : ∀ n, n ≤ 400 → (hd T B n).natAbs ≤ 2 ^ (210 * (n + 1)) := by
  intro n
  induction n using Nat.strongRecOn with
  | _ n ih =>
    intro hn
    have h1 : (sumN n fun i => B (i + 1) * hd T B (n - (i + 1))).natAbs ≤ n * (2 ^ 200 * 2 ^ (210 * n)) := by
      refine sumN_abs n _ _ fun i hi => ?_
      rw [Int.natAbs_mul]
      refine Nat.mul_le_mul (hB _) (Nat.le_trans (ih (n - (i + 1)) (by omega) (by omega)) (Nat.pow_le_pow_right (by decide) ?_))
      omega
    have h2 := hT n
    rw [hd_eq]
    have h3 : n * (2 ^ 200 * 2 ^ (210 * n)) ≤ 2 ^ 9 * (2 ^ 200 * 2 ^ (210 * n)) := Nat.mul_le_mul_right _ (by omega)
    have h4 : 2 ^ 9 * (2 ^ 200 * 2 ^ (210 * n)) = 2 ^ (209 + 210 * n) := by rw [← Nat.pow_add, ← Nat.pow_add]; congr 1; omega
    have h5 : 2 ^ (210 * (n + 1)) = 2 ^ (209 + 210 * n) + 2 ^ (209 + 210 * n) := by rw [show 210 * (n + 1) = 209 + 210 * n + 1 by omega, Nat.pow_succ]; omega
    have h6 : 2 ^ 200 ≤ 2 ^ (209 + 210 * n) := Nat.pow_le_pow_right (by decide) (by omega)
    have h7 : (T n - sumN n fun i => B (i + 1) * hd T B (n - (i + 1))).natAbs ≤ (T n).natAbs + (sumN n fun i => B (i + 1) * hd T B (n - (i + 1))).natAbs := Int.natAbs_sub_le _ _
    omega
theorem hd_bits (T B : Nat → Int) (hT : ∀ n, (T n).natAbs ≤ 2 ^ 200) (hB : ∀ n, (B n).natAbs ≤ 2 ^ 200) {n : Nat} (h : n ≤ 400) : (hd T B n).natAbs < 2 ^ 100000 :=
  Nat.lt_of_le_of_lt (hd_small T B hT hB n h) (Nat.pow_lt_pow_right (by decide) (by omega))
theorem sumN_more (n d : Nat) (f : Nat → Int) (h : ∀ i, n ≤ i → i < n + d → f i = 0) : sumN (n + d) f = sumN n f := by
  induction d with
  | zero => rfl
  | succ d ih =>
    rw [← Nat.add_assoc, sumN, ih fun i h1 h2 => h i h1 (by omega), h (n + d) (by omega) (by omega), Int.add_zero]
end L2

set_option Elab.async false
set_option linter.all false
set_option maxRecDepth 100000
namespace L2
open PySem PySem.Spec PyProof.Rows PySem.W
/-! ### two except clauses, both with the name -/
end L2

set_option Elab.async false
set_option linter.all false
set_option maxRecDepth 100000
namespace L2
open PySem PySem.Spec PyProof.Rows
/-! ### a tuple times one -/
theorem mul_tuple_one (l : Addr) (its : Array Value) (n : Nat) (dd : Option Addr) (sl : Array (Option Value)) (u : Tok) :
    Meets (Builtin.«tuple.__mul__» ⟨[.ref l, .int 1 u], []⟩) (fun _ R s => s.heap.get? l = some { cls := .type "tuple", dict := dd, data := .seq its n, slots := sl } ∧ R (.ok (.ret (Value.ref l))) s) :=
  .of_wp fun prog w A R s h => by
    obtain ⟨hp, g, d, tk, os⟩ := s
    obtain ⟨hl, h⟩ := h
    have e1 : (its.isEmpty || (1 : Int) == 1) = true := by simp
    wp_walk
    exact ⟨_, rfl, h⟩
def rRepA (K : PySem.W.Frag) : R2 := fun x y H Q => rRepT K x y H Q ∨ ∃ l xs, x = .ref l ∧ y = .int 1 ∧ SqT K H l xs ∧ Q (.ref l) H
theorem op_repA {X : Cx} : OpR X (binaryOp .Mult) (rRepA X.K) := by
  intro pins s σ H x y v u Q I rx ry h
  rcases h with h | ⟨l, xs, rfl, rfl, hq, q⟩
  · exact op_repT pins s σ H x y v u Q I rx ry h
  · cases rx
    obtain ⟨t, rfl⟩ := ry
    obtain ⟨its, r, pl, _⟩ := I.tuple hq
    obtain ⟨o, ho, hc, n, hd⟩ := pl
    obtain ⟨c, dd, dt, sl⟩ := o
    cases hc
    cases hd
    exact wpAny_binaryOp_repeat_ref (T := "tuple") (U := "int") (by decide) ⟨_, ho, rfl⟩ (fun s' => typeIs_int s' 1 t) noFill_tuple_mul F.fills_int_mul F.slot_int_rmul repeat_tuple F.slot_int_index.lookup (call_meets F.slot_int_rmul (typeIs_int s 1 t) F.entry_int_rmul (F.args_int_rmul_2 _ _) (rmul_tuple 1 t l its.toArray n dd sl) ⟨ho, rfl, ⟨_, ho, rfl⟩, call_meets F.slot_tuple_mul ⟨_, ho, rfl⟩ F.entry_tuple_mul (F.args_tuple_mul_2 _ _) (mul_tuple_one l its.toArray n dd sl t) ⟨ho, ⟨.ref l, H, I, rfl, q⟩⟩⟩)
theorem rep_any {K : PySem.W.Frag} {H : Hp} {Q : VK} {l : Addr} {xs : List V} {k : Nat} (hl : H l = some (.tup xs)) (hne : xs ≠ []) (hk : 1 ≤ k) (hz : xs.length * k ≤ 100000) (h : ∀ (q : Addr) (H' : Hp), Same H H' → H' q = some (.tup (List.replicate k xs).flatten) → Q (.ref q) H') : rRepA K (.ref l) (.int k) H Q := by
  by_cases c : k = 1
  · subst c
    exact .inr ⟨l, xs, rfl, rfl, SqT.of hl, h l H (fun _ _ z => z) (by simpa using hl)⟩
  · refine .inl ⟨l, (k : Int), xs, rfl, rfl, SqT.of hl, hne, by omega, ?_, ?_, fun p hp => h p _ (Same.new hp) ?_⟩
    · have hx : 0 < xs.length := List.length_pos_iff.mpr hne
      have : k ≤ xs.length * k := Nat.le_mul_of_pos_left k hx
      omega
    · rw [Int.toNat_natCast]
      exact Nat.le_trans hz (by decide)
    · rw [upd_same, Int.toNat_natCast]
/-! ### stores -/
def MP (p : Nat) (f : Nat → Int) (n : Nat) : Int := f n - (if p ≤ n then f (n - p) else 0)
theorem convN_right (f g : Nat → Int) (q n : Nat) : convN f (MP q g) n = MP q (convN f g) n := by
  have e : convN f (MP q g) n = convN f g n - sumN (n + 1) (fun j => if q ≤ n - j then f j * g (n - j - q) else 0) := by
    unfold convN
    rw [← sumN_sub]
    refine sumN_congr fun j hj => ?_
    unfold MP
    by_cases c : q ≤ n - j
    · rw [if_pos c, if_pos c, Int.mul_sub]
    · rw [if_neg c, if_neg c, Int.sub_zero, Int.sub_zero]
  rw [e]
  unfold MP
  congr 1
  by_cases hq : q ≤ n
  · rw [if_pos hq]
    unfold convN
    rw [show n + 1 = (n - q + 1) + q by omega]
    rw [sumN_congr (f := fun j => if q ≤ n - j then f j * g (n - j - q) else 0) (g := fun j => if j < n - q + 1 then (fun i => f i * g (n - q - i)) j else 0) fun j hj => by
      by_cases c : j < n - q + 1
      · rw [if_pos c, if_pos (by omega)]
        show _ = f j * g (n - q - j)
        rw [show n - q - j = n - j - q by omega]
      · by_cases q0 : q = 0
        · omega
        · rw [if_neg c, if_neg (by omega)]]
    exact sumN_low q (n - q + 1) (fun i => f i * g (n - q - i))
  · rw [if_neg hq, sumN_congr (g := fun _ => 0) fun j hj => by rw [if_neg (by omega)], sumN_zero]
theorem convN_move (f g : Nat → Int) (p n : Nat) : convN (MP p f) g n = convN f (MP p g) n :=
  convN_step (p := p) (fun j _ => rfl) (fun j _ => by unfold MP; omega)
theorem convN_eq {f g g' : Nat → Int} {n : Nat} (h : ∀ j, j ≤ n → g j = g' j) : convN f g n = convN f g' n :=
  sumN_congr fun j hj => by rw [h (n - j) (by omega)]
/-- a row taken in: each allowed number of times -/
def rowK (m : Option Nat) (k : Nat) : Nat := match m with
  | none => k
  | some m => min k m
def takeIn (p : Nat) (m : Option Nat) (f : Nat → Int) (n : Nat) : Int := sumN (rowK m (n / p) + 1) fun k => f (n - k * p)
theorem takeIn_M (p : Nat) (hp : 1 ≤ p) (m : Option Nat) (f : Nat → Int) (n : Nat) : MP p (takeIn p m f) n = (match m with | none => f n | some m => MP (p * (m + 1)) f n) := by
  unfold MP
  have hn : n = p * (n / p) + n % p := (Nat.div_add_mod n p).symm
  have hr := Nat.mod_lt n hp
  by_cases c : p ≤ n
  · have hd : 1 ≤ n / p := Nat.div_pos c hp
    have e1 : (n - p) / p = n / p - 1 := by
      have := Nat.div_eq n p
      rw [if_pos ⟨hp, c⟩] at this
      omega
    rw [if_pos c]
    have e2 : takeIn p m f n = f n + sumN (rowK m (n / p)) (fun k => f (n - (k + 1) * p)) := by
      unfold takeIn
      rw [sumN_head]
      simp
    have e3 : takeIn p m f (n - p) = sumN (rowK m (n / p - 1) + 1) (fun k => f (n - (k + 1) * p)) := by
      unfold takeIn
      rw [e1]
      refine sumN_congr fun k hk => ?_
      congr 1
      rw [Nat.add_mul, Nat.one_mul]
      omega
    rw [e2, e3]
    cases m with
    | none =>
      show f n + sumN (n / p) _ - sumN (n / p - 1 + 1) _ = f n
      rw [show n / p - 1 + 1 = n / p by omega]
      omega
    | some m =>
      show f n + sumN (min (n / p) m) _ - sumN (min (n / p - 1) m + 1) _ = f n - (if p * (m + 1) ≤ n then f (n - p * (m + 1)) else 0)
      by_cases c2 : n / p ≤ m
      · rw [Nat.min_eq_left c2, Nat.min_eq_left (show n / p - 1 ≤ m by omega), show n / p - 1 + 1 = n / p by omega, if_neg ?_]
        · omega
        · have : p * (n / p + 1) ≤ p * (m + 1) := Nat.mul_le_mul_left p (by omega)
          rw [Nat.mul_add, Nat.mul_one] at this
          omega
      · rw [Nat.min_eq_right (show m ≤ n / p by omega), Nat.min_eq_right (show m ≤ n / p - 1 by omega), if_pos ?_, sumN, Nat.mul_comm p (m + 1)]
        · omega
        · have : p * (m + 1) ≤ p * (n / p) := Nat.mul_le_mul_left p (by omega)
          omega
  · have h0 : n / p = 0 := Nat.div_eq_of_lt (by omega)
    have e2 : takeIn p m f n = f n := by
      unfold takeIn
      have : rowK m (n / p) = 0 := by
        rw [h0]
        cases m with
        | none => rfl
        | some m => exact Nat.zero_min m
      rw [this]
      show 0 + f (n - 0 * p) = f n
      rw [Nat.zero_mul, Nat.sub_zero, Int.zero_add]
    rw [if_neg c, e2]
    cases m with
    | none => show f n - 0 = f n; omega
    | some m =>
      show f n - 0 = f n - (if p * (m + 1) ≤ n then f (n - p * (m + 1)) else 0)
      rw [if_neg ?_]
      have : p * 1 ≤ p * (m + 1) := Nat.mul_le_mul_left p (by omega)
      omega
end L2

set_option Elab.async false
set_option linter.all false
set_option maxRecDepth 100000
namespace L2
open PySem PySem.Spec PyProof.Rows
def fnG (l : List Int) (k : Nat) : Int := l.getD k 0
theorem trim_getD : ∀ (l : List Int) (k : Nat), (trimI l).getD k 0 = l.getD k 0
  | [], _ => rfl
  | a :: r, k => by
    have ih := trim_getD r
    rw [trimI]
    cases e : trimI r with
    | nil =>
      rw [e] at ih
      show (if a = 0 then [] else [a]).getD k 0 = _
      cases k with
      | zero =>
        rw [List.getD_cons_zero]
        by_cases c : a = 0
        · rw [if_pos c, c]; rfl
        · rw [if_neg c]; rfl
      | succ k =>
        rw [List.getD_cons_succ, ← ih k]
        by_cases c : a = 0
        · rw [if_pos c]; rfl
        · rw [if_neg c]; rfl
    | cons b s =>
      rw [e] at ih
      show (a :: b :: s).getD k 0 = _
      cases k with
      | zero => rfl
      | succ k => rw [List.getD_cons_succ, List.getD_cons_succ, ih k]
theorem getD_over {l : List Int} {k : Nat} (h : l.length ≤ k) : l.getD k 0 = 0 := by
  rw [List.getD_eq_getElem?_getD, List.getElem?_eq_none h]
  rfl
theorem plus_getD (a b : List Int) (k : Nat) : (plusL a b).getD k 0 = a.getD k 0 + b.getD k 0 := by
  by_cases c : k < max a.length b.length
  · unfold plusL
    rw [List.getD_eq_getElem?_getD, tab_at c]
    rfl
  · rw [getD_over (l := plusL a b) (by unfold plusL; rw [List.length_map, List.length_range]; omega), getD_over (l := a) (by omega), getD_over (l := b) (by omega)]
    rfl
theorem rep_getD (p : Nat) (l : List Int) (k : Nat) : (List.replicate p 0 ++ l).getD k 0 = if p ≤ k then l.getD (k - p) 0 else 0 := by
  rw [getD_append, List.length_replicate]
  by_cases c : k < p
  · rw [if_pos c, if_neg (by omega), List.getD_eq_getElem?_getD, List.getElem?_replicate, if_pos c]
    rfl
  · rw [if_neg c, if_pos (by omega)]
theorem neg_getD (l : List Int) (k : Nat) : (l.map fun x => -x).getD k 0 = -(l.getD k 0) := by
  simp only [List.getD_eq_getElem?_getD, List.getElem?_map]
  cases l[k]? with
  | none => rfl
  | some x => rfl
/-- a polynomial times 1 - x ** p -/
def stepP (poly : List Int) (p : Nat) : List Int := trimI (plusL poly (List.replicate p 0 ++ poly.map fun x => -x))
theorem stepP_fn (poly : List Int) (p k : Nat) : fnG (stepP poly p) k = MP p (fnG poly) k := by
  show (stepP poly p).getD k 0 = poly.getD k 0 - (if p ≤ k then poly.getD (k - p) 0 else 0)
  unfold stepP
  rw [trim_getD, plus_getD, rep_getD]
  by_cases c : p ≤ k
  · rw [if_pos c, if_pos c, neg_getD]
    omega
  · rw [if_neg c, if_neg c]
    omega
theorem stepP_len (poly : List Int) (p : Nat) : (stepP poly p).length ≤ poly.length + p := by
  unfold stepP
  refine Nat.le_trans (trim_len _) ?_
  unfold plusL
  rw [List.length_map, List.length_range, List.length_append, List.length_replicate, List.length_map]
  omega
theorem stepP_small {poly : List Int} {p B : Nat} (h : ∀ k, (fnG poly k).natAbs ≤ B) (k : Nat) : (fnG (stepP poly p) k).natAbs ≤ 2 * B := by
  rw [stepP_fn]
  unfold MP
  have h1 := h k
  have h2 := h (k - p)
  split <;> omega
theorem mem_small {l : List Int} {B : Nat} (h : ∀ k, (fnG l k).natAbs ≤ B) : ∀ x ∈ l, x.natAbs ≤ B := fun x hx => by
  obtain ⟨i, hi, e⟩ := List.mem_iff_getElem.mp hx
  have := h i
  unfold fnG at this
  rw [List.getD_eq_getElem?_getD, List.getElem?_eq_getElem hi] at this
  rw [← e]
  exact this
def prodL (ps : List Nat) (poly : List Int) : List Int := ps.foldl stepP poly
theorem prodL_small : ∀ (ps : List Nat) (poly : List Int) (B : Nat), (∀ k, (fnG poly k).natAbs ≤ B) → ∀ k, (fnG (prodL ps poly) k).natAbs ≤ 2 ^ ps.length * B
  | [], poly, B, h, k => by rw [List.length_nil, Nat.pow_zero, Nat.one_mul]; exact h k
  | p :: r, poly, B, h, k => by
    have := prodL_small r (stepP poly p) (2 * B) (stepP_small h) k
    rw [List.length_cons, Nat.pow_succ, Nat.mul_assoc]
    exact this
theorem prodL_len : ∀ (ps : List Nat) (poly : List Int), (∀ p ∈ ps, p ≤ 1000) → (prodL ps poly).length ≤ poly.length + 1000 * ps.length
  | [], poly, _ => Nat.le_refl _
  | p :: r, poly, h => by
    have h1 := prodL_len r (stepP poly p) fun q hq => h q (List.mem_cons_of_mem _ hq)
    have h2 := stepP_len poly p
    have h3 := h p List.mem_cons_self
    show (prodL r (stepP poly p)).length ≤ _
    rw [List.length_cons]
    omega
theorem prodL_zero : ∀ (ps : List Nat) (poly : List Int), (∀ p ∈ ps, 1 ≤ p) → fnG (prodL ps poly) 0 = fnG poly 0
  | [], _, _ => rfl
  | p :: r, poly, h => by
    show fnG (prodL r (stepP poly p)) 0 = _
    rw [prodL_zero r _ fun q hq => h q (List.mem_cons_of_mem _ hq), stepP_fn]
    unfold MP
    have := h p List.mem_cons_self
    rw [if_neg (by omega), Int.sub_zero]
abbrev RowS := Nat × Option Nat
def topsS (rows : List RowS) : List Nat := rows.filterMap fun r => r.2.map fun m => r.1 * (m + 1)
def partsS (rows : List RowS) : List Nat := rows.map (·.1)
def dueStep (b : Nat) (D : List Int) (r : RowS) : List Int := (List.range (b + 1)).map (takeIn r.1 r.2 (fnG D))
def dueL (b : Nat) (rows : List RowS) (D : List Int) : List Int := rows.foldl (dueStep b) D
theorem dueStep_at (b : Nat) (D : List Int) (r : RowS) {n : Nat} (h : n ≤ b) : fnG (dueStep b D r) n = takeIn r.1 r.2 (fnG D) n := by
  unfold dueStep fnG
  rw [List.getD_eq_getElem?_getD, tab_at (show n < b + 1 by omega)]
  rfl
def optM (p : Nat) (m : Option Nat) (f : Nat → Int) (i : Nat) : Int := match m with | none => f i | some m => MP (p * (m + 1)) f i
theorem takeIn_O (p : Nat) (hp : 1 ≤ p) (m : Option Nat) (f : Nat → Int) (n : Nat) : MP p (takeIn p m f) n = optM p m f n := takeIn_M p hp m f n
theorem stores_ok (b : Nat) : ∀ (rows : List RowS) (B D T : List Int), (∀ r ∈ rows, 1 ≤ r.1) → (∀ n, n ≤ b → convN (fnG B) (fnG D) n = fnG T n) → ∀ n, n ≤ b → convN (fnG (prodL (partsS rows) B)) (fnG (dueL b rows D)) n = fnG (prodL (topsS rows) T) n
  | [], _, _, _, _, h, n, hn => h n hn
  | (p, m) :: r, B, D, T, hp, h, n, hn => by
    have hp1 : 1 ≤ p := hp (p, m) List.mem_cons_self
    have eB : fnG (stepP B p) = MP p (fnG B) := funext fun k => stepP_fn B p k
    have key : ∀ j, j ≤ b → convN (fnG (stepP B p)) (fnG (dueStep b D (p, m))) j = optM p m (fnG T) j := fun j hj => by
      have e1 : ∀ i, i ≤ j → MP p (fnG (dueStep b D (p, m))) i = optM p m (fnG D) i := fun i hi => by
        rw [← takeIn_O p hp1 m (fnG D) i]
        unfold MP
        rw [dueStep_at b D (p, m) (show i ≤ b by omega)]
        by_cases c : p ≤ i
        · rw [if_pos c, if_pos c, dueStep_at b D (p, m) (show i - p ≤ b by omega)]
        · rw [if_neg c, if_neg c]
      rw [eB, convN_move]
      cases m with
      | none =>
        rw [convN_eq (g' := fnG D) e1]
        exact h j hj
      | some m =>
        rw [convN_eq (g' := MP (p * (m + 1)) (fnG D)) e1, convN_right]
        show MP (p * (m + 1)) (convN (fnG B) (fnG D)) j = MP (p * (m + 1)) (fnG T) j
        unfold MP
        rw [h j hj]
        by_cases c : p * (m + 1) ≤ j
        · rw [if_pos c, if_pos c, h (j - p * (m + 1)) (by omega)]
        · rw [if_neg c, if_neg c]
    have hp' : ∀ r' ∈ r, 1 ≤ r'.1 := fun r' hr => hp r' (List.mem_cons_of_mem _ hr)
    cases m with
    | none => exact stores_ok b r (stepP B p) (dueStep b D (p, none)) T hp' key n hn
    | some m => exact stores_ok b r (stepP B p) (dueStep b D (p, some m)) (stepP T (p * (m + 1))) hp' (fun j hj => by rw [key j hj, stepP_fn]; rfl) n hn
theorem dueL_len (b : Nat) : ∀ (rows : List RowS) (D : List Int), D.length = b + 1 → (dueL b rows D).length = b + 1
  | [], _, h => h
  | r :: rs, D, _ => dueL_len b rs (dueStep b D r) (by unfold dueStep; rw [List.length_map, List.length_range])
theorem one_fn (b n : Nat) : fnG (1 :: List.replicate b 0) n = if n = 0 then 1 else 0 := one_at b n
/-- the numbers of a store -/
theorem stores_eq (b : Nat) (rows : List RowS) (hp : ∀ r ∈ rows, 1 ≤ r.1) : hdL (fnG (prodL (topsS rows) [1])) (fnG (prodL (partsS rows) [1])) (b + 1) = dueL b rows (1 :: List.replicate b 0) := by
  have h0 : fnG (prodL (partsS rows) [1]) 0 = 1 := by
    rw [prodL_zero _ _ fun p h => by
      obtain ⟨r, hr, rfl⟩ := List.mem_map.mp h
      exact hp r hr]
    rfl
  have hu := hd_unique (fnG (prodL (topsS rows) [1])) (fnG (prodL (partsS rows) [1])) (fnG (dueL b rows (1 :: List.replicate b 0))) h0 (b + 1) fun n hn =>
    stores_ok b rows [1] (1 :: List.replicate b 0) [1] hp (fun j hj => by
      unfold convN
      rw [sumN_head]
      have e : (sumN j fun i => fnG [1] (i + 1) * fnG (1 :: List.replicate b 0) (j - (i + 1))) = 0 := by
        rw [sumN_congr (g := fun _ => 0) fun i hi => by
          show fnG [1] (i + 1) * _ = 0
          rw [show fnG [1] (i + 1) = 0 from getD_over (by simp)]
          simp, sumN_zero]
      rw [e, one_fn, Nat.sub_zero]
      show 1 * _ + 0 = fnG [1] j
      cases j with
      | zero => rfl
      | succ j => rw [if_neg (by omega), show fnG [1] (j + 1) = 0 from getD_over (by simp)]; rfl) n (by omega)
  refine ext_getD (by rw [hdL_len, dueL_len b rows _ (by simp)]) fun i hi => ?_
  rw [hdL_len] at hi
  rw [hdL_at _ _ hi]
  exact (hu i hi).symm
theorem cat_anyB {K : PySem.W.Frag} {H : Hp} {q t : Addr} {hs ms : List Int} {Q : V → Hp → Prop} (hq : H q = some (.tup (hs.map V.int))) (ht : H t = some (.tup (ms.map V.int))) (hl : (hs ++ ms).length ≤ 100000)
    (k : ∀ (v : V) (H' : Hp), Tup1 (hs ++ ms) v H' → Same H H' → Q v H') : rCatA K (.ref q) (.ref t) H Q := by
  refine ⟨q, t, _, _, rfl, rfl, SqT.of hq, SqT.of ht, ?_, fun e => ?_, fun _ e => ?_, fun _ _ p hp => ?_⟩
  · rw [List.length_map, List.length_map, ← List.length_append]
    exact Nat.le_trans hl (by decide)
  · have e' : hs = [] := List.map_eq_nil_iff.mp e
    exact k _ _ ⟨t, rfl, by rw [e', List.nil_append]; exact ht⟩ (fun _ _ z => z)
  · have e' : ms = [] := List.map_eq_nil_iff.mp e
    exact k _ _ ⟨q, rfl, by rw [e', List.append_nil]; exact hq⟩ (fun _ _ z => z)
  · exact k _ _ ⟨p, rfl, by rw [upd_same, List.map_append]⟩ (Same.new hp)
/-- a row of a store -/
def optN : Option Nat → V
  | none => .non
  | some m => .int (m : Int)
def RowV (r : RowS) (v : V) (H : Hp) : Prop := ∃ q, v = .ref q ∧ H q = some (.tup [.int (r.1 : Int), optN r.2])
theorem RowV.mv {H H' : Hp} (s : Tups H H') {r : RowS} {v : V} : RowV r v H → RowV r v H'
  | ⟨q, e, h⟩ => ⟨q, e, s _ _ h⟩
end L2

set_option Elab.async false
set_option linter.all false
set_option maxRecDepth 100000
namespace L2
open PySem PySem.Spec PyProof.Rows
/-! ### x not in a list of tuples of ints -/
section
variable {X : Cx}
open Classical in
end
/-! ### partings into unlike parts -/
theorem op_isB {X : Cx} : OpR X (compareOp .Is) (fun x y H Q => ∃ b c : Bool, x = .bl b ∧ y = .bl c ∧ Q (.bl (decide (b = c))) H) := by
  intro pins s σ H x y v u Q I rx ry h
  obtain ⟨b, c, rfl, rfl, q⟩ := h
  cases rx
  cases ry
  refine wpAny_is_plain rfl ⟨.bl _, H, I, ?_, q⟩
  cases b <;> cases c <;> rfl
end L2

set_option Elab.async false
set_option linter.all false
set_option maxRecDepth 100000
namespace L2
open PySem PySem.Spec PyProof.Rows
/-! ### dict(t) of a tuple of pairs -/
theorem entry_dict_loop : entryFor table "dict.update.loop" = some Builtin.«dict.update.loop» := entryFor_of_tree (by kernel_rfl)
theorem plain_dict_loop : plainId "dict.update.loop" = true := by decide +kernel
theorem tup_no_keys : typeLookup (.type "tuple") "keys" = pure none := by rw [typeLookup_type, builtinLookup_eq_fast]; kernel_rfl
theorem keys_none {prog : Program} {w : World} {A : Around} {E : Value → Shared → Prop} {s : Shared} {a : Addr} {xs : Array Value} {k : Nat} {sl : Array (Option Value)} {Q : Option Value → Shared → Prop}
    (hx : s.heap.get? a = some { cls := .type "tuple", dict := none, data := .seq xs k, slots := sl }) (hA : A.handled = none)
    (h : ∀ h' tk, (∀ b o, s.heap.get? b = some o → h'.get? b = some o) → Q none { s with heap := h', toks := tk }) :
    wpAny (model prog w) A (getAttr? (.ref a) "keys") Q E s := by
  obtain ⟨H0, gs, dr, n0, osx⟩ := s
  have tT : ∀ n1, (⟨H0, gs, dr, n1, osx⟩ : Shared).TypeIs (.ref a) "tuple" := fun _ => ⟨_, hx, rfl⟩
  have sl1 := F.slot_tuple_getattribute
  have look := sl1.lookup; have bnd := sl1.bind (.ref a); have hook := am_tuple_getattr_none; have isA := sub_AttributeError
  unfold getAttr? getAttrBy?; unfold getAttrBy
  repeat (any_goals (first | assumption | exact tT _ | ((with_reducible show wpAny _ _ (call (Value.builtin "tuple.__getattribute__") _ _) _ _ _); refine call_meets sl1 (tT _) am_entry_tuple_getattribute (F.args_tuple_getattribute_2 _ _) (meets_getattribute_miss_tuple a xs k sl "keys" _ tup_no_keys (by decide +kernel) (by decide +kernel)) ⟨hx, hA, fun h1 n2 e new => ?_⟩) | wp_step))
  obtain ⟨_, _, at1⟩ := new.there
  show wpAny _ _ (getattributeRaised _ _ _ _ _ _ _) _ _ _; unfold getattributeRaised
  repeat any_goals first | assumption | wp_step
  exact h _ _ new.keeps
theorem dkept {prog : Program} {w : World} {K : Type} [DecidableEq K] {knd : KeyKind prog w K} {h h' : Heap} {D : Addr} {kvs : List (K × Value)} (x : h.DictOf knd D kvs) (k : ∀ o, h.get? D = some o → h'.get? D = some o) : h'.DictOf knd D kvs :=
  let ⟨_, _, _, at0, more⟩ := x; ⟨_, _, _, k _ at0, more⟩
/-- the table of the first i pairs -/
def tabTo {K : Type} [DecidableEq K] (kk : Nat → K) (val : Nat → Value) : Nat → List (K × Value)
  | 0 => []
  | i + 1 => stored (tabTo kk val i) (kk i) (val i)
theorem tabTo_le {K : Type} [DecidableEq K] (kk : Nat → K) (val : Nat → Value) : ∀ i, (tabTo kk val i).length ≤ i
  | 0 => Nat.le_refl _
  | i + 1 => Nat.le_trans (stored_length_le _ _ _) (Nat.succ_le_succ (tabTo_le kk val i))
section
variable {prog : Program} {w : World} {A : Around} {R : Result → Shared → Prop} {I : Addr} {fp wr : List Addr} {G : Array GenState → Array GenState → Prop} {n : Nat} {P : Nat → Value → Prop} {St : Nat → Shared → Prop} {K : Type} [DecidableEq K] {knd : KeyKind prog w K}
theorem dict_loop (W : WalksS prog w A.in1 I fp wr G n P St) (D : Addr) (hDf : D ∉ fp) (row : Nat → Addr) (key val : Nat → Value) (kk : Nat → K)
    (hP : ∀ i v, P i v → v = .ref (row i)) (hk : ∀ i, i < n → knd.is (kk i) (key i) = true) (hr : ∀ i, i < n → row i ≠ D ∧ row i ∉ wr) (hb : n ≤ sizeLine) :
    ∀ (k i : Nat) (j : Int) (tj : Tok) (s : Shared), n - i = k → i ≤ n → St i s → (∀ m, m < n → s.heap.IsTuple (row m) #[key m, val m]) → s.heap.DictOf knd D (tabTo kk val i) →
      (∀ s', Moved (D :: wr) G s s' → s'.heap.DictOf knd D (tabTo kk val n) → R (.ok (.ret .none)) s') →
      codeAny (model prog w) A (.builtin "dict.update.loop" ⟨[.ref D, .ref I, .int j tj, .none], []⟩) R s := by
  have notW : D ∉ wr := mt (W.sub D) hDf
  have wider : ∀ b ∈ wr, b ∈ D :: wr := fun _ => List.mem_cons_of_mem D
  intro left
  induction left with
  | zero =>
    intro i j tj s e0 hi here _ tab goal
    obtain rfl : i = n := by omega
    refine codeAny_builtin entry_dict_loop (by
      rw [Around.under_plainId plain_dict_loop]
      exact wpAny_bind (W.done s _ _ here fun s1 mv => (wpAny_bind (wpAny_pure (wpAny_pure (goal s1 (mv.mono wider) (dkept tab fun o => mv.heap D o notW)))) : wpAny _ A.in1 (Builtin.Dict.addKeywords D [] >>= fun _ => ret Value.none) _ _ s1)))
  | succ left ih =>
    intro i j tj s e0 hi here pairs tab goal
    have lt : i < n := by omega
    refine codeAny_builtin entry_dict_loop ?_
    rw [Around.under_plainId plain_dict_loop]
    refine wpAny_bind (W.item i s _ _ lt here fun v s1 is next mv => ?_)
    cases hP i v is
    have tab1 := dkept tab fun o => mv.heap D o notW
    have pairs1 : ∀ m, m < n → s1.heap.IsTuple (row m) #[key m, val m] := fun m hm => (pairs m hm).at fun o => mv.heap _ o (hr m hm).2
    refine wpAny_bind (wpAny_holding (wpAny_bind (wpAny_tryCatch (?_ : wpAny _ A.in1 (Builtin.Dict.pairItems (.ref (row i))) _ _ s1))))
    obtain ⟨⟨_, dx, _, sx⟩, at1, ⟨rfl⟩, nx, ⟨rfl⟩⟩ := pairs1 i lt
    have tT : s1.TypeIs (.ref (row i)) "tuple" := ⟨_, at1, rfl⟩
    obtain ⟨H1, g1, d1, n1, o1⟩ := s1
    unfold Builtin.Dict.pairItems; generalize eDS : dictSet = DS
    wp_walk
    subst eDS
    refine wpAny_dictSet_pairs (hsz := Nat.le_trans (tabTo_le kk val i) (by omega)) (hk i lt) tab1 fun H2 tab2 same => ?_
    have still : ∀ b o, b ≠ D → H1.get? b = some o → H2.get? b = some o := fun b o ne e => (same.2 b ne).trans e
    exact wpAny_pure ⟨plainId_quiet plain_dict_loop _, ih (i + 1) _ _ _ (by omega) lt (W.frame _ _ _ _ next (Nat.le_succ _) fun b inF o => still b o fun z => hDf (z ▸ inF)) (fun m hm => (pairs1 m hm).at fun o => still _ o (hr m hm).1) tab2
      fun s3 mv3 => goal s3 (.trans W.gtrans (.then_heap (mv.mono wider) (Nat.le_succ _) fun b o nin => still b o fun z => nin (z ▸ List.mem_cons_self)) mv3)⟩
theorem dict_of_tup {E : Value → Shared → Prop} {s : Shared} {a : Addr} {items : Array Value} {nk : Nat} {sl : Array (Option Value)} {Q : Value → Shared → Prop} (row : Nat → Addr) (key val : Nat → Value) (kk : Nat → K) (calm : A.handled = none)
    (hx : s.heap.get? a = some { cls := .type "tuple", dict := none, data := .seq items nk, slots := sl }) (hP : ∀ (i : Nat) (v : Value), items[i]? = some v → v = .ref (row i)) (hk : ∀ i, i < items.size → knd.is (kk i) (key i) = true)
    (hrow : ∀ m, m < items.size → s.heap.IsTuple (row m) #[key m, val m]) (hb : items.size ≤ sizeLine)
    (fin : ∀ h' tk, h'.DictOf knd s.heap.objs.size (tabTo kk val items.size) → (∀ b o, s.heap.get? b = some o → h'.get? b = some o) → Q (.ref s.heap.objs.size) { s with heap := h', toks := tk }) :
    wpAny (model prog w) A (call (.type "dict") [.ref a]) Q E s := by
  let H1 : Heap := s.heap.push { cls := .type "dict", data := .dict #[] }
  refine callType_codes (Q₁ := fun ob s1 => s1 = { s with heap := H1 } ∧ ob = .ref s.heap.objs.size) F.kt_called_dict (F.kt_typeCall_dict_1 _) F.entry_dict_init (kt_code_dict_new _ (And.intro rfl rfl)) ?_
  rintro _ _ ⟨rfl, rfl⟩
  have hnew : H1.DictOf knd s.heap.objs.size [] := .new s.heap
  have hx1 : H1.get? a = some { cls := .type "tuple", dict := none, data := .seq items nk, slots := sl } := Heap.get?_push_of_some _ hx
  have hlt : a < s.heap.objs.size := Heap.lt_size hx
  have calm2 : A.in1.in1.handled = none := by simp [calm]
  refine And.intro hnew.typeIs (And.intro (F.args_dict_init_2 _ _) ?_)
  refine wpAny_bind (wpAny_bind (wpAny_notOrdered_dict hnew.typeIs (wpAny_pure (?_ : wpAny _ _ (Builtin.Dict.updateFrom "dict.__init__" s.heap.objs.size (.ref a) [] .none) _ _ _))))
  refine wpAny_bind (wpAny_typeOf (T := "tuple") ⟨_, hx1, rfl⟩ ?_)
  rw [if_pos (by decide)]
  refine wpAny_bind (keys_none hx1 calm2 fun h2 tk2 kp2 => ?_)
  rw [if_pos (show (none : Option Value).isNone = true from rfl)]
  apply wpAny_bind; apply wpAny_rule
  have tp2 : h2.IsTuple a items := ⟨_, kp2 _ _ hx1, rfl, nk, rfl⟩
  refine wpAny_bind (wpAny_pyIter_tuple (s := { s with heap := h2, toks := tk2 }) tp2 ?_)
  have ne1 : a ≠ h2.objs.size := fun e => absurd (Heap.lt_size (kp2 _ _ hx1)) (by rw [e]; exact Nat.lt_irrefl _)
  have hD2 : h2.DictOf knd s.heap.objs.size [] := dkept hnew fun o => kp2 _ o
  have ltD : s.heap.objs.size < h2.objs.size := by
    obtain ⟨o, es, ep, ho, rest⟩ := hD2
    exact Heap.lt_size ho
  have out : s.heap.objs.size ∉ [h2.objs.size, a] := by
    simp only [List.mem_cons, List.not_mem_nil, or_false, not_or]
    exact ⟨Nat.ne_of_lt ltD, Nat.ne_of_gt hlt⟩
  have kp3 : ∀ b o, s.heap.get? b = some o → (h2.push { cls := .type "tuple_iterator", data := .fields #[.ref a, .int 0 0] }).get? b = some o := fun b o e => Heap.get?_push_of_some _ (kp2 _ _ (Heap.get?_push_of_some _ e))
  refine wpAny_pure ⟨plainId_quiet plain_dict_loop _, dict_loop (knd := knd) ((Walks.tuple calm2 _ a ne1 items).toS) s.heap.objs.size out row key val kk hP hk (fun i hi => ?_) hb (items.size - 0) 0 _ _ _ (by omega) (Nat.zero_le _) ⟨⟨_, Heap.get?_push_size _ rfl, rfl, rfl⟩, (tp2.push _)⟩ (fun m hm => (hrow m hm).at (kp3 _)) (hD2.push _) fun s' mv hS' => ?_⟩
  · obtain ⟨o, ho, _⟩ := hrow i hi
    have := Heap.lt_size ho
    refine ⟨Nat.ne_of_lt this, ?_⟩
    simp only [List.mem_cons, List.not_mem_nil, or_false]
    exact Nat.ne_of_lt (Nat.lt_trans this ltD)
  · rcases s' with ⟨h', _, _, tk', _⟩
    cases (show _ = s.gens from mv.gens); cases (show _ = s.drawn from mv.drawn); cases (show _ = s.os from mv.os)
    refine ⟨rfl, fin h' tk' hS' fun b o e => mv.heap b o ?_ (kp3 _ _ e)⟩
    have := Heap.lt_size e
    simp only [List.mem_cons, List.not_mem_nil, or_false, not_or]
    exact ⟨Nat.ne_of_lt this, Nat.ne_of_lt (Nat.lt_trans this ltD)⟩
end
/-- the table of a store's rows -/
def tabK (rows : List RowS) : List (Key × V) := rows.foldl (fun d r => putK d (.inl (r.1 : Int)) (optN r.2)) []
theorem tabK_take (rows : List RowS) {i : Nat} (h : i < rows.length) : tabK (rows.take (i + 1)) = putK (tabK (rows.take i)) (.inl (rows[i].1 : Int)) (optN rows[i].2) := by
  unfold tabK
  rw [List.take_succ_eq_append_getElem h, List.foldl_append]
  rfl
theorem tabK_le : ∀ (i : Nat) (rows : List RowS), i ≤ rows.length → (tabK (rows.take i)).length ≤ i
  | 0, _, _ => by simp [tabK]
  | i + 1, rows, h => by
    rw [tabK_take rows (by omega)]
    exact Nat.le_trans (length_putK _ _ _) (Nat.succ_le_succ (tabK_le i rows (by omega)))
section
variable {X : Cx}
theorem call_dict_rows (hc : X.calm = true) : CallR X (.type "dict") (fun xs H Q => ∃ p ys rows, xs = [.ref p] ∧ H p = some (.tup ys) ∧ All2 RowV H rows ys ∧ rows.length ≤ 100 ∧ ∀ l, H l = none → Q (.ref l) (upd H l (.dK (tabK rows)))) := by
  intro pins s σ H xs us Q I r h
  obtain ⟨p, ys, rows, rfl, hp, hr, hl, q⟩ := h
  obtain ⟨u, rfl, rx⟩ := vals1 r
  cases rx
  obtain ⟨_, its, rv, ⟨o, ho, hcl, nk, hd⟩, hnd⟩ := I.hok _ _ hp
  have hno := hnd _ ho
  obtain ⟨oc, od, oda, osl⟩ := o
  simp only at hcl hd hno
  subst hcl hd hno
  have hlen : its.length = rows.length := by rw [← rv.length, hr.length]
  have ex : ∀ i, ∃ t : Addr × Value × Value, ∀ h : i < rows.length, its[i]? = some (.ref t.1) ∧ s.heap.IsTuple t.1 #[t.2.1, t.2.2] ∧ RelV (.int (rows[i].1 : Int)) t.2.1 ∧ RelV (optN rows[i].2) t.2.2 := by
    intro i
    by_cases h : i < rows.length
    · obtain ⟨v, hv, q', rfl, hq'⟩ := hr.at (List.getElem?_eq_getElem h)
      obtain ⟨u, hu, ru⟩ := rv.get hv
      cases ru
      obtain ⟨_, its', rv', tp, _⟩ := I.hok _ _ hq'
      obtain ⟨u1, u2, rfl, r1, r2⟩ := vals2 rv'
      exact ⟨(q', u1, u2), fun _ => ⟨hu, tp, r1, r2⟩⟩
    · exact ⟨(0, .none, .none), fun h' => absurd h' h⟩
  obtain ⟨f, hf⟩ := Classical.skolem.mp ex
  have hsz : its.toArray.size = rows.length := by simp [hlen]
  have hbig : (100 : Nat) ≤ sizeLine := by decide
  have kv : ∀ i, i ≤ rows.length → KV (tabK (rows.take i)) (tabTo (fun i => (.inl ((rows.getD i (0, none)).1 : Int) : Key)) (fun i => (f i).2.2) i) := by
    intro i
    induction i with
    | zero => intro _; simp only [List.take_zero]; exact .nil
    | succ i ih =>
      intro h
      have hi : i < rows.length := by omega
      rw [tabK_take rows hi]
      have e : rows.getD i (0, none) = rows[i] := by simp [List.getD_eq_getElem?_getD, hi]
      show KV _ (stored _ _ _)
      simp only [e]
      exact KV.put (ih (by omega)) _ (hf i hi).2.2.2
  refine dict_of_tup (knd := mixKind X.prog X.w) (fun i => (f i).1) (fun i => (f i).2.1) (fun i => (f i).2.2) (fun i => .inl ((rows.getD i (0, none)).1 : Int)) (I.ok.hd hc) ho ?_ ?_ ?_ ?_ ?_
  · intro i v hv
    have hi : i < rows.length := by
      rw [← hsz]
      exact (Array.getElem?_eq_some_iff.mp hv).1
    have := (hf i hi).1
    rw [show its.toArray[i]? = its[i]? by simp] at hv
    rw [hv] at this
    exact Option.some.inj this
  · intro i hi
    rw [hsz] at hi
    have e : rows.getD i (0, none) = rows[i] := by simp [List.getD_eq_getElem?_getD, hi]
    simp only [e]
    exact kV_is (k := .inl (rows[i].1 : Int)) (hf i hi).2.2.1
  · intro i hi
    rw [hsz] at hi
    exact (hf i hi).2.1
  · omega
  · intro h' tk hD kp
    rw [hsz] at hD
    have e := kv rows.length (Nat.le_refl _)
    rw [List.take_length] at e
    refine ⟨.ref s.heap.objs.size, _, I.laid (t' := tk) kp (Nat.le_refl _) ?_, rfl, q _ (I.hok.fresh (Nat.le_refl _))⟩
    refine dk_new ?_ (beq_eq_false_iff_ne.mpr (Nat.ne_of_gt I.big)) e hD
    have := tabK_le rows.length rows (Nat.le_refl _)
    rw [List.take_length] at this
    omega
end
end L2

set_option Elab.async false
set_option linter.all false
set_option maxRecDepth 100000
namespace L2
open PySem PySem.Spec PyProof.Rows
section
variable {X : Cx}
theorem op_notInD (hu : X.A.units + 1 < cLine) : OpR X (compareOp .NotIn) (fun x y H Q => ∃ a o, y = .ref a ∧ DGet H a x o ∧ Q (.bl (!o.isSome)) H) := by
  intro pins s σ H x y v u Q I rx ry h
  obtain ⟨a, o, rfl, g, k⟩ := h
  cases ry
  exact d_notIn hu I g rx fun s3 I3 => ⟨.bl (!o.isSome), H, I3, rfl, k⟩
end
/-! ### a store as a table -/
def lookR (rows : List RowS) (x : Int) : Option (Option Nat) := (rows.find? fun r => decide ((r.1 : Int) = x)).map (·.2)
theorem lookR_cons (r : RowS) (rows : List RowS) (x : Int) : lookR (r :: rows) x = if (r.1 : Int) = x then some r.2 else lookR rows x := by
  unfold lookR
  rw [List.find?_cons]
  by_cases h : (r.1 : Int) = x
  · simp [h]
  · simp [h]
theorem lookR_none {rows : List RowS} {x : Int} (h : ∀ r ∈ rows, (r.1 : Int) ≠ x) : lookR rows x = none := by
  induction rows with
  | nil => rfl
  | cons r t ih =>
    rw [lookR_cons, if_neg (h r (List.mem_cons_self)), ih fun r' hr' => h r' (List.mem_cons_of_mem _ hr')]
theorem tab_look_go (x : Int) : ∀ (rows : List RowS) (d : List (Key × V)), (rows.map (·.1)).Nodup → (∀ r ∈ rows, valV d (.inl (r.1 : Int)) = none) →
    valV (rows.foldl (fun d r => putK d (.inl (r.1 : Int)) (optN r.2)) d) (.inl x) = match lookR rows x with | some o => some (optN o) | none => valV d (.inl x)
  | [], d, _, _ => rfl
  | r :: t, d, hn, hd => by
    simp only [List.map_cons, List.nodup_cons] at hn
    have ne : ∀ r' ∈ t, (r'.1 : Int) ≠ (r.1 : Int) := fun r' h' e => hn.1 (List.mem_map.mpr ⟨r', h', by omega⟩)
    rw [List.foldl_cons, tab_look_go x t _ hn.2 (fun r' h' => by
      rw [valV_put, if_neg (fun e => ne r' h' (Sum.inl.inj e))]
      exact hd r' (List.mem_cons_of_mem _ h')), lookR_cons, valV_put]
    by_cases h : (r.1 : Int) = x
    · subst h
      rw [lookR_none ne, if_pos rfl, if_pos rfl]
    · rw [if_neg h, if_neg (fun e => h (Sum.inl.inj e).symm)]
theorem tab_look {rows : List RowS} (hn : (rows.map (·.1)).Nodup) (x : Int) : valV (tabK rows) (.inl x) = (lookR rows x).map optN := by
  unfold tabK
  rw [tab_look_go x rows [] hn fun _ _ => rfl]
  cases lookR rows x <;> rfl
/-- whether a part may stand so often -/
def mayStand (rows : List RowS) (hs : List Int) (x : Int) : Bool := match lookR rows x with | none => false | some none => true | some (some m) => decide (hs.count x ≤ m)
def madeOf (rows : List RowS) (hs : List Int) : Bool := hs.all (mayStand rows hs)
/-! ### products without trimming -/
end L2

set_option Elab.async false
set_option linter.all false
set_option maxRecDepth 100000
namespace L2
/-! ### the order of the rows does not count -/
theorem MP_inj {p : Nat} (hp : 1 ≤ p) {f g : Nat → Int} (h : ∀ n, MP p f n = MP p g n) : ∀ n, f n = g n := by
  intro n
  induction n using Nat.strongRecOn with
  | _ n ih =>
    have e := h n
    unfold MP at e
    by_cases c : p ≤ n
    · rw [if_pos c, if_pos c, ih (n - p) (by omega)] at e
      omega
    · rw [if_neg c, if_neg c] at e
      omega
theorem MP_swap (p q : Nat) (f : Nat → Int) (n : Nat) : MP p (MP q f) n = MP q (MP p f) n := by
  unfold MP
  by_cases a : p ≤ n <;> by_cases b : q ≤ n
  · by_cases c : p + q ≤ n
    · rw [if_pos a, if_pos b, if_pos (show q ≤ n - p by omega), if_pos (show p ≤ n - q by omega), Nat.sub_sub, Nat.sub_sub, Nat.add_comm q p]
      omega
    · rw [if_pos a, if_pos b, if_neg (show ¬ q ≤ n - p by omega), if_neg (show ¬ p ≤ n - q by omega)]
      omega
  · rw [if_pos a, if_neg b, if_neg (show ¬ q ≤ n - p by omega)]
    omega
  · rw [if_neg a, if_pos b, if_neg (show ¬ p ≤ n - q by omega)]
    omega
  · simp [a, b]
theorem optM_MP (p : Nat) (m : Option Nat) (q : Nat) (f : Nat → Int) (n : Nat) : optM p m (MP q f) n = MP q (optM p m f) n := by
  cases m with
  | none => rfl
  | some m => exact MP_swap _ _ f n
theorem optM_swap (p : Nat) (m : Option Nat) (q : Nat) (m' : Option Nat) (f : Nat → Int) (n : Nat) : optM p m (optM q m' f) n = optM q m' (optM p m f) n := by
  cases m' with
  | none => rfl
  | some m' => exact optM_MP p m _ f n
theorem take_swap {p q : Nat} (hp : 1 ≤ p) (hq : 1 ≤ q) (m m' : Option Nat) (f : Nat → Int) : takeIn p m (takeIn q m' f) = takeIn q m' (takeIn p m f) := by
  have eP : ∀ g, MP p (takeIn p m g) = optM p m g := fun g => funext (takeIn_O p hp m g)
  have eQ : ∀ g, MP q (takeIn q m' g) = optM q m' g := fun g => funext (takeIn_O q hq m' g)
  refine funext (MP_inj hp (MP_inj hq fun n => ?_))
  show MP q (MP p (takeIn p m (takeIn q m' f))) n = MP q (MP p (takeIn q m' (takeIn p m f))) n
  rw [eP, MP_swap q p, eQ, ← optM_MP, ← optM_MP, eQ, eP, optM_swap]
def foldT (rows : List RowS) (f : Nat → Int) : Nat → Int := rows.foldl (fun f r => takeIn r.1 r.2 f) f
theorem foldT_perm {rows rows' : List RowS} (h : rows.Perm rows') (hp : ∀ r ∈ rows, 1 ≤ r.1) (f : Nat → Int) : foldT rows f = foldT rows' f :=
  h.foldl_eq' (fun x hx y hy z => (take_swap (hp x hx) (hp y hy) x.2 y.2 z).symm) f
theorem sumN_eq {n : Nat} {f g : Nat → Int} (h : ∀ k, k < n → f k = g k) : sumN n f = sumN n g := by
  induction n with
  | zero => rfl
  | succ n ih =>
    show sumN n f + f n = sumN n g + g n
    rw [ih fun k hk => h k (by omega), h n (by omega)]
theorem take_near {p : Nat} {m : Option Nat} {f g : Nat → Int} {n : Nat} (h : ∀ k, k ≤ n → f k = g k) : takeIn p m f n = takeIn p m g n :=
  sumN_eq fun k _ => h _ (Nat.sub_le _ _)
theorem foldT_near {b : Nat} : ∀ (rows : List RowS) (f g : Nat → Int), (∀ k, k ≤ b → f k = g k) → ∀ n, n ≤ b → foldT rows f n = foldT rows g n
  | [], f, g, h, n, hn => h n hn
  | r :: rows, f, g, h, n, hn => foldT_near rows _ _ (fun k hk => take_near fun j hj => h j (by omega)) n hn
theorem dueL_fold (b : Nat) : ∀ (rows : List RowS) (D : List Int) (n : Nat), n ≤ b → fnG (dueL b rows D) n = foldT rows (fnG D) n
  | [], D, n, hn => rfl
  | r :: rows, D, n, hn => by
    show fnG (dueL b rows (dueStep b D r)) n = foldT rows (takeIn r.1 r.2 (fnG D)) n
    rw [dueL_fold b rows _ n hn]
    exact foldT_near rows _ _ (fun k hk => dueStep_at b D r hk) n hn
end L2

set_option Elab.async false
set_option linter.all false
set_option maxRecDepth 100000
namespace L2
/-! ### how many partings a store makes -/
theorem partF_fuel : ∀ (f f' n g : Nat), n < f → n < f' → partF f n g = partF f' n g
  | 0, _, n, _, h, _ => absurd h (Nat.not_lt_zero _)
  | _ + 1, 0, n, _, _, h => absurd h (Nat.not_lt_zero _)
  | f + 1, f' + 1, n, g, h, h' => by
    rw [partF_succ, partF_succ]
    by_cases c : n = 0
    · rw [if_pos c, if_pos c]
    · rw [if_neg c, if_neg c]
      unfold partP
      rw [List.flatMap_def, List.flatMap_def]
      congr 1
      apply List.map_congr_left
      intro i hi
      have hi' := List.mem_range.mp hi
      rw [partF_fuel f f' _ _ (by omega) (by omega)]
def partN (n g : Nat) : List (List Int) := partF (n + 1) n g
theorem partN_nil {n : Nat} (h : n ≠ 0) : partN n 0 = [] := by
  unfold partN
  rw [partF_succ, if_neg h, Nat.min_zero]
  rfl
theorem partN_over {n g g' : Nat} (h : n ≤ g) (h' : n ≤ g') : partN n g = partN n g' := by
  unfold partN
  rw [partF_succ, partF_succ, Nat.min_eq_left h, Nat.min_eq_left h']
theorem partN_next (n g : Nat) : partN n (g + 1) = (if g + 1 ≤ n then (partN (n - (g + 1)) (g + 1)).map (((g + 1 : Nat) : Int) :: ·) else []) ++ partN n g := by
  by_cases c : g + 1 ≤ n
  · rw [if_pos c]
    have n0 : n ≠ 0 := by omega
    unfold partN
    rw [partF_succ n n, partF_succ n n g, if_neg n0, if_neg n0, Nat.min_eq_right c, Nat.min_eq_right (show g ≤ n by omega)]
    unfold partP
    rw [List.range_succ_eq_map, List.flatMap_cons, List.flatMap_map, Nat.sub_zero, partF_fuel n (n - (g + 1) + 1) _ _ (by omega) (by omega)]
    congr 1
    rw [List.flatMap_def, List.flatMap_def]
    congr 1
    apply List.map_congr_left
    intro i hi
    show (partF n (n - (g + 1 - (i + 1))) (g + 1 - (i + 1))).map (((g + 1 - (i + 1) : Nat) : Int) :: ·) = _
    rw [Nat.add_sub_add_right]
  · rw [if_neg c, List.nil_append]
    exact partN_over (by omega) (by omega)
theorem partF_le : ∀ (f n g : Nat), ∀ h ∈ partF f n g, ∀ x ∈ h, x ≤ (g : Int)
  | 0, n, g, h, hh, _, _ => by cases hh
  | f + 1, n, g, h, hh, x, hx => by
    rw [partF_succ] at hh
    by_cases c : n = 0
    · rw [if_pos c] at hh
      have : h = [] := by simpa using hh
      subst this
      cases hx
    · rw [if_neg c] at hh
      unfold partP at hh
      obtain ⟨i, hi, hh⟩ := List.mem_flatMap.mp hh
      rw [List.mem_range] at hi
      obtain ⟨r, hr, rfl⟩ := List.mem_map.mp hh
      rcases List.mem_cons.mp hx with rfl | hx
      · omega
      · have := partF_le f _ _ r hr x hx
        omega
def okM (o : Option Nat) (j : Nat) : Bool := match o with | none => true | some m => decide (j ≤ m)
def mostS (rows : List RowS) (x : Int) : Option Nat := match lookR rows x with | none => some 0 | some o => o
theorem mayStand_ok {rows : List RowS} {hs : List Int} {x : Int} (h : x ∈ hs) : mayStand rows hs x = okM (mostS rows x) (hs.count x) := by
  have hc : 0 < hs.count x := List.count_pos_iff.mpr h
  unfold mayStand mostS okM
  rcases lookR rows x with _ | _ | m
  · exact (decide_eq_false (by omega)).symm
  · rfl
  · rfl
theorem all_ext {α : Type} {l : List α} {f g : α → Bool} (h : ∀ x ∈ l, f x = g x) : l.all f = l.all g := by
  induction l with
  | nil => rfl
  | cons a l ih => rw [List.all_cons, List.all_cons, h a List.mem_cons_self, ih fun x hx => h x (List.mem_cons_of_mem _ hx)]
theorem madeOf_rep (rows : List RowS) {p : Int} (j : Nat) {h : List Int} (hp : ∀ x ∈ h, x < p) : madeOf rows (List.replicate j p ++ h) = (okM (mostS rows p) j && madeOf rows h) := by
  have hn : p ∉ h := fun z => by have := hp p z; omega
  unfold madeOf
  rw [List.all_append]
  congr 1
  · cases j with
    | zero =>
      show true = okM (mostS rows p) 0
      unfold okM
      cases mostS rows p with
      | none => rfl
      | some m => exact (decide_eq_true (Nat.zero_le _)).symm
    | succ j =>
      have e : mayStand rows (List.replicate (j + 1) p ++ h) p = okM (mostS rows p) (j + 1) := by
        rw [mayStand_ok (by simp), List.count_append, List.count_replicate_self, List.count_eq_zero.mpr hn, Nat.add_zero]
      rw [all_ext (g := fun _ => okM (mostS rows p) (j + 1)) fun x hx => by rw [(List.mem_replicate.mp hx).2, e]]
      generalize okM (mostS rows p) (j + 1) = b
      cases b <;> simp
  · apply all_ext
    intro x hx
    have hne : x ≠ p := fun e => hn (e ▸ hx)
    rw [mayStand_ok (by simp [hx]), mayStand_ok hx, List.count_append, List.count_replicate]
    have e : (if (p == x) = true then j else 0) = 0 := if_neg (by simpa using fun e => hne e.symm)
    rw [e, Nat.zero_add]
def cntN (rows : List RowS) (g n : Nat) : Nat := (partN n g).countP (madeOf rows)
theorem cntN_one (rows : List RowS) (n : Nat) : ((cntN rows 0 n : Nat) : Int) = if n = 0 then 1 else 0 := by
  unfold cntN
  by_cases h : n = 0
  · subst h
    rfl
  · rw [if_neg h, partN_nil h]
    rfl
def cntJ (rows : List RowS) (g j n : Nat) : Nat := (partN n (g + 1)).countP fun h => madeOf rows (List.replicate j ((g + 1 : Nat) : Int) ++ h)
theorem cntJ_next (rows : List RowS) (g j n : Nat) : cntJ rows g j n = (if g + 1 ≤ n then cntJ rows g (j + 1) (n - (g + 1)) else 0) + if okM (mostS rows ((g + 1 : Nat) : Int)) j = true then cntN rows g n else 0 := by
  unfold cntJ
  rw [partN_next n g, List.countP_append]
  congr 1
  · by_cases c : g + 1 ≤ n
    · rw [if_pos c, if_pos c, List.countP_map]
      apply List.countP_congr
      intro h _
      have e : List.replicate j ((g + 1 : Nat) : Int) ++ ((g + 1 : Nat) : Int) :: h = List.replicate (j + 1) ((g + 1 : Nat) : Int) ++ h := by
        rw [List.replicate_succ', List.append_assoc]
        rfl
      show madeOf rows (List.replicate j ((g + 1 : Nat) : Int) ++ ((g + 1 : Nat) : Int) :: h) = true ↔ _
      rw [e]
    · rw [if_neg c, if_neg c]
      rfl
  · unfold cntN
    by_cases c : okM (mostS rows ((g + 1 : Nat) : Int)) j = true
    · rw [if_pos c]
      apply List.countP_congr
      intro h hh
      rw [madeOf_rep rows j (fun x hx => by have := partF_le _ _ _ h hh x hx; omega), c, Bool.true_and]
    · rw [if_neg c]
      apply List.countP_eq_zero.mpr
      intro h hh
      rw [madeOf_rep rows j (fun x hx => by have := partF_le _ _ _ h hh x hx; omega), Bool.eq_false_iff.mpr c, Bool.false_and]
      decide
def limJ (o : Option Nat) (j q : Nat) : Nat := match o with | none => q + 1 | some m => min (q + 1) (m + 1 - j)
theorem cntJ_sum (rows : List RowS) (g : Nat) : ∀ (n j : Nat), ((cntJ rows g j n : Nat) : Int) = sumN (limJ (mostS rows ((g + 1 : Nat) : Int)) j (n / (g + 1))) fun k => ((cntN rows g (n - k * (g + 1)) : Nat) : Int) := by
  intro n
  induction n using Nat.strongRecOn with
  | _ n ih =>
    intro j
    rw [cntJ_next]
    by_cases c : g + 1 ≤ n
    · rw [if_pos c, Int.natCast_add, ih (n - (g + 1)) (by omega) (j + 1)]
      have e1 : n / (g + 1) = (n - (g + 1)) / (g + 1) + 1 := by
        rw [Nat.div_eq n (g + 1), if_pos ⟨by omega, c⟩]
      rw [e1]
      generalize (n - (g + 1)) / (g + 1) = q
      have ef : ∀ t, (sumN t fun k => ((cntN rows g (n - (g + 1) - k * (g + 1)) : Nat) : Int)) = sumN t fun k => ((cntN rows g (n - (k + 1) * (g + 1)) : Nat) : Int) := fun t => sumN_congr fun k _ => by
        rw [Nat.sub_sub, Nat.add_mul k 1, Nat.one_mul, Nat.add_comm (g + 1)]
      rw [ef]
      rcases mostS rows ((g + 1 : Nat) : Int) with _ | m
      · show sumN (q + 1) _ + _ = sumN (q + 1 + 1) _
        rw [sumN_head (q + 1), if_pos (show okM none j = true from rfl), Nat.zero_mul, Nat.sub_zero]
        omega
      · show sumN (min (q + 1) (m + 1 - (j + 1))) _ + _ = sumN (min (q + 1 + 1) (m + 1 - j)) _
        by_cases d : j ≤ m
        · have e2 : min (q + 1 + 1) (m + 1 - j) = min (q + 1) (m + 1 - (j + 1)) + 1 := by omega
          rw [e2, sumN_head, if_pos (show okM (some m) j = true from decide_eq_true d), Nat.zero_mul, Nat.sub_zero]
          omega
        · have e2 : min (q + 1 + 1) (m + 1 - j) = 0 := by omega
          have e3 : min (q + 1) (m + 1 - (j + 1)) = 0 := by omega
          rw [e2, e3, if_neg (show ¬ okM (some m) j = true from fun z => d (of_decide_eq_true z))]
          rfl
    · have e1 : n / (g + 1) = 0 := Nat.div_eq_of_lt (by omega)
      rw [if_neg c, e1, Nat.zero_add]
      rcases mostS rows ((g + 1 : Nat) : Int) with _ | m
      · show _ = sumN (0 + 1) _
        rw [sumN_head, if_pos (show okM none j = true from rfl), Nat.zero_mul, Nat.sub_zero]
        exact (Int.add_zero _).symm
      · show _ = sumN (min (0 + 1) (m + 1 - j)) _
        by_cases d : j ≤ m
        · have e2 : min (0 + 1) (m + 1 - j) = 0 + 1 := by omega
          rw [e2, sumN_head, if_pos (show okM (some m) j = true from decide_eq_true d), Nat.zero_mul, Nat.sub_zero]
          exact (Int.add_zero _).symm
        · have e2 : min (0 + 1) (m + 1 - j) = 0 := by omega
          rw [e2, if_neg (show ¬ okM (some m) j = true from fun z => d (of_decide_eq_true z))]
          rfl
theorem cntN_next (rows : List RowS) (g : Nat) : (fun n => ((cntN rows (g + 1) n : Nat) : Int)) = takeIn (g + 1) (mostS rows ((g + 1 : Nat) : Int)) (fun n => ((cntN rows g n : Nat) : Int)) := by
  funext n
  have h := cntJ_sum rows g n 0
  have e : cntJ rows g 0 n = cntN rows (g + 1) n := rfl
  rw [e] at h
  rw [h]
  unfold takeIn
  congr 1
  rcases mostS rows ((g + 1 : Nat) : Int) with _ | m
  · rfl
  · show min (n / (g + 1) + 1) (m + 1 - 0) = min (n / (g + 1)) m + 1
    omega
def rangeR (rows : List RowS) (g : Nat) : List RowS := (List.range g).map fun i => (i + 1, mostS rows ((i + 1 : Nat) : Int))
theorem cntN_fold (rows : List RowS) : ∀ g, (fun n => ((cntN rows g n : Nat) : Int)) = foldT (rangeR rows g) (fun n => if n = 0 then 1 else 0)
  | 0 => funext (cntN_one rows)
  | g + 1 => by
    rw [cntN_next, cntN_fold rows g]
    unfold rangeR foldT
    rw [List.range_succ, List.map_append, List.foldl_append]
    rfl
theorem take_none (p : Nat) (f : Nat → Int) : takeIn p (some 0) f = f := by
  funext n
  show sumN (min (n / p) 0 + 1) _ = _
  rw [Nat.min_zero, sumN_head, Nat.zero_mul, Nat.sub_zero]
  exact Int.add_zero _
def hasR (rows : List RowS) (r : RowS) : Bool := (lookR rows (r.1 : Int)).isSome
theorem foldT_has (rows : List RowS) : ∀ (L : List RowS) (f : Nat → Int), (∀ r ∈ L, r.2 = mostS rows (r.1 : Int)) → foldT L f = foldT (L.filter (hasR rows)) f
  | [], f, _ => rfl
  | r :: L, f, h => by
    have ih := fun f => foldT_has rows L f fun r' hr' => h r' (List.mem_cons_of_mem _ hr')
    by_cases c : hasR rows r = true
    · rw [List.filter_cons, if_pos c]
      exact ih _
    · rw [List.filter_cons, if_neg c, ← ih]
      have e : r.2 = some 0 := by
        rw [h r List.mem_cons_self]
        unfold hasR at c
        unfold mostS
        cases e : lookR rows (r.1 : Int) with
        | none => rfl
        | some o => rw [e] at c; exact absurd rfl c
      show foldT L (takeIn r.1 r.2 f) = _
      rw [e, take_none]
theorem lookR_mem : ∀ {rows : List RowS} (hn : (rows.map (·.1)).Nodup) (r : RowS), r ∈ rows ↔ lookR rows (r.1 : Int) = some r.2
  | [], _, r => ⟨(fun h => by cases h), (fun h => by cases h)⟩
  | a :: rows, hn, r => by
    simp only [List.map_cons, List.nodup_cons] at hn
    rw [lookR_cons, List.mem_cons]
    by_cases c : (a.1 : Int) = (r.1 : Int)
    · rw [if_pos c]
      have c' : a.1 = r.1 := by omega
      constructor
      · rintro (rfl | h)
        · rfl
        · exact absurd (List.mem_map.mpr ⟨r, h, c'.symm⟩) hn.1
      · intro h
        exact .inl (Prod.ext c'.symm (Option.some.inj h).symm)
    · rw [if_neg c, ← lookR_mem hn.2 r]
      constructor
      · rintro (rfl | h)
        · exact absurd rfl c
        · exact h
      · exact .inr
theorem nodup_of_map {α β : Type} {f : α → β} : ∀ {l : List α}, (l.map f).Nodup → l.Nodup
  | [], _ => .nil
  | a :: l, h => by
    simp only [List.map_cons, List.nodup_cons] at h ⊢
    exact ⟨fun z => h.1 (List.mem_map.mpr ⟨a, z, rfl⟩), nodup_of_map h.2⟩
theorem rows_perm {rows : List RowS} (hn : (rows.map (·.1)).Nodup) (hb : ∀ r ∈ rows, 1 ≤ r.1 ∧ r.1 ≤ 24) : ((rangeR rows 24).filter (hasR rows)).Perm rows := by
  have n1 : (rangeR rows 24).Nodup := by
    refine nodup_of_map (f := (·.1)) ?_
    unfold rangeR
    rw [List.map_map]
    show ((List.range 24).map fun i => i + 1).Nodup
    decide
  have n2 : ((rangeR rows 24).filter (hasR rows)).Nodup := n1.sublist List.filter_sublist
  have n3 : rows.Nodup := nodup_of_map hn
  rw [List.perm_iff_count]
  intro a
  rw [n2.count, n3.count]
  have e : a ∈ (rangeR rows 24).filter (hasR rows) ↔ a ∈ rows := by
    rw [List.mem_filter]
    unfold rangeR hasR
    constructor
    · rintro ⟨h1, h2⟩
      obtain ⟨i, hi, rfl⟩ := List.mem_map.mp h1
      rw [lookR_mem hn]
      cases e : lookR rows ((i + 1 : Nat) : Int) with
      | none => rw [e] at h2; exact absurd h2 (by decide)
      | some o =>
        show some o = some (mostS rows ((i + 1 : Nat) : Int))
        unfold mostS
        rw [e]
    · intro h
      have hb' := hb a h
      have h' := (lookR_mem hn a).mp h
      refine ⟨List.mem_map.mpr ⟨a.1 - 1, List.mem_range.mpr (by omega), ?_⟩, by rw [h']; rfl⟩
      have e1 : a.1 - 1 + 1 = a.1 := by omega
      rw [e1]
      unfold mostS
      rw [h']
  by_cases c : a ∈ rows
  · rw [if_pos c, if_pos (e.mpr c)]
  · rw [if_neg c, if_neg (fun z => c (e.mp z))]
theorem made_count {rows : List RowS} (hn : (rows.map (·.1)).Nodup) (hb : ∀ r ∈ rows, 1 ≤ r.1 ∧ r.1 ≤ 24) {b n f : Nat} (h : n ≤ b) (h24 : n ≤ 24) (hf : n < f) :
    ((((partF f n n).filter (madeOf rows)).length : Nat) : Int) = fnG (dueL b rows (1 :: List.replicate b 0)) n := by
  have e0 : fnG (1 :: List.replicate b 0) = fun n => if n = 0 then 1 else 0 := funext fun n => one_fn b n
  rw [dueL_fold b rows _ n h, e0, ← foldT_perm (rows_perm hn hb) (fun r hr => by
    obtain ⟨i, _, rfl⟩ := List.mem_map.mp (List.mem_filter.mp hr).1
    exact Nat.le_add_left 1 i), ← foldT_has rows (rangeR rows 24) _ (fun r hr => by
    obtain ⟨i, _, rfl⟩ := List.mem_map.mp hr
    rfl), ← cntN_fold rows 24]
  show _ = ((((partN n 24).countP (madeOf rows) : Nat)) : Int)
  rw [partN_over h24 (Nat.le_refl n), partF_fuel f (n + 1) n n hf (by omega), List.countP_eq_length_filter]
  rfl
end L2

set_option maxHeartbeats 4000000
namespace My
open PySem PySem.Spec PyProof.Rows L2
def top (i : Nat) : Stmt := PySem.Challenge.pw_shutpairs_k56_whole_stores_are_fractions.main.body.getD i (.Pass ⟨0, 0, 0, 0⟩)
abbrev s_refuse_beyond : Stmt := top 8
abbrev s_refuse_bound : Stmt := top 9
abbrev s_at_power : Stmt := top 12
abbrev s_next_head : Stmt := top 14
abbrev s_heads : Stmt := top 15
abbrev s_often : Stmt := top 5
abbrev s_is_of_store : Stmt := top 17
abbrev s_trimmed : Stmt := top 11
abbrev s_poly_plus : Stmt := top 13
abbrev s_product_of : Stmt := top 18
abbrev s_top_of : Stmt := top 19
abbrev s_bottom_of : Stmt := top 20
abbrev s_numbers_of : Stmt := top 21
abbrev s__law_start : Stmt := top 23
abbrev s__law_mix : Stmt := top 25
abbrev s__law_draw : Stmt := top 24
abbrev s__law_partings : Stmt := top 26
abbrev s__law_whole : Stmt := top 27
abbrev s__law_same : Stmt := top 28
abbrev s__law_power : Stmt := top 29
abbrev s__law_store : Stmt := top 30
abbrev s_law : Stmt := top 31
structure Adr where
  a_refuse_beyond : Addr
  fd_refuse_beyond : FuncData
  a_refuse_bound : Addr
  fd_refuse_bound : FuncData
  a_at_power : Addr
  fd_at_power : FuncData
  a_next_head : Addr
  fd_next_head : FuncData
  a_heads : Addr
  fd_heads : FuncData
  a_often : Addr
  fd_often : FuncData
  a_is_of_store : Addr
  fd_is_of_store : FuncData
  a_trimmed : Addr
  fd_trimmed : FuncData
  a_poly_plus : Addr
  fd_poly_plus : FuncData
  a_product_of : Addr
  fd_product_of : FuncData
  a_top_of : Addr
  fd_top_of : FuncData
  a_bottom_of : Addr
  fd_bottom_of : FuncData
  a_numbers_of : Addr
  fd_numbers_of : FuncData
  a__law_start : Addr
  fd__law_start : FuncData
  a__law_mix : Addr
  fd__law_mix : FuncData
  a__law_draw : Addr
  fd__law_draw : FuncData
  a__law_partings : Addr
  fd__law_partings : FuncData
  a__law_whole : Addr
  fd__law_whole : FuncData
  a__law_same : Addr
  fd__law_same : FuncData
  a__law_power : Addr
  fd__law_power : FuncData
  a__law_store : Addr
  fd__law_store : FuncData
  a_law : Addr
  fd_law : FuncData
  c_NoSum : Addr
  c_NoBottom : Addr
structure Txt (K : PySem.W.Frag) (mg : Str → Option Value) (A : Adr) : Prop where
  F_refuse_beyond : Fun K "refuse_beyond" "refuse_beyond" s_refuse_beyond A.a_refuse_beyond A.fd_refuse_beyond
  b_refuse_beyond : Binds K A.fd_refuse_beyond ["n", "most"] []
  g_refuse_beyond : mg "refuse_beyond" = some (.ref A.a_refuse_beyond)
  F_refuse_bound : Fun K "refuse_bound" "refuse_bound" s_refuse_bound A.a_refuse_bound A.fd_refuse_bound
  b_refuse_bound : Binds K A.fd_refuse_bound ["bound"] []
  g_refuse_bound : mg "refuse_bound" = some (.ref A.a_refuse_bound)
  F_at_power : Fun K "at_power" "at_power" s_at_power A.a_at_power A.fd_at_power
  b_at_power : Binds K A.fd_at_power ["poly", "power"] []
  g_at_power : mg "at_power" = some (.ref A.a_at_power)
  F_next_head : Fun K "next_head" "next_head" s_next_head A.a_next_head A.fd_next_head
  b_next_head : Binds K A.fd_next_head ["top", "bottom", "told"] []
  g_next_head : mg "next_head" = some (.ref A.a_next_head)
  F_heads : Fun K "heads" "heads" s_heads A.a_heads A.fd_heads
  b_heads : Binds K A.fd_heads ["top", "bottom", "bound"] []
  g_heads : mg "heads" = some (.ref A.a_heads)
  F_often : Fun K "often" "often" s_often A.a_often A.fd_often
  b_often : Binds K A.fd_often ["heap", "part"] []
  g_often : mg "often" = some (.ref A.a_often)
  F_is_of_store : Fun K "is_of_store" "is_of_store" s_is_of_store A.a_is_of_store A.fd_is_of_store
  b_is_of_store : Binds K A.fd_is_of_store ["store", "heap"] []
  g_is_of_store : mg "is_of_store" = some (.ref A.a_is_of_store)
  F_trimmed : Fun K "trimmed" "trimmed" s_trimmed A.a_trimmed A.fd_trimmed
  b_trimmed : Binds K A.fd_trimmed ["numbers"] []
  g_trimmed : mg "trimmed" = some (.ref A.a_trimmed)
  F_poly_plus : Fun K "poly_plus" "poly_plus" s_poly_plus A.a_poly_plus A.fd_poly_plus
  b_poly_plus : Binds K A.fd_poly_plus ["one", "other"] []
  g_poly_plus : mg "poly_plus" = some (.ref A.a_poly_plus)
  F_product_of : Fun K "product_of" "product_of" s_product_of A.a_product_of A.fd_product_of
  b_product_of : Binds K A.fd_product_of ["powers"] []
  g_product_of : mg "product_of" = some (.ref A.a_product_of)
  F_top_of : Fun K "top_of" "top_of" s_top_of A.a_top_of A.fd_top_of
  b_top_of : Binds K A.fd_top_of ["store"] []
  g_top_of : mg "top_of" = some (.ref A.a_top_of)
  F_bottom_of : Fun K "bottom_of" "bottom_of" s_bottom_of A.a_bottom_of A.fd_bottom_of
  b_bottom_of : Binds K A.fd_bottom_of ["store"] []
  g_bottom_of : mg "bottom_of" = some (.ref A.a_bottom_of)
  F_numbers_of : Fun K "numbers_of" "numbers_of" s_numbers_of A.a_numbers_of A.fd_numbers_of
  b_numbers_of : Binds K A.fd_numbers_of ["store", "bound"] []
  g_numbers_of : mg "numbers_of" = some (.ref A.a_numbers_of)
  F__law_start : Fun K "_law_start" "_law_start" s__law_start A.a__law_start A.fd__law_start
  b__law_start : Binds K A.fd__law_start ["_law_script"] []
  g__law_start : mg "_law_start" = some (.ref A.a__law_start)
  F__law_mix : Fun K "_law_mix" "_law_mix" s__law_mix A.a__law_mix A.fd__law_mix
  b__law_mix : Binds K A.fd__law_mix ["_law_state"] []
  g__law_mix : mg "_law_mix" = some (.ref A.a__law_mix)
  F__law_draw : Fun K "_law_draw" "_law_draw" s__law_draw A.a__law_draw A.fd__law_draw
  b__law_draw : Binds K A.fd__law_draw ["_law_state", "_law_many"] []
  g__law_draw : mg "_law_draw" = some (.ref A.a__law_draw)
  F__law_partings : Fun K "_law_partings" "_law_partings" s__law_partings A.a__law_partings A.fd__law_partings
  b__law_partings : Binds K A.fd__law_partings ["_law_n", "_law_top"] []
  g__law_partings : mg "_law_partings" = some (.ref A.a__law_partings)
  F__law_whole : Fun K "_law_whole" "_law_whole" s__law_whole A.a__law_whole A.fd__law_whole
  b__law_whole : Binds K A.fd__law_whole ["_law_thing"] []
  g__law_whole : mg "_law_whole" = some (.ref A.a__law_whole)
  F__law_same : Fun K "_law_same" "_law_same" s__law_same A.a__law_same A.fd__law_same
  b__law_same : Binds K A.fd__law_same ["_law_told", "_law_due"] []
  g__law_same : mg "_law_same" = some (.ref A.a__law_same)
  F__law_power : Fun K "_law_power" "_law_power" s__law_power A.a__law_power A.fd__law_power
  b__law_power : Binds K A.fd__law_power ["_law_numbers", "_law_power_here"] []
  g__law_power : mg "_law_power" = some (.ref A.a__law_power)
  F__law_store : Fun K "_law_store" "_law_store" s__law_store A.a__law_store A.fd__law_store
  b__law_store : Binds K A.fd__law_store ["_law_state", "_law_size"] []
  g__law_store : mg "_law_store" = some (.ref A.a__law_store)
  F_law : Fun K "law" "law" s_law A.a_law A.fd_law
  b_law : Binds K A.fd_law ["_law_script"] []
  g_law : mg "law" = some (.ref A.a_law)
  b_all : mg "all" = none
  b_bool : mg "bool" = none
  b_dict : mg "dict" = none
  b_int : mg "int" = none
  b_isinstance : mg "isinstance" = none
  b_len : mg "len" = none
  b_list : mg "list" = none
  b_max : mg "max" = none
  b_min : mg "min" = none
  b_range : mg "range" = none
  b_str : mg "str" = none
  b_sum : mg "sum" = none
  b_tuple : mg "tuple" = none
  b_zip : mg "zip" = none
  v_MOST_BOUND : ∃ t, mg "MOST_BOUND" = some (.int 400 t)
  kin : ∃ h, K.In h
  g_NoSum : mg "NoSum" = some (.ref A.c_NoSum)
  g_NoBottom : mg "NoBottom" = some (.ref A.c_NoBottom)
  x_NoBottom : ExcC K A.c_NoBottom
  x_NoSum : ExcC K A.c_NoSum
  e_NoSum : ClsE K A.c_NoSum
  e_NoBottom : ClsE K A.c_NoBottom
section
variable {P : Program} {w : World} {K : PySem.W.Frag} {mg : Str → Option Value} {base : Heap} {A : Adr}
def n_refuse_beyond : List Str := ["n", "most"]
theorem sc_refuse_beyond : FnScope n_refuse_beyond ["n", "most"] (defScope s_refuse_beyond) := ⟨rfl, rfl, rfl, by decide +kernel, rfl, by decide +kernel, by decide +kernel⟩
def sp_refuse (A : Adr) : Sp := fun vs H Q E => ∃ (n m : Int), vs = [.int n, .int m] ∧ (0 ≤ m ∧ m ≤ 400) ∧ ((0 ≤ n ∧ n ≤ m ∧ Q .non H) ∨ ((n < 0 ∨ m < n) ∧ E (.ref A.c_NoSum) none H))
theorem num_len : ∀ k : Nat, k ≤ 400 → (PySem.Str.ofString "the number is not one from 0 to " ++ (toString ((k : Nat) : Int) : Str)).length ≤ 100 := by decide +kernel
theorem num_log : ∀ k : Nat, k ≤ 400 → k.log2 < 1920 := by decide +kernel
theorem ok_refuse_beyond (T : Txt K mg A) : FnOk P w K mg base (CX1 P w) 1 A.a_refuse_beyond A.fd_refuse_beyond ["n", "most"] (sp_refuse A) := by
  refine T.F_refuse_beyond.okE sc_refuse_beyond (fun vs H Q E h => ?_) (fun cdv Ar outer s H vs Q E hr h => ?_)
  · obtain ⟨n, m, rfl, hm, h⟩ := h
    rfl
  · obtain ⟨n, m, rfl, hm, h⟩ := h
    refine ⟨_, (pss_one (ps_if (PW.pt (pw_or (pt_cmpR op_lt (pv 0) pe_int (nomark _)) (pw_or1 (pt_cmpR op_gt (pv 0) (pv 1) (nomark _)))))
          (pss_one (ps_raise rfl T.x_NoSum rfl T.g_NoSum (pa_cons (pe_fstr (by decide +kernel) (pv 1)) pa_nil))) pss_nil)), ?_⟩
    have raise : (n < 0 ∨ m < n) → E (.ref A.c_NoSum) none H := fun hb => by
      rcases h with ⟨h1, h2, _⟩ | ⟨_, hE⟩
      · omega
      · exact hE
    obtain ⟨j, rfl⟩ : ∃ j : Nat, m = (j : Int) := ⟨m.toNat, by omega⟩
    have fin : (n < 0 ∨ (j : Int) < n) → ∃ i, V.int (j : Int) = V.int i ∧ i.natAbs.log2 < 1920 ∧ (PySem.Str.ofString "the number is not one from 0 to " ++ (toString i : Str)).length ≤ sizeLine ∧ [V.str (PySem.Str.ofString "the number is not one from 0 to " ++ (toString i : Str))].length ≤ sizeLine ∧ E (.ref A.c_NoSum) none H := fun hb =>
      ⟨(j : Int), rfl, by rw [Int.natAbs_natCast]; exact num_log j (by omega), Nat.le_trans (num_len j (by omega)) (by decide), by show 1 ≤ sizeLine; decide, raise hb⟩
    refine ⟨_, rfl, _, _, rfl, rfl, _, rfl, ?_⟩
    refine ite2 (fun hc => ?_) (fun hc => ?_)
    · exact iteT ⟨_, rfl, fin (.inl (of_decide_eq_true hc))⟩
    · refine ⟨_, rfl, _, rfl, _, _, rfl, rfl, _, rfl, ?_⟩
      refine ite2 (fun hc2 => ⟨_, rfl, fin (.inr (of_decide_eq_true hc2))⟩) (fun hc2 => ?_)
      rcases h with ⟨_, _, q⟩ | ⟨hb, _⟩
      · exact q
      · have c1 : ¬ n < 0 := fun z => hc (decide_eq_true z)
        have c2 : ¬ (j : Int) < n := fun z => hc2 (decide_eq_true z)
        omega
def n_refuse_bound : List Str := ["bound"]
theorem sc_refuse_bound : FnScope n_refuse_bound ["bound"] (defScope s_refuse_bound) := ⟨rfl, rfl, rfl, by decide +kernel, rfl, by decide +kernel, by decide +kernel⟩
def sp_refuse_bound (A : Adr) : Sp := fun vs H Q E => ∃ (n : Int), vs = [.int n] ∧ ((0 ≤ n ∧ n ≤ 400 ∧ Q .non H) ∨ ((n < 0 ∨ 400 < n) ∧ E (.ref A.c_NoSum) none H))
theorem ok_refuse_bound (T : Txt K mg A) : FnOk P w K mg base (CX1 P w) 2 A.a_refuse_bound A.fd_refuse_bound ["bound"] (sp_refuse_bound A) := by
  refine T.F_refuse_bound.okE sc_refuse_bound (fun vs H Q E h => ?_) (fun cdv Ar outer s H vs Q E hr h => ?_)
  · obtain ⟨n, rfl, h⟩ := h
    rfl
  · obtain ⟨n, rfl, h⟩ := h
    refine ⟨_, (pss_one (ps_expr (pe_call (ok_refuse_beyond T) (hr.mono (by decide)) rfl T.g_refuse_beyond T.F_refuse_beyond.kp T.b_refuse_beyond .nil passE (pa_cons (pv 0) (pa_cons (pe_glob (v := .int 400) rfl T.v_MOST_BOUND.choose_spec ⟨_, rfl⟩) pa_nil))))), ?_⟩
    rcases h with ⟨h0, h1, q⟩ | ⟨hb, hE⟩
    · exact ⟨_, rfl, n, 400, rfl, ⟨by decide, by decide⟩, .inl ⟨h0, h1, q⟩⟩
    · exact ⟨_, rfl, n, 400, rfl, ⟨by decide, by decide⟩, .inr ⟨hb, hE⟩⟩
def n_at_power : List Str := ["poly", "power"]
theorem sc_at_power : FnScope n_at_power ["poly", "power"] (defScope s_at_power) := ⟨rfl, rfl, rfl, by decide +kernel, rfl, by decide +kernel, by decide +kernel⟩
def sp_at_power : Sp := fun vs H Q _ => ∃ (a : Addr) (ns : List Int) (j : Nat), vs = [.ref a, .int j] ∧ H a = some (.tup (ns.map V.int)) ∧ Q (.int (ns.getD j 0)) H
theorem ok_at_power (T : Txt K mg A) : FnOk P w K mg base CX0 1 A.a_at_power A.fd_at_power ["poly", "power"] sp_at_power := by
  refine T.F_at_power.ok sc_at_power (fun vs H Q E h => ?_) (fun cdv Ar outer s H vs Q E hr h => ?_)
  · obtain ⟨a, ns, j, rfl, ha, k⟩ := h
    rfl
  · obtain ⟨a, ns, j, rfl, ha, k⟩ := h
    refine ⟨_, (pss_one (ps_ret (pe_ifExp (pt_cmpR op_lt (pv 1) (pe_callB call_len_seq rfl T.b_len PySem.boot_len (pa_cons (pv 0) pa_nil)) (nomark _)) (pe_ix ix_tup (pv 0) (pv 1) (fun _ _ => rfl)) pe_int))), ?_⟩
    refine ⟨_, rfl, _, rfl, a, _, rfl, .inr (SqT.of ha), _, _, rfl, rfl, _, rfl, ?_⟩
    rw [List.length_map]
    refine ite2 (fun hc => ?_) (fun hc => ?_)
    · have hj : j < ns.length := by
        have := of_decide_eq_true hc
        omega
      refine ⟨_, rfl, _, rfl, a, _, _, V.int (ns.getD j 0), rfl, rfl, SqT.of ha, atI_nat ?_, k⟩
      rw [List.getElem?_map, List.getD_eq_getElem?_getD, List.getElem?_eq_getElem hj]
      rfl
    · have hj : ¬ j < ns.length := fun z => hc (decide_eq_true (by omega))
      have e : ns.getD j 0 = 0 := by
        rw [List.getD_eq_getElem?_getD, List.getElem?_eq_none (by omega)]
        rfl
      rw [e] at k
      exact k
def n_next_head : List Str := ["top", "bottom", "told", "n", "reach"]
theorem sc_next_head : FnScope n_next_head ["top", "bottom", "told"] (defScope s_next_head) := ⟨rfl, rfl, rfl, by decide +kernel, rfl, by decide +kernel, by decide +kernel⟩
def fnL (ts : List Int) (k : Nat) : Int := ts.getD k 0
theorem fnL_small {ts : List Int} (h : ∀ x ∈ ts, x.natAbs ≤ 2 ^ 200) (k : Nat) : (fnL ts k).natAbs ≤ 2 ^ 200 := by
  unfold fnL
  rw [List.getD_eq_getElem?_getD]
  cases e : ts[k]? with
  | none => exact Nat.zero_le _
  | some x => exact h x (List.mem_of_getElem? e)
theorem p200 : (2 : Nat) ^ 200 < 2 ^ 100000 := Nat.pow_lt_pow_right (by decide) (by decide)
def sp_next_head : Sp := fun vs H Q _ => ∃ (tp bt tl : Addr) (ts bs : List Int) (n : Nat), vs = [.ref tp, .ref bt, .ref tl] ∧ H tp = some (.tup (ts.map V.int)) ∧ H bt = some (.tup (bs.map V.int)) ∧ H tl = some (.lst ((hdL (fnL ts) (fnL bs) n).map V.int)) ∧ bs.length ≤ 10000 ∧ bs ≠ [] ∧ n ≤ 400 ∧ (∀ x ∈ ts, x.natAbs ≤ 2 ^ 200) ∧ (∀ x ∈ bs, x.natAbs ≤ 2 ^ 200) ∧
  ∀ H', Same H H' → Q (.int (hd (fnL ts) (fnL bs) n)) H'
theorem ok_next_head (T : Txt K mg A) : FnOk P w K mg base CX0 2 A.a_next_head A.fd_next_head ["top", "bottom", "told"] sp_next_head := by
  refine T.F_next_head.ok sc_next_head (fun vs H Q E h => ?_) (fun cdv Ar outer s H vs Q E hr h => ?_)
  · obtain ⟨tp, bt, tl, ts, bs, n, rfl, htp, hbt, htl, hbl, hne, hn, hts, hbs, k⟩ := h
    rfl
  · obtain ⟨tp, bt, tl, ts, bs, n, rfl, htp, hbt, htl, hbl, hne, hn, hts, hbs, k⟩ := h
    refine ⟨_, (pss_cons (ps_set (i := 3) sc_next_head.nd rfl (by first | exact Or.inl rfl | exact Or.inr rfl) (pe_callB call_len_seq rfl T.b_len PySem.boot_len (pa_cons (pv 2 (hv := Or.inr (Or.inl rfl))) pa_nil)))
        (pss_cons (ps_set (i := 4) sc_next_head.nd rfl (by first | exact Or.inl rfl | exact Or.inr rfl) (pe_callB (call_min2 rfl) rfl T.b_min boot_min (pa_cons (pv 3 (hv := Or.inr (Or.inl rfl))) (pa_cons (pe_op op_sub (pe_callB call_len_seq rfl T.b_len PySem.boot_len (pa_cons (pv 1 (hv := Or.inr (Or.inl rfl))) pa_nil)) pe_int) pa_nil))))
        (pss_one (ps_ret (pe_op op_sub (pe_call (ok_at_power T) (hr.mono (by decide)) rfl T.g_at_power T.F_at_power.kp T.b_at_power .nil pass0 (pa_cons (pv 0) (pa_cons (pv 3 (hv := Or.inr (Or.inl rfl))) pa_nil))) (pe_callB (call_sum_ints rfl) rfl T.b_sum boot_sum (pa_cons (pe_comp (ls := ["j"]) (fr := [("bottom", 1), ("told", 2), ("n", 3)]) (cs_of (defScope s_next_head) n_next_head rfl rfl (by decide +kernel)) rfl (pi_range2 rfl T.b_range (pa_cons pe_int (pa_cons (pe_op op_add (pv 4) pe_int) pa_nil))) (fun _ _ _ _ => pgc 0 (by decide +kernel) rfl rfl) (fun _ _ _ _ => pf_nil) (fun _ _ _ _ => (pe_op op_mulC (pe_ix (ix_tupK K rfl) (pvc (defScope s_next_head) 1) (pvc (defScope s_next_head) 0) (fun _ _ => rfl)) (pe_ix (ix_listK K rfl) (pvc (defScope s_next_head) 2) (pe_op op_sub (pvc (defScope s_next_head) 3) (pvc (defScope s_next_head) 0)) (fun _ _ => rfl))))) pa_nil))))))), ?_⟩
    have hll := hdL_len (fnL ts) (fnL bs) n
    refine ⟨_, rfl, tl, _, rfl, .inl (SqL.of htl), ?_⟩
    rw [List.length_map, hll]
    refine ⟨_, rfl, _, rfl, bt, _, rfl, .inr (SqT.of hbt), _, _, rfl, rfl, _, _, rfl, ?_⟩
    rw [List.length_map]
    have hbp : 0 < bs.length := List.length_pos_iff.mpr hne
    obtain ⟨r, er, hr1, hr2⟩ : ∃ r : Nat, (if ((bs.length : Nat) : Int) - 1 < (n : Int) then ((bs.length : Nat) : Int) - 1 else (n : Int)) = (r : Int) ∧ r ≤ n ∧ (r = n ∨ r + 1 = bs.length) ∧ r < bs.length := by
      by_cases c : ((bs.length : Nat) : Int) - 1 < (n : Int)
      · rw [if_pos c]; exact ⟨bs.length - 1, by omega, by omega, .inr (by omega), by omega⟩
      · rw [if_neg c]; exact ⟨n, rfl, Nat.le_refl _, .inl rfl, by omega⟩
    rw [er]
    refine ⟨_, rfl, _, rfl, tp, ts, n, rfl, htp, ?_⟩
    refine ⟨_, rfl, _, _, rfl, rfl, 1, (r : Int) + 1, rfl, ⟨by decide, by decide, by omega, by omega⟩, ?_⟩
    have en : ((r : Int) + 1 - 1).toNat = r := by omega
    rw [en]
    refine comp_range (lo := 1) (n := r) (fun i ys σ' H' => H' = H ∧ (∃ v, σ' = [v, some (.ref bt), some (.ref tl), some (.int n)]) ∧ ys = ((List.range i).map (fun i => fnL bs (i + 1) * hd (fnL ts) (fnL bs) (n - (i + 1)))).map V.int) ⟨rfl, ⟨_, rfl⟩, rfl⟩ ?_ ?_ ?_
    · rintro i ys σ' H' hi ⟨rfl, _, rfl⟩
      rw [List.length_map, List.length_map, List.length_range]
      exact Nat.le_trans (m := 400) (by omega) (by decide)
    · rintro i ys σ' H' hi ⟨rfl, ⟨v, rfl⟩, rfl⟩
      have h1 : i + 1 < bs.length := by omega
      have h2 : n - (i + 1) < (hdL (fnL ts) (fnL bs) n).length := by omega
      refine ⟨_, rfl, _, rfl, bt, _, _, V.int (fnL bs (i + 1)), rfl, rfl, SqT.of hbt, ?_, _, rfl, _, rfl, _, rfl, _, _, rfl, rfl, tl, _, _, V.int (hd (fnL ts) (fnL bs) (n - (i + 1))), rfl, rfl, SqL.of htl, ?_, _, _, rfl, rfl, ⟨Nat.lt_of_le_of_lt (fnL_small hbs _) p200, hd_bits _ _ (fnL_small hts) (fnL_small hbs) (by omega)⟩, rfl, ⟨_, rfl⟩, ?_⟩
      · rw [show (1 : Int) + (i : Int) = ((i + 1 : Nat) : Int) by omega]
        exact atI_nat (by unfold fnL; rw [List.getElem?_map, List.getD_eq_getElem?_getD, List.getElem?_eq_getElem h1]; rfl)
      · rw [show (n : Int) - (1 + (i : Int)) = ((n - (i + 1) : Nat) : Int) by omega]
        refine atI_nat ?_
        rw [← hdL_at (fnL ts) (fnL bs) (show n - (i + 1) < n by omega), List.getElem?_map, List.getD_eq_getElem?_getD, List.getElem?_eq_getElem h2]
        rfl
      · rw [List.range_succ, List.map_append, List.map_append]
        rfl
    · rintro ys σ' H' ⟨rfl, _, rfl⟩ p hp
      refine ⟨p, _, rfl, .inl (SqL.of upd_same), _, _, rfl, rfl, ?_⟩
      rw [sumN_list]
      have e : sumN r (fun i => fnL bs (i + 1) * hd (fnL ts) (fnL bs) (n - (i + 1))) = sumN n (fun i => fnL bs (i + 1) * hd (fnL ts) (fnL bs) (n - (i + 1))) := by
        rw [show n = r + (n - r) by omega]
        symm
        refine sumN_more r (n - r) _ fun i h1 h2 => ?_
        have : bs.length ≤ i + 1 := by omega
        unfold fnL
        rw [List.getD_eq_getElem?_getD, List.getElem?_eq_none this]
        simp
      have e2 := hd_eq (fnL ts) (fnL bs) n
      rw [e]
      show Q (.int (fnL ts n - _)) _
      rw [← e2]
      exact k _ (Same.new hp)
def n_heads : List Str := ["top", "bottom", "bound", "told"]
theorem sc_heads : FnScope n_heads ["top", "bottom", "bound"] (defScope s_heads) := ⟨rfl, rfl, rfl, by decide +kernel, rfl, by decide +kernel, by decide +kernel⟩
def sp_heads (A : Adr) : Sp := fun vs H Q E => ∃ (tp bt : Addr) (ts bs : List Int) (b : Int), vs = [.ref tp, .ref bt, .int b] ∧ H tp = some (.tup (ts.map V.int)) ∧ H bt = some (.tup (bs.map V.int)) ∧ bs.length ≤ 10000 ∧ (∀ x ∈ ts, x.natAbs ≤ 2 ^ 200) ∧ (∀ x ∈ bs, x.natAbs ≤ 2 ^ 200) ∧
  ((fnL bs 0 = 1 ∧ ∃ m : Nat, b = m ∧ m ≤ 400 ∧ ∀ (l : Addr) (H' : Hp), H' l = some (.lst ((hdL (fnL ts) (fnL bs) (m + 1)).map V.int)) → Same H H' → H l = none → Q (.ref l) H') ∨
   (fnL bs 0 = 1 ∧ (b < 0 ∨ 400 < b) ∧ E (.ref A.c_NoSum) none H) ∨ (fnL bs 0 ≠ 1 ∧ E (.ref A.c_NoBottom) none H))
theorem ok_heads (T : Txt K mg A) : FnOk P w K mg base (CX1 P w) 3 A.a_heads A.fd_heads ["top", "bottom", "bound"] (sp_heads A) := by
  refine T.F_heads.okE sc_heads (fun vs H Q E h => ?_) (fun cdv Ar outer s H vs Q E hr h => ?_)
  · obtain ⟨tp, bt, ts, bs, b, rfl, htp, hbt, hbl, hts, hbs, h⟩ := h
    rfl
  · obtain ⟨tp, bt, ts, bs, b, rfl, htp, hbt, hbl, hts, hbs, h⟩ := h
    refine ⟨_, (pss_cons (ps_if (pt_cmpR op_ne (pe_call (ok_at_power T) (hr.mono (by decide)) rfl T.g_at_power T.F_at_power.kp T.b_at_power .nil pass0 (pa_cons (pv 1) (pa_cons pe_int pa_nil))) pe_int (nomark _))
          (pss_one (ps_raise rfl T.x_NoBottom rfl T.g_NoBottom (pa_cons pe_str pa_nil))) pss_nil)
        (pss_cons (ps_expr (pe_call (ok_refuse_bound T) (hr.mono (by decide)) rfl T.g_refuse_bound T.F_refuse_bound.kp T.b_refuse_bound .nil passE (pa_cons (pv 2) pa_nil)))
        (pss_cons (ps_set (i := 3) sc_heads.nd rfl (by first | exact Or.inl rfl | exact Or.inr rfl) (pe_lst pa_nil))
        (pss_cons (ps_ok fun ok => ps_while (ownE ok) (pt_cmpR op_le (pe_callB call_len_seq rfl T.b_len PySem.boot_len (pa_cons (pv 3) pa_nil)) (pv 2) (nomark _))
          (pss_one (ps_expr (pe_bm PySem.F.plainAttrs_list PySem.F.slot_list_append PySem.F.type_list_append mt_append (pv 3) (pa_cons (pe_call (ok_next_head T) (hr.mono (by decide)) rfl T.g_next_head T.F_next_head.kp T.b_next_head .nil pass0 (pa_cons (pv 0) (pa_cons (pv 1) (pa_cons (pv 3) pa_nil)))) pa_nil)))))
        (pss_one (ps_ret (pv 3))))))), ?_⟩
    refine ⟨_, rfl, bt, bs, 0, rfl, hbt, rfl, _, rfl, ?_⟩
    rw [show (bs.getD 0 0) = fnL bs 0 from rfl, decV]
    rcases h with ⟨h1, m, rfl, hm, k⟩ | ⟨h1, hb, hE⟩ | ⟨h1, hE⟩
    · refine iteNS h1 ?_
      have hne : bs ≠ [] := fun z => by
        rw [z] at h1
        cases h1
      refine ⟨_, rfl, (m : Int), rfl, .inl ⟨by omega, by omega, ?_⟩⟩
      refine ⟨by show 0 ≤ sizeLine; decide, fun l hl => ?_⟩
      refine ⟨fun f σ' H' => ∃ i : Nat, i ≤ m + 1 ∧ f = m + 1 - i ∧ σ' = [some (.ref tp), some (.ref bt), some (.int m), some (.ref l)] ∧ H' l = some (.lst ((hdL (fnL ts) (fnL bs) i).map V.int)) ∧ Same H H', ⟨m + 1, 0, Nat.zero_le _, rfl, rfl, upd_same, Same.new hl⟩, ?_⟩
      rintro f σ' H' ⟨i, hi, rfl, rfl, g, s⟩
      have hlen : ((hdL (fnL ts) (fnL bs) i).map V.int).length = i := by rw [List.length_map, hdL_len]
      refine ⟨_, rfl, l, _, rfl, .inl (SqL.of g), _, rfl, _, _, rfl, rfl, _, rfl, ?_⟩
      rw [hlen]
      refine ite2 (fun hc => ?_) (fun hc => ?_)
      · have hc' : ((i : Nat) : Int) ≤ (m : Int) := of_decide_eq_true hc
        refine ⟨fun σ3 H3 => σ3 = [some (.ref tp), some (.ref bt), some (.int m), some (.ref l)] ∧ H3 l = some (.lst ((hdL (fnL ts) (fnL bs) (i + 1)).map V.int)) ∧ Same H H3, fun σ3 H3 ⟨e1, e2, e3⟩ => ⟨m + 1 - (i + 1), by omega, i + 1, by omega, rfl, e1, e2, e3⟩, ?_⟩
        refine ⟨_, rfl, .inl ⟨rfl, _, SqL.of g⟩, _, rfl, _, rfl, _, rfl, tp, bt, l, ts, bs, i, rfl, s _ _ htp, s _ _ hbt, g, hbl, hne, by omega, hts, hbs, fun H2 s2 => ?_⟩
        have g2 := s2 _ _ g
        refine ⟨l, _, _, rfl, rfl, g2, ?_, rfl, ?_, fun b o e => ?_⟩
        · rw [hlen]
          exact Nat.lt_of_le_of_lt (m := 400) (by omega) (by decide)
        · have e : hdL (fnL ts) (fnL bs) (i + 1) = hdL (fnL ts) (fnL bs) i ++ [hd (fnL ts) (fnL bs) i] := by
            rw [hdL, hd_eq]
            congr 3
            exact sumN_congr fun j hj => by rw [hdL_at _ _ (by omega)]
          rw [upd_same, e, List.map_append]
          rfl
        · rw [upd_ne (ne_of_none e hl)]
          exact s2 _ _ (s _ _ e)
      · have hc' : ¬ ((i : Nat) : Int) ≤ (m : Int) := fun z => hc (decide_eq_true z)
        have e : i = m + 1 := by omega
        subst e
        exact ⟨_, rfl, k l H' g s hl⟩
    · refine iteNS h1 ?_
      exact ⟨_, rfl, b, rfl, .inr ⟨hb, hE⟩⟩
    · refine ite2 (fun _ => ⟨by show 1 ≤ sizeLine; decide, hE⟩) (fun hc => absurd (by simp [h1]) hc)
def n_often : List Str := ["heap", "part"]
theorem sc_often : FnScope n_often ["heap", "part"] (defScope s_often) := ⟨rfl, rfl, rfl, by decide +kernel, rfl, by decide +kernel, by decide +kernel⟩
def sp_often (K : PySem.W.Frag) : Sp := fun vs H Q _ => ∃ (a : Addr) (ns : List Int) (y : Int), vs = [.ref a, .int y] ∧ H a = some (.tup (ns.map V.int)) ∧ Q (.int (ns.count y : Nat)) H
theorem ok_often (T : Txt K mg A) : FnOk P w K mg base CX0 1 A.a_often A.fd_often ["heap", "part"] (sp_often K) := by
  refine T.F_often.ok sc_often (fun vs H Q E h => ?_) (fun cdv Ar outer s H vs Q E hr h => ?_)
  · obtain ⟨a, ns, y, rfl, hS, k⟩ := h
    rfl
  · obtain ⟨a, ns, y, rfl, hS, k⟩ := h
    refine ⟨_, (pss_one (ps_ret (pe_bm PySem.F.plainAttrs_tuple PySem.F.slot_tuple_count PySem.F.type_tuple_count mt_countT (pv 0) (pa_cons (pv 1) pa_nil)))), ?_⟩
    exact ⟨_, rfl, .inr (.inl ⟨rfl, .inr ⟨_, hS⟩⟩), _, rfl, a, _, _, rfl, rfl, SqT.of hS, rfl, flat_ints _, by rw [cntV_ints]; exact k⟩
def n_is_of_store : List Str := ["store", "heap", "mosts", "part"]
theorem sc_is_of_store : FnScope n_is_of_store ["store", "heap"] (defScope s_is_of_store) := ⟨rfl, rfl, rfl, by decide +kernel, rfl, by decide +kernel, by decide +kernel⟩
def sp_made (K : PySem.W.Frag) : Sp := fun vs H Q _ => ∃ (a : Addr) (xs : List V) (rows : List RowS) (b : Addr) (hs : List Int), vs = [.ref a, .ref b] ∧ H a = some (.tup xs) ∧ All2 RowV H rows xs ∧ rows.length ≤ 6 ∧ (rows.map (·.1)).Nodup ∧ H b = some (.tup (hs.map V.int)) ∧ ∀ (H' : Hp), Same H H' → Q (.bl (madeOf rows hs)) H'
theorem ok_is_of_store (T : Txt K mg A) : FnOk P w K mg base CX0 3 A.a_is_of_store A.fd_is_of_store ["store", "heap"] (sp_made K) := by
  refine T.F_is_of_store.ok sc_is_of_store (fun vs H Q E h => ?_) (fun cdv Ar outer s H vs Q E hr h => ?_)
  · obtain ⟨a, xs, rows, b, hs, rfl, ha, hrw, hlen, hn, hb, k⟩ := h
    rfl
  · obtain ⟨a, xs, rows, b, hs, rfl, ha, hrw, hlen, hn, hb, k⟩ := h
    refine ⟨_, (pss_cons (ps_set (i := 2) sc_is_of_store.nd rfl (by first | exact Or.inl rfl | exact Or.inr rfl) (pe_callTy (call_dict_rows rfl) rfl T.b_dict boot_dict (pa_cons (pv 0) pa_nil)))
        (pss_cons (ps_for PassesOwn.never rfl (pi_tup (pv 1)) (pg_name (i := 3) sc_is_of_store.nd rfl (by first | exact Or.inl rfl | exact Or.inr rfl))
          (pss_cons (ps_if (pt_cmpR (op_notInD (huR hr)) (pv 3) (pv 2) rfl)
          (pss_one (ps_ret pe_bl)) pss_nil)
        (pss_one (ps_if (PW.pt (pw_and (pt_cmpR op_notN (pe_dget (huR hr) (pv 2) (pv 3) (fun _ _ => rfl)) pe_non (nomark _)) (pw_and1 (pt_cmpR op_gt (pe_call (ok_often T) (hr.mono (by decide)) rfl T.g_often T.F_often.kp T.b_often .nil pass0 (pa_cons (pv 1) (pa_cons (pv 3) pa_nil))) (pe_dget (huR hr) (pv 2) (pv 3) (fun _ _ => rfl)) (nomark _)))))
          (pss_one (ps_ret pe_bl)) pss_nil))))
        (pss_one (ps_ret pe_bl)))), ?_⟩
    refine ⟨_, rfl, a, xs, rows, rfl, ha, hrw, by omega, fun d hd => ?_⟩
    have s0 := Same.new (o := .dK (tabK rows)) hd
    have g0 := upd_same (H := H) (a := d) (o := .dK (tabK rows))
    generalize upd H d (.dK (tabK rows)) = H0 at s0 g0
    refine ⟨_, rfl, b, rfl, ⟨_, SqT.of (s0 _ _ hb)⟩, for_tup (xs := hs.map V.int) (fun i σ' H' => H' = H0 ∧ (∃ v, σ' = [some (.ref a), some (.ref b), some (.ref d), v]) ∧ (hs.take i).all (mayStand rows hs) = true) ⟨rfl, ⟨_, rfl⟩, rfl⟩ ?_ ?_ ?_⟩
    · rintro i σ' H' hi ⟨rfl, _⟩
      exact SqT.of (s0 _ _ hb)
    · rintro i x σ' H' hx ⟨rfl, ⟨v, rfl⟩, hall⟩
      obtain ⟨z, hz, rfl⟩ := map_at hx
      have hi := (List.getElem?_eq_some_iff.mp hz).1
      have ez := (List.getElem?_eq_some_iff.mp hz).2
      have ht : hs.take (i + 1) = hs.take i ++ [z] := by rw [take_snoc hi, ez]
      have hg : DGet H' d (.int z) ((lookR rows z).map optN) := by
        have := DGet.k (k := .inl z) g0
        rw [tab_look hn] at this
        exact this
      have bad : mayStand rows hs z = false → madeOf rows hs = false := fun h => by
        unfold madeOf
        rw [List.all_eq_false]
        exact ⟨z, List.mem_of_getElem? hz, by rw [h]; decide⟩
      have fin : mayStand rows hs z = true → (hs.take (i + 1)).all (mayStand rows hs) = true := fun h => by
        rw [ht, List.all_append, hall, List.all_cons, h]
        rfl
      rcases hlk : lookR rows z with _ | _ | m
      · rw [hlk] at hg
        refine ⟨_, rfl, _, rfl, d, _, rfl, hg, _, rfl, iteT ?_⟩
        have := k H' s0
        rw [bad (by unfold mayStand; rw [hlk])] at this
        exact this
      · rw [hlk] at hg
        refine ⟨_, rfl, _, rfl, d, _, rfl, hg, _, rfl, iteF ?_⟩
        refine ⟨_, rfl, _, rfl, d, _, rfl, hg, rfl, _, rfl, iteF ?_⟩
        exact ⟨rfl, ⟨_, rfl⟩, fin (by unfold mayStand; rw [hlk])⟩
      · rw [hlk] at hg
        refine ⟨_, rfl, _, rfl, d, _, rfl, hg, _, rfl, iteF ?_⟩
        refine ⟨_, rfl, _, rfl, d, _, rfl, hg, rfl, _, rfl, ?_⟩
        refine ⟨_, rfl, _, rfl, b, hs, z, rfl, s0 _ _ hb, _, rfl, _, rfl, d, _, rfl, hg, _, _, rfl, rfl, _, rfl, ite2 (fun hc => ?_) (fun hc => ?_)⟩
        · have hc' : (m : Int) < ((hs.count z : Nat) : Int) := of_decide_eq_true hc
          have := k H' s0
          rw [bad (by unfold mayStand; rw [hlk]; exact decide_eq_false (by omega))] at this
          exact this
        · have hc' : ¬ (m : Int) < ((hs.count z : Nat) : Int) := fun z => hc (decide_eq_true z)
          exact ⟨rfl, ⟨_, rfl⟩, fin (by unfold mayStand; rw [hlk]; exact decide_eq_true (by omega))⟩
    · rintro σ' H' ⟨rfl, _, hall⟩
      rw [List.length_map, List.take_length] at hall
      have := k H' s0
      rw [show madeOf rows hs = true from hall] at this
      exact this
def n_trimmed : List Str := ["numbers", "length"]
theorem sc_trimmed : FnScope n_trimmed ["numbers"] (defScope s_trimmed) := ⟨rfl, rfl, rfl, by decide +kernel, rfl, by decide +kernel, by decide +kernel⟩
def sp_trimmed : Sp := fun vs H Q _ => ∃ (a : Addr) (ns : List Int), vs = [.ref a] ∧ H a = some (.lst (ns.map V.int)) ∧ ns.length ≤ 100000 ∧ ∀ (p : Addr) (H' : Hp), H' p = some (.tup ((trimI ns).map V.int)) → Same H H' → H p = none → Q (.ref p) H'
theorem ok_trimmed (T : Txt K mg A) : FnOk P w K mg base CX0 1 A.a_trimmed A.fd_trimmed ["numbers"] sp_trimmed := by
  refine T.F_trimmed.ok sc_trimmed (fun vs H Q E h => ?_) (fun cdv Ar outer s H vs Q E hr h => ?_)
  · obtain ⟨a, ns, rfl, ha, hl, k⟩ := h
    rfl
  · obtain ⟨a, ns, rfl, ha, hl, k⟩ := h
    refine ⟨_, (pss_cons (ps_set (i := 1) sc_trimmed.nd rfl (by first | exact Or.inl rfl | exact Or.inr rfl) (pe_callB call_len_seq rfl T.b_len PySem.boot_len (pa_cons (pv 0) pa_nil)))
        (pss_cons (ps_while PassesOwn.never (PW.pt (pw_and (pt_cmpR op_gt (pv 1) pe_int (nomark _)) (pw_and1 (pt_cmpR op_eq (pe_ix ix_list (pv 0) (pe_op op_sub (pv 1) pe_int) (fun _ _ => rfl)) pe_int (nomark _)))))
          (pss_one (ps_aug (i := 1) sc_trimmed.nd rfl (by first | exact Or.inl rfl | exact Or.inr rfl) pe_int ip_sub)))
        (pss_one (ps_ret (pe_callTy call_tuple_of rfl T.b_tuple boot_tuple (pa_cons (pe_slice sl_list (pv 0) po_none (po_some (pv 1))) pa_nil)))))), ?_⟩
    refine ⟨_, rfl, a, _, rfl, .inl (SqL.of ha), ?_⟩
    rw [List.length_map]
    refine ⟨fun f σ' H' => H' = H ∧ f ≤ ns.length ∧ σ' = [some (.ref a), some (.int f)] ∧ trimI (ns.take f) = trimI ns, ⟨ns.length, rfl, Nat.le_refl _, rfl, by rw [List.take_length]⟩, ?_⟩
    rintro f σ' H' ⟨rfl, hf, rfl, ht⟩
    have done : trimI (ns.take f) = ns.take f → ∀ (l p : Addr), H' l = none → upd H' l (.lst (cutV (ns.map V.int) none (some (f : Int)))) p = none → Q (.ref p) (upd (upd H' l (.lst (cutV (ns.map V.int) none (some (f : Int))))) p (.tup (cutV (ns.map V.int) none (some (f : Int))))) := fun e l p h1 h2 => by
      refine k p _ ?_ ((Same.new h1).trans (Same.new h2)) ((Same.new h1).free h2)
      rw [upd_same, ← ht, e]
      congr 2
      unfold cutV
      rw [HT.sIx_none, show HT.sIx (ns.map V.int).length (ns.map V.int).length (some (f : Int)) = min f (ns.map V.int).length from HT.sIx_nat _ _ f, List.length_map, Nat.min_eq_left hf, List.drop_zero, Nat.sub_zero, List.map_take]
    refine ⟨_, rfl, _, _, rfl, rfl, _, rfl, ?_⟩
    refine ite2 (fun hc => ?_) (fun hc => ?_)
    · have hc' : (0 : Int) < (f : Int) := of_decide_eq_true hc
      obtain ⟨t, rfl⟩ : ∃ t, f = t + 1 := ⟨f - 1, by omega⟩
      have htl : t < ns.length := by omega
      refine ⟨_, rfl, _, rfl, _, _, rfl, rfl, a, _, _, V.int (ns[t]), rfl, rfl, SqL.of ha, ?_, rfl, _, rfl, ?_⟩
      · rw [show ((t + 1 : Nat) : Int) - 1 = (t : Int) by omega]
        exact atI_nat (by rw [List.getElem?_map, List.getElem?_eq_getElem htl]; rfl)
      · rw [take_snoc htl] at ht done
        refine ite2 (fun hz => ?_) (fun hz => ?_)
        · have hz' : ns[t] = 0 := by
            have := of_decide_eq_true hz
            injection this
          refine ⟨fun σ3 H3 => H3 = H' ∧ σ3 = [some (.ref a), some (.int t)], fun σ3 H3 ⟨e1, e2⟩ => ⟨t, by omega, e1, by omega, e2, ?_⟩, ?_⟩
          · rw [hz', trim_zero] at ht
            exact ht
          · refine ⟨_, rfl, _, _, rfl, rfl, rfl, ?_⟩
            show [some (V.ref a), some (V.int (((t + 1 : Nat) : Int) - 1))] = _
            rw [show ((t + 1 : Nat) : Int) - 1 = (t : Int) by omega]
        · have hz' : ns[t] ≠ 0 := fun z => hz (by rw [z]; exact decide_eq_true rfl)
          refine ⟨_, rfl, ?_⟩
          dsimp only [tNoPart, tNil]
          exact ⟨_, rfl, _, rfl, a, _, rfl, SqL.of ha, fun l hl1 => ⟨l, _, rfl, .inl ⟨SqL.of upd_same, fun p hp => done (trim_last _ hz') l p hl1 hp⟩⟩⟩
    · have f0 : f = 0 := by
        have hc' : ¬ (0 : Int) < (f : Int) := fun z => hc (decide_eq_true z)
        omega
      subst f0
      refine ⟨_, rfl, ?_⟩
      dsimp only [tNoPart, tNil]
      exact ⟨_, rfl, _, rfl, a, _, rfl, SqL.of ha, fun l hl1 => ⟨l, _, rfl, .inl ⟨SqL.of upd_same, fun p hp => done rfl l p hl1 hp⟩⟩⟩
def n_poly_plus : List Str := ["one", "other", "length"]
theorem sc_poly_plus : FnScope n_poly_plus ["one", "other"] (defScope s_poly_plus) := ⟨rfl, rfl, rfl, by decide +kernel, rfl, by decide +kernel, by decide +kernel⟩
def sp_poly_plus : Sp := fun vs H Q _ => ∃ (a b : Addr) (xs ys : List Int), vs = [.ref a, .ref b] ∧ H a = some (.tup (xs.map V.int)) ∧ H b = some (.tup (ys.map V.int)) ∧ xs.length ≤ 10000 ∧ ys.length ≤ 10000 ∧
  ∀ (p : Addr) (H' : Hp), H' p = some (.tup ((trimI (plusL xs ys)).map V.int)) → Same H H' → H p = none → Q (.ref p) H'
theorem ok_poly_plus (T : Txt K mg A) : FnOk P w K mg base CX0 2 A.a_poly_plus A.fd_poly_plus ["one", "other"] sp_poly_plus := by
  refine T.F_poly_plus.ok sc_poly_plus (fun vs H Q E h => ?_) (fun cdv Ar outer s H vs Q E hr h => ?_)
  · obtain ⟨a, b, xs, ys, rfl, ha, hb, hx, hy, k⟩ := h
    rfl
  · obtain ⟨a, b, xs, ys, rfl, ha, hb, hx, hy, k⟩ := h
    refine ⟨_, (pss_cons (ps_set (i := 2) sc_poly_plus.nd rfl (by first | exact Or.inl rfl | exact Or.inr rfl) (pe_callB (call_max2 rfl) rfl T.b_max boot_max (pa_cons (pe_callB call_len_seq rfl T.b_len PySem.boot_len (pa_cons (pv 0 (hv := Or.inr (Or.inl rfl))) pa_nil)) (pa_cons (pe_callB call_len_seq rfl T.b_len PySem.boot_len (pa_cons (pv 1 (hv := Or.inr (Or.inl rfl))) pa_nil)) pa_nil))))
        (pss_one (ps_ret (pe_call (ok_trimmed T) (hr.mono (by decide)) rfl T.g_trimmed T.F_trimmed.kp T.b_trimmed .nil pass0 (pa_cons (pe_comp (ls := ["power"]) (fr := [("one", 0), ("other", 1)]) (cs_of (defScope s_poly_plus) n_poly_plus rfl rfl (by decide +kernel)) rfl (pi_range1 rfl T.b_range (pa_cons (pv 2) pa_nil)) (fun _ _ _ _ => pgc 0 (by decide +kernel) rfl rfl) (fun _ _ _ _ => pf_nil) (fun _ _ _ _ => (pe_op op_add (pe_call (ok_at_power T) (hr.mono (by decide)) (glc (defScope s_poly_plus)) T.g_at_power T.F_at_power.kp T.b_at_power .nil pass0 (pa_cons (pvc (defScope s_poly_plus) 1) (pa_cons (pvc (defScope s_poly_plus) 0) pa_nil))) (pe_call (ok_at_power T) (hr.mono (by decide)) (glc (defScope s_poly_plus)) T.g_at_power T.F_at_power.kp T.b_at_power .nil pass0 (pa_cons (pvc (defScope s_poly_plus) 2) (pa_cons (pvc (defScope s_poly_plus) 0) pa_nil)))))) pa_nil))))), ?_⟩
    refine ⟨_, rfl, a, _, rfl, .inr (SqT.of ha), _, rfl, b, _, rfl, .inr (SqT.of hb), _, _, rfl, ?_⟩
    rw [List.length_map, List.length_map]
    have em : (if ((ys.length : Nat) : Int) > ((xs.length : Nat) : Int) then ((ys.length : Nat) : Int) else ((xs.length : Nat) : Int)) = ((max xs.length ys.length : Nat) : Int) := by
      by_cases c : ((ys.length : Nat) : Int) > ((xs.length : Nat) : Int)
      · rw [if_pos c]; omega
      · rw [if_neg c]; omega
    rw [em]
    refine ⟨_, rfl, _, rfl, by omega, by omega, comp_range (n := ((max xs.length ys.length : Nat) : Int).toNat) (fun i zs σ' H' => H' = H ∧ (∃ v, σ' = [v, some (.ref a), some (.ref b)]) ∧ zs = ((List.range i).map (fun k => xs.getD k 0 + ys.getD k 0)).map V.int) ⟨rfl, ⟨_, rfl⟩, rfl⟩ ?_ ?_ ?_⟩
    · rintro i zs σ' H' hi ⟨rfl, _, rfl⟩
      rw [List.length_map, List.length_map, List.length_range]
      exact Nat.le_trans (m := 10000) (by omega) (by decide)
    · rintro i zs σ' H' hi ⟨rfl, ⟨v, rfl⟩, rfl⟩
      rw [Int.zero_add]
      refine ⟨_, rfl, _, rfl, a, xs, i, rfl, ha, _, rfl, _, rfl, b, ys, i, rfl, hb, _, _, rfl, rfl, rfl, ⟨_, rfl⟩, ?_⟩
      rw [List.range_succ, List.map_append, List.map_append]
      rfl
    · rintro zs σ' H' ⟨rfl, _, rfl⟩ p hp
      rw [Int.toNat_natCast]
      refine ⟨p, plusL xs ys, rfl, upd_same, ?_, fun q H2 gq s2 nq => k q H2 gq ((Same.new hp).trans s2) ((Same.new hp).free nq)⟩
      unfold plusL
      rw [List.length_map, List.length_range]
      omega
def n_product_of : List Str := ["powers", "poly", "power"]
theorem sc_product_of : FnScope n_product_of ["powers"] (defScope s_product_of) := ⟨rfl, rfl, rfl, by decide +kernel, rfl, by decide +kernel, by decide +kernel⟩
theorem prodL_take (ps : List Nat) {i p : Nat} (h : ps[i]? = some p) : prodL (ps.take (i + 1)) [1] = stepP (prodL (ps.take i) [1]) p := by
  unfold prodL
  rw [List.take_succ, h, List.foldl_append]
  rfl
def intsN (ps : List Nat) : List V := ps.map fun (p : Nat) => V.int (p : Int)
theorem rep_zero (p : Nat) : (List.replicate p [V.int 0]).flatten = (List.replicate p (0 : Int)).map V.int := by simp
def sp_product : Sp := fun vs H Q _ => ∃ (l : Addr) (ps : List Nat), vs = [.ref l] ∧ H l = some (.lst (intsN ps)) ∧ ps.length ≤ 6 ∧ (∀ p ∈ ps, 1 ≤ p ∧ p ≤ 1000) ∧ ∀ (q : Addr) (H' : Hp), H' q = some (.tup ((prodL ps [1]).map V.int)) → Same H H' → Q (.ref q) H'
theorem ok_product_of (T : Txt K mg A) : FnOk P w K mg base CX0 3 A.a_product_of A.fd_product_of ["powers"] sp_product := by
  refine T.F_product_of.ok sc_product_of (fun vs H Q E h => ?_) (fun cdv Ar outer s H vs Q E hr h => ?_)
  · obtain ⟨l, ps, rfl, hl, hlen, hps, k⟩ := h
    rfl
  · obtain ⟨l, ps, rfl, hl, hlen, hps, k⟩ := h
    refine ⟨_, (pss_cons (ps_set (i := 1) sc_product_of.nd rfl (by first | exact Or.inl rfl | exact Or.inr rfl) (pe_tup (pa_cons pe_int pa_nil)))
        (pss_cons (ps_for PassesOwn.never rfl (pi_list (pv 0)) (pg_name (i := 2) sc_product_of.nd rfl (by first | exact Or.inl rfl | exact Or.inr rfl))
          (pss_one (ps_set (i := 1) sc_product_of.nd rfl (by first | exact Or.inl rfl | exact Or.inr rfl) (pe_call (ok_poly_plus T) (hr.mono (by decide)) rfl T.g_poly_plus T.F_poly_plus.kp T.b_poly_plus .nil pass0 (pa_cons (pv 1) (pa_cons (pe_op op_catA (pe_op op_repA (pe_tup (pa_cons pe_int pa_nil)) (pv 2)) (pe_callTy call_tuple_of rfl T.b_tuple boot_tuple (pa_cons (pe_comp (ls := ["number"]) (fr := []) (cs_of (defScope s_product_of) n_product_of rfl rfl (by decide +kernel)) rfl (pi_tup (pv 1)) (fun _ _ _ _ => pgc 0 (by decide +kernel) rfl rfl) (fun _ _ _ _ => pf_nil) (fun _ _ _ _ => (pe_un un_neg (pvc (defScope s_product_of) 0)))) pa_nil))) pa_nil))))))
        (pss_one (ps_ret (pv 1))))), ?_⟩
    refine ⟨by show 1 ≤ sizeLine; decide, fun z0 hz0 => ?_⟩
    have lenI : (intsN ps).length = ps.length := List.length_map _
    refine ⟨_, rfl, l, rfl, ⟨_, SqL.of (Same.new hz0 _ _ hl)⟩, for_list (xs := intsN ps) (fun i σ' H' => Same H H' ∧ ∃ (q : Addr) (v : Option V), σ' = [some (.ref l), some (.ref q), v] ∧ H' q = some (.tup ((prodL (ps.take i) [1]).map V.int))) ⟨Same.new hz0, z0, _, rfl, upd_same⟩ ?_ ?_ ?_⟩
    · rintro i σ' H' hi ⟨s, _⟩
      exact SqL.of (s _ _ hl)
    · rintro i x σ' H1 hx ⟨s, q, v, rfl, gq⟩
      obtain ⟨p, hp, rfl⟩ : ∃ p : Nat, ps[i]? = some p ∧ x = V.int (p : Int) := by
        unfold intsN at hx
        rw [List.getElem?_map] at hx
        cases e : ps[i]? with
        | none => rw [e] at hx; cases hx
        | some p => rw [e] at hx; exact ⟨p, rfl, (Option.some.inj hx).symm⟩
      have hpb := hps p (List.mem_of_getElem? hp)
      have hil := (List.getElem?_eq_some_iff.mp hp).1
      have lq : (prodL (ps.take i) [1]).length ≤ 6001 := by
        have := prodL_len (ps.take i) [1] fun p hp => (hps p (List.mem_of_mem_take hp)).2
        rw [List.length_take] at this
        have e1 : ([1] : List Int).length = 1 := rfl
        omega
      have step := prodL_take ps hp
      generalize prodL (ps.take i) [1] = poly at gq lq step
      refine ⟨_, rfl, by show 1 ≤ sizeLine; decide, fun z hz => ⟨_, rfl, ?_⟩⟩
      have s2 := Same.new (o := .tup [V.int 0]) hz
      refine rep_any upd_same (by simp) hpb.1 (by show 1 * p ≤ 100000; omega) fun z2 H3 s3 g3 => ?_
      rw [rep_zero] at g3
      have gq3 := s3 _ _ (s2 _ _ gq)
      refine ⟨_, rfl, q, rfl, ⟨_, SqT.of gq3⟩, comp_tup (xs := poly.map V.int) (fun i ys σ' H' => H' = H3 ∧ (∃ v, σ' = [v]) ∧ ys = ((poly.take i).map (fun x => -x)).map V.int) ⟨rfl, ⟨_, rfl⟩, rfl⟩ ?_ ?_ ?_⟩
      · rintro i ys σ' H' hi ⟨rfl, _, rfl⟩
        refine ⟨SqT.of gq3, ?_⟩
        rw [List.length_map, List.length_map, List.length_take]
        exact Nat.le_trans (m := 6001) (by omega) (by decide)
      · rintro i x ys σ' H' hx ⟨rfl, ⟨v, rfl⟩, rfl⟩
        obtain ⟨z, hz, rfl⟩ := map_at hx
        refine ⟨_, rfl, _, rfl, rfl, ⟨_, rfl⟩, ?_⟩
        rw [List.take_succ, hz, List.map_append, List.map_append]
        rfl
      rintro ys σ' H' ⟨rfl, _, rfl⟩ w hw
      rw [List.length_map, List.take_length]
      refine ⟨w, _, rfl, .inl ⟨SqL.of upd_same, fun t ht => ?_⟩⟩
      have s4 := (Same.new (o := .lst ((poly.map (fun x => -x)).map V.int)) hw).trans (Same.new (o := .tup ((poly.map (fun x => -x)).map V.int)) ht)
      have g4 := upd_same (H := upd H' w (.lst ((poly.map (fun x => -x)).map V.int))) (a := t) (o := .tup ((poly.map (fun x => -x)).map V.int))
      generalize upd (upd H' w (.lst ((poly.map (fun x => -x)).map V.int))) t (.tup ((poly.map (fun x => -x)).map V.int)) = H4 at s4 g4
      refine cat_anyB (hs := List.replicate p 0) (ms := poly.map (fun x => -x)) (s4 _ _ g3) g4 (by rw [List.length_append, List.length_replicate, List.length_map]; omega) fun v H5 gv s5 => ?_
      obtain ⟨c, rfl, gc⟩ := gv
      have s15 := s2.trans (s3.trans (s4.trans s5))
      refine ⟨q, c, poly, _, rfl, s15 _ _ gq, gc, by omega, by rw [List.length_append, List.length_replicate, List.length_map]; omega, fun u H6 gu s6 nu => ⟨s.trans (s15.trans s6), u, _, rfl, ?_⟩⟩
      rw [step]
      exact gu
    · rintro σ' H' ⟨s, q, v, rfl, gq⟩
      rw [lenI, List.take_length] at gq
      exact ⟨_, rfl, k q H' gq s⟩
def n_top_of : List Str := ["store"]
theorem sc_top_of : FnScope n_top_of ["store"] (defScope s_top_of) := ⟨rfl, rfl, rfl, by decide +kernel, rfl, by decide +kernel, by decide +kernel⟩
def sp_top_of : Sp := fun vs H Q _ => ∃ (a : Addr) (xs : List V) (rows : List RowS), vs = [.ref a] ∧ H a = some (.tup xs) ∧ All2 RowV H rows xs ∧ rows.length ≤ 6 ∧ (∀ r ∈ rows, 1 ≤ r.1 ∧ r.1 ≤ 24 ∧ ∀ m, r.2 = some m → m ≤ 9) ∧ ∀ (q : Addr) (H' : Hp), H' q = some (.tup ((prodL (topsS rows) [1]).map V.int)) → Same H H' → Q (.ref q) H'
theorem tops_len (rows : List RowS) : (topsS rows).length ≤ rows.length := List.length_filterMap_le _ _
theorem ok_top_of (T : Txt K mg A) : FnOk P w K mg base CX0 4 A.a_top_of A.fd_top_of ["store"] sp_top_of := by
  refine T.F_top_of.ok sc_top_of (fun vs H Q E h => ?_) (fun cdv Ar outer s H vs Q E hr h => ?_)
  · obtain ⟨a, xs, rows, rfl, ha, hrw, hlen, hb, k⟩ := h
    rfl
  · obtain ⟨a, xs, rows, rfl, ha, hrw, hlen, hb, k⟩ := h
    refine ⟨_, (pss_one (ps_ret (pe_call (ok_product_of T) (hr.mono (by decide)) rfl T.g_product_of T.F_product_of.kp T.b_product_of .nil pass0 (pa_cons (pe_comp (ls := ["row"]) (fr := []) (cs_of (defScope s_top_of) n_top_of rfl rfl (by decide +kernel)) rfl (pi_tup (pv 0)) (fun _ _ _ _ => pgc 0 (by decide +kernel) rfl rfl) (fun _ _ _ _ => pf_one (pt_cmpR op_notN (pe_ix (ix_tupK K rfl) (pvc (defScope s_top_of) 0) pe_int (fun _ _ => rfl)) pe_non (nomark _))) (fun _ _ _ _ => (pe_op op_mul (pe_ix (ix_tupK K rfl) (pvc (defScope s_top_of) 0) pe_int (fun _ _ => rfl)) (pe_op op_add (pe_ix (ix_tupK K rfl) (pvc (defScope s_top_of) 0) pe_int (fun _ _ => rfl)) pe_int)))) pa_nil)))), ?_⟩
    have hxl := hrw.length
    refine ⟨_, rfl, a, rfl, ⟨_, SqT.of ha⟩, comp_tup (xs := xs) (fun i ys σ' H' => H' = H ∧ (∃ v, σ' = [v]) ∧ ys = intsN (topsS (rows.take i))) ⟨rfl, ⟨_, rfl⟩, rfl⟩ ?_ ?_ ?_⟩
    · rintro i ys σ' H' hi ⟨rfl, _, rfl⟩
      refine ⟨SqT.of ha, ?_⟩
      have h1 := tops_len (rows.take i)
      unfold intsN
      rw [List.length_map]
      rw [List.length_take] at h1
      exact small64 (by omega)
    · rintro i x ys σ' H' hx ⟨rfl, ⟨v, rfl⟩, rfl⟩
      obtain ⟨⟨p, m⟩, hr', q, rfl, hq⟩ := hrw.get hx
      have hbr := hb (p, m) (List.mem_of_getElem? hr')
      refine ⟨_, rfl, q, _, _, _, rfl, rfl, SqT.of hq, atI_nat (j := 1) rfl, rfl, _, rfl, ?_⟩
      cases m with
      | none =>
        refine iteF ⟨rfl, ⟨_, rfl⟩, ?_⟩
        unfold topsS
        rw [List.take_succ, hr', List.filterMap_append]
        simp
      | some m =>
        have hm9 := hbr.2.2 m rfl
        refine iteT ⟨_, rfl, q, _, _, _, rfl, rfl, SqT.of hq, atI_nat (j := 0) rfl, _, rfl, q, _, _, _, rfl, rfl, SqT.of hq, atI_nat (j := 1) rfl, _, _, rfl, rfl, _, _, rfl, rfl, .inl ⟨by omega, by omega⟩, rfl, ⟨_, rfl⟩, ?_⟩
        unfold topsS intsN
        rw [List.take_succ, hr', List.filterMap_append, List.map_append]
        congr 1
    rintro ys σ' H' ⟨rfl, _, rfl⟩ l hl0
    rw [← hxl, List.take_length]
    refine ⟨l, topsS rows, rfl, upd_same, Nat.le_trans (tops_len rows) hlen, fun p hp => ?_, fun q H2 gq s2 => k q H2 gq ((Same.new hl0).trans s2)⟩
    obtain ⟨⟨p', m⟩, hr', e⟩ := List.mem_filterMap.mp hp
    have hbr := hb (p', m) hr'
    cases m with
    | none => cases e
    | some m =>
      have hm9 := hbr.2.2 m rfl
      have e' : p' * (m + 1) = p := Option.some.inj e
      have h1 : 1 * 1 ≤ p' * (m + 1) := Nat.mul_le_mul hbr.1 (by omega)
      have h2 : p' * (m + 1) ≤ 24 * 10 := Nat.mul_le_mul hbr.2.1 (by omega)
      omega
def n_bottom_of : List Str := ["store"]
theorem sc_bottom_of : FnScope n_bottom_of ["store"] (defScope s_bottom_of) := ⟨rfl, rfl, rfl, by decide +kernel, rfl, by decide +kernel, by decide +kernel⟩
def sp_bottom_of : Sp := fun vs H Q _ => ∃ (a : Addr) (xs : List V) (rows : List RowS), vs = [.ref a] ∧ H a = some (.tup xs) ∧ All2 RowV H rows xs ∧ rows.length ≤ 6 ∧ (∀ r ∈ rows, 1 ≤ r.1 ∧ r.1 ≤ 24 ∧ ∀ m, r.2 = some m → m ≤ 9) ∧ ∀ (q : Addr) (H' : Hp), H' q = some (.tup ((prodL (partsS rows) [1]).map V.int)) → Same H H' → Q (.ref q) H'
theorem ok_bottom_of (T : Txt K mg A) : FnOk P w K mg base CX0 4 A.a_bottom_of A.fd_bottom_of ["store"] sp_bottom_of := by
  refine T.F_bottom_of.ok sc_bottom_of (fun vs H Q E h => ?_) (fun cdv Ar outer s H vs Q E hr h => ?_)
  · obtain ⟨a, xs, rows, rfl, ha, hrw, hlen, hb, k⟩ := h
    rfl
  · obtain ⟨a, xs, rows, rfl, ha, hrw, hlen, hb, k⟩ := h
    refine ⟨_, (pss_one (ps_ret (pe_call (ok_product_of T) (hr.mono (by decide)) rfl T.g_product_of T.F_product_of.kp T.b_product_of .nil pass0 (pa_cons (pe_comp (ls := ["row"]) (fr := []) (cs_of (defScope s_bottom_of) n_bottom_of rfl rfl (by decide +kernel)) rfl (pi_tup (pv 0)) (fun _ _ _ _ => pgc 0 (by decide +kernel) rfl rfl) (fun _ _ _ _ => pf_nil) (fun _ _ _ _ => (pe_ix (ix_tupK K rfl) (pvc (defScope s_bottom_of) 0) pe_int (fun _ _ => rfl)))) pa_nil)))), ?_⟩
    have hxl := hrw.length
    refine ⟨_, rfl, a, rfl, ⟨_, SqT.of ha⟩, comp_tup (xs := xs) (fun i ys σ' H' => H' = H ∧ (∃ v, σ' = [v]) ∧ ys = intsN (partsS (rows.take i))) ⟨rfl, ⟨_, rfl⟩, rfl⟩ ?_ ?_ ?_⟩
    · rintro i ys σ' H' hi ⟨rfl, _, rfl⟩
      refine ⟨SqT.of ha, ?_⟩
      unfold intsN partsS
      rw [List.length_map, List.length_map, List.length_take]
      exact small64 (by omega)
    · rintro i x ys σ' H' hx ⟨rfl, ⟨v, rfl⟩, rfl⟩
      obtain ⟨r, hr', q, rfl, hq⟩ := hrw.get hx
      refine ⟨_, rfl, q, _, _, _, rfl, rfl, SqT.of hq, atI_nat (j := 0) rfl, rfl, ⟨_, rfl⟩, ?_⟩
      unfold intsN partsS
      rw [List.take_succ, hr', List.map_append, List.map_append]
      rfl
    rintro ys σ' H' ⟨rfl, _, rfl⟩ l hl0
    rw [← hxl, List.take_length]
    refine ⟨l, partsS rows, rfl, upd_same, by unfold partsS; rw [List.length_map]; exact hlen, fun p hp => ?_, fun q H2 gq s2 => k q H2 gq ((Same.new hl0).trans s2)⟩
    obtain ⟨r, hr', rfl⟩ := List.mem_map.mp hp
    have := hb r hr'
    omega
def n_numbers_of : List Str := ["store", "bound"]
theorem sc_numbers_of : FnScope n_numbers_of ["store", "bound"] (defScope s_numbers_of) := ⟨rfl, rfl, rfl, by decide +kernel, rfl, by decide +kernel, by decide +kernel⟩
def sp_numbers_of (A : Adr) : Sp := fun vs H Q E => ∃ (a : Addr) (xs : List V) (rows : List RowS) (b : Int), vs = [.ref a, .int b] ∧ H a = some (.tup xs) ∧ All2 RowV H rows xs ∧ rows.length ≤ 6 ∧ (∀ r ∈ rows, 1 ≤ r.1 ∧ r.1 ≤ 24 ∧ ∀ m, r.2 = some m → m ≤ 9) ∧
  ((∃ m : Nat, b = m ∧ m ≤ 400 ∧ ∀ (l : Addr) (H' : Hp), H' l = some (.lst ((dueL m rows (1 :: List.replicate m 0)).map V.int)) → Same H H' → H l = none → Q (.ref l) H') ∨ ((b < 0 ∨ 400 < b) ∧ ∀ H', Same H H' → E (.ref A.c_NoSum) none H'))
theorem fnL_fnG : fnL = fnG := rfl
theorem prod_ok {ps : List Nat} (h : ps.length ≤ 6) : ∀ x ∈ prodL ps [1], x.natAbs ≤ 2 ^ 200 := by
  have h1 := prodL_small ps [1] 1 fun k => by
    cases k with
    | zero => exact Nat.le_refl _
    | succ k =>
      rw [show fnG [1] (k + 1) = 0 from getD_over (by simp)]
      exact Nat.zero_le _
  refine mem_small fun k => Nat.le_trans (h1 k) ?_
  rw [Nat.mul_one]
  exact Nat.pow_le_pow_right (by decide) (by omega)
theorem ok_numbers_of (T : Txt K mg A) : FnOk P w K mg base (CX1 P w) 5 A.a_numbers_of A.fd_numbers_of ["store", "bound"] (sp_numbers_of A) := by
  refine T.F_numbers_of.okE sc_numbers_of (fun vs H Q E h => ?_) (fun cdv Ar outer s H vs Q E hr h => ?_)
  · obtain ⟨a, xs, rows, b, rfl, ha, hrw, hlen, hb, h⟩ := h
    rfl
  · obtain ⟨a, xs, rows, b, rfl, ha, hrw, hlen, hb, h⟩ := h
    refine ⟨_, (pss_one (ps_ret (pe_call (ok_heads T) (hr.mono (by decide)) rfl T.g_heads T.F_heads.kp T.b_heads .nil passE (pa_cons (pe_call (ok_top_of T) (hr.mono (by decide)) rfl T.g_top_of T.F_top_of.kp T.b_top_of .nil pass0 (pa_cons (pv 0) pa_nil)) (pa_cons (pe_call (ok_bottom_of T) (hr.mono (by decide)) rfl T.g_bottom_of T.F_bottom_of.kp T.b_bottom_of .nil pass0 (pa_cons (pv 0) pa_nil)) (pa_cons (pv 1) pa_nil)))))), ?_⟩
    have hp1 : ∀ r ∈ rows, 1 ≤ r.1 := fun r hrw => (hb r hrw).1
    refine ⟨_, rfl, a, xs, rows, rfl, ha, hrw, hlen, hb, fun t H1 gt s1 => ?_⟩
    have ha1 := s1 _ _ ha
    have hr1 : All2 RowV H1 rows xs := hrw.imp fun _ _ z => z.mv s1.tups
    refine ⟨_, rfl, a, xs, rows, rfl, ha1, hr1, hlen, hb, fun bt H2 gb s2 => ?_⟩
    have s12 := s1.trans s2
    have l1 : (partsS rows).length ≤ 6 := by unfold partsS; rw [List.length_map]; exact hlen
    have l2 : (topsS rows).length ≤ 6 := Nat.le_trans (tops_len rows) hlen
    have z1 : fnL (prodL (partsS rows) [1]) 0 = 1 := by
      rw [fnL_fnG, prodL_zero _ _ fun p h => by
        obtain ⟨r, hrw, rfl⟩ := List.mem_map.mp h
        exact hp1 r hrw]
      rfl
    have z2 : (prodL (partsS rows) [1]).length ≤ 10000 := by
      have := prodL_len (partsS rows) [1] fun p h => by
        obtain ⟨r, hrw, rfl⟩ := List.mem_map.mp h
        have := (hb r hrw).2.1
        omega
      have e1 : ([1] : List Int).length = 1 := rfl
      omega
    refine ⟨_, rfl, t, bt, _, _, b, rfl, s2 _ _ gt, gb, z2, prod_ok l2, prod_ok l1, ?_⟩
    rcases h with ⟨m, rfl, hm, k⟩ | ⟨hbd, hE⟩
    · refine .inl ⟨z1, m, rfl, hm, fun l H3 gl s3 nl => k l H3 ?_ (s12.trans s3) (s12.free nl)⟩
      rw [gl, fnL_fnG, stores_eq m rows hp1]
    · exact .inr (.inl ⟨z1, hbd, hE _ s12⟩)
def n__law_start : List Str := ["_law_script", "_law_great"]
theorem sc__law_start : FnScope n__law_start ["_law_script"] (defScope s__law_start) := ⟨rfl, rfl, rfl, by decide +kernel, rfl, by decide +kernel, by decide +kernel⟩
def sp_start (K : PySem.W.Frag) : Sp := fun vs H Q _ => ∃ (a : Addr) (ns : List Int), vs = [.ref a] ∧ SqL K H a (ns.map V.int) ∧ ns.length ≤ 63 ∧
  ∀ (st ga ca : Addr) (H' : Hp), StAt H' st ga ca 0 → H st = none → H ga = none → H ca = none → Same H H' → Q (.ref st) H'
theorem ok__law_start (T : Txt K mg A) : FnOk P w K mg base CX0 1 A.a__law_start A.fd__law_start ["_law_script"] (sp_start K) := by
  refine T.F__law_start.ok sc__law_start (fun vs H Q E h => ?_) (fun cdv Ar outer s H vs Q E hr h => ?_)
  · obtain ⟨a, ns, rfl, hS, hl, k⟩ := h
    rfl
  · obtain ⟨a, ns, rfl, hS, hl, k⟩ := h
    refine ⟨_, (pss_cons (ps_comp (i := 1) (ls := ["_law_cell"]) (fr := []) (cs_of (defScope s__law_start) n__law_start rfl rfl (by decide +kernel)) rfl (pi_list (pv 0)) (fun _ _ _ _ => pgc 0 (by decide +kernel) rfl rfl) (fun _ _ _ _ => pf_one (pt_cmpR op_ge (pvc (defScope s__law_start) 0) (pe_op op_pow pe_int pe_int) (nomark _))) (fun _ _ _ _ => (pvc (defScope s__law_start) 0)) sc__law_start.nd rfl rfl rfl)
        (pss_one (ps_ret (pe_lst (pa_cons (pv 1) (pa_cons pe_int (pa_cons (pe_comp (ls := ["_law_cell"]) (fr := []) (cs_of (defScope s__law_start) n__law_start rfl rfl (by decide +kernel)) rfl (pi_list (pv 0)) (fun _ _ _ _ => pgc 0 (by decide +kernel) rfl rfl) (fun _ _ _ _ => pf_nil) (fun _ _ _ _ => (pe_op op_mod (pvc (defScope s__law_start) 0) pe_int))) (pa_cons pe_int pa_nil)))))))), ?_⟩
    refine ⟨_, rfl, a, rfl, ⟨_, hS⟩, comp_list (xs := ns.map V.int) (fun i ys σ' H' => H' = H ∧ (∃ v, σ' = [v]) ∧ ∃ gs : List Int, ys = gs.map V.int ∧ gs.length ≤ i ∧ ∀ x ∈ gs, 0 < x) ⟨rfl, ⟨_, rfl⟩, [], rfl, Nat.zero_le _, fun _ hx => nomatch hx⟩ ?_ ?_ ?_⟩
    · rintro i ys σ' H' hi ⟨rfl, _, gs, rfl, hg, _⟩
      refine ⟨hS, ?_⟩
      rw [List.length_map] at hi ⊢
      exact Nat.le_trans (Nat.le_trans hg (Nat.le_trans hi hl)) (by decide)
    · rintro i x ys σ' H' hx ⟨rfl, ⟨v, rfl⟩, gs, rfl, hg, hp⟩
      rw [List.getElem?_map] at hx
      cases hn : ns[i]? with
      | none => rw [hn] at hx; cases hx
      | some z =>
        rw [hn] at hx
        cases hx
        refine ⟨_, rfl, _, _, rfl, rfl, ⟨by decide, by decide, by decide⟩, _, _, rfl, rfl, _, rfl, ?_⟩
        refine ite2 (fun hz => ⟨_, rfl, rfl, ⟨_, rfl⟩, gs ++ [z], by simp, by simp; exact hg, fun y hy => ?_⟩) (fun hz => ⟨rfl, ⟨_, rfl⟩, gs, rfl, Nat.le_succ_of_le hg, hp⟩)
        rcases List.mem_append.mp hy with hy | hy
        · exact hp y hy
        · have : y = z := by simpa using hy
          subst this
          exact Int.lt_of_lt_of_le (by decide) (of_decide_eq_true hz)
    · rintro ys σ' H' ⟨rfl, _, gs, rfl, hg, hp⟩ g0 hg0
      rw [List.length_map] at hg
      have s1 : Same H' (upd H' g0 (.lst (gs.map V.int))) := Same.new hg0
      refine ⟨_, rfl, _, rfl, a, rfl, ⟨_, s1.seq hS⟩, comp_list (xs := ns.map V.int) (fun i ys σ' H2 => H2 = upd H' g0 (.lst (gs.map V.int)) ∧ (∃ v, σ' = [v]) ∧ ∃ cs : List Int, ys = cs.map V.int ∧ cs.length = i) ⟨rfl, ⟨_, rfl⟩, [], rfl, rfl⟩ ?_ ?_ ?_⟩
      · rintro i ys σ' H2 hi ⟨rfl, _, cs, rfl, hc⟩
        refine ⟨s1.seq hS, ?_⟩
        rw [List.length_map] at hi ⊢
        exact Nat.le_trans (Nat.le_trans (Nat.le_of_eq hc) (Nat.le_trans hi hl)) (by decide)
      · rintro i x ys σ' H2 hx ⟨rfl, ⟨v, rfl⟩, cs, rfl, hc⟩
        rw [List.getElem?_map] at hx
        cases hn : ns[i]? with
        | none => rw [hn] at hx; cases hx
        | some z =>
          rw [hn] at hx
          cases hx
          refine ⟨_, rfl, _, _, rfl, rfl, (by show (0 : Int) < 2147483629; decide), rfl, ⟨_, rfl⟩, cs ++ [z % 2147483629], by simp, by simp [hc]⟩
      · rintro ys σ' H2 ⟨rfl, _, cs, rfl, hc⟩ c0 hc0
        refine ⟨by show 4 ≤ sizeLine; decide, fun st hst => ?_⟩
        have n1 : g0 ≠ c0 := fun z => by rw [← z, upd_same] at hc0; cases hc0
        have n2 : st ≠ c0 := fun z => by rw [z, upd_same] at hst; cases hst
        have hst1 : upd H' g0 (.lst (gs.map V.int)) st = none := by rw [upd_ne n2] at hst; exact hst
        have n3 : st ≠ g0 := fun z => by rw [z, upd_same] at hst1; cases hst1
        refine k st g0 c0 _ ⟨⟨gs, cs, 0, 0, upd_same, ?_, ?_, Nat.le_trans hg hl, hp, Int.le_refl _, Int.le_refl _, Int.le_refl _⟩, n1, n3, n2⟩ ?_ hg0 ?_ (s1.trans ((Same.new hc0).trans (Same.new hst)))
        · rw [upd_ne n3.symm, upd_ne n1, upd_same]
        · rw [upd_ne n2.symm, upd_same]
        · rw [upd_ne n3] at hst1; exact hst1
        · rw [upd_ne n1.symm] at hc0; exact hc0
def n__law_mix : List Str := ["_law_state", "_law_count", "_law_cell", "_law_stirred"]
theorem sc__law_mix : FnScope n__law_mix ["_law_state"] (defScope s__law_mix) := ⟨rfl, rfl, rfl, by decide +kernel, rfl, by decide +kernel, by decide +kernel⟩
def sp_mix : Sp := fun vs H Q _ => ∃ (st ga ca : Addr) (N : Nat), vs = [.ref st] ∧ StAt H st ga ca N ∧ N ≤ 10 ^ 9 ∧
  ∀ (r : Int) (H' : Hp), 0 ≤ r → StAt H' st ga ca (N + 1) → Keep [st, ga] H H' → Q (.int r) H'
theorem ok__law_mix (T : Txt K mg A) : FnOk P w K mg base CX0 1 A.a__law_mix A.fd__law_mix ["_law_state"] sp_mix := by
  refine T.F__law_mix.ok sc__law_mix (fun vs H Q E h => ?_) (fun cdv Ar outer s H vs Q E hr h => ?_)
  · obtain ⟨st, ga, ca, N, rfl, S, hN, k⟩ := h
    rfl
  · obtain ⟨st, ga, ca, N, rfl, S, hN, k⟩ := h
    refine ⟨_, (pss_cons (ps_augS (pv 0) pe_int get_list pe_int ip_add set_list)
        (pss_cons (ps_set (i := 1) sc__law_mix.nd rfl (by first | exact Or.inl rfl | exact Or.inr rfl) (pe_ix ix_list (pv 0) pe_int (fun _ _ => rfl)))
        (pss_cons (ps_set (i := 2) sc__law_mix.nd rfl (by first | exact Or.inl rfl | exact Or.inr rfl) pe_int)
        (pss_cons (ps_if (pt_truth (pe_ix ix_list (pv 0) pe_int (fun _ _ => rfl)) (fun _ => rfl))
          (pss_one (ps_set (i := 2) sc__law_mix.nd rfl (by first | exact Or.inl rfl | exact Or.inr rfl) (pe_ix ix_list (pe_ix ix_list (pv 0) pe_int (fun _ _ => rfl)) (pe_op op_mod (pv 1) (pe_callB call_len_seq rfl T.b_len PySem.boot_len (pa_cons (pe_ix ix_list (pv 0) pe_int (fun _ _ => rfl)) pa_nil))) (fun _ _ => rfl)))) pss_nil)
        (pss_cons (ps_set (i := 3) sc__law_mix.nd rfl (by first | exact Or.inl rfl | exact Or.inr rfl) (pe_op op_mod (pe_op op_mul (pe_op op_add (pe_op op_add (pe_op op_add (pv 2) (pe_op op_mul (pe_op op_mul pe_int (pv 1)) (pv 1))) (pe_op op_mul pe_int (pv 1))) pe_int) pe_int) pe_int))
        (pss_one (ps_ret (pe_op op_mod (pe_op op_mul (pe_op op_add (pe_op op_add (pv 3) (pe_op op_mul pe_int (pv 1))) pe_int) pe_int) pe_int)))))))), ?_⟩
    obtain ⟨⟨gs, cs, q, n, h1, h2, h3, h4, h5, h6, h7, h8⟩, gc, sg, sc⟩ := S
    have hn : -(2 ^ 64) < n + 1 ∧ n + 1 < 2 ^ 64 := by omega
    refine ⟨_, rfl, st, _, 3, _, rfl, rfl, SqL.of h1, by decide, rfl, _, _, rfl, rfl, st, _, 3, 3, rfl, rfl, h1, rfl, ?_⟩
    have e1 : upd H st (.lst ([V.ref ga, V.int q, V.ref ca, V.int n].set 3 (V.int (n + 1)))) st = some (.lst [.ref ga, .int q, .ref ca, .int (n + 1)]) := upd_same
    refine ⟨_, rfl, st, _, 3, _, rfl, rfl, SqL.of e1, rfl, ?_⟩
    refine ⟨_, rfl, st, _, 2, _, rfl, rfl, SqL.of e1, rfl, ?_⟩
    have e3 : upd H st (.lst ([V.ref ga, V.int q, V.ref ca, V.int n].set 3 (V.int (n + 1)))) ca = some (.lst (cs.map V.int)) := by rw [upd_ne sc.symm]; exact h3
    have e2 : upd H st (.lst ([V.ref ga, V.int q, V.ref ca, V.int n].set 3 (V.int (n + 1)))) ga = some (.lst (gs.map V.int)) := by rw [upd_ne sg.symm]; exact h2
    refine ⟨_, Or.inl ⟨_, SqL.of e3, rfl⟩, ?_⟩
    have fin : ∀ (c : Int), (tSeq (tAsg (tOp (rI (fun _ j => 0 < j) fun i j => V.int (i % j)) (tOp (rI CMul fun i j => V.int (i * j)) (tOp (rI0 fun i j => V.int (i + j)) (tOp (rI0 fun i j => V.int (i + j)) (tOp (rI0 fun i j => V.int (i + j)) (tVar 2) (tOp (rI CMul fun i j => V.int (i * j)) (tOp (rI CMul fun i j => V.int (i * j)) (tC (V.int 7)) (tVar 1)) (tVar 1))) (tOp (rI CMul fun i j => V.int (i * j)) (tC (V.int 13)) (tVar 1))) (tC (V.int 5))) (tC (V.int 1220703125))) (tC (V.int 2147483647))) (gName 3))
        (tRet (tOp (rI (fun _ j => 0 < j) fun i j => V.int (i % j)) (tOp (rI CMul fun i j => V.int (i * j)) (tOp (rI0 fun i j => V.int (i + j)) (tOp (rI0 fun i j => V.int (i + j)) (tVar 3) (tOp (rI CMul fun i j => V.int (i * j)) (tC (V.int 17)) (tVar 1))) (tC (V.int 3))) (tC (V.int 39373))) (tC (V.int 1000000007)))))
        { nx := fun _ H' => Q .non H', rt := Q } [some (.ref st), some (.int (n + 1)), some (.int c), none] (upd H st (.lst ([V.ref ga, V.int q, V.ref ca, V.int n].set 3 (V.int (n + 1))))) := fun c => by
      refine ⟨_, rfl, _, rfl, _, _, rfl, rfl, .inl (by decide), _, rfl, _, _, rfl, rfl, .inr hn, _, _, rfl, rfl, _, rfl, _, _, rfl, rfl, .inl (by decide), _, _, rfl, rfl, _, _, rfl, rfl, _, _, rfl, rfl, .inr (by decide), _, _, rfl, rfl, (by show (0 : Int) < 2147483647; decide), ?_⟩
      refine ⟨_, rfl, _, rfl, _, _, rfl, rfl, .inl (by decide), _, _, rfl, rfl, _, _, rfl, rfl, _, _, rfl, rfl, .inr (by decide), _, _, rfl, rfl, (by show (0 : Int) < 1000000007; decide), ?_⟩
      exact k _ _ (Int.emod_nonneg _ (by decide)) ⟨⟨gs, cs, q, n + 1, e1, e2, e3, h4, h5, h6, by omega, by omega⟩, gc, sg, sc⟩ (Keep.set (by simp))
    cases hc : cs with
    | nil =>
      refine iteF ?_
      exact fin 5
    | cons c0 cr =>
      refine iteT ?_
      rw [hc] at e3
      refine ⟨_, rfl, st, _, 2, _, rfl, rfl, SqL.of e1, rfl, _, rfl, _, rfl, st, _, 2, _, rfl, rfl, SqL.of e1, rfl, ca, _, rfl, .inl (SqL.of e3), _, _, rfl, rfl, ?_, ?_⟩
      · rw [List.length_map]; simp only [List.length_cons]; omega
      · have hpos : (0 : Int) < ((c0 :: cr).length : Int) := by simp only [List.length_cons]; omega
        rw [List.length_map]
        have hm0 := Int.emod_nonneg (n + 1) (Int.ne_of_gt hpos)
        have hm1 := Int.emod_lt_of_pos (n + 1) hpos
        obtain ⟨j, hj⟩ : ∃ j : Nat, (n + 1) % ((c0 :: cr).length : Int) = (j : Int) := ⟨((n + 1) % ((c0 :: cr).length : Int)).toNat, by omega⟩
        have hjl : j < (c0 :: cr).length := by omega
        refine ⟨ca, _, _, _, rfl, rfl, SqL.of e3, by rw [hj]; exact atI_nat (v := V.int ((c0 :: cr)[j])) (by rw [List.getElem?_map, List.getElem?_eq_getElem hjl]; rfl), ?_⟩
        exact fin _
def n__law_draw : List Str := ["_law_state", "_law_many", "_law_told", "_law_size"]
theorem sc__law_draw : FnScope n__law_draw ["_law_state", "_law_many"] (defScope s__law_draw) := ⟨rfl, rfl, rfl, by decide +kernel, rfl, by decide +kernel, by decide +kernel⟩
/-- a draw: any number from 0 on below many; what it may change is the state's own -/
def sp_draw : Sp := fun vs H Q _ => ∃ (st ga ca : Addr) (N : Nat) (m : Int), vs = [.ref st, .int m] ∧ StAt H st ga ca N ∧ N ≤ 10 ^ 8 ∧ 0 < m ∧ m ≤ 10 ^ 60 ∧
  ∀ (r : Int) (H' : Hp), 0 ≤ r → r < m → StAt H' st ga ca (N + 7) → Keep [st, ga] H H' → Q (.int r) H'
theorem ok__law_draw (T : Txt K mg A) : FnOk P w K mg base CX0 2 A.a__law_draw A.fd__law_draw ["_law_state", "_law_many"] sp_draw := by
  refine T.F__law_draw.ok sc__law_draw (fun vs H Q E h => ?_) (fun cdv Ar outer s H vs Q E hr h => ?_)
  · obtain ⟨st, ga, ca, N, m, rfl, S, hN, hm0, hm1, k⟩ := h
    rfl
  · obtain ⟨st, ga, ca, N, m, rfl, S, hN, hm0, hm1, k⟩ := h
    refine ⟨_, (pss_cons (ps_if (PW.pt (pw_and (pt_cmpR op_eq (pe_ix ix_list (pv 0) pe_int (fun _ _ => rfl)) pe_int (nomark _)) (pw_and1 (pt_truth (pe_ix ix_list (pv 0) pe_int (fun _ _ => rfl)) (fun _ => rfl)))))
          (pss_one (ps_asg (pe_bm PySem.F.plainAttrs_list PySem.F.slot_list_pop PySem.F.type_list_pop mt_popAt (pe_ix ix_list (pv 0) pe_int (fun _ _ => rfl)) (pa_cons pe_int pa_nil)) (pg_sub (pv 0) pe_int set_list))) pss_nil)
        (pss_cons (ps_if (pt_cmpR op_gt (pe_ix ix_list (pv 0) pe_int (fun _ _ => rfl)) pe_int (nomark _))
          (pss_cons (ps_set (i := 2) sc__law_draw.nd rfl (by first | exact Or.inl rfl | exact Or.inr rfl) (pe_op op_mod (pe_ix ix_list (pv 0) pe_int (fun _ _ => rfl)) (pv 1)))
        (pss_cons (ps_asg (pe_op op_fdivB (pe_ix ix_list (pv 0) pe_int (fun _ _ => rfl)) (pv 1)) (pg_sub (pv 0) pe_int set_list))
        (pss_one (ps_ret (pv 2))))) pss_nil)
        (pss_cons (ps_set (i := 2) sc__law_draw.nd rfl (by first | exact Or.inl rfl | exact Or.inr rfl) pe_int)
        (pss_cons (ps_set (i := 3) sc__law_draw.nd rfl (by first | exact Or.inl rfl | exact Or.inr rfl) pe_int)
        (pss_cons (ps_while PassesOwn.never (pt_cmpR op_lt (pv 3) (pv 1) (nomark _))
          (pss_cons (ps_set (i := 2) sc__law_draw.nd rfl (by first | exact Or.inl rfl | exact Or.inr rfl) (pe_op op_add (pe_op op_mul (pv 2) pe_int) (pe_call (ok__law_mix T) (hr.mono (by decide)) rfl T.g__law_mix T.F__law_mix.kp T.b__law_mix .nil pass0 (pa_cons (pv 0) pa_nil))))
        (pss_one (ps_set (i := 3) sc__law_draw.nd rfl (by first | exact Or.inl rfl | exact Or.inr rfl) (pe_op op_mul (pv 3) pe_int)))))
        (pss_one (ps_ret (pe_op op_mod (pv 2) (pv 1))))))))), ?_⟩
    obtain ⟨⟨gs, cs, q, n, h1, h2, h3, h4, h5, h6, h7, h8⟩, gc, sg, sc⟩ := S
    have hb : ∀ (g : List Int) (x : Int) (H' : Hp), H' = upd (upd H ga (.lst (g.map V.int))) st (.lst [.ref ga, .int x, .ref ca, .int n]) → H' st = some (.lst [.ref ga, .int x, .ref ca, .int n]) ∧ H' ga = some (.lst (g.map V.int)) ∧ H' ca = some (.lst (cs.map V.int)) ∧ Keep [st, ga] H H' := fun g x H' e => by
      subst e
      refine ⟨upd_same, by rw [upd_ne sg.symm, upd_same], by rw [upd_ne sc.symm, upd_ne gc.symm]; exact h3, fun b o e hn => ?_⟩
      have n1 : b ≠ st := fun z => hn (by simp [z])
      have n2 : b ≠ ga := fun z => hn (by simp [z])
      rw [upd_ne n1, upd_ne n2]
      exact e
    refine seqJoin (fun σ' H' => σ' = [some (.ref st), some (.int m), none, none] ∧ ∃ (g : List Int) (x : Int), H' st = some (.lst [.ref ga, .int x, .ref ca, .int n]) ∧ H' ga = some (.lst (g.map V.int)) ∧ H' ca = some (.lst (cs.map V.int)) ∧ Keep [st, ga] H H' ∧ g.length ≤ 63 ∧ (∀ x ∈ g, 0 < x) ∧ 0 ≤ x) (fun nx hnx => ?_) ?_
    · have skip : nx [some (.ref st), some (.int m), none, none] H := hnx _ _ ⟨rfl, gs, q, h1, h2, h3, Keep.refl _ _, h4, h5, h6⟩
      refine ⟨_, rfl, st, _, 1, _, rfl, rfl, SqL.of h1, rfl, rfl, _, rfl, ?_⟩
      refine ite2 (fun hq => ?_) (fun hq => iteF skip)
      have hq0 : q = 0 := by simpa using hq
      subst hq0
      refine ⟨_, rfl, st, _, 0, _, rfl, rfl, SqL.of h1, rfl, _, .inl ⟨_, SqL.of h2, rfl⟩, ?_⟩
      cases gs with
      | nil => exact iteF skip
      | cons g0 gr =>
        refine iteT ?_
        have eg : upd H ga (.lst ((V.int g0 :: gr.map V.int).eraseIdx 0)) st = some (.lst [.ref ga, .int 0, .ref ca, .int n]) := by rw [upd_ne sg]; exact h1
        refine ⟨_, rfl, st, _, 0, _, rfl, rfl, SqL.of h1, rfl, .inl ⟨rfl, _, SqL.of h2⟩, ga, _, 0, 0, V.int g0, rfl, rfl, h2, by decide, by decide, (by simp [seqIndex?]), rfl, ?_⟩
        refine ⟨_, rfl, st, _, 1, 1, rfl, rfl, eg, rfl, ?_⟩
        obtain ⟨b1, b2, b3, b4⟩ := hb gr g0 _ rfl
        exact hnx _ _ ⟨rfl, gr, g0, b1, b2, b3, b4, by simp only [List.length_cons] at h4; omega, fun y hy => h5 y (List.mem_cons_of_mem _ hy), Int.le_of_lt (h5 g0 List.mem_cons_self)⟩
    · rintro σ1 H1 ⟨rfl, g, x, c1, c2, c3, c4, c5, c6, c7⟩
      refine ⟨_, rfl, st, _, 1, _, rfl, rfl, SqL.of c1, rfl, _, _, rfl, rfl, _, rfl, ?_⟩
      refine ite2 (fun hx => ?_) (fun hx => ?_)
      · refine ⟨_, rfl, st, _, 1, _, rfl, rfl, SqL.of c1, rfl, _, rfl, _, _, rfl, rfl, hm0, ?_⟩
        refine ⟨_, rfl, st, _, 1, _, rfl, rfl, SqL.of c1, rfl, _, rfl, _, _, rfl, rfl, ⟨hm0, Int.le_trans hm1 (by decide)⟩, ?_⟩
        refine ⟨_, rfl, st, _, 1, 1, rfl, rfl, c1, rfl, ?_⟩
        refine ⟨_, rfl, k _ _ (Int.emod_nonneg _ (Int.ne_of_gt hm0)) (Int.emod_lt_of_pos _ hm0) ⟨⟨g, cs, x / m, n, upd_same, by rw [upd_ne sg.symm]; exact c2, by rw [upd_ne sc.symm]; exact c3, c5, c6, Int.ediv_nonneg c7 (Int.le_of_lt hm0), h7, by omega⟩, gc, sg, sc⟩ (c4.trans (Keep.set (by simp)))⟩
      · refine ⟨fun mm σ2 H2 => ∃ (j : Nat) (told : Int), j ≤ 7 ∧ mm = 7 - j ∧ σ2 = [some (.ref st), some (.int m), some (.int told), some (.int (1000000007 ^ j))] ∧ StAt H2 st ga ca (N + j) ∧ Keep [st, ga] H H2,
          ⟨7, 0, 0, by decide, rfl, rfl, ⟨⟨g, cs, x, n, c1, c2, c3, c5, c6, c7, h7, by omega⟩, gc, sg, sc⟩, c4⟩, ?_⟩
        rintro mm σ2 H2 ⟨j, told, hj, rfl, rfl, S2, k2⟩
        refine ⟨_, rfl, _, rfl, _, _, rfl, rfl, _, rfl, ?_⟩
        refine ite2 (fun hlt => ?_) (fun hlt => ?_)
        · have hlt' : (1000000007 : Int) ^ j < m := of_decide_eq_true hlt
          have hj6 : j < 7 := by
            rcases Nat.lt_or_ge j 7 with z | z
            · exact z
            · have e7 : j = 7 := by omega
              subst e7
              exact absurd (Int.lt_of_lt_of_le hlt' hm1) (by decide)
          refine ⟨fun σ3 H3 => ∃ (told : Int), σ3 = [some (.ref st), some (.int m), some (.int told), some (.int (1000000007 ^ (j + 1)))] ∧ StAt H3 st ga ca (N + (j + 1)) ∧ Keep [st, ga] H H3, fun σ3 H3 ⟨td, e3, S3, k3⟩ => ⟨7 - (j + 1), by omega, j + 1, td, hj6, rfl, e3, S3, k3⟩, ?_⟩
          refine ⟨_, rfl, _, _, rfl, rfl, .inr (by decide), _, rfl, st, ga, ca, N + j, rfl, S2, by omega, fun r H3 hr0 S3 k3 => ?_⟩
          refine ⟨_, _, rfl, rfl, ?_⟩
          refine ⟨_, rfl, _, _, rfl, rfl, .inr (by decide), ?_⟩
          refine ⟨told * 1000000007 + r, ?_, S3, k2.trans k3⟩
          show [some (V.ref st), some (V.int m), some (V.int _), some (V.int (1000000007 ^ j * 1000000007))] = _
          rw [← Int.pow_succ]
        · refine ⟨_, rfl, _, rfl, _, _, rfl, rfl, hm0, ?_⟩
          exact k _ _ (Int.emod_nonneg _ (Int.ne_of_gt hm0)) (Int.emod_lt_of_pos _ hm0) (S2.mono (by omega)) k2
def n__law_partings : List Str := ["_law_n", "_law_top", "_law_found", "_law_part"]
theorem sc__law_partings : FnScope n__law_partings ["_law_n", "_law_top"] (defScope s__law_partings) := ⟨rfl, rfl, rfl, by decide +kernel, rfl, by decide +kernel, by decide +kernel⟩
def sp_lparts (n : Nat) : Sp := fun vs H Q _ => ∃ (m g : Nat), m < n ∧ vs = [.int m, .int g] ∧ m ≤ 24 ∧ g ≤ 1000 ∧
  ∀ (l : Addr) (xs : List V) (H' : Hp), H' l = some (.lst xs) → All2 Tup1 H' (partF n m g) xs → Same H H' → H l = none → Q (.ref l) H'
theorem okr__law_partings (T : Txt K mg A) : ∀ n : Nat, FnOk P w K mg base CX0 n A.a__law_partings A.fd__law_partings ["_law_n", "_law_top"] (sp_lparts n)
  | 0 => FnOk.none (fun _ _ _ _ ⟨_, _, h, _⟩ => absurd h (Nat.not_lt_zero _))
  | n + 1 => by
    have ih := okr__law_partings T n
    refine T.F__law_partings.ok sc__law_partings (fun vs H Q E h => ?_) (fun cdv Ar outer s H vs Q E hr h => ?_)
    · obtain ⟨m, g, hm, rfl, hm24, hg, k⟩ := h
      rfl
    · obtain ⟨m, g, hm, rfl, hm24, hg, k⟩ := h
      refine ⟨_, (pss_cons (ps_if (pt_cmpR op_eq (pv 0) pe_int (nomark _))
            (pss_one (ps_ret (pe_lst (pa_cons (pe_tup pa_nil) pa_nil)))) pss_nil)
          (pss_cons (ps_set (i := 2) sc__law_partings.nd rfl (by first | exact Or.inl rfl | exact Or.inr rfl) (pe_lst pa_nil))
          (pss_cons (ps_for PassesOwn.never rfl (pi_down rfl T.b_range (pa_cons (pe_callB (call_min2 rfl) rfl T.b_min boot_min (pa_cons (pv 0) (pa_cons (pv 1) pa_nil))) (pa_cons pe_int (pa_cons (pe_un un_neg pe_int) pa_nil)))) (pg_name (i := 3) sc__law_partings.nd rfl (by first | exact Or.inl rfl | exact Or.inr rfl))
            (pss_one (ps_expr (pe_bm PySem.F.plainAttrs_list PySem.F.slot_list_extend PySem.F.type_list_extend mt_extend (pv 2) (pa_cons (pe_comp (ls := ["_law_rest"]) (fr := [("_law_part", 3)]) (cs_of (defScope s__law_partings) n__law_partings rfl rfl (by decide +kernel)) rfl (pi_list (pe_call ih hr rfl T.g__law_partings T.F__law_partings.kp T.b__law_partings .nil pass0 (pa_cons (pe_op op_sub (pv 0) (pv 3 (hv := Or.inr (Or.inl rfl)))) (pa_cons (pv 3 (hv := Or.inr (Or.inl rfl))) pa_nil)))) (fun _ _ _ _ => pgc 0 (by decide +kernel) rfl rfl) (fun _ _ _ _ => pf_nil) (fun _ _ _ _ => (pe_op (op_catAK K rfl) (pe_tup (pa_cons (pvc (defScope s__law_partings) 1) pa_nil)) (pvc (defScope s__law_partings) 0)))) pa_nil)))))
          (pss_one (ps_ret (pv 2)))))), ?_⟩
      dsimp only [tNext]
      refine seqJoin (fun σ' H' => m ≠ 0 ∧ H' = H ∧ σ' = [some (.int m), some (.int g), none, none]) (fun nx hnx => ?_) ?_
      · refine ⟨_, rfl, rfl, _, rfl, ?_⟩
        refine ite2 (fun h0 => ?_) (fun h0 => hnx _ _ ⟨fun z => h0 (by rw [z]; rfl), rfl, rfl⟩)
        have e0 : m = 0 := by
          have := of_decide_eq_true h0
          injection this with this
          omega
        refine ⟨by show 0 ≤ sizeLine; decide, fun e he => ⟨by show 1 ≤ sizeLine; decide, fun l hl => ?_⟩⟩
        refine k l [.ref e] _ upd_same ?_ ((Same.new he).trans (Same.new hl)) ((Same.new he).free hl)
        rw [partF_succ, if_pos e0]
        exact .cons ⟨e, rfl, Same.new hl _ _ upd_same⟩ .nil
      rintro σ1 H1 ⟨m0, rfl, rfl⟩
      refine ⟨by show 0 ≤ sizeLine; decide, fun l hl => ?_⟩
      have hmin : (if (g : Int) < (m : Int) then (g : Int) else (m : Int)) = ((min m g : Nat) : Int) := by split <;> omega
      refine ⟨_, rfl, _, rfl, _, _, rfl, _, rfl, min m g, ?_, by omega, for_down (n := min m g) (fun i σ' H' => Same H1 H' ∧ i ≤ min m g ∧ ∃ xs v, σ' = [some (.int m), some (.int g), some (.ref l), v] ∧ H' l = some (.lst xs) ∧ All2 Tup1 H' (partP n m (min m g) i) xs) ⟨Same.new hl, Nat.zero_le _, [], _, rfl, upd_same, .nil⟩ ?_ ?_⟩
      · show [V.int (if (g : Int) < (m : Int) then (g : Int) else (m : Int)), V.int 0, V.int (-1)] = _
        rw [hmin]
      · rintro i σ' H' hi ⟨s, _, xs, v, rfl, gl, h2⟩
        have ep : ((min m g : Nat) : Int) - (i : Int) = ((min m g - i : Nat) : Int) := by omega
        have em : (m : Int) - ((min m g - i : Nat) : Int) = ((m - (min m g - i) : Nat) : Int) := by omega
        have hlx : xs.length ≤ 2 ^ (m - min m g + i) := by
          rw [← h2.length]
          exact partP_len (partF_len n) (Nat.min_le_left _ _) i (by omega)
        rw [ep]
        refine ⟨_, rfl, .inl ⟨rfl, _, SqL.of gl⟩, _, rfl, _, rfl, _, _, rfl, rfl, _, rfl, m - (min m g - i), min m g - i, by omega, ?_, by omega, by omega, fun l2 xs2 H2 gl2 h3 s2 nl2 => ?_⟩
        · show [V.int ((m : Int) - ((min m g - i : Nat) : Int)), V.int ((min m g - i : Nat) : Int)] = _
          rw [em]
        have hlx2 : xs2.length ≤ 2 ^ (m - min m g + i) := by
          rw [← h3.length]
          have e1 : m - (min m g - i) = m - min m g + i := by omega
          exact Nat.le_trans (partF_len n (m - (min m g - i)) (min m g - i)) (by rw [e1]; exact Nat.le_refl _)
        have hpw : 2 ^ (m - min m g + i) + 2 ^ (m - min m g + i) ≤ sizeLine := by
          have : 2 ^ (m - min m g + i) + 2 ^ (m - min m g + i) = 2 ^ (m - min m g + i + 1) := by rw [Nat.pow_succ]; omega
          rw [this]
          exact pow24 (by omega)
        refine ⟨l2, rfl, ⟨_, SqL.of gl2⟩, comp_list (xs := xs2) (fun j ys σ' H3 => Same H2 H3 ∧ (∃ v, σ' = [v, some (.int ((min m g - i : Nat) : Int))]) ∧ All2 Tup1 H3 (((partF n (m - (min m g - i)) (min m g - i)).take j).map (((min m g - i : Nat) : Int) :: ·)) ys) ⟨fun _ _ h => h, ⟨_, rfl⟩, .nil⟩ ?_ ?_ ?_⟩
        · rintro j ys σ' H3 hj ⟨s3, _, h4⟩
          refine ⟨SqL.of (s3 _ _ gl2), ?_⟩
          rw [← h4.length, List.length_map, List.length_take]
          omega
        · rintro j x ys σ' H3 hx ⟨s3, ⟨v, rfl⟩, h4⟩
          obtain ⟨hs, hhs, q, rfl, hq⟩ := h3.get hx
          have hj := (List.getElem?_eq_some_iff.mp hhs).1
          have eh := (List.getElem?_eq_some_iff.mp hhs).2
          refine ⟨_, rfl, by show 1 ≤ sizeLine; decide, fun t ht => ⟨_, rfl, ?_⟩⟩
          have hl1 : hs.length ≤ 100 := by
            have := partF_mem _ _ _ hs (List.mem_of_getElem? hhs)
            omega
          refine cat_front (Same.new ht _ _ (s3 _ _ hq)) upd_same hl1 fun v H4 hv s4 => ?_
          have sn := (Same.new (o := .tup [V.int ((min m g - i : Nat) : Int)]) ht).trans s4
          refine ⟨s3.trans sn, ⟨_, rfl⟩, ?_⟩
          rw [List.take_succ_eq_append_getElem hj, List.map_append, eh]
          exact (h4.mv sn.tups).snoc hv
        · rintro ys σ' H3 ⟨s3, _, h4⟩ l3 hl3
          have et : (partF n (m - (min m g - i)) (min m g - i)).take xs2.length = partF n (m - (min m g - i)) (min m g - i) := by rw [← h3.length, List.take_length]
          rw [et] at h4
          have hly : ys.length = xs2.length := by rw [← h4.length, List.length_map, h3.length]
          have sn := s2.trans (s3.trans (Same.new (o := .lst ys) hl3))
          refine ⟨l, l3, xs, ys, rfl, rfl, sn _ _ gl, upd_same, by omega, ?_⟩
          have tn : Tups H' (upd (upd H3 l3 (.lst ys)) l (.lst (xs ++ ys))) := sn.tups.trans (Tups.set (sn _ _ gl))
          have tn3 : Tups H3 (upd (upd H3 l3 (.lst ys)) l (.lst (xs ++ ys))) := (Same.new hl3).tups.trans (Tups.set (sn _ _ gl))
          refine ⟨fun b o e => ?_, by omega, xs ++ ys, _, rfl, upd_same, ?_⟩
          · rw [upd_ne (ne_of_none e hl)]
            exact sn _ _ (s _ _ e)
          · rw [partP_succ]
            exact (h2.mv tn).append (h4.mv tn3)
      · rintro σ' H' ⟨s, _, xs, v, rfl, gl, h2⟩
        refine ⟨_, rfl, k l xs H' gl ?_ s hl⟩
        rw [partF_succ, if_neg m0]
        exact h2
theorem ok__law_partings (T : Txt K mg A) : FnOk P w K mg base CX0 26 A.a__law_partings A.fd__law_partings ["_law_n", "_law_top"] (sp_lparts 26) := okr__law_partings T 26
def n__law_whole : List Str := ["_law_thing"]
theorem sc__law_whole : FnScope n__law_whole ["_law_thing"] (defScope s__law_whole) := ⟨rfl, rfl, rfl, by decide +kernel, rfl, by decide +kernel, by decide +kernel⟩
def sp_whole : Sp := fun vs H Q _ => ∃ (i : Int), vs = [.int i] ∧ Q (.bl true) H
theorem ok__law_whole (T : Txt K mg A) : FnOk P w K mg base CX0 1 A.a__law_whole A.fd__law_whole ["_law_thing"] sp_whole := by
  refine T.F__law_whole.ok sc__law_whole (fun vs H Q E h => ?_) (fun cdv Ar outer s H vs Q E hr h => ?_)
  · obtain ⟨i, rfl, k⟩ := h
    rfl
  · obtain ⟨i, rfl, k⟩ := h
    refine ⟨_, (pss_one (ps_ret (pe_and (pe_callB call_isi rfl T.b_isinstance boot_isinstance (pa_cons (pv 0) (pa_cons (pe_bltn (v := .ty "int") rfl T.b_int boot_int rfl) pa_nil))) (pe_one (pe_not (pe_callB call_isi rfl T.b_isinstance boot_isinstance (pa_cons (pv 0) (pa_cons (pe_bltn (v := .ty "bool") rfl T.b_bool boot_bool rfl) pa_nil)))))))), ?_⟩
    exact ⟨_, rfl, _, _, _, true, rfl, TyOf.int _, kit_int_int, true, rfl, _, rfl, _, _, _, false, rfl, TyOf.int _, kit_int_bool, false, rfl, k⟩
def n__law_same : List Str := ["_law_told", "_law_due"]
theorem sc__law_same : FnScope n__law_same ["_law_told", "_law_due"] (defScope s__law_same) := ⟨rfl, rfl, rfl, by decide +kernel, rfl, by decide +kernel, by decide +kernel⟩
def sp_same (n : Nat) : Sp := fun vs H Q _ => ∃ (x y : V), vs = [x, y] ∧ ((1 ≤ n ∧ ∃ i : Int, x = .int i ∧ y = .int i ∧ ∀ H', Same H H' → Q (.bl true) H') ∨
  (2 ≤ n ∧ ∃ (f d : Addr) (ns : List Int), x = .ref f ∧ y = .ref d ∧ H f = some (.lst (ns.map V.int)) ∧ H d = some (.lst (ns.map V.int)) ∧ ns.length ≤ 100000 ∧ ∀ H', Same H H' → Q (.bl true) H'))
theorem okr__law_same (T : Txt K mg A) : ∀ n : Nat, FnOk P w K mg base CX0 (n + 2) A.a__law_same A.fd__law_same ["_law_told", "_law_due"] (sp_same n)
  | 0 => FnOk.none (fun _ _ _ _ ⟨_, _, _, h⟩ => h.elim (fun z => absurd z.1 (by decide)) (fun z => absurd z.1 (by decide)))
  | n + 1 => by
    have ih := okr__law_same T n
    refine T.F__law_same.ok sc__law_same (fun vs H Q E h => ?_) (fun cdv Ar outer s H vs Q E hr h => ?_)
    · obtain ⟨x, y, rfl, h⟩ := h
      rfl
    · obtain ⟨x, y, rfl, h⟩ := h
      refine ⟨_, (pss_cons (ps_if (pt_truth (pe_callB call_isiT rfl T.b_isinstance boot_isinstance (pa_cons (pv 1) (pa_cons (pe_tup (pa_cons (pe_bltn (v := .ty "tuple") rfl T.b_tuple boot_tuple rfl) (pa_cons (pe_bltn (v := .ty "list") rfl T.b_list boot_list rfl) pa_nil))) pa_nil))) (fun _ => rfl))
            (pss_cons (ps_if (pt_cmpR op_ne (pe_callB call_isi rfl T.b_isinstance boot_isinstance (pa_cons (pv 1) (pa_cons (pe_bltn (v := .ty "tuple") rfl T.b_tuple boot_tuple rfl) pa_nil))) (pe_callB call_isi rfl T.b_isinstance boot_isinstance (pa_cons (pv 0) (pa_cons (pe_bltn (v := .ty "tuple") rfl T.b_tuple boot_tuple rfl) pa_nil))) (nomark _))
            (pss_one (ps_ret pe_bl)) pss_nil)
          (pss_cons (ps_if (PW.pt (pw_or (pt_cmpR op_ne (pe_callB call_isi rfl T.b_isinstance boot_isinstance (pa_cons (pv 1) (pa_cons (pe_bltn (v := .ty "list") rfl T.b_list boot_list rfl) pa_nil))) (pe_callB call_isi rfl T.b_isinstance boot_isinstance (pa_cons (pv 0) (pa_cons (pe_bltn (v := .ty "list") rfl T.b_list boot_list rfl) pa_nil))) (nomark _)) (pw_or1 (pt_cmpR op_ne (pe_callB call_len_seq rfl T.b_len PySem.boot_len (pa_cons (pv 0) pa_nil)) (pe_callB call_len_seq rfl T.b_len PySem.boot_len (pa_cons (pv 1) pa_nil)) (nomark _)))))
            (pss_one (ps_ret pe_bl)) pss_nil)
          (pss_one (ps_ret (pe_callB (call_all_bools rfl) rfl T.b_all boot_all (pa_cons (pe_comp (ls := ["_law_one", "_law_other"]) (fr := []) (cs_of (defScope s__law_same) n__law_same rfl rfl (by decide +kernel)) rfl (pi_zip false false rfl T.b_zip (pa_cons (pv 0) (pa_cons (pv 1) pa_nil))) (fun _ _ _ _ => pg_tupC 2 rfl (pgs_cons (pgc (ls := ["_law_one", "_law_other"]) (fr := []) 0 (by decide +kernel) rfl rfl) (pgs_cons (pgc (ls := ["_law_one", "_law_other"]) (fr := []) 1 (by decide +kernel) rfl rfl) pgs_nil)) rfl rfl) (fun _ _ _ _ => pf_nil) (fun _ _ _ _ => (pe_call ih hr (glc (defScope s__law_same)) T.g__law_same T.F__law_same.kp T.b__law_same .nil pass0 (pa_cons (pvc (defScope s__law_same) 0) (pa_cons (pvc (defScope s__law_same) 1) pa_nil))))) pa_nil)))))) pss_nil)
          (pss_cons (ps_if (pt_truth (pe_call (ok__law_whole T) (hr.mono (by omega)) rfl T.g__law_whole T.F__law_whole.kp T.b__law_whole .nil pass0 (pa_cons (pv 1) pa_nil)) (fun _ => rfl))
            (pss_one (ps_ret (pe_and (pe_call (ok__law_whole T) (hr.mono (by omega)) rfl T.g__law_whole T.F__law_whole.kp T.b__law_whole .nil pass0 (pa_cons (pv 0) pa_nil)) (pe_one (pe_cmpR op_eq (pv 0) (pv 1) (nomark _)))))) pss_nil)
          (pss_cons (ps_if (pt_truth (pe_callB call_isi rfl T.b_isinstance boot_isinstance (pa_cons (pv 1) (pa_cons (pe_bltn (v := .ty "bool") rfl T.b_bool boot_bool rfl) pa_nil))) (fun _ => rfl))
            (pss_one (ps_ret (pe_and (pe_callB call_isi rfl T.b_isinstance boot_isinstance (pa_cons (pv 0) (pa_cons (pe_bltn (v := .ty "bool") rfl T.b_bool boot_bool rfl) pa_nil))) (pe_one (pe_cmpR op_eq (pv 0) (pv 1) (nomark _)))))) pss_nil)
          (pss_cons (ps_if (pt_truth (pe_callB call_isi rfl T.b_isinstance boot_isinstance (pa_cons (pv 1) (pa_cons (pe_bltn (v := .ty "str") rfl T.b_str boot_str rfl) pa_nil))) (fun _ => rfl))
            (pss_one (ps_ret (pe_and (pe_callB call_isi rfl T.b_isinstance boot_isinstance (pa_cons (pv 0) (pa_cons (pe_bltn (v := .ty "str") rfl T.b_str boot_str rfl) pa_nil))) (pe_one (pe_cmpR op_eq (pv 0) (pv 1) (nomark _)))))) pss_nil)
          (pss_one (ps_ret (pe_cmpR op_isN (pv 0) pe_non (nomark _)))))))), ?_⟩
      rcases h with ⟨_, i, rfl, rfl, k⟩ | ⟨hn, f, d, ns, rfl, rfl, hf, hd, hl, k⟩
      · refine ⟨_, rfl, by show 2 ≤ sizeLine; decide, fun tp htp => ⟨_, tp, ["tuple", "list"], _, false, rfl, upd_same, TyOf.int _, kitA0_int, false, rfl, iteF ?_⟩⟩
        refine ⟨_, rfl, i, rfl, true, rfl, iteT ?_⟩
        refine ⟨_, rfl, i, rfl, true, rfl, _, rfl, _, rfl, rfl, ?_⟩
        rw [decide_eq_true rfl]
        exact k _ (Same.new htp)
      · refine ⟨_, rfl, by show 2 ≤ sizeLine; decide, fun tp htp => ?_⟩
        have s1 := Same.new (o := .tup [V.ty "tuple", V.ty "list"]) htp
        have g1 := upd_same (H := H) (a := tp) (o := .tup [V.ty "tuple", V.ty "list"])
        generalize upd H tp (.tup [V.ty "tuple", V.ty "list"]) = H1 at s1 g1
        have hf1 := s1 _ _ hf
        have hd1 := s1 _ _ hd
        refine ⟨_, tp, ["tuple", "list"], _, true, rfl, g1, TyOf.lst hd1, kitA0_list, true, rfl, iteT ?_⟩
        refine ⟨_, rfl, _, _, _, false, rfl, TyOf.lst hd1, kit_list_tuple, _, rfl, _, _, _, false, rfl, TyOf.lst hf1, kit_list_tuple, rfl, _, rfl, iteNS rfl ?_⟩
        refine ⟨_, rfl, _, _, _, true, rfl, TyOf.lst hd1, kit_list_list, _, rfl, _, _, _, true, rfl, TyOf.lst hf1, kit_list_list, rfl, _, rfl, iteNS rfl ?_⟩
        refine ⟨_, rfl, f, _, rfl, .inl (SqL.of hf1), _, rfl, d, _, rfl, .inl (SqL.of hd1), rfl, _, rfl, iteNS rfl ?_⟩
        refine ⟨_, rfl, _, rfl, f, d, rfl, ⟨_, SqL.of hf1⟩, ⟨_, SqL.of hd1⟩, comp_zip (xs := ns.map V.int) (ys := ns.map V.int) (fun i zs σ' H' => Same H1 H' ∧ (∃ v w, σ' = [v, w]) ∧ zs = (List.replicate i true).map V.bl ∧ i ≤ ns.length) ⟨fun _ _ z => z, ⟨_, _, rfl⟩, rfl, Nat.zero_le _⟩ ?_ ?_ ?_⟩
        · rintro i zs σ' H' hi ⟨s', _, rfl, hi'⟩
          refine ⟨SqL.of (s' _ _ hf1), SqL.of (s' _ _ hd1), ?_⟩
          rw [List.length_map, List.length_replicate]
          exact Nat.le_trans (Nat.le_trans hi' hl) (by decide)
        · rintro i x y zs σ' H' T' hx hy ⟨s', ⟨v, w', rfl⟩, rfl, hi'⟩ hT
          obtain ⟨z, hz, rfl⟩ := map_at hx
          obtain ⟨z', hz', rfl⟩ := map_at hy
          rw [hz] at hz'
          cases hz'
          have hi := (List.getElem?_eq_some_iff.mp hz).1
          have sn := s'.trans (Same.new (o := .tup [V.int z, V.int z]) hT)
          refine ⟨T', _, rfl, SqT.of upd_same, rfl, _, _, rfl, _, _, rfl, rfl, ?_⟩
          refine ⟨_, rfl, _, rfl, _, _, rfl, .inl ⟨by omega, z, rfl, rfl, fun H2 s2 => ⟨sn.trans s2, ⟨_, _, rfl⟩, ?_, hi⟩⟩⟩
          rw [List.replicate_succ', List.map_append]
          rfl
        · rintro zs σ' H' ⟨s', _, rfl, _⟩ l hl0
          refine ⟨l, _, rfl, SqL.of upd_same, ?_⟩
          have e : ∀ n, (List.replicate n true).all id = true := fun n => by simp
          rw [e]
          exact k _ (s1.trans (s'.trans (Same.new hl0)))
theorem ok__law_same (T : Txt K mg A) : FnOk P w K mg base CX0 4 A.a__law_same A.fd__law_same ["_law_told", "_law_due"] (sp_same 2) := okr__law_same T 2
def n__law_power : List Str := ["_law_numbers", "_law_power_here"]
theorem sc__law_power : FnScope n__law_power ["_law_numbers", "_law_power_here"] (defScope s__law_power) := ⟨rfl, rfl, rfl, by decide +kernel, rfl, by decide +kernel, by decide +kernel⟩
def sp_power : Sp := fun vs H Q _ => ∃ (a : Addr) (ns : List Int) (j : Nat), vs = [.ref a, .int j] ∧ H a = some (.tup (ns.map V.int)) ∧ Q (.int (ns.getD j 0)) H
theorem ok__law_power (T : Txt K mg A) : FnOk P w K mg base CX0 1 A.a__law_power A.fd__law_power ["_law_numbers", "_law_power_here"] sp_power := by
  refine T.F__law_power.ok sc__law_power (fun vs H Q E h => ?_) (fun cdv Ar outer s H vs Q E hr h => ?_)
  · obtain ⟨a, ns, j, rfl, ha, k⟩ := h
    rfl
  · obtain ⟨a, ns, j, rfl, ha, k⟩ := h
    refine ⟨_, (pss_cons (ps_if (pt_cmpR op_lt (pv 1) (pe_callB call_len_seq rfl T.b_len PySem.boot_len (pa_cons (pv 0) pa_nil)) (nomark _))
          (pss_one (ps_ret (pe_ix ix_tup (pv 0) (pv 1) (fun _ _ => rfl)))) pss_nil)
        (pss_one (ps_ret pe_int))), ?_⟩
    refine ⟨_, rfl, _, rfl, a, _, rfl, .inr (SqT.of ha), _, _, rfl, rfl, _, rfl, ?_⟩
    rw [List.length_map]
    refine ite2 (fun hc => ?_) (fun hc => ?_)
    · have hj : j < ns.length := by
        have := of_decide_eq_true hc
        omega
      refine ⟨_, rfl, _, rfl, a, _, _, V.int (ns.getD j 0), rfl, rfl, SqT.of ha, atI_nat ?_, k⟩
      rw [List.getElem?_map, List.getD_eq_getElem?_getD, List.getElem?_eq_getElem hj]
      rfl
    · have hj : ¬ j < ns.length := fun z => hc (decide_eq_true (by omega))
      have e : ns.getD j 0 = 0 := by
        rw [List.getD_eq_getElem?_getD, List.getElem?_eq_none (by omega)]
        rfl
      rw [e] at k
      exact k
def n__law_store : List Str := ["_law_state", "_law_size", "_law_parts", "_law_part", "_law_store_here", "_law_k", "_law_most"]
theorem sc__law_store : FnScope n__law_store ["_law_state", "_law_size"] (defScope s__law_store) := ⟨rfl, rfl, rfl, by decide +kernel, rfl, by decide +kernel, by decide +kernel⟩
def okRows (rows : List RowS) : Prop := rows.length ≤ 6 ∧ (rows.map (·.1)).Nodup ∧ ∀ r ∈ rows, 1 ≤ r.1 ∧ r.1 ≤ 24 ∧ ∀ m, r.2 = some m → m ≤ 9
def sp_store : Sp := fun vs H Q _ => ∃ (st ga ca : Addr) (N : Nat) (size : Int), vs = [.ref st, .int size] ∧ StAt H st ga ca N ∧ N ≤ 10 ^ 6 ∧ (0 ≤ size ∧ size ≤ 6) ∧
  ∀ (p : Addr) (xs : List V) (rows : List RowS) (H' : Hp), H' p = some (.tup xs) → All2 RowV H' rows xs → okRows rows → H p = none → StAt H' st ga ca (N + 200) → Keep [st, ga] H H' → Q (.ref p) H'
theorem ok__law_store (T : Txt K mg A) : FnOk P w K mg base CX0 3 A.a__law_store A.fd__law_store ["_law_state", "_law_size"] sp_store := by
  refine T.F__law_store.ok sc__law_store (fun vs H Q E h => ?_) (fun cdv Ar outer s H vs Q E hr h => ?_)
  · obtain ⟨st, ga, ca, N, size, rfl, S, hN, hz, k⟩ := h
    rfl
  · obtain ⟨st, ga, ca, N, size, rfl, S, hN, hz, k⟩ := h
    refine ⟨_, (pss_cons (ps_comp (i := 2) (ls := ["_law_part"]) (fr := []) (cs_of (defScope s__law_store) n__law_store rfl rfl (by decide +kernel)) rfl (pi_range1 rfl T.b_range (pa_cons pe_int pa_nil)) (fun _ _ _ _ => pgc 0 (by decide +kernel) rfl rfl) (fun _ _ _ _ => pf_nil) (fun _ _ _ _ => (pe_op op_add (pvc (defScope s__law_store) 0) pe_int)) sc__law_store.nd rfl rfl rfl)
        (pss_cons (ps_set (i := 4) sc__law_store.nd rfl (by first | exact Or.inl rfl | exact Or.inr rfl) (pe_lst pa_nil))
        (pss_cons (ps_for PassesOwn.never rfl (pi_range1 rfl T.b_range (pa_cons (pe_call (ok__law_draw T) (hr.mono (by decide)) rfl T.g__law_draw T.F__law_draw.kp T.b__law_draw .nil pass0 (pa_cons (pv 0) (pa_cons (pe_op op_add (pv 1) pe_int) pa_nil))) pa_nil)) (pg_name (i := 5) sc__law_store.nd rfl (by first | exact Or.inl rfl | exact Or.inr rfl))
          (pss_cons (ps_set (i := 3) sc__law_store.nd rfl (by first | exact Or.inl rfl | exact Or.inr rfl) (pe_bm PySem.F.plainAttrs_list PySem.F.slot_list_pop PySem.F.type_list_pop mt_popAt (pv 2) (pa_cons (pe_call (ok__law_draw T) (hr.mono (by decide)) rfl T.g__law_draw T.F__law_draw.kp T.b__law_draw .nil pass0 (pa_cons (pv 0) (pa_cons (pe_ix ix_list (pe_lst (pa_cons pe_int (pa_cons (pe_callB call_len_seq rfl T.b_len PySem.boot_len (pa_cons (pv 2) pa_nil)) pa_nil))) (pe_call (ok__law_draw T) (hr.mono (by decide)) rfl T.g__law_draw T.F__law_draw.kp T.b__law_draw .nil pass0 (pa_cons (pv 0) (pa_cons pe_int pa_nil))) (fun _ _ => rfl)) pa_nil))) pa_nil)))
        (pss_cons (ps_set (i := 6) sc__law_store.nd rfl (by first | exact Or.inl rfl | exact Or.inr rfl) (pe_call (ok__law_draw T) (hr.mono (by decide)) rfl T.g__law_draw T.F__law_draw.kp T.b__law_draw .nil pass0 (pa_cons (pv 0) (pa_cons pe_int pa_nil))))
        (pss_cons (ps_if (pt_cmpR op_gt (pv 6) pe_int (nomark _))
          (pss_one (ps_set (i := 6) sc__law_store.nd rfl (by first | exact Or.inl rfl | exact Or.inr rfl) pe_non)) pss_nil)
        (pss_one (ps_expr (pe_bm PySem.F.plainAttrs_list PySem.F.slot_list_append PySem.F.type_list_append mt_append (pv 4) (pa_cons (pe_tup (pa_cons (pv 3) (pa_cons (pv 6) pa_nil))) pa_nil))))))))
        (pss_one (ps_ret (pe_callTy call_tuple_of rfl T.b_tuple boot_tuple (pa_cons (pv 4) pa_nil))))))), ?_⟩
    refine ⟨_, rfl, by decide, by decide, comp_range (n := 24) (fun i ys σ' H' => H' = H ∧ (∃ v, σ' = [v]) ∧ ys = ((List.range i).map fun (k : Nat) => (k : Int) + 1).map V.int) ⟨rfl, ⟨_, rfl⟩, rfl⟩ ?_ ?_ ?_⟩
    · rintro i ys σ' H' hi ⟨rfl, _, rfl⟩
      rw [List.length_map, List.length_map, List.length_range]
      exact small64 (by omega)
    · rintro i ys σ' H' hi ⟨rfl, ⟨v, rfl⟩, rfl⟩
      rw [Int.zero_add]
      refine ⟨_, rfl, _, _, rfl, rfl, rfl, ⟨_, rfl⟩, ?_⟩
      rw [List.range_succ, List.map_append, List.map_append]
      rfl
    rintro ys σ' H' ⟨rfl, _, rfl⟩ pa hpa
    have sP := Same.new (o := .lst (((List.range 24).map fun (k : Nat) => (k : Int) + 1).map V.int)) hpa
    have gP := upd_same (H := H') (a := pa) (o := .lst (((List.range 24).map fun (k : Nat) => (k : Int) + 1).map V.int))
    generalize upd H' pa (.lst (((List.range 24).map fun (k : Nat) => (k : Int) + 1).map V.int)) = H1 at sP gP
    have hq0 : ∀ x ∈ (List.range 24).map (fun (k : Nat) => (k : Int) + 1), 1 ≤ x ∧ x ≤ 24 := fun x hx => by
      obtain ⟨j, hj, rfl⟩ := List.mem_map.mp hx
      have := List.mem_range.mp hj
      omega
    have hl0 : ((List.range 24).map (fun (k : Nat) => (k : Int) + 1)).length = 24 := by simp
    have hn0 : ((List.range 24).map (fun (k : Nat) => (k : Int) + 1)).Nodup := by decide
    generalize (List.range 24).map (fun (k : Nat) => (k : Int) + 1) = qs0 at gP hq0 hl0 hn0
    refine ⟨by show 0 ≤ sizeLine; decide, fun sa hsa => ?_⟩
    have nsa : H' sa = none := sP.free hsa
    have npa : H' pa = none := hpa
    have nps : pa ≠ sa := ne_of_none gP hsa
    have sQ := sP.trans (Same.new (o := .lst []) hsa)
    have gP2 := Same.new (o := .lst []) hsa _ _ gP
    have gS2 := upd_same (H := H1) (a := sa) (o := .lst [])
    generalize upd H1 sa (.lst []) = H2 at sQ gP2 gS2
    have S2 := S.same sQ
    refine ⟨_, rfl, _, rfl, _, _, rfl, rfl, st, ga, ca, N, size + 1, rfl, S2, by omega, by omega, by omega, fun r H3 r0 r1 S3 K3 => ?_⟩
    have paS := S.nin npa
    have saS := S.nin nsa
    refine ⟨_, rfl, by omega, by omega, for_range (n := r.toNat) (fun i σ' H'' => ∃ (qs : List Int) (xs : List V) (rows : List RowS), (∃ v4 v5 v6, σ' = [some (.ref st), some (.int size), some (.ref pa), v4, some (.ref sa), v5, v6]) ∧ qs.length + i = 24 ∧ qs.Nodup ∧ (rows.map (·.1)).Nodup ∧ (∀ r ∈ rows, (r.1 : Int) ∉ qs) ∧ (∀ x ∈ qs, 1 ≤ x ∧ x ≤ 24) ∧ H'' pa = some (.lst (qs.map V.int)) ∧ H'' sa = some (.lst xs) ∧ All2 RowV H'' rows xs ∧ rows.length = i ∧ (∀ r ∈ rows, 1 ≤ r.1 ∧ r.1 ≤ 24 ∧ ∀ m, r.2 = some m → m ≤ 9) ∧ StAt H'' st ga ca (N + 7 + 21 * i) ∧ Keep [st, ga] H' H'') ⟨qs0, [], [], ⟨_, _, _, rfl⟩, by omega, hn0, .nil, (fun _ h => nomatch h), hq0, K3.at gP2 paS, K3.at gS2 saS, .nil, rfl, (fun _ h => nomatch h), S3, sQ.keep.trans K3⟩ ?_ ?_⟩
    · rintro i σ' HA hi ⟨qs, xs, rows, ⟨v4, v5, v6, rfl⟩, hql, hqn, hrn, hdj, hqb, gp, gs, hrw, hrl, hrb, SA, KA⟩
      refine ⟨_, rfl, .inl ⟨rfl, _, SqL.of gp⟩, _, rfl, _, rfl, pa, _, rfl, .inl (SqL.of gp), by show 2 ≤ sizeLine; decide, fun l2 hl2 => ?_⟩
      rw [List.length_map]
      have sB := Same.new (o := .lst [V.int 3, V.int (qs.length : Int)]) hl2
      have gB := upd_same (H := HA) (a := l2) (o := .lst [V.int 3, V.int (qs.length : Int)])
      have l2S := SA.nin hl2
      generalize upd HA l2 (.lst [V.int 3, V.int (qs.length : Int)]) = HB at sB gB
      refine ⟨_, rfl, st, ga, ca, N + 7 + 21 * i, 2, rfl, SA.same sB, by omega, by decide, by decide, fun c HC c0 c1 SC KC => ?_⟩
      obtain ⟨w, hw, ew⟩ := pick (ns := [3, (qs.length : Int)]) c0 c1
      have hw' : 0 < w ∧ w ≤ (qs.length : Int) := by
        simp only [List.mem_cons, List.not_mem_nil, or_false] at hw
        rcases hw with rfl | rfl <;> omega
      refine ⟨l2, _, c, _, rfl, rfl, SqL.of (KC.at gB l2S), ew, ?_⟩
      refine ⟨st, ga, ca, N + 7 + 21 * i + 7, w, rfl, SC, by omega, hw'.1, by omega, fun j HD j0 j1 SD KD => ?_⟩
      obtain ⟨j', rfl⟩ : ∃ j' : Nat, j = (j' : Int) := ⟨j.toNat, by omega⟩
      have hj' : j' < qs.length := by omega
      have gpD := KD.at (KC.at (sB _ _ gp) paS) paS
      have gsD := KD.at (KC.at (sB _ _ gs) saS) saS
      have hrwD : All2 RowV HD rows xs := hrw.imp fun _ _ z => z.mv (sB.tups.trans ((KC.tups (SA.same sB)).trans (KD.tups SC)))
      refine ⟨pa, _, (j' : Int), j', V.int qs[j'], rfl, rfl, gpD, by omega, by omega, ?_, ?_, ?_⟩
      · rw [List.length_map]
        simp [seqIndex?]
        omega
      · rw [List.getElem?_map, List.getElem?_eq_getElem hj']
        rfl
      have hpart := hqb qs[j'] (List.getElem_mem hj')
      have hpin := List.getElem_mem hj'
      have hpout : qs[j'] ∉ qs.eraseIdx j' := fun hm => by
        obtain ⟨i2, h2, ne2, e2⟩ := List.mem_eraseIdx_iff_getElem.mp hm
        exact ne2 ((List.getElem_inj hqn).mp e2)
      have gpE : upd HD pa (.lst ((qs.map V.int).eraseIdx j')) pa = some (.lst ((qs.eraseIdx j').map V.int)) := by rw [upd_same, map_erase]
      have gsE : upd HD pa (.lst ((qs.map V.int).eraseIdx j')) sa = some (.lst xs) := by rw [upd_ne nps.symm]; exact gsD
      have SE : StAt (upd HD pa (.lst ((qs.map V.int).eraseIdx j'))) st ga ca (N + 7 + 21 * i + 7 + 7) := SD.upd (S.nin3 npa)
      have KE : Keep [st, ga] H' (upd HD pa (.lst ((qs.map V.int).eraseIdx j'))) := (KA.trans (sB.keep.trans (KC.trans KD))).updN npa
      have hrwE : All2 RowV (upd HD pa (.lst ((qs.map V.int).eraseIdx j'))) rows xs := hrwD.imp fun _ _ z => z.mv (Tups.set gpD)
      generalize upd HD pa (.lst ((qs.map V.int).eraseIdx j')) = HE at gpE gsE SE KE hrwE
      generalize qs[j'] = part at hpart hpin hpout
      obtain ⟨pt, rfl⟩ : ∃ pt : Nat, part = (pt : Int) := ⟨part.toNat, by omega⟩
      refine ⟨_, rfl, st, ga, ca, N + 7 + 21 * i + 14, 13, rfl, SE, by omega, by decide, by decide, fun mo HF m0 m1 SF KF => ?_⟩
      have gpF := KF.at gpE paS
      have gsF := KF.at gsE saS
      have hrwF : All2 RowV HF rows xs := hrwE.imp fun _ _ z => z.mv (KF.tups SE)
      have KF' := KE.trans KF
      dsimp only [tNext, gName]
      refine seqJoin (fun σ' HG => HG = HF ∧ ∃ m : Option Nat, σ' = [some (.ref st), some (.int size), some (.ref pa), some (.int (pt : Int)), some (.ref sa), some (.int (0 + (i : Int))), some (optN m)] ∧ ∀ m', m = some m' → m' ≤ 9) (fun nx hnx => ?_) ?_
      · refine ⟨_, rfl, _, _, rfl, rfl, _, rfl, ite2 (fun _ => hnx _ _ ⟨rfl, none, rfl, (fun _ h => nomatch h)⟩) (fun hc => hnx _ _ ⟨rfl, some mo.toNat, by show _ = [_, _, _, _, _, _, some (V.int (mo.toNat : Int))]; rw [Int.toNat_of_nonneg m0]; rfl, fun m' e => ?_⟩)⟩
        have hc' : ¬ 9 < mo := fun z => hc (decide_eq_true z)
        have e' : mo.toNat = m' := Option.some.inj e
        omega
      rintro σ1 HG ⟨rfl, m, rfl, hm9⟩
      refine ⟨_, rfl, .inl ⟨rfl, _, SqL.of gsF⟩, _, rfl, _, rfl, by show 2 ≤ sizeLine; decide, fun q hq => ?_⟩
      have sH := Same.new (o := .tup [V.int (pt : Int), optN m]) hq
      have gq := upd_same (H := HG) (a := q) (o := .tup [V.int (pt : Int), optN m])
      generalize upd HG q (.tup [V.int (pt : Int), optN m]) = HH at sH gq
      have gsH := sH _ _ gsF
      refine ⟨sa, _, _, rfl, rfl, gsH, ?_, ?_⟩
      · rw [← hrwF.length]
        exact Nat.lt_of_le_of_lt (m := 6) (by omega) (by decide)
      refine ⟨qs.eraseIdx j', xs ++ [.ref q], rows ++ [(pt, m)], ⟨_, _, _, rfl⟩, ?_, hqn.sublist (List.eraseIdx_sublist _ _), ?_, ?_, fun x hx => hqb x (List.mem_of_mem_eraseIdx hx), ?_, upd_same, ?_, by rw [List.length_append, hrl]; rfl, fun r' hr' => ?_, ((SF.same sH).upd (S.nin3 nsa)).mono (by omega), (KF'.trans sH.keep).updN nsa⟩
      · rw [List.length_eraseIdx, if_pos hj']
        omega
      · rw [List.map_append, List.nodup_append]
        refine ⟨hrn, by simp, fun a ha b hb e => ?_⟩
        obtain ⟨r', hr', rfl⟩ := List.mem_map.mp ha
        have eb : b = pt := by simpa using hb
        subst eb
        exact hdj r' hr' (by rw [e]; exact hpin)
      · intro r' hr' hm
        rcases List.mem_append.mp hr' with h | h
        · exact hdj r' h (List.mem_of_mem_eraseIdx hm)
        · have e : r' = (pt, m) := by simpa using h
          subst e
          exact hpout hm
      · rw [upd_ne nps]
        exact sH _ _ gpF
      · have tU := Tups.set (o := .lst (xs ++ [.ref q])) gsH
        exact (hrwF.imp fun _ _ z => z.mv (sH.tups.trans tU)).append (.cons ⟨q, rfl, tU _ _ gq⟩ .nil)
      · rcases List.mem_append.mp hr' with h | h
        · exact hrb r' h
        · have e : r' = (pt, m) := by simpa using h
          subst e
          exact ⟨by omega, by omega, hm9⟩
    · rintro σ' HA ⟨qs, xs, rows, ⟨v4, v5, v6, rfl⟩, hql, hqn, hrn, hdj, hqb, gp, gs, hrw, hrl, hrb, SA, KA⟩
      refine ⟨_, rfl, sa, _, rfl, .inl ⟨SqL.of gs, fun t ht => ?_⟩⟩
      have sT := Same.new (o := .tup xs) ht
      exact k t xs rows _ upd_same (hrw.imp fun _ _ z => z.mv sT.tups) ⟨by omega, hrn, hrb⟩ (KA.free ht (SA.nin ht)) ((SA.same sT).mono (by omega)) (KA.trans sT.keep)
def n_law : List Str := ["_law_script", "_law_state", "_law_store_here", "_law_bound", "_law_top", "_law_bottom", "_law_numbers", "_law_n", "_law_parts", "_law_made"]
theorem sc_law : FnScope n_law ["_law_script"] (defScope s_law) := ⟨rfl, rfl, rfl, by decide +kernel, rfl, by decide +kernel, by decide +kernel⟩
def sp_law (K : PySem.W.Frag) : Sp := fun vs H Q _ => ∃ (a : Addr) (ns : List Int), vs = [.ref a] ∧ SqL K H a (ns.map V.int) ∧ ns.length ≤ 63 ∧ ∀ H', Q (.bl true) H'
theorem ok_law (T : Txt K mg A) : FnOk P w K mg base CX0 30 A.a_law A.fd_law ["_law_script"] (sp_law K) := by
  refine T.F_law.ok sc_law (fun vs H Q E h => ?_) (fun cdv Ar outer s H vs Q E hr h => ?_)
  · obtain ⟨a, ns, rfl, hS, hl, k⟩ := h
    rfl
  · obtain ⟨a, ns, rfl, hS, hl, k⟩ := h
    refine ⟨_, (pss_cons (ps_set (i := 1) sc_law.nd rfl (by first | exact Or.inl rfl | exact Or.inr rfl) (pe_call (ok__law_start T) (hr.mono (by decide)) rfl T.g__law_start T.F__law_start.kp T.b__law_start .nil pass0 (pa_cons (pv 0) pa_nil)))
        (pss_cons (ps_set (i := 2) sc_law.nd rfl (by first | exact Or.inl rfl | exact Or.inr rfl) (pe_call (ok__law_store T) (hr.mono (by decide)) rfl T.g__law_store T.F__law_store.kp T.b__law_store .nil pass0 (pa_cons (pv 1) (pa_cons pe_int pa_nil))))
        (pss_cons (ps_set (i := 3) sc_law.nd rfl (by first | exact Or.inl rfl | exact Or.inr rfl) (pe_call (ok__law_draw T) (hr.mono (by decide)) rfl T.g__law_draw T.F__law_draw.kp T.b__law_draw .nil pass0 (pa_cons (pv 1) (pa_cons pe_int pa_nil))))
        (pss_cons (ps_asg (pe_tup (pa_cons (pe_call (ok_top_of T) (hr.mono (by decide)) rfl T.g_top_of T.F_top_of.kp T.b_top_of .nil pass0 (pa_cons (pv 2 (hv := Or.inr (Or.inl rfl))) pa_nil)) (pa_cons (pe_call (ok_bottom_of T) (hr.mono (by decide)) rfl T.g_bottom_of T.F_bottom_of.kp T.b_bottom_of .nil pass0 (pa_cons (pv 2 (hv := Or.inr (Or.inl rfl))) pa_nil)) pa_nil))) (pg_tup rfl (pgs_cons (pg_name (i := 4) sc_law.nd rfl (by first | exact Or.inl rfl | exact Or.inr rfl)) (pgs_cons (pg_name (i := 5) sc_law.nd rfl (by first | exact Or.inl rfl | exact Or.inr rfl)) pgs_nil))))
        (pss_cons (ps_set (i := 6) sc_law.nd rfl (by first | exact Or.inl rfl | exact Or.inr rfl) (pe_call (ok_numbers_of T) (hr.mono (by decide)) rfl T.g_numbers_of T.F_numbers_of.kp T.b_numbers_of .nil pass01 (pa_cons (pv 2 (hv := Or.inr (Or.inl rfl))) (pa_cons (pv 3) pa_nil))))
        (pss_cons (ps_if (PW.pt (pw_or (pt_not (pt_truth (pe_callB call_isi rfl T.b_isinstance boot_isinstance (pa_cons (pv 6 (hv := Or.inr (Or.inl rfl))) (pa_cons (pe_bltn (v := .ty "list") rfl T.b_list boot_list rfl) pa_nil))) (fun _ => rfl))) (pw_or1 (pt_cmpR op_ne (pe_callB call_len_seq rfl T.b_len PySem.boot_len (pa_cons (pv 6 (hv := Or.inr (Or.inl rfl))) pa_nil)) (pe_op op_add (pv 3) pe_int) (nomark _)))))
          (pss_one (ps_ret pe_bl)) pss_nil)
        (pss_cons (ps_if (pt_not (pt_truth (pe_callB (call_all_bools rfl) rfl T.b_all boot_all (pa_cons (pe_comp (ls := ["_law_number"]) (fr := []) (cs_of (defScope s_law) n_law rfl rfl (by decide +kernel)) rfl (pi_list (pv 6 (hv := Or.inr (Or.inl rfl)))) (fun _ _ _ _ => pgc 0 (by decide +kernel) rfl rfl) (fun _ _ _ _ => pf_nil) (fun _ _ _ _ => (pe_call (ok__law_whole T) (hr.mono (by decide)) (glc (defScope s_law)) T.g__law_whole T.F__law_whole.kp T.b__law_whole .nil pass0 (pa_cons (pvc (defScope s_law) 0) pa_nil)))) pa_nil)) (fun _ => rfl)))
          (pss_one (ps_ret pe_bl)) pss_nil)
        (pss_cons (ps_if (PW.pt (pw_or (pt_not (pt_truth (pe_callB call_isi rfl T.b_isinstance boot_isinstance (pa_cons (pv 4) (pa_cons (pe_bltn (v := .ty "tuple") rfl T.b_tuple boot_tuple rfl) pa_nil))) (fun _ => rfl))) (pw_or1 (pt_not (pt_truth (pe_callB call_isi rfl T.b_isinstance boot_isinstance (pa_cons (pv 5 (hv := Or.inr (Or.inl rfl))) (pa_cons (pe_bltn (v := .ty "tuple") rfl T.b_tuple boot_tuple rfl) pa_nil))) (fun _ => rfl))))))
          (pss_one (ps_ret pe_bl)) pss_nil)
        (pss_cons (ps_if (pt_not (pt_truth (pe_call (ok__law_same T) (hr.mono (by decide)) rfl T.g__law_same T.F__law_same.kp T.b__law_same .nil pass0 (pa_cons (pe_call (ok_heads T) (hr.mono (by decide)) rfl T.g_heads T.F_heads.kp T.b_heads .nil pass01 (pa_cons (pv 4) (pa_cons (pv 5 (hv := Or.inr (Or.inl rfl))) (pa_cons (pv 3) pa_nil)))) (pa_cons (pv 6 (hv := Or.inr (Or.inl rfl))) pa_nil))) (fun _ => rfl)))
          (pss_one (ps_ret pe_bl)) pss_nil)
        (pss_cons (ps_for PassesOwn.never rfl (pi_range1 rfl T.b_range (pa_cons (pe_op op_add (pv 3) pe_int) pa_nil)) (pg_name (i := 7) sc_law.nd rfl (by first | exact Or.inl rfl | exact Or.inr rfl))
          (pss_cons (ps_comp (i := 8) (ls := ["_law_j"]) (fr := [("_law_bottom", 5), ("_law_numbers", 6), ("_law_n", 7)]) (cs_of (defScope s_law) n_law rfl rfl (by decide +kernel)) rfl (pi_range1 rfl T.b_range (pa_cons (pe_callB (call_min2 rfl) rfl T.b_min boot_min (pa_cons (pe_op op_add (pv 7 (hv := Or.inr (Or.inl rfl))) pe_int) (pa_cons (pe_callB call_len_seq rfl T.b_len PySem.boot_len (pa_cons (pv 5 (hv := Or.inr (Or.inl rfl))) pa_nil)) pa_nil))) pa_nil)) (fun _ _ _ _ => pgc 0 (by decide +kernel) rfl rfl) (fun _ _ _ _ => pf_nil) (fun _ _ _ _ => (pe_op op_mulC (pe_ix (ix_tupK K rfl) (pvc (defScope s_law) 1) (pvc (defScope s_law) 0) (fun _ _ => rfl)) (pe_ix (ix_listK K rfl) (pvc (defScope s_law) 2) (pe_op op_sub (pvc (defScope s_law) 3) (pvc (defScope s_law) 0)) (fun _ _ => rfl)))) sc_law.nd rfl rfl rfl)
        (pss_one (ps_if (pt_cmpR op_ne (pe_callB (call_sum_ints rfl) rfl T.b_sum boot_sum (pa_cons (pv 8) pa_nil)) (pe_call (ok__law_power T) (hr.mono (by decide)) rfl T.g__law_power T.F__law_power.kp T.b__law_power .nil pass0 (pa_cons (pv 4) (pa_cons (pv 7 (hv := Or.inr (Or.inl rfl))) pa_nil))) (nomark _))
          (pss_one (ps_ret pe_bl)) pss_nil))))
        (pss_cons (ps_for PassesOwn.never rfl (pi_range1 rfl T.b_range (pa_cons (pe_op op_add (pe_callB (call_min2 rfl) rfl T.b_min boot_min (pa_cons (pv 3) (pa_cons pe_int pa_nil))) pe_int) pa_nil)) (pg_name (i := 7) sc_law.nd rfl (by first | exact Or.inl rfl | exact Or.inr rfl))
          (pss_one (ps_if (PW.pt (pw_or (pt_cmpR op_eq (pv 7 (hv := Or.inr (Or.inl rfl))) (pv 3) (nomark _)) (pw_or1 (pt_cmpR op_eq (pe_op op_mod (pv 7 (hv := Or.inr (Or.inl rfl))) pe_int) (pe_op op_mod (pv 3) pe_int) (nomark _)))))
          (pss_cons (ps_comp (i := 9) (ls := ["_law_heap"]) (fr := [("_law_store_here", 2)]) (cs_of (defScope s_law) n_law rfl rfl (by decide +kernel)) rfl (pi_list (pe_call (ok__law_partings T) (hr.mono (by decide)) rfl T.g__law_partings T.F__law_partings.kp T.b__law_partings .nil pass0 (pa_cons (pv 7 (hv := Or.inr (Or.inl rfl))) (pa_cons (pv 7 (hv := Or.inr (Or.inl rfl))) pa_nil)))) (fun _ _ _ _ => pgc 0 (by decide +kernel) rfl rfl) (fun _ _ _ _ => pf_one (pt_cmpR op_isB (pe_call (ok_is_of_store T) (hr.mono (by decide)) (glc (defScope s_law)) T.g_is_of_store T.F_is_of_store.kp T.b_is_of_store .nil pass0 (pa_cons (pvc (defScope s_law) 1) (pa_cons (pvc (defScope s_law) 0) pa_nil))) pe_bl (nomark _))) (fun _ _ _ _ => (pvc (defScope s_law) 0)) sc_law.nd rfl rfl rfl)
        (pss_one (ps_if (pt_cmpR op_ne (pe_callB call_len_seq rfl T.b_len PySem.boot_len (pa_cons (pv 9) pa_nil)) (pe_ix ix_list (pv 6 (hv := Or.inr (Or.inl rfl))) (pv 7 (hv := Or.inr (Or.inl rfl))) (fun _ _ => rfl)) (nomark _))
          (pss_one (ps_ret pe_bl)) pss_nil))) pss_nil)))
        (pss_one (ps_ret pe_bl))))))))))))), ?_⟩
    refine ⟨_, rfl, a, ns, rfl, hS, hl, fun st ga ca H1 S1 n1 n2 n3 s1 => ?_⟩
    refine ⟨_, rfl, st, ga, ca, 0, 6, rfl, S1, by decide, ⟨by decide, by decide⟩, fun p xs rows H2 gp hrw hok np S2 K2 => ?_⟩
    have pS := S1.nin np
    refine ⟨_, rfl, st, ga, ca, _, 31, rfl, S2, by decide, by decide, by decide, fun b0 H3 b00 b01 S3 K3 => ?_⟩
    obtain ⟨b, rfl⟩ : ∃ b : Nat, b0 = (b : Int) := ⟨b0.toNat, by omega⟩
    have hb : b ≤ 30 := by omega
    have gp3 := K3.at gp pS
    have hrw3 : All2 RowV H3 rows xs := hrw.imp fun _ _ z => z.mv (K3.tups S2)
    have mvR : ∀ {HX HY : Hp}, Same HX HY → All2 RowV HX rows xs → All2 RowV HY rows xs := fun s h => h.imp fun _ _ z => z.mv s.tups
    obtain ⟨hl6, hnd, hbd⟩ := hok
    have hp1 : ∀ r ∈ rows, 1 ≤ r.1 := fun r hr => (hbd r hr).1
    refine ⟨_, rfl, p, xs, rows, rfl, gp3, hrw3, hl6, hbd, fun tp H4 gt s4 => ?_⟩
    refine ⟨_, rfl, p, xs, rows, rfl, s4 _ _ gp3, mvR s4 hrw3, hl6, hbd, fun bt H5 gb s5 => ?_⟩
    refine ⟨by show 2 ≤ sizeLine; decide, fun T1 hT1 => ⟨T1, _, rfl, SqT.of upd_same, rfl, _, _, rfl, _, _, rfl, rfl, ?_⟩⟩
    have s36 := s4.trans (s5.trans (Same.new (o := .tup [V.ref tp, V.ref bt]) hT1))
    have gt6 := (s5.trans (Same.new (o := .tup [V.ref tp, V.ref bt]) hT1)) _ _ gt
    have gb6 := (Same.new (o := .tup [V.ref tp, V.ref bt]) hT1) _ _ gb
    generalize upd H5 T1 (.tup [V.ref tp, V.ref bt]) = H6 at s36 gt6 gb6
    have l1 : (partsS rows).length ≤ 6 := by unfold partsS; rw [List.length_map]; exact hl6
    have l2 : (topsS rows).length ≤ 6 := Nat.le_trans (tops_len rows) hl6
    have z1 : fnL (prodL (partsS rows) [1]) 0 = 1 := by
      rw [fnL_fnG, prodL_zero _ _ fun q h => by
        obtain ⟨r, hrr, rfl⟩ := List.mem_map.mp h
        exact hp1 r hrr]
      rfl
    have z2 : (prodL (partsS rows) [1]).length ≤ 10000 := by
      have := prodL_len (partsS rows) [1] fun q h => by
        obtain ⟨r, hrr, rfl⟩ := List.mem_map.mp h
        have := (hbd r hrr).2.1
        omega
      have e1 : ([1] : List Int).length = 1 := rfl
      omega
    have hts := prod_ok l2
    have hbs := prod_ok l1
    have eD : dueL b rows (1 :: List.replicate b 0) = hdL (fnL (prodL (topsS rows) [1])) (fnL (prodL (partsS rows) [1])) (b + 1) := by rw [fnL_fnG, stores_eq b rows hp1]
    have hmc : ∀ n, n ≤ b → n ≤ 24 → ∀ f, n < f → ((((partF f n n).filter (madeOf rows)).length : Nat) : Int) = (hdL (fnL (prodL (topsS rows) [1])) (fnL (prodL (partsS rows) [1])) (b + 1)).getD n 0 := fun n h1 h2 f h3 => by
      rw [← eD]
      exact made_count hnd (fun r hr => ⟨(hbd r hr).1, (hbd r hr).2.1⟩) h1 h2 h3
    refine ⟨_, rfl, _, rfl, p, xs, rows, (b : Int), rfl, s36 _ _ gp3, mvR s36 hrw3, hl6, hbd, .inl ⟨b, rfl, by omega, fun tl H7 gtl s7 ntl => ?_⟩⟩
    rw [eD] at gtl
    generalize prodL (topsS rows) [1] = ts at gt6 hts gtl hmc
    generalize prodL (partsS rows) [1] = bs at gb6 hbs gtl hmc z1 z2
    have htp := s7 _ _ gt6
    have hbt := s7 _ _ gb6
    have htl := gtl
    have gp7 := s7 _ _ (s36 _ _ gp3)
    have hrw7 := mvR s7 (mvR s36 hrw3)
    have hll := hdL_len (fnL ts) (fnL bs) (b + 1)
    refine ⟨_, rfl, _, _, _, true, rfl, TyOf.lst htl, kit_list_list, true, rfl, iteF ?_⟩
    refine ⟨_, rfl, tl, _, rfl, .inl (SqL.of htl), _, rfl, _, _, rfl, rfl, rfl, _, rfl, ?_⟩
    rw [List.length_map, hll]
    refine iteNS (by congr 1) ?_
    refine ⟨_, rfl, tl, rfl, ⟨_, SqL.of htl⟩, comp_list (xs := (hdL (fnL ts) (fnL bs) (b + 1)).map V.int) (fun i ys σ' H' => H' = H7 ∧ (∃ v, σ' = [v]) ∧ ys = (List.replicate i true).map V.bl) ⟨rfl, ⟨_, rfl⟩, rfl⟩ ?_ ?_ ?_⟩
    · rintro i ys σ' H' hi ⟨rfl, _, rfl⟩
      refine ⟨SqL.of htl, ?_⟩
      rw [List.length_map, hll] at hi
      rw [List.length_map, List.length_replicate]
      exact Nat.le_trans (m := 401) (by omega) (by decide)
    · rintro i x ys σ' H' hx ⟨rfl, ⟨v, rfl⟩, rfl⟩
      obtain ⟨z, hz, rfl⟩ := map_at hx
      refine ⟨_, rfl, z, rfl, rfl, ⟨_, rfl⟩, ?_⟩
      rw [List.replicate_succ', List.map_append]
      rfl
    rintro ys σ' H' ⟨rfl, _, rfl⟩ l hl0
    refine ⟨l, _, rfl, SqL.of upd_same, ?_⟩
    have ea : (List.replicate ((hdL (fnL ts) (fnL bs) (b + 1)).map V.int).length true).all id = true := by simp
    rw [ea]
    refine ⟨true, rfl, iteF ?_⟩
    have s8 := Same.new (o := .lst ((List.replicate ((hdL (fnL ts) (fnL bs) (b + 1)).map V.int).length true).map V.bl)) hl0
    generalize upd H' l (.lst ((List.replicate ((hdL (fnL ts) (fnL bs) (b + 1)).map V.int).length true).map V.bl)) = H8 at s8
    refine ⟨_, rfl, _, _, _, true, rfl, TyOf.tup (s8 _ _ htp), kit_tup_tup, true, rfl, iteF ?_⟩
    refine ⟨_, rfl, _, _, _, true, rfl, TyOf.tup (s8 _ _ hbt), kit_tup_tup, true, rfl, iteF ?_⟩
    refine ⟨_, rfl, _, rfl, _, rfl, tp, bt, ts, bs, (b : Int), rfl, s8 _ _ htp, s8 _ _ hbt, z2, hts, hbs, .inl ⟨z1, b, rfl, by omega, fun h1 HA gh sA nh => ?_⟩⟩
    have s7A := s8.trans sA
    refine ⟨_, rfl, _, _, rfl, .inr ⟨by decide, h1, tl, _, rfl, rfl, gh, s7A _ _ htl, by rw [hll]; omega, fun HB sB => ⟨true, rfl, iteF ?_⟩⟩⟩
    have s7B := s7A.trans sB
    have hbp : 0 < bs.length := by
      cases bs with
      | nil => cases z1
      | cons x r => simp
    refine ⟨_, rfl, _, _, rfl, rfl, _, rfl, by omega, by omega, ?_⟩
    have em : ((b : Int) + 1).toNat = b + 1 := by omega
    rw [em]
    refine for_range (n := b + 1) (fun i σ' H2 => Same H' H2 ∧ ∃ v7 v8, σ' = [some (.ref a), some (.ref st), some (.ref p), some (.int b), some (.ref tp), some (.ref bt), some (.ref tl), v7, v8, none]) ⟨s7B, _, _, rfl⟩ ?_ ?_
    · rintro n σ' H2 hn ⟨s2, v7, v8, rfl⟩
      rw [Int.zero_add]
      have htl2 := s2 _ _ htl
      have hbt2 := s2 _ _ hbt
      have htp2 := s2 _ _ htp
      refine ⟨_, rfl, _, _, rfl, rfl, _, rfl, bt, _, rfl, .inr (SqT.of hbt2), _, _, rfl, ?_⟩
      rw [List.length_map]
      obtain ⟨r, er, hr1, hr2⟩ : ∃ r : Nat, (if ((bs.length : Nat) : Int) < (n : Int) + 1 then ((bs.length : Nat) : Int) else (n : Int) + 1) = (r : Int) ∧ r ≤ n + 1 ∧ (r = n + 1 ∨ r = bs.length) ∧ r ≤ bs.length := by
        by_cases c : ((bs.length : Nat) : Int) < (n : Int) + 1
        · rw [if_pos c]; exact ⟨bs.length, rfl, by omega, .inr rfl, Nat.le_refl _⟩
        · rw [if_neg c]; exact ⟨n + 1, by omega, Nat.le_refl _, .inl rfl, by omega⟩
      rw [er]
      refine ⟨_, rfl, by omega, by omega, comp_range (n := (r : Int).toNat) (fun i ys σ' H3 => H3 = H2 ∧ (∃ v, σ' = [v, some (.ref bt), some (.ref tl), some (.int n)]) ∧ ys = ((List.range i).map (fun i => fnL bs i * hd (fnL ts) (fnL bs) (n - i))).map V.int) ⟨rfl, ⟨_, rfl⟩, rfl⟩ ?_ ?_ ?_⟩
      · rintro i ys σ' H3 hi ⟨rfl, _, rfl⟩
        rw [List.length_map, List.length_map, List.length_range]
        exact Nat.le_trans (m := 401) (by omega) (by decide)
      · rintro i ys σ' H3 hi ⟨rfl, ⟨v, rfl⟩, rfl⟩
        have hi' : i < bs.length := by omega
        have h2 : n - i < (hdL (fnL ts) (fnL bs) (b + 1)).length := by omega
        rw [Int.zero_add]
        refine ⟨_, rfl, _, rfl, bt, _, _, V.int (fnL bs i), rfl, rfl, SqT.of hbt2, ?_, _, rfl, _, rfl, _, rfl, _, _, rfl, rfl, tl, _, _, V.int (hd (fnL ts) (fnL bs) (n - i)), rfl, rfl, SqL.of htl2, ?_, _, _, rfl, rfl, ⟨Nat.lt_of_le_of_lt (fnL_small hbs _) p200, hd_bits _ _ (fnL_small hts) (fnL_small hbs) (by omega)⟩, rfl, ⟨_, rfl⟩, ?_⟩
        · exact atI_nat (by unfold fnL; rw [List.getElem?_map, List.getD_eq_getElem?_getD, List.getElem?_eq_getElem hi']; rfl)
        · rw [show (n : Int) - (i : Int) = ((n - i : Nat) : Int) by omega]
          refine atI_nat ?_
          rw [← hdL_at (fnL ts) (fnL bs) (show n - i < b + 1 by omega), List.getElem?_map, List.getD_eq_getElem?_getD, List.getElem?_eq_getElem h2]
          rfl
        · rw [List.range_succ, List.map_append, List.map_append]
          rfl
      · rintro ys σ' H3 ⟨rfl, _, rfl⟩ pp hpp
        have sp := Same.new (o := .lst (((List.range (r : Int).toNat).map (fun i => fnL bs i * hd (fnL ts) (fnL bs) (n - i))).map V.int)) hpp
        refine ⟨_, rfl, pp, _, rfl, .inl (SqL.of upd_same), _, rfl, _, rfl, tp, ts, n, rfl, sp _ _ htp2, rfl, _, rfl, iteNS ?_ ⟨s2.trans sp, _, _, rfl⟩⟩
        rw [sumN_list, Int.toNat_natCast]
        congr 1
        have e : sumN r (fun i => fnL bs i * hd (fnL ts) (fnL bs) (n - i)) = sumN (n + 1) (fun i => fnL bs i * hd (fnL ts) (fnL bs) (n - i)) := by
          rw [show n + 1 = r + (n + 1 - r) by omega]
          symm
          refine sumN_more r (n + 1 - r) _ fun i h1 h2 => ?_
          have : bs.length ≤ i := by omega
          unfold fnL
          rw [List.getD_eq_getElem?_getD, List.getElem?_eq_none this]
          simp
        rw [e]
        exact hd_conv (fnL ts) (fnL bs) z1 n
    rintro σ' HC ⟨sC, v7, v8, rfl⟩
    refine ⟨_, rfl, _, _, rfl, ?_⟩
    obtain ⟨m, em, hm1, hm2⟩ : ∃ m : Nat, (if (12 : Int) < (b : Int) then (12 : Int) else (b : Int)) = (m : Int) ∧ m ≤ 12 ∧ m ≤ b := by
      by_cases c : (12 : Int) < (b : Int)
      · rw [if_pos c]; exact ⟨12, rfl, by omega, by omega⟩
      · rw [if_neg c]; exact ⟨b, rfl, by omega, Nat.le_refl _⟩
    rw [em]
    refine ⟨_, _, rfl, rfl, _, rfl, by omega, by omega, ?_⟩
    have en : ((m : Int) + 1).toNat = m + 1 := by omega
    rw [en]
    refine for_range (n := m + 1) (fun i σ' H2 => Same H' H2 ∧ ∃ v7 v8 v9, σ' = [some (.ref a), some (.ref st), some (.ref p), some (.int b), some (.ref tp), some (.ref bt), some (.ref tl), v7, v8, v9]) ⟨sC, _, _, _, rfl⟩ ?_ ?_
    · rintro n σ' H2 hn ⟨s2, v7, v8, v9, rfl⟩
      rw [Int.zero_add]
      have htl2 := s2 _ _ htl
      have gp2 := s2 _ _ gp7
      have hrw2 := mvR s2 hrw7
      have hn24 : n ≤ 24 := by omega
      have hcnt := hmc n (by omega) hn24 26 (by omega)
      have h2 : n < (hdL (fnL ts) (fnL bs) (b + 1)).length := by omega
      refine ⟨_, rfl, _, rfl, rfl, _, rfl, ite2 (fun _ => iteT ?_) (fun _ => ⟨_, rfl, _, _, rfl, rfl, (show (0 : Int) < 3 by decide), _, rfl, _, _, rfl, rfl, (show (0 : Int) < 3 by decide), rfl, _, rfl, ite2 (fun _ => ?_) (fun _ => ⟨s2, _, _, _, rfl⟩)⟩)⟩
      all_goals
        refine ⟨_, rfl, _, rfl, n, n, by omega, rfl, hn24, by omega, fun lq ys H3 gl h3 s3 nl => ?_⟩
        have hly : ys.length ≤ sizeLine := by rw [← h3.length]; exact Nat.le_trans (partF_len _ _ _) (pow24 hn24)
        refine ⟨lq, rfl, ⟨_, SqL.of gl⟩, comp_list (xs := ys) (fun i zs σ' H4 => Same H3 H4 ∧ (∃ v, σ' = [v, some (.ref p)]) ∧ zs.length ≤ i ∧ All2 Tup1 H4 (((partF 26 n n).take i).filter (madeOf rows)) zs) ⟨fun _ _ z => z, ⟨_, rfl⟩, Nat.le_refl _, .nil⟩ ?_ ?_ ?_⟩
        · rintro i zs σ' H4 hi ⟨s4', _, hy, _⟩
          exact ⟨SqL.of (s4' _ _ gl), by omega⟩
        · rintro i x zs σ' H4 hx ⟨s4', ⟨v, rfl⟩, hy, h5⟩
          obtain ⟨hs, hhs, q, rfl, hq⟩ := h3.get hx
          have s24 := s3.trans s4'
          refine ⟨_, rfl, _, rfl, p, xs, rows, q, hs, rfl, s24 _ _ gp2, mvR s24 hrw2, hl6, hnd, s4' _ _ hq, fun H5 s5' => ⟨_, _, rfl, rfl, _, rfl, ?_⟩⟩
          rw [Bool.decide_eq_true]
          refine ite2 (fun hc => ⟨_, rfl, s4'.trans s5', ⟨_, rfl⟩, by simp; omega, ?_⟩) (fun hc => ⟨s4'.trans s5', ⟨_, rfl⟩, by omega, ?_⟩)
          · rw [filter_take _ hhs, if_pos hc]
            exact (h5.mv s5'.tups).snoc ⟨q, rfl, s5' _ _ (s4' _ _ hq)⟩
          · rw [filter_take _ hhs, if_neg hc, List.append_nil]
            exact h5.mv s5'.tups
        · rintro zs σ' H4 ⟨s4', _, hy, h5⟩ l2 hl2
          rw [← h3.length, List.take_length] at h5
          have sn := s3.trans (s4'.trans (Same.new (o := .lst zs) hl2))
          have hlz : ((zs.length : Nat) : Int) = (hdL (fnL ts) (fnL bs) (b + 1)).getD n 0 := by rw [← h5.length]; exact hcnt
          refine ⟨_, rfl, l2, _, rfl, .inl (SqL.of upd_same), _, rfl, _, rfl, tl, _, _, V.int ((hdL (fnL ts) (fnL bs) (b + 1)).getD n 0), rfl, rfl, SqL.of (sn _ _ htl2), atI_nat ?_, rfl, _, rfl, iteNS (by rw [hlz]) ⟨s2.trans sn, _, _, _, rfl⟩⟩
          rw [List.getElem?_map, List.getD_eq_getElem?_getD, List.getElem?_eq_getElem h2]
          rfl
    · rintro σ' H2 ⟨s2, v7, v8, v9, rfl⟩
      exact k _
end
theorem all_mk {l : PySem.W.OpenLaw} {w : World} {K : PySem.W.Frag} {h : Heap} {mg : Str → Option Value} {fa : Addr} (X : K.In h) (G : h.Ns mainGlobals mg) (hfa : mg "law" = some (.ref fa))
    {f0 : Addr} {od0 an0 : Option Addr} {sl0 : Array (Option Value)} {oc0 kV0 dc0 pm0 cd0 ct0 : Value}
    {f1 : Addr} {od1 an1 : Option Addr} {sl1 : Array (Option Value)} {oc1 kV1 dc1 pm1 cd1 ct1 : Value}
    {f2 : Addr} {od2 an2 : Option Addr} {sl2 : Array (Option Value)} {oc2 kV2 dc2 pm2 cd2 ct2 : Value}
    {f3 : Addr} {od3 an3 : Option Addr} {sl3 : Array (Option Value)} {oc3 kV3 dc3 pm3 cd3 ct3 : Value}
    {f4 : Addr} {od4 an4 : Option Addr} {sl4 : Array (Option Value)} {oc4 kV4 dc4 pm4 cd4 ct4 : Value}
    {f5 : Addr} {od5 an5 : Option Addr} {sl5 : Array (Option Value)} {oc5 kV5 dc5 pm5 cd5 ct5 : Value}
    {f6 : Addr} {od6 an6 : Option Addr} {sl6 : Array (Option Value)} {oc6 kV6 dc6 pm6 cd6 ct6 : Value}
    {f7 : Addr} {od7 an7 : Option Addr} {sl7 : Array (Option Value)} {oc7 kV7 dc7 pm7 cd7 ct7 : Value}
    {f8 : Addr} {od8 an8 : Option Addr} {sl8 : Array (Option Value)} {oc8 kV8 dc8 pm8 cd8 ct8 : Value}
    {f9 : Addr} {od9 an9 : Option Addr} {sl9 : Array (Option Value)} {oc9 kV9 dc9 pm9 cd9 ct9 : Value}
    {f10 : Addr} {od10 an10 : Option Addr} {sl10 : Array (Option Value)} {oc10 kV10 dc10 pm10 cd10 ct10 : Value}
    {f11 : Addr} {od11 an11 : Option Addr} {sl11 : Array (Option Value)} {oc11 kV11 dc11 pm11 cd11 ct11 : Value}
    {f12 : Addr} {od12 an12 : Option Addr} {sl12 : Array (Option Value)} {oc12 kV12 dc12 pm12 cd12 ct12 : Value}
    {f13 : Addr} {od13 an13 : Option Addr} {sl13 : Array (Option Value)} {oc13 kV13 dc13 pm13 cd13 ct13 : Value}
    {f14 : Addr} {od14 an14 : Option Addr} {sl14 : Array (Option Value)} {oc14 kV14 dc14 pm14 cd14 ct14 : Value}
    {f15 : Addr} {od15 an15 : Option Addr} {sl15 : Array (Option Value)} {oc15 kV15 dc15 pm15 cd15 ct15 : Value}
    {f16 : Addr} {od16 an16 : Option Addr} {sl16 : Array (Option Value)} {oc16 kV16 dc16 pm16 cd16 ct16 : Value}
    {f17 : Addr} {od17 an17 : Option Addr} {sl17 : Array (Option Value)} {oc17 kV17 dc17 pm17 cd17 ct17 : Value}
    {f18 : Addr} {od18 an18 : Option Addr} {sl18 : Array (Option Value)} {oc18 kV18 dc18 pm18 cd18 ct18 : Value}
    {f19 : Addr} {od19 an19 : Option Addr} {sl19 : Array (Option Value)} {oc19 kV19 dc19 pm19 cd19 ct19 : Value}
    {f20 : Addr} {od20 an20 : Option Addr} {sl20 : Array (Option Value)} {oc20 kV20 dc20 pm20 cd20 ct20 : Value}
    {f21 : Addr} {od21 an21 : Option Addr} {sl21 : Array (Option Value)} {oc21 kV21 dc21 pm21 cd21 ct21 : Value}
    {q_NoSum : Addr}
    {q_NoBottom : Addr}
    (a0 : PySem.W.nsIn K mainGlobals "refuse_beyond" = some (some (.ref f0))) (l0 : K.lookup f0 = some ⟨oc0, od0, .func (PySem.W.fnOf "refuse_beyond" "refuse_beyond" (defArgs s_refuse_beyond) (defBody s_refuse_beyond) (defScope s_refuse_beyond) .none kV0 dc0 pm0 an0 cd0 ct0), sl0⟩) (c0 : PySem.W.codeIn K cd0 "refuse_beyond" = true) (k0 : PySem.W.keepIn K (.ref f0) = true)
    (a1 : PySem.W.nsIn K mainGlobals "refuse_bound" = some (some (.ref f1))) (l1 : K.lookup f1 = some ⟨oc1, od1, .func (PySem.W.fnOf "refuse_bound" "refuse_bound" (defArgs s_refuse_bound) (defBody s_refuse_bound) (defScope s_refuse_bound) .none kV1 dc1 pm1 an1 cd1 ct1), sl1⟩) (c1 : PySem.W.codeIn K cd1 "refuse_bound" = true) (k1 : PySem.W.keepIn K (.ref f1) = true)
    (a2 : PySem.W.nsIn K mainGlobals "at_power" = some (some (.ref f2))) (l2 : K.lookup f2 = some ⟨oc2, od2, .func (PySem.W.fnOf "at_power" "at_power" (defArgs s_at_power) (defBody s_at_power) (defScope s_at_power) .none kV2 dc2 pm2 an2 cd2 ct2), sl2⟩) (c2 : PySem.W.codeIn K cd2 "at_power" = true) (k2 : PySem.W.keepIn K (.ref f2) = true)
    (a3 : PySem.W.nsIn K mainGlobals "next_head" = some (some (.ref f3))) (l3 : K.lookup f3 = some ⟨oc3, od3, .func (PySem.W.fnOf "next_head" "next_head" (defArgs s_next_head) (defBody s_next_head) (defScope s_next_head) .none kV3 dc3 pm3 an3 cd3 ct3), sl3⟩) (c3 : PySem.W.codeIn K cd3 "next_head" = true) (k3 : PySem.W.keepIn K (.ref f3) = true)
    (a4 : PySem.W.nsIn K mainGlobals "heads" = some (some (.ref f4))) (l4 : K.lookup f4 = some ⟨oc4, od4, .func (PySem.W.fnOf "heads" "heads" (defArgs s_heads) (defBody s_heads) (defScope s_heads) .none kV4 dc4 pm4 an4 cd4 ct4), sl4⟩) (c4 : PySem.W.codeIn K cd4 "heads" = true) (k4 : PySem.W.keepIn K (.ref f4) = true)
    (a5 : PySem.W.nsIn K mainGlobals "often" = some (some (.ref f5))) (l5 : K.lookup f5 = some ⟨oc5, od5, .func (PySem.W.fnOf "often" "often" (defArgs s_often) (defBody s_often) (defScope s_often) .none kV5 dc5 pm5 an5 cd5 ct5), sl5⟩) (c5 : PySem.W.codeIn K cd5 "often" = true) (k5 : PySem.W.keepIn K (.ref f5) = true)
    (a6 : PySem.W.nsIn K mainGlobals "is_of_store" = some (some (.ref f6))) (l6 : K.lookup f6 = some ⟨oc6, od6, .func (PySem.W.fnOf "is_of_store" "is_of_store" (defArgs s_is_of_store) (defBody s_is_of_store) (defScope s_is_of_store) .none kV6 dc6 pm6 an6 cd6 ct6), sl6⟩) (c6 : PySem.W.codeIn K cd6 "is_of_store" = true) (k6 : PySem.W.keepIn K (.ref f6) = true)
    (a7 : PySem.W.nsIn K mainGlobals "trimmed" = some (some (.ref f7))) (l7 : K.lookup f7 = some ⟨oc7, od7, .func (PySem.W.fnOf "trimmed" "trimmed" (defArgs s_trimmed) (defBody s_trimmed) (defScope s_trimmed) .none kV7 dc7 pm7 an7 cd7 ct7), sl7⟩) (c7 : PySem.W.codeIn K cd7 "trimmed" = true) (k7 : PySem.W.keepIn K (.ref f7) = true)
    (a8 : PySem.W.nsIn K mainGlobals "poly_plus" = some (some (.ref f8))) (l8 : K.lookup f8 = some ⟨oc8, od8, .func (PySem.W.fnOf "poly_plus" "poly_plus" (defArgs s_poly_plus) (defBody s_poly_plus) (defScope s_poly_plus) .none kV8 dc8 pm8 an8 cd8 ct8), sl8⟩) (c8 : PySem.W.codeIn K cd8 "poly_plus" = true) (k8 : PySem.W.keepIn K (.ref f8) = true)
    (a9 : PySem.W.nsIn K mainGlobals "product_of" = some (some (.ref f9))) (l9 : K.lookup f9 = some ⟨oc9, od9, .func (PySem.W.fnOf "product_of" "product_of" (defArgs s_product_of) (defBody s_product_of) (defScope s_product_of) .none kV9 dc9 pm9 an9 cd9 ct9), sl9⟩) (c9 : PySem.W.codeIn K cd9 "product_of" = true) (k9 : PySem.W.keepIn K (.ref f9) = true)
    (a10 : PySem.W.nsIn K mainGlobals "top_of" = some (some (.ref f10))) (l10 : K.lookup f10 = some ⟨oc10, od10, .func (PySem.W.fnOf "top_of" "top_of" (defArgs s_top_of) (defBody s_top_of) (defScope s_top_of) .none kV10 dc10 pm10 an10 cd10 ct10), sl10⟩) (c10 : PySem.W.codeIn K cd10 "top_of" = true) (k10 : PySem.W.keepIn K (.ref f10) = true)
    (a11 : PySem.W.nsIn K mainGlobals "bottom_of" = some (some (.ref f11))) (l11 : K.lookup f11 = some ⟨oc11, od11, .func (PySem.W.fnOf "bottom_of" "bottom_of" (defArgs s_bottom_of) (defBody s_bottom_of) (defScope s_bottom_of) .none kV11 dc11 pm11 an11 cd11 ct11), sl11⟩) (c11 : PySem.W.codeIn K cd11 "bottom_of" = true) (k11 : PySem.W.keepIn K (.ref f11) = true)
    (a12 : PySem.W.nsIn K mainGlobals "numbers_of" = some (some (.ref f12))) (l12 : K.lookup f12 = some ⟨oc12, od12, .func (PySem.W.fnOf "numbers_of" "numbers_of" (defArgs s_numbers_of) (defBody s_numbers_of) (defScope s_numbers_of) .none kV12 dc12 pm12 an12 cd12 ct12), sl12⟩) (c12 : PySem.W.codeIn K cd12 "numbers_of" = true) (k12 : PySem.W.keepIn K (.ref f12) = true)
    (a13 : PySem.W.nsIn K mainGlobals "_law_start" = some (some (.ref f13))) (l13 : K.lookup f13 = some ⟨oc13, od13, .func (PySem.W.fnOf "_law_start" "_law_start" (defArgs s__law_start) (defBody s__law_start) (defScope s__law_start) .none kV13 dc13 pm13 an13 cd13 ct13), sl13⟩) (c13 : PySem.W.codeIn K cd13 "_law_start" = true) (k13 : PySem.W.keepIn K (.ref f13) = true)
    (a14 : PySem.W.nsIn K mainGlobals "_law_mix" = some (some (.ref f14))) (l14 : K.lookup f14 = some ⟨oc14, od14, .func (PySem.W.fnOf "_law_mix" "_law_mix" (defArgs s__law_mix) (defBody s__law_mix) (defScope s__law_mix) .none kV14 dc14 pm14 an14 cd14 ct14), sl14⟩) (c14 : PySem.W.codeIn K cd14 "_law_mix" = true) (k14 : PySem.W.keepIn K (.ref f14) = true)
    (a15 : PySem.W.nsIn K mainGlobals "_law_draw" = some (some (.ref f15))) (l15 : K.lookup f15 = some ⟨oc15, od15, .func (PySem.W.fnOf "_law_draw" "_law_draw" (defArgs s__law_draw) (defBody s__law_draw) (defScope s__law_draw) .none kV15 dc15 pm15 an15 cd15 ct15), sl15⟩) (c15 : PySem.W.codeIn K cd15 "_law_draw" = true) (k15 : PySem.W.keepIn K (.ref f15) = true)
    (a16 : PySem.W.nsIn K mainGlobals "_law_partings" = some (some (.ref f16))) (l16 : K.lookup f16 = some ⟨oc16, od16, .func (PySem.W.fnOf "_law_partings" "_law_partings" (defArgs s__law_partings) (defBody s__law_partings) (defScope s__law_partings) .none kV16 dc16 pm16 an16 cd16 ct16), sl16⟩) (c16 : PySem.W.codeIn K cd16 "_law_partings" = true) (k16 : PySem.W.keepIn K (.ref f16) = true)
    (a17 : PySem.W.nsIn K mainGlobals "_law_whole" = some (some (.ref f17))) (l17 : K.lookup f17 = some ⟨oc17, od17, .func (PySem.W.fnOf "_law_whole" "_law_whole" (defArgs s__law_whole) (defBody s__law_whole) (defScope s__law_whole) .none kV17 dc17 pm17 an17 cd17 ct17), sl17⟩) (c17 : PySem.W.codeIn K cd17 "_law_whole" = true) (k17 : PySem.W.keepIn K (.ref f17) = true)
    (a18 : PySem.W.nsIn K mainGlobals "_law_same" = some (some (.ref f18))) (l18 : K.lookup f18 = some ⟨oc18, od18, .func (PySem.W.fnOf "_law_same" "_law_same" (defArgs s__law_same) (defBody s__law_same) (defScope s__law_same) .none kV18 dc18 pm18 an18 cd18 ct18), sl18⟩) (c18 : PySem.W.codeIn K cd18 "_law_same" = true) (k18 : PySem.W.keepIn K (.ref f18) = true)
    (a19 : PySem.W.nsIn K mainGlobals "_law_power" = some (some (.ref f19))) (l19 : K.lookup f19 = some ⟨oc19, od19, .func (PySem.W.fnOf "_law_power" "_law_power" (defArgs s__law_power) (defBody s__law_power) (defScope s__law_power) .none kV19 dc19 pm19 an19 cd19 ct19), sl19⟩) (c19 : PySem.W.codeIn K cd19 "_law_power" = true) (k19 : PySem.W.keepIn K (.ref f19) = true)
    (a20 : PySem.W.nsIn K mainGlobals "_law_store" = some (some (.ref f20))) (l20 : K.lookup f20 = some ⟨oc20, od20, .func (PySem.W.fnOf "_law_store" "_law_store" (defArgs s__law_store) (defBody s__law_store) (defScope s__law_store) .none kV20 dc20 pm20 an20 cd20 ct20), sl20⟩) (c20 : PySem.W.codeIn K cd20 "_law_store" = true) (k20 : PySem.W.keepIn K (.ref f20) = true)
    (a21 : PySem.W.nsIn K mainGlobals "law" = some (some (.ref f21))) (l21 : K.lookup f21 = some ⟨oc21, od21, .func (PySem.W.fnOf "law" "law" (defArgs s_law) (defBody s_law) (defScope s_law) .none kV21 dc21 pm21 an21 cd21 ct21), sl21⟩) (c21 : PySem.W.codeIn K cd21 "law" = true) (k21 : PySem.W.keepIn K (.ref f21) = true)
    (z_all : PySem.W.nsIn K mainGlobals "all" = some none)
    (z_bool : PySem.W.nsIn K mainGlobals "bool" = some none)
    (z_dict : PySem.W.nsIn K mainGlobals "dict" = some none)
    (z_int : PySem.W.nsIn K mainGlobals "int" = some none)
    (z_isinstance : PySem.W.nsIn K mainGlobals "isinstance" = some none)
    (z_len : PySem.W.nsIn K mainGlobals "len" = some none)
    (z_list : PySem.W.nsIn K mainGlobals "list" = some none)
    (z_max : PySem.W.nsIn K mainGlobals "max" = some none)
    (z_min : PySem.W.nsIn K mainGlobals "min" = some none)
    (z_range : PySem.W.nsIn K mainGlobals "range" = some none)
    (z_str : PySem.W.nsIn K mainGlobals "str" = some none)
    (z_sum : PySem.W.nsIn K mainGlobals "sum" = some none)
    (z_tuple : PySem.W.nsIn K mainGlobals "tuple" = some none)
    (z_zip : PySem.W.nsIn K mainGlobals "zip" = some none)
    {tk_MOST_BOUND : Tok} (w_MOST_BOUND : PySem.W.nsIn K mainGlobals "MOST_BOUND" = some (some (.int 400 tk_MOST_BOUND)))
    (m_NoSum : PySem.W.nsIn K mainGlobals "NoSum" = some (some (.ref q_NoSum)))
    (m_NoBottom : PySem.W.nsIn K mainGlobals "NoBottom" = some (some (.ref q_NoBottom)))
    (x_NoBottom : PySem.W.excIn K q_NoBottom bmV "ValueError.__new__" = true) (y_NoBottom : PySem.W.keepIn K (.ref q_NoBottom) = true)
    (x_NoSum : PySem.W.excIn K q_NoSum bmV "ValueError.__new__" = true) (y_NoSum : PySem.W.keepIn K (.ref q_NoSum) = true)
    (e1_NoSum : PySem.W.findIn K (.ref q_NoSum) "__getattribute__" = some (some (.builtin "BaseException.__getattribute__"))) (e2_NoSum : PySem.W.findIn K (.ref q_NoSum) "__getattr__" = some none) (e3_NoSum : PySem.W.findIn K (.ref q_NoSum) "__class__" = some (some (.builtin "object.__class__"))) (e4_NoSum : PySem.W.specialIn K (.builtin "object.__class__") "__get__" = some (some (.builtin "getset_descriptor.__get__"))) (e5_NoSum : PySem.W.takesIn K (.builtin "object.__class__") = some true) (e6_NoSum : PySem.W.mroIn K q_NoSum (.type "object") = some true) (e7_NoSum : PySem.W.mroIn K q_NoSum (.type "BaseException") = some true)
    (e1_NoBottom : PySem.W.findIn K (.ref q_NoBottom) "__getattribute__" = some (some (.builtin "BaseException.__getattribute__"))) (e2_NoBottom : PySem.W.findIn K (.ref q_NoBottom) "__getattr__" = some none) (e3_NoBottom : PySem.W.findIn K (.ref q_NoBottom) "__class__" = some (some (.builtin "object.__class__"))) (e4_NoBottom : PySem.W.specialIn K (.builtin "object.__class__") "__get__" = some (some (.builtin "getset_descriptor.__get__"))) (e5_NoBottom : PySem.W.takesIn K (.builtin "object.__class__") = some true) (e6_NoBottom : PySem.W.mroIn K q_NoBottom (.type "object") = some true) (e7_NoBottom : PySem.W.mroIn K q_NoBottom (.type "BaseException") = some true) :
    ∃ fd : FuncData, (∀ (s : Shared) (v : Value), BindsTo s fd ⟨[v], []⟩ [("_law_script", v)]) ∧ ∀ base : Heap, K.In base → base.Ns mainGlobals mg → FnOk l.prog w K mg base CX0 30 fa fd ["_law_script"] (sp_law K) := by
  have e := hfa.symm.trans (PySem.W.mg_of X G a21)
  cases e
  have T : Txt K mg ⟨f0, PySem.W.fnOf "refuse_beyond" "refuse_beyond" (defArgs s_refuse_beyond) (defBody s_refuse_beyond) (defScope s_refuse_beyond) .none kV0 dc0 pm0 an0 cd0 ct0, f1, PySem.W.fnOf "refuse_bound" "refuse_bound" (defArgs s_refuse_bound) (defBody s_refuse_bound) (defScope s_refuse_bound) .none kV1 dc1 pm1 an1 cd1 ct1, f2, PySem.W.fnOf "at_power" "at_power" (defArgs s_at_power) (defBody s_at_power) (defScope s_at_power) .none kV2 dc2 pm2 an2 cd2 ct2, f3, PySem.W.fnOf "next_head" "next_head" (defArgs s_next_head) (defBody s_next_head) (defScope s_next_head) .none kV3 dc3 pm3 an3 cd3 ct3, f4, PySem.W.fnOf "heads" "heads" (defArgs s_heads) (defBody s_heads) (defScope s_heads) .none kV4 dc4 pm4 an4 cd4 ct4, f5, PySem.W.fnOf "often" "often" (defArgs s_often) (defBody s_often) (defScope s_often) .none kV5 dc5 pm5 an5 cd5 ct5, f6, PySem.W.fnOf "is_of_store" "is_of_store" (defArgs s_is_of_store) (defBody s_is_of_store) (defScope s_is_of_store) .none kV6 dc6 pm6 an6 cd6 ct6, f7, PySem.W.fnOf "trimmed" "trimmed" (defArgs s_trimmed) (defBody s_trimmed) (defScope s_trimmed) .none kV7 dc7 pm7 an7 cd7 ct7, f8, PySem.W.fnOf "poly_plus" "poly_plus" (defArgs s_poly_plus) (defBody s_poly_plus) (defScope s_poly_plus) .none kV8 dc8 pm8 an8 cd8 ct8, f9, PySem.W.fnOf "product_of" "product_of" (defArgs s_product_of) (defBody s_product_of) (defScope s_product_of) .none kV9 dc9 pm9 an9 cd9 ct9, f10, PySem.W.fnOf "top_of" "top_of" (defArgs s_top_of) (defBody s_top_of) (defScope s_top_of) .none kV10 dc10 pm10 an10 cd10 ct10, f11, PySem.W.fnOf "bottom_of" "bottom_of" (defArgs s_bottom_of) (defBody s_bottom_of) (defScope s_bottom_of) .none kV11 dc11 pm11 an11 cd11 ct11, f12, PySem.W.fnOf "numbers_of" "numbers_of" (defArgs s_numbers_of) (defBody s_numbers_of) (defScope s_numbers_of) .none kV12 dc12 pm12 an12 cd12 ct12, f13, PySem.W.fnOf "_law_start" "_law_start" (defArgs s__law_start) (defBody s__law_start) (defScope s__law_start) .none kV13 dc13 pm13 an13 cd13 ct13, f14, PySem.W.fnOf "_law_mix" "_law_mix" (defArgs s__law_mix) (defBody s__law_mix) (defScope s__law_mix) .none kV14 dc14 pm14 an14 cd14 ct14, f15, PySem.W.fnOf "_law_draw" "_law_draw" (defArgs s__law_draw) (defBody s__law_draw) (defScope s__law_draw) .none kV15 dc15 pm15 an15 cd15 ct15, f16, PySem.W.fnOf "_law_partings" "_law_partings" (defArgs s__law_partings) (defBody s__law_partings) (defScope s__law_partings) .none kV16 dc16 pm16 an16 cd16 ct16, f17, PySem.W.fnOf "_law_whole" "_law_whole" (defArgs s__law_whole) (defBody s__law_whole) (defScope s__law_whole) .none kV17 dc17 pm17 an17 cd17 ct17, f18, PySem.W.fnOf "_law_same" "_law_same" (defArgs s__law_same) (defBody s__law_same) (defScope s__law_same) .none kV18 dc18 pm18 an18 cd18 ct18, f19, PySem.W.fnOf "_law_power" "_law_power" (defArgs s__law_power) (defBody s__law_power) (defScope s__law_power) .none kV19 dc19 pm19 an19 cd19 ct19, f20, PySem.W.fnOf "_law_store" "_law_store" (defArgs s__law_store) (defBody s__law_store) (defScope s__law_store) .none kV20 dc20 pm20 an20 cd20 ct20, fa, PySem.W.fnOf "law" "law" (defArgs s_law) (defBody s_law) (defScope s_law) .none kV21 dc21 pm21 an21 cd21 ct21, q_NoSum, q_NoBottom⟩ := ⟨fun_mk (st := s_refuse_beyond) l0 c0 k0,
    (fun_mk (st := s_refuse_beyond) l0 c0 k0).binds (fun _ _ _ _ _ _ us hl => match us, hl with | [_, _], _ => rfl),
    PySem.W.mg_of X G a0,
    fun_mk (st := s_refuse_bound) l1 c1 k1,
    (fun_mk (st := s_refuse_bound) l1 c1 k1).binds (fun _ _ _ _ _ _ us hl => match us, hl with | [_], _ => rfl),
    PySem.W.mg_of X G a1,
    fun_mk (st := s_at_power) l2 c2 k2,
    (fun_mk (st := s_at_power) l2 c2 k2).binds (fun _ _ _ _ _ _ us hl => match us, hl with | [_, _], _ => rfl),
    PySem.W.mg_of X G a2,
    fun_mk (st := s_next_head) l3 c3 k3,
    (fun_mk (st := s_next_head) l3 c3 k3).binds (fun _ _ _ _ _ _ us hl => match us, hl with | [_, _, _], _ => rfl),
    PySem.W.mg_of X G a3,
    fun_mk (st := s_heads) l4 c4 k4,
    (fun_mk (st := s_heads) l4 c4 k4).binds (fun _ _ _ _ _ _ us hl => match us, hl with | [_, _, _], _ => rfl),
    PySem.W.mg_of X G a4,
    fun_mk (st := s_often) l5 c5 k5,
    (fun_mk (st := s_often) l5 c5 k5).binds (fun _ _ _ _ _ _ us hl => match us, hl with | [_, _], _ => rfl),
    PySem.W.mg_of X G a5,
    fun_mk (st := s_is_of_store) l6 c6 k6,
    (fun_mk (st := s_is_of_store) l6 c6 k6).binds (fun _ _ _ _ _ _ us hl => match us, hl with | [_, _], _ => rfl),
    PySem.W.mg_of X G a6,
    fun_mk (st := s_trimmed) l7 c7 k7,
    (fun_mk (st := s_trimmed) l7 c7 k7).binds (fun _ _ _ _ _ _ us hl => match us, hl with | [_], _ => rfl),
    PySem.W.mg_of X G a7,
    fun_mk (st := s_poly_plus) l8 c8 k8,
    (fun_mk (st := s_poly_plus) l8 c8 k8).binds (fun _ _ _ _ _ _ us hl => match us, hl with | [_, _], _ => rfl),
    PySem.W.mg_of X G a8,
    fun_mk (st := s_product_of) l9 c9 k9,
    (fun_mk (st := s_product_of) l9 c9 k9).binds (fun _ _ _ _ _ _ us hl => match us, hl with | [_], _ => rfl),
    PySem.W.mg_of X G a9,
    fun_mk (st := s_top_of) l10 c10 k10,
    (fun_mk (st := s_top_of) l10 c10 k10).binds (fun _ _ _ _ _ _ us hl => match us, hl with | [_], _ => rfl),
    PySem.W.mg_of X G a10,
    fun_mk (st := s_bottom_of) l11 c11 k11,
    (fun_mk (st := s_bottom_of) l11 c11 k11).binds (fun _ _ _ _ _ _ us hl => match us, hl with | [_], _ => rfl),
    PySem.W.mg_of X G a11,
    fun_mk (st := s_numbers_of) l12 c12 k12,
    (fun_mk (st := s_numbers_of) l12 c12 k12).binds (fun _ _ _ _ _ _ us hl => match us, hl with | [_, _], _ => rfl),
    PySem.W.mg_of X G a12,
    fun_mk (st := s__law_start) l13 c13 k13,
    (fun_mk (st := s__law_start) l13 c13 k13).binds (fun _ _ _ _ _ _ us hl => match us, hl with | [_], _ => rfl),
    PySem.W.mg_of X G a13,
    fun_mk (st := s__law_mix) l14 c14 k14,
    (fun_mk (st := s__law_mix) l14 c14 k14).binds (fun _ _ _ _ _ _ us hl => match us, hl with | [_], _ => rfl),
    PySem.W.mg_of X G a14,
    fun_mk (st := s__law_draw) l15 c15 k15,
    (fun_mk (st := s__law_draw) l15 c15 k15).binds (fun _ _ _ _ _ _ us hl => match us, hl with | [_, _], _ => rfl),
    PySem.W.mg_of X G a15,
    fun_mk (st := s__law_partings) l16 c16 k16,
    (fun_mk (st := s__law_partings) l16 c16 k16).binds (fun _ _ _ _ _ _ us hl => match us, hl with | [_, _], _ => rfl),
    PySem.W.mg_of X G a16,
    fun_mk (st := s__law_whole) l17 c17 k17,
    (fun_mk (st := s__law_whole) l17 c17 k17).binds (fun _ _ _ _ _ _ us hl => match us, hl with | [_], _ => rfl),
    PySem.W.mg_of X G a17,
    fun_mk (st := s__law_same) l18 c18 k18,
    (fun_mk (st := s__law_same) l18 c18 k18).binds (fun _ _ _ _ _ _ us hl => match us, hl with | [_, _], _ => rfl),
    PySem.W.mg_of X G a18,
    fun_mk (st := s__law_power) l19 c19 k19,
    (fun_mk (st := s__law_power) l19 c19 k19).binds (fun _ _ _ _ _ _ us hl => match us, hl with | [_, _], _ => rfl),
    PySem.W.mg_of X G a19,
    fun_mk (st := s__law_store) l20 c20 k20,
    (fun_mk (st := s__law_store) l20 c20 k20).binds (fun _ _ _ _ _ _ us hl => match us, hl with | [_, _], _ => rfl),
    PySem.W.mg_of X G a20,
    fun_mk (st := s_law) l21 c21 k21,
    (fun_mk (st := s_law) l21 c21 k21).binds (fun _ _ _ _ _ _ us hl => match us, hl with | [_], _ => rfl),
    PySem.W.mg_of X G a21,
    PySem.W.mg_none_of X G z_all,
    PySem.W.mg_none_of X G z_bool,
    PySem.W.mg_none_of X G z_dict,
    PySem.W.mg_none_of X G z_int,
    PySem.W.mg_none_of X G z_isinstance,
    PySem.W.mg_none_of X G z_len,
    PySem.W.mg_none_of X G z_list,
    PySem.W.mg_none_of X G z_max,
    PySem.W.mg_none_of X G z_min,
    PySem.W.mg_none_of X G z_range,
    PySem.W.mg_none_of X G z_str,
    PySem.W.mg_none_of X G z_sum,
    PySem.W.mg_none_of X G z_tuple,
    PySem.W.mg_none_of X G z_zip,
    ⟨_, PySem.W.mg_of X G w_MOST_BOUND⟩,
    ⟨h, X⟩,
    PySem.W.mg_of X G m_NoSum,
    PySem.W.mg_of X G m_NoBottom,
    ⟨x_NoBottom, y_NoBottom⟩,
    ⟨x_NoSum, y_NoSum⟩,
    ⟨e1_NoSum, e2_NoSum, e3_NoSum, e4_NoSum, e5_NoSum, e6_NoSum, e7_NoSum⟩,
    ⟨e1_NoBottom, e2_NoBottom, e3_NoBottom, e4_NoBottom, e5_NoBottom, e6_NoBottom, e7_NoBottom⟩⟩
  exact ⟨PySem.W.fnOf "law" "law" (defArgs s_law) (defBody s_law) (defScope s_law) .none kV21 dc21 pm21 an21 cd21 ct21, fun s v => .of_eq rfl, fun base _ _ => ok_law T⟩
theorem walk {l : PySem.W.OpenLaw} {q : Program} {loose : List Str} {XP : (Str → Option Value) → Heap → Prop} {YP : World → Heap → Prop} {d : DefRec} {K : Params → PySem.W.Frag} (hn : l.most = some 63) (hdf : d.params.defaults = [])
    (hY : ∀ (w : World) (h : Heap), YP w h → (K w.params).In h)
    (F : ∀ (w : World) (mg : Str → Option Value) (fa : Addr) (h : Heap), (K w.params).In h → h.Ns mainGlobals mg → mg d.name = some (.ref fa) →
      ∃ fd : FuncData, (∀ (s : Shared) (u : Value), BindsTo s fd ⟨[u], []⟩ [("_law_script", u)]) ∧ ∀ base : Heap, (K w.params).In base → base.Ns mainGlobals mg → FnOk l.prog w (K w.params) mg base CX0 30 fa fd ["_law_script"] (sp_law (K w.params))) :
    PySem.W.WalkO q loose XP YP l.row.toRowW d [] (fun f vs => PySem.call f vs) :=
  L2.walk_of (n := 63) (k := 30) (x := "_law_script") (CX := fun _ => CX0) (sp := fun w => sp_law (K w.params)) hn (by decide) hdf ⟨fun _ => rfl, by decide, by decide⟩ hY F (fun _ _ a ns hl _ hS => ⟨a, ns, rfl, hS, hl, fun _ => rfl⟩) fun _ _ _ _ _ z => z
end My
def PySem.W.Fast.tw14401480225734209316 : Nat := 0
def PySem.W.Fast.tw16959575776621187451 : Nat := 0
def PySem.W.Fast.tw14791179132894866711 : Nat := 0
def PySem.W.Fast.tw408777652235882578 : Nat := 0
def PySem.W.Fast.tw15696374923168525066 : Nat := 0
def PySem.W.Fast.tw6006030029135180978 : Nat := 0
def PySem.W.Fast.tw11145342034630061854 : Nat := 0
def PySem.W.Fast.tw1850003937778785527 : Nat := 0
open PySem PySem.W PyProof.Rows
set_option maxRecDepth 100000 in
set_option maxHeartbeats 0 in
theorem PySem.Challenge.cw_shutpairs_k56_whole_stores_are_fractions_holds : PySem.Challenge.rw_shutpairs_k56_whole_stores_are_fractions.Holds := by
  w_on; o_law; k_head; (case hw => w_witness2)
  k_fill
  refine My.walk (l := PySem.Challenge.rw_shutpairs_k56_whole_stores_are_fractions) rfl rfl (fun w h Y => PySem.W.kIn_of Y) ?F
  case F =>
    intro w mg fa h KX G hmg
    refine' My.all_mk KX G hmg ?a0 ?l0 ?c0 ?k0 ?a1 ?l1 ?c1 ?k1 ?a2 ?l2 ?c2 ?k2 ?a3 ?l3 ?c3 ?k3 ?a4 ?l4 ?c4 ?k4 ?a5 ?l5 ?c5 ?k5 ?a6 ?l6 ?c6 ?k6 ?a7 ?l7 ?c7 ?k7 ?a8 ?l8 ?c8 ?k8 ?a9 ?l9 ?c9 ?k9 ?a10 ?l10 ?c10 ?k10 ?a11 ?l11 ?c11 ?k11 ?a12 ?l12 ?c12 ?k12 ?a13 ?l13 ?c13 ?k13 ?a14 ?l14 ?c14 ?k14 ?a15 ?l15 ?c15 ?k15 ?a16 ?l16 ?c16 ?k16 ?a17 ?l17 ?c17 ?k17 ?a18 ?l18 ?c18 ?k18 ?a19 ?l19 ?c19 ?k19 ?a20 ?l20 ?c20 ?k20 ?a21 ?l21 ?c21 ?k21 ?z_all ?z_bool ?z_dict ?z_int ?z_isinstance ?z_len ?z_list ?z_max ?z_min ?z_range ?z_str ?z_sum ?z_tuple ?z_zip ?w_MOST_BOUND ?m_NoSum ?m_NoBottom ?x_NoBottom ?y_NoBottom ?x_NoSum ?y_NoSum ?e1_NoSum ?e2_NoSum ?e3_NoSum ?e4_NoSum ?e5_NoSum ?e6_NoSum ?e7_NoSum ?e1_NoBottom ?e2_NoBottom ?e3_NoBottom ?e4_NoBottom ?e5_NoBottom ?e6_NoBottom ?e7_NoBottom
    (case a0 => k_is)
    (case l0 => k_is)
    (case c0 => k_is)
    (case k0 => k_is)
    (case a1 => k_is)
    (case l1 => k_is)
    (case c1 => k_is)
    (case k1 => k_is)
    (case a2 => k_is)
    (case l2 => k_is)
    (case c2 => k_is)
    (case k2 => k_is)
    (case a3 => k_is)
    (case l3 => k_is)
    (case c3 => k_is)
    (case k3 => k_is)
    (case a4 => k_is)
    (case l4 => k_is)
    (case c4 => k_is)
    (case k4 => k_is)
    (case a5 => k_is)
    (case l5 => k_is)
    (case c5 => k_is)
    (case k5 => k_is)
    (case a6 => k_is)
    (case l6 => k_is)
    (case c6 => k_is)
    (case k6 => k_is)
    (case a7 => k_is)
    (case l7 => k_is)
    (case c7 => k_is)
    (case k7 => k_is)
    (case a8 => k_is)
    (case l8 => k_is)
    (case c8 => k_is)
    (case k8 => k_is)
    (case a9 => k_is)
    (case l9 => k_is)
    (case c9 => k_is)
    (case k9 => k_is)
    (case a10 => k_is)
    (case l10 => k_is)
    (case c10 => k_is)
    (case k10 => k_is)
    (case a11 => k_is)
    (case l11 => k_is)
    (case c11 => k_is)
    (case k11 => k_is)
    (case a12 => k_is)
    (case l12 => k_is)
    (case c12 => k_is)
    (case k12 => k_is)
    (case a13 => k_is)
    (case l13 => k_is)
    (case c13 => k_is)
    (case k13 => k_is)
    (case a14 => k_is)
    (case l14 => k_is)
    (case c14 => k_is)
    (case k14 => k_is)
    (case a15 => k_is)
    (case l15 => k_is)
    (case c15 => k_is)
    (case k15 => k_is)
    (case a16 => k_is)
    (case l16 => k_is)
    (case c16 => k_is)
    (case k16 => k_is)
    (case a17 => k_is)
    (case l17 => k_is)
    (case c17 => k_is)
    (case k17 => k_is)
    (case a18 => k_is)
    (case l18 => k_is)
    (case c18 => k_is)
    (case k18 => k_is)
    (case a19 => k_is)
    (case l19 => k_is)
    (case c19 => k_is)
    (case k19 => k_is)
    (case a20 => k_is)
    (case l20 => k_is)
    (case c20 => k_is)
    (case k20 => k_is)
    (case a21 => k_is)
    (case l21 => k_is)
    (case c21 => k_is)
    (case k21 => k_is)
    (case z_all => k_is)
    (case z_bool => k_is)
    (case z_dict => k_is)
    (case z_int => k_is)
    (case z_isinstance => k_is)
    (case z_len => k_is)
    (case z_list => k_is)
    (case z_max => k_is)
    (case z_min => k_is)
    (case z_range => k_is)
    (case z_str => k_is)
    (case z_sum => k_is)
    (case z_tuple => k_is)
    (case z_zip => k_is)
    (case w_MOST_BOUND => k_is)
    (case m_NoSum => k_is)
    (case m_NoBottom => k_is)
    (case x_NoBottom => k_exc)
    (case y_NoBottom => k_is)
    (case x_NoSum => k_exc)
    (case y_NoSum => k_is)
    (case e1_NoSum => k_is)
    (case e2_NoSum => k_is)
    (case e3_NoSum => k_is)
    (case e4_NoSum => k_is)
    (case e5_NoSum => k_is)
    (case e6_NoSum => k_is)
    (case e7_NoSum => k_is)
    (case e1_NoBottom => k_is)
    (case e2_NoBottom => k_is)
    (case e3_NoBottom => k_is)
    (case e4_NoBottom => k_is)
    (case e5_NoBottom => k_is)
    (case e6_NoBottom => k_is)
    (case e7_NoBottom => k_is)
