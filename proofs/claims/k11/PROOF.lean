import PyProof.Rows.All
import Wide.All
import OpenK.AllK
import Wide.FinOn
import PyProof.EqAt
import PyProof.EqKinds
import PyProof.TupleCall
import PyProof.NeKinds
import PyProof.StrLawsTight
import PyProof.ExcClass3
import PyProof.StationsW
import PyProof.ExcBaseAll.ValueError
import PyProof.NsDelKeeps
import PyProof.RulesAs
import PyProof.ExcArgsOwn
import PyProof.ExcAttrAll.ValueError
import PyProof.ZipIter
import PyProof.ListMulRoad
import KE.KDictSum
import PyProof.ListRange
import PyProof.Draws
import PyProof.EnumMake
import PyProof.Rows.Range3
import PyProof.Rows.SortShell
import PyProof.Conv_int_bool
import PyProof.Rows.SetFrom
import PyProof.Rows.SetObj
import PyProof.WalksMore
import KE.IntBitsLaws
import KE.KRevSl
import PyProof.FitsBits
import PyProof.CollectIter
import PyProof.IsRules
import PyProof.AttrMissHeap
import PyProof.WalksS
import KE.KDictOf
import PyProof.PureStr
import PyProof.StrOps2
import PyProof.SliceStr2
import PyProof.StrBlockI
import PyProof.CompFree
import PyProof.Rows.StrSplitJoin
import PyProof.StrCalls6
import PyProof.ConsumeWalk
import PyProof.StrLawsReplace
import PyProof.DictItems
import PyProof.Rows.SortRuns
import KE.KFind
import Lean
import PySem.Challenge.RW_shutpairs_k11_rules_kept
set_option Elab.async false
set_option linter.all false
set_option maxRecDepth 100000
/-! THE HAND LAYER, for ints, bools, texts, own classes, LISTS and tuples (index, slices, in, append, pop ..), calls, loops. Paste it whole ahead of your own text; what your proof does not reach may be deleted. -/
namespace L2
open PySem PySem.Spec PyProof.Rows

/-- a key: an int or a str -/
abbrev Key := Sum Int Str
def keyIs : Key → Value → Bool
  | .inl k, v => Value.isInt k v
  | .inr x, v => Value.isStrOf x v
def keyH (w : World) : Key → Int
  | .inl k => hashInt k
  | .inr x => hashStr w x
theorem keyIs_shape : ∀ {k : Key} {v : Value}, keyIs k v = true → (∃ i t, k = Sum.inl i ∧ v = Value.int i t) ∨ (∃ x t, k = Sum.inr x ∧ v = Value.str x t)
  | .inl i, v, h => by
    obtain ⟨t, e⟩ := Value.isInt_shape (k := i) (v := v) h
    exact .inl ⟨i, t, rfl, e⟩
  | .inr x, v, h => by
    obtain ⟨t, e⟩ := Value.isStrOf_shape (x := x) (v := v) h
    exact .inr ⟨x, t, rfl, e⟩
theorem key_ll (a b : Int) : decide ((Sum.inl a : Key) = Sum.inl b) = (a == b) := by
  by_cases e : a = b
  · subst e; simp
  · have h : ¬ (Sum.inl a : Key) = Sum.inl b := fun q => e (Sum.inl.inj q)
    rw [decide_eq_false h]
    exact (beq_eq_false_iff_ne.mpr e).symm
theorem key_rr (a b : Str) : decide ((Sum.inr a : Key) = Sum.inr b) = decide (a = b) := by
  by_cases e : a = b
  · subst e; simp
  · have h : ¬ (Sum.inr a : Key) = Sum.inr b := fun q => e (Sum.inr.inj q)
    rw [decide_eq_false h, decide_eq_false e]
theorem key_lr (a : Int) (b : Str) : decide ((Sum.inl a : Key) = Sum.inr b) = false := decide_eq_false (fun q => nomatch q)
theorem key_rl (a : Str) (b : Int) : decide ((Sum.inr a : Key) = Sum.inl b) = false := decide_eq_false (fun q => nomatch q)

def mixKind (prog : Program) (w : World) : PySem.KeyKind prog w Key where
  is := keyIs
  hash := keyH w
  inj := fun v a b ha hb => by
    rcases keyIs_shape ha with ⟨i, t, rfl, rfl⟩ | ⟨x, t, rfl, rfl⟩
    · rcases keyIs_shape hb with ⟨j, u, rfl, e⟩ | ⟨y, u, rfl, e⟩
      · injection e with e1 _; rw [e1]
      · exact nomatch e
    · rcases keyIs_shape hb with ⟨j, u, rfl, e⟩ | ⟨y, u, rfl, e⟩
      · exact nomatch e
      · injection e with e1 _; rw [e1]
  byValue := fun k v h => by
    rcases keyIs_shape h with ⟨i, t, rfl, rfl⟩ | ⟨x, t, rfl, rfl⟩ <;> rfl
  pyHash := fun hv h => by
    rcases keyIs_shape hv with ⟨i, t, rfl, rfl⟩ | ⟨x, t, rfl, rfl⟩
    · exact wpAny_pyHash_int h
    · exact wpAny_pyHash_str h
  eqBool := fun hu hv h => by
    rcases keyIs_shape hu with ⟨i, t, rfl, rfl⟩ | ⟨x, t, rfl, rfl⟩
    · rcases keyIs_shape hv with ⟨j, u, rfl, rfl⟩ | ⟨y, u, rfl, rfl⟩
      · rw [key_ll] at h; exact wpAny_eqBool_int h
      · rw [key_lr] at h; exact SeqAt.EqAt.int_str i t y u _ _ _ _ h
    · rcases keyIs_shape hv with ⟨j, u, rfl, rfl⟩ | ⟨y, u, rfl, rfl⟩
      · rw [key_rl] at h; exact SeqAt.EqAt.str_int x t j u _ _ _ _ h
      · rw [key_rr] at h; exact wpAny_eqBool_str h
  «strs» := fun k x t v h => by
    rcases keyIs_shape h with ⟨i, u, rfl, e⟩ | ⟨y, u, rfl, e⟩
    · exact nomatch e
    · injection e with e1 _
      subst e1
      cases v <;> rfl

end L2

namespace L2
open PySem PySem.Spec PyProof.Rows

/-- a value, without the heap -/
inductive V where
  | non | bl (b : Bool) | int (i : Int) | str (x : Str) | byt (b : Array UInt8) | flt (b : UInt64) | ref (a : Addr) | ty (n : String)
  deriving DecidableEq

def RelV : V → Value → Prop
  | .non, u => u = Value.none
  | .bl b, u => u = Value.bool b
  | .int i, u => ∃ t, u = Value.int i t
  | .str x, u => ∃ t, u = Value.str x t
  | .byt b, u => ∃ t, u = Value.bytes b t
  | .flt b, u => ∃ t, u = Value.float b t
  | .ref a, u => u = Value.ref a
  | .ty n, u => u = Value.type n

abbrev Vals : List V → List Value → Prop := Paired RelV
theorem Vals.length {xs : List V} {us : List Value} (r : Vals xs us) : xs.length = us.length := Paired.length r
theorem Vals.get : ∀ {xs : List V} {us : List Value} {i : Nat} {x : V}, Vals xs us → xs[i]? = some x → ∃ u, us[i]? = some u ∧ RelV x u
  | _, _, _, _, .nil, e => by simp at e
  | _, _, 0, _, .cons r _, e => by simp at e; subst e; exact ⟨_, rfl, r⟩
  | _, _, i + 1, x, .cons _ t, e => by
    obtain ⟨u, h1, h2⟩ := Vals.get (i := i) (x := x) t (by simpa using e)
    exact ⟨u, by simpa using h1, h2⟩
theorem Vals.set {x : V} {u : Value} (r : RelV x u) : ∀ {xs : List V} {us : List Value} (i : Nat), Vals xs us → Vals (xs.set i x) (us.set i u)
  | _, _, _, .nil => .nil
  | _, _, 0, .cons _ t => .cons r t
  | _, _, i + 1, .cons q t => .cons q (Vals.set r i t)
theorem Vals.append : ∀ {xs ys : List V} {us ws : List Value}, Vals xs us → Vals ys ws → Vals (xs ++ ys) (us ++ ws)
  | _, _, _, _, .nil, s => s
  | _, _, _, _, .cons r t, s => .cons r (Vals.append t s)
theorem Vals.take : ∀ {xs : List V} {us : List Value} (n : Nat), Vals xs us → Vals (xs.take n) (us.take n)
  | _, _, 0, _ => .nil
  | _, _, _ + 1, .nil => .nil
  | _, _, n + 1, .cons r t => .cons r (Vals.take n t)
theorem Vals.drop : ∀ {xs : List V} {us : List Value} (n : Nat), Vals xs us → Vals (xs.drop n) (us.drop n)
  | _, _, 0, r => r
  | _, _, _ + 1, .nil => .nil
  | _, _, n + 1, .cons _ t => Vals.drop n t
def RelO : Option V → Option Value → Prop
  | some v, some u => RelV v u
  | none, none => True
  | _, _ => False
def KV {κ : Type} : List (κ × V) → List (κ × Value) → Prop := Paired fun (p : κ × V) (q : κ × Value) => p.1 = q.1 ∧ RelV p.2 q.2

/-- a key of a dict (00_mix): an int or a text -/
def kV : Key → V
  | .inl i => .int i
  | .inr x => .str x

/-- what stands at a tracked address -/
inductive HO where
  /-- a list -/
  | lst (xs : List V)
  /-- a tuple (never changes) -/
  | tup (xs : List V)
  /-- a dict whose keys are ints and texts; one whose keys are tuples of ints and texts (the empty one is both) -/
  | dK (kvs : List (Key × V)) | dT (kvs : List (List Key × V))
  /-- a set of ints: its members, its size -/
  | set (S : Int → Bool) (n : Nat)
  /-- an instance of the class at C, its dict at dx, its attributes -/
  | ins (C dx : Addr) (fs : List (Str × V))
  /-- the dict of the instance at x -/
  | own (x : Addr)
  /-- the dict of an exception -/
  | xd (fs : List (Str × V))
  /-- a bound method, f of x -/
  | met (f x : Addr)
  /-- a range object lo, lo + 1, .. below hi -/
  | rng (lo hi : Int)
  /-- a thing that is known to the object (the script; a dict while a loop walks it): read, never written while it is so -/
  | frz (o : Obj) (u : HO)
  /-- a code object's table -/
  | tbl (ps : Array Value)
  /-- any other thing, by what is true of its one object (a def of one's own: SetO a S n := HO.ext fun h => ..) -/
  | ext (φ : Heap → Prop)

abbrev Hp := Addr → Option HO
def upd (H : Hp) (a : Addr) (o : HO) : Hp := fun b => if b = a then some o else H b
theorem upd_same {H : Hp} {a : Addr} {o : HO} : upd H a o a = some o := by unfold upd; rw [if_pos rfl]
theorem upd_ne {H : Hp} {a b : Addr} {o : HO} (h : b ≠ a) : upd H a o b = H b := by unfold upd; rw [if_neg h]
theorem ne_of_none {H : Hp} {a b : Addr} {o : HO} (h : H a = some o) (h' : H b = none) : a ≠ b := by
  intro e; subst e; rw [h] at h'; cases h'

section
variable (P : Program) (w : World)
def ObjOk (H : Hp) (h : Heap) (a : Addr) : HO → Prop
  | .lst xs => xs.length ≤ sizeLine ∧ ∃ (its : List Value) (n : Nat), Vals xs its ∧ h.get? a = some { cls := .type "list", data := .seq its.toArray n }
  | .tup xs => xs.length ≤ sizeLine ∧ ∃ its : List Value, Vals xs its ∧ IsTup h a its.toArray ∧ ∀ o, h.get? a = some o → o.dict = none
  | .dK kvs => kvs.length ≤ sizeLine ∧ (a == sysModules) = false ∧ ∃ vs, KV kvs vs ∧ h.DictOf (mixKind P w) a vs
  | .dT kvs => kvs.length ≤ sizeLine ∧ (a == sysModules) = false ∧ ∃ xs : List (List Key × Addr × Value),
      Paired (fun (p : List Key × V) (q : List Key × Addr × Value) => p.1 = q.1 ∧ H q.2.1 = some (.tup (p.1.map kV)) ∧ RelV p.2 q.2.2) kvs xs ∧
      ∃ o es ep, h.get? a = some o ∧ o.ExactDict ∧ o.data = .dict es ep ∧ es.toList = xs.map (entryOfKey (tupleKind (mixKind P w))) ∧ (xs.map (·.1)).Nodup
  | .set S n => h.SetOf (intKind P w) a S n
  | .ins C dx fs => H dx = some (.own a) ∧ fs.length ≤ 1000 ∧ dx ≠ a ∧ h.get? a = some (PySem.W.instObj C dx) ∧
      ∃ mA, h.Ns1 dx mA ∧ (∀ f, RelO (fs.lookup f) (mA f)) ∧ PySem.Within mA (fs.map (·.1))
  | .own _ => ∃ o, h.get? a = some o
  | .xd fs => ∃ mA, h.Ns1 a mA ∧ ∀ f, RelO (fs.lookup f) (mA f)
  | .rng lo hi => ∃ t u v, h.get? a = some { cls := .type "range", data := .fields #[.int lo t, .int hi u, .int 1 v] }
  | .frz o u => h.get? a = some o ∧ ObjOk H h a u
  | .tbl ps => h.get? a = some { cls := .none, data := .fields ps }
  | .met f x => h.get? a = some (PySem.W.methodObj (.ref f) (.ref x))
  | .ext φ => φ h ∧ (∃ o, h.get? a = some o) ∧ ∀ h1 h2 : Heap, φ h1 → (∀ o, h1.get? a = some o → h2.get? a = some o) → φ h2
theorem tup_nodict {h : Heap} {its : Array Value} : ∀ o, (h.push { cls := .type "tuple", data := .seq its }).get? h.objs.size = some o → o.dict = none := by
  intro o e
  rw [Heap.get?_push_size _ rfl] at e
  cases e
  rfl
/-- the abstract heap is held -/
def HOk (H : Hp) (h : Heap) : Prop := ∀ a o, H a = some o → ObjOk P w H h a o
end

section
variable {P : Program} {w : World} {H H' : Hp} {h h' : Heap} {a : Addr} {o : HO}
theorem ObjOk.lt (x : ObjOk P w H h a o) : a < h.objs.size := by
  cases o with
  | lst xs => obtain ⟨_, _, _, _, e⟩ := x; exact Heap.lt_size e
  | tup xs => obtain ⟨_, _, _, p, _⟩ := x; exact p.lt
  | dK kvs => obtain ⟨_, _, _, _, o, _, _, e, _⟩ := x; exact Heap.lt_size e
  | dT kvs => obtain ⟨_, _, _, _, o, _, _, e, _⟩ := x; exact Heap.lt_size e
  | set S n => obtain ⟨o, _, _, _, e, _⟩ := x; exact Heap.lt_size e
  | ins C dx fs => obtain ⟨_, _, _, e, _⟩ := x; exact Heap.lt_size e
  | own y => obtain ⟨_, e⟩ := x; exact Heap.lt_size e
  | xd fs => obtain ⟨_, ⟨_, _, _, e, _⟩, _⟩ := x; exact Heap.lt_size e
  | rng lo hi => obtain ⟨_, _, _, e⟩ := x; exact Heap.lt_size e
  | frz ob u => obtain ⟨e, _⟩ := x; exact Heap.lt_size e
  | tbl ps => exact Heap.lt_size (show h.get? a = some _ from x)
  | met f y => exact Heap.lt_size (show h.get? a = some _ from x)
  | ext φ => obtain ⟨_, ⟨_, e⟩, _⟩ := x; exact Heap.lt_size e
theorem Paired.mapP {α β : Type} {F G : α → β → Prop} : ∀ {l₁ : List α} {l₂ : List β}, Paired F l₁ l₂ → (∀ a b, F a b → G a b) → Paired G l₁ l₂
  | _, _, .nil, _ => .nil
  | _, _, .cons r t, f => .cons (f _ _ r) (Paired.mapP t f)
/-- what an object's description leans on: its own object, its own dict, the tuples -/
theorem ObjOk.stay (x : ObjOk P w H h a o) (k : ∀ b u, (b = a ∨ H b = some (.own a)) → h.get? b = some u → h'.get? b = some u)
    (ho : ∀ b, H b = some (.own a) → H' b = some (.own a)) (ht : ∀ b xs, H b = some (.tup xs) → H' b = some (.tup xs)) : ObjOk P w H' h' a o := by
  induction o with
  | lst xs => obtain ⟨z, its, n, r, e⟩ := x; exact ⟨z, its, n, r, k _ _ (.inl rfl) e⟩
  | tup xs =>
    obtain ⟨z, its, r, ⟨ob, e, c⟩, nd⟩ := x
    have e' := k _ _ (.inl rfl) e
    exact ⟨z, its, r, ⟨ob, e', c⟩, fun o q => by rw [e'] at q; cases q; exact nd ob e⟩
  | dK kvs => obtain ⟨z, y, vs, r, ob, es, ep, e, c⟩ := x; exact ⟨z, y, vs, r, ob, es, ep, k _ _ (.inl rfl) e, c⟩
  | dT kvs =>
    obtain ⟨z, y, xs, r, ob, es, ep, e, c⟩ := x
    exact ⟨z, y, xs, Paired.mapP r fun p q z => ⟨z.1, ht _ _ z.2.1, z.2.2⟩, ob, es, ep, k _ _ (.inl rfl) e, c⟩
  | set S n => obtain ⟨ob, es, ep, t, e, c⟩ := x; exact ⟨ob, es, ep, t, k _ _ (.inl rfl) e, c⟩
  | ins C dx fs =>
    obtain ⟨d, z, ne, e, mA, ⟨od, es, ep, e2, c⟩, r⟩ := x
    exact ⟨ho _ d, z, ne, k _ _ (.inl rfl) e, mA, ⟨od, es, ep, k _ _ (.inr d) e2, c⟩, r⟩
  | own y => obtain ⟨ob, e⟩ := x; exact ⟨ob, k _ _ (.inl rfl) e⟩
  | xd fs => obtain ⟨mA, ⟨od, es, ep, e, c⟩, r⟩ := x; exact ⟨mA, ⟨od, es, ep, k _ _ (.inl rfl) e, c⟩, r⟩
  | rng lo hi => obtain ⟨t, u, v, e⟩ := x; exact ⟨t, u, v, k _ _ (.inl rfl) e⟩
  | frz ob u ih => obtain ⟨e, q⟩ := x; exact ⟨k _ _ (.inl rfl) e, ih q⟩
  | tbl ps =>
    have e : h.get? a = some { cls := .none, data := .fields ps } := x
    show h'.get? a = some { cls := .none, data := .fields ps }
    exact k a _ (.inl rfl) e
  | met f y =>
    have e : h.get? a = some (PySem.W.methodObj (.ref f) (.ref y)) := x
    show h'.get? a = some (PySem.W.methodObj (.ref f) (.ref y))
    exact k a _ (.inl rfl) e
  | ext φ => obtain ⟨p, ⟨o, e⟩, st⟩ := x; exact ⟨st _ _ p fun o q => k _ _ (.inl rfl) q, ⟨o, k _ _ (.inl rfl) e⟩, st⟩
theorem HOk.lt (x : HOk P w H h) (e : H a = some o) : a < h.objs.size := (x a o e).lt
theorem HOk.fresh (x : HOk P w H h) (e : h.objs.size ≤ a) : H a = none := by
  cases q : H a with
  | none => rfl
  | some u => exact absurd (Nat.lt_of_lt_of_le (x.lt q) e) (Nat.lt_irrefl _)
/-- every object of the heap is kept -/
theorem HOk.kept (x : HOk P w H h) (k : ∀ b u, h.get? b = some u → h'.get? b = some u) : HOk P w H h' := fun a o e =>
  (x a o e).stay (fun b u _ q => k b u q) (fun _ q => q) fun _ _ q => q
/-- a new object is laid and tracked -/
theorem HOk.laid (x : HOk P w H h) (k : ∀ b u, h.get? b = some u → h'.get? b = some u) (hp : h.objs.size ≤ a) (new : ObjOk P w (upd H a o) h' a o) : HOk P w (upd H a o) h' := fun b u e => by
  have hn := x.fresh hp
  by_cases hb : b = a
  · subst hb; rw [upd_same] at e; cases e; exact new
  · rw [upd_ne hb] at e
    exact (x b u e).stay (fun c v _ q => k c v q) (fun c q => by rw [upd_ne (ne_of_none q hn)]; exact q) fun c xs q => by rw [upd_ne (ne_of_none q hn)]; exact q
end

/-- what may be read as u: it is u, or a known u -/
def Rd (H : Hp) (a : Addr) (u : HO) : Prop := H a = some u ∨ ∃ o, H a = some (.frz o u)
theorem Rd.ok {P : Program} {w : World} {H : Hp} {h : Heap} {a : Addr} {u : HO} (r : Rd H a u) (x : HOk P w H h) : ObjOk P w H h a u := by
  rcases r with r | ⟨o, r⟩
  · exact x a u r
  · obtain ⟨_, q⟩ := x a _ r
    exact q
/-- what may be written -/
def Mut : Option HO → Prop
  | some (.lst _) => True
  | some (.dK _) => True
  | some (.dT _) => True
  | some (.set _ _) => True
  | some (.ins _ _ _) => True
  | some (.ext _) => True
  | _ => False
section
variable {P : Program} {w : World} {H : Hp} {h h' : Heap} {x e : Addr} {o' : HO}
/-- the object at e is changed: x itself, or the dict of the instance x -/
theorem HOk.write (ok : HOk P w H h) (mu : Mut (H x)) (he : e = x ∨ H e = some (.own x)) (k : ∀ b u, b ≠ e → h.get? b = some u → h'.get? b = some u) (heo : ∃ u, h'.get? e = some u)
    (new : ObjOk P w (upd H x o') h' x o') : HOk P w (upd H x o') h' := fun b u q => by
  have nown : ∀ c y, H c = some (.own y) → c ≠ x := fun c y r z => by subst z; rw [r] at mu; exact mu
  have ntup : ∀ c xs, H c = some (.tup xs) → c ≠ x := fun c xs r z => by subst z; rw [r] at mu; exact mu
  by_cases hb : b = x
  · subst hb; rw [upd_same] at q; cases q; exact new
  · rw [upd_ne hb] at q
    by_cases hbe : b = e
    · have q' : H b = some (.own x) := by
        rcases he with z | z
        · exact absurd (hbe.trans z) hb
        · rw [hbe]; exact z
      rw [q] at q'; cases q'
      obtain ⟨v, hv⟩ := heo
      exact ⟨v, by rw [hbe]; exact hv⟩
    · refine (ok b u q).stay (fun c v hc r => k c v ?_ r) (fun c r => by rw [upd_ne (nown c b r)]; exact r) fun c xs r => by rw [upd_ne (ntup c xs r)]; exact r
      rcases hc with rfl | hc
      · exact hbe
      · rintro rfl
        rcases he with z | z
        · exact nown c b hc z
        · rw [hc] at z; cases z; exact hb rfl
end

/-! ### kept unless tracked; of the frames at fs (the callers') the slots may change (an exception that passes writes there); of the records at ex (iterators) nothing is said -/
structure Un (fs ex : List Addr) (H H' : Hp) (h h' : Heap) : Prop where
  keep : ∀ b o, h.get? b = some o → H b = none → b ∉ fs → b ∉ ex → h'.get? b = some o
  slot : ∀ b o, h.get? b = some o → H b = none → b ∈ fs → b ∉ ex → ∃ sl, h'.get? b = some { o with slots := sl }
  free : ∀ b o, h.get? b = some o → H b = none → b ∉ ex → H' b = none
  there : ∀ b o, h.get? b = some o → b ∉ ex → ∃ o', h'.get? b = some o'
  tups : ∀ b xs, H b = some (.tup xs) → H' b = some (.tup xs)
  frzs : ∀ b o u, H b = some (.frz o u) → H' b = some (.frz o u)
  tbls : ∀ b ps, H b = some (.tbl ps) → ∃ more, H' b = some (.tbl (ps ++ more))
section
variable {fs fs' ex ex' : List Addr} {H H1 H2 : Hp} {h h1 h2 h' : Heap} {a x e : Addr} {o : HO}
theorem Un.any (u : Un fs ex H H1 h h1) {b : Addr} {ob : Obj} (q : h.get? b = some ob) (n : H b = none) (hx : b ∉ ex) : ∃ sl, h1.get? b = some { ob with slots := sl } := by
  by_cases hb : b ∈ fs
  · exact u.slot b ob q n hb hx
  · exact ⟨ob.slots, u.keep b ob q n hb hx⟩
theorem Un.trans (a : Un fs ex H H1 h h1) (b : Un fs ex H1 H2 h1 h2) : Un fs ex H H2 h h2 where
  keep := fun c ob q n hc hx => b.keep c ob (a.keep c ob q n hc hx) (a.free c ob q n hx) hc hx
  slot := fun c ob q n hc hx => by
    obtain ⟨sl, e1⟩ := a.slot c ob q n hc hx
    obtain ⟨sl', e2⟩ := b.slot c _ e1 (a.free c ob q n hx) hc hx
    exact ⟨sl', e2⟩
  free := fun c ob q n hx => by
    obtain ⟨o', e1⟩ := a.there c ob q hx
    exact b.free c o' e1 (a.free c ob q n hx) hx
  there := fun c ob q hx => by
    obtain ⟨o', e1⟩ := a.there c ob q hx
    exact b.there c o' e1 hx
  tups := fun c xs q => b.tups c xs (a.tups c xs q)
  frzs := fun c ob xs q => b.frzs c ob xs (a.frzs c ob xs q)
  tbls := fun c ps q => by
    obtain ⟨m1, e1⟩ := a.tbls c ps q
    obtain ⟨m2, e2⟩ := b.tbls c _ e1
    exact ⟨m1 ++ m2, by rw [e2, Array.append_assoc]⟩
theorem Un.kept (k : ∀ b u, h.get? b = some u → h'.get? b = some u) : Un fs ex H H h h' :=
  ⟨fun b ob q _ _ _ => k b ob q, fun b ob q _ _ _ => ⟨ob.slots, k b ob q⟩, fun _ _ _ n _ => n, fun b ob q _ => ⟨ob, k b ob q⟩, fun _ _ q => q, fun _ _ _ q => q, fun _ ps q => ⟨#[], by rw [q]; simp⟩⟩
theorem Un.refl : Un fs ex H H h h := Un.kept fun _ _ q => q
theorem Un.laid (k : ∀ b u, h.get? b = some u → h'.get? b = some u) (hp : h.objs.size ≤ a) (hn : H a = none) : Un fs ex H (upd H a o) h h' where
  keep := fun b u q _ _ _ => k b u q
  slot := fun b u q _ _ _ => ⟨u.slots, k b u q⟩
  free := fun b u q n _ => by rw [upd_ne (Nat.ne_of_lt (Nat.lt_of_lt_of_le (Heap.lt_size q) hp))]; exact n
  there := fun b u q _ => ⟨u, k b u q⟩
  tups := fun b xs q => by rw [upd_ne (ne_of_none q hn)]; exact q
  frzs := fun b u xs q => by rw [upd_ne (ne_of_none q hn)]; exact q
  tbls := fun b ps q => ⟨#[], by rw [upd_ne (ne_of_none q hn), q]; simp⟩
theorem Un.write (mu : Mut (H x)) (he : e = x ∨ H e = some (.own x)) (k : ∀ b u, b ≠ e → h.get? b = some u → h'.get? b = some u) (heo : ∃ u, h'.get? e = some u) : Un fs ex H (upd H x o) h h' := by
  have hx : ∀ b, H b = none → b ≠ x := fun b n z => by subst z; rw [n] at mu; exact mu
  have hb : ∀ b, H b = none → b ≠ e := fun b n z => by
    subst z
    rcases he with r | r
    · exact hx b n r
    · rw [n] at r; cases r
  have hm : ∀ b u, H b = some u → ¬ Mut (some u) → b ≠ x := fun b u q nm z => by subst z; rw [q] at mu; exact nm mu
  refine ⟨fun b u q n _ _ => k b u (hb b n) q, fun b u q n _ _ => ⟨u.slots, k b u (hb b n) q⟩, fun b u q n _ => by rw [upd_ne (hx b n)]; exact n, fun b u q _ => ?_,
    fun b xs q => by rw [upd_ne (hm b _ q fun z => z)]; exact q, fun b u xs q => by rw [upd_ne (hm b _ q fun z => z)]; exact q, fun b ps q => ⟨#[], by rw [upd_ne (hm b _ q fun z => z), q]; simp⟩⟩
  by_cases hbe : b = e
  · subst hbe; exact heo
  · exact ⟨u, k b u hbe q⟩
end

/-! ### the heap without what is tracked -/
def trk (h : Heap) (H : Hp) : List Addr := (List.range h.objs.size).filter fun a => (H a).isSome
def hidT (h : Heap) (H : Hp) : Heap := PySem.W.hideAll h (trk h H)
theorem hidT_size (h : Heap) (H : Hp) : (hidT h H).objs.size = h.objs.size := PySem.W.hideAll_size _ _
theorem hidT_get {h : Heap} {H : Hp} {b : Addr} {o : Obj} (e : h.get? b = some o) (n : H b = none) : (hidT h H).get? b = some o :=
  PySem.W.hideAll_get _ e fun hm => by
    have q : (H b).isSome = true := (List.mem_filter.mp hm).2
    rw [n] at q; simp at q
theorem of_hidT {h : Heap} {H : Hp} {b : Addr} {o : Obj} (e : (hidT h H).get? b = some o) : h.get? b = some o ∧ H b = none := by
  have e' : h.get? b = some o := PySem.W.of_hideAll (trk h H) e
  refine ⟨e', ?_⟩
  cases q : H b with
  | none => rfl
  | some x =>
    have hm : b ∈ trk h H := List.mem_filter.mpr ⟨List.mem_range.mpr (Heap.lt_size e'), by simp [q]⟩
    have z : (hidT h H).get? b = none := PySem.W.hideAll_none (trk h H) hm
    rw [z] at e; cases e

/-! ### OpenK's ledger, filled with every new object but one -/
def allNews (g h : Heap) (L : Addr) : List (Addr × Obj) := (List.range h.objs.size).filterMap fun a => if a = L ∨ (g.get? a).isSome = true then none else (h.get? a).map fun o => (a, o)
def rest (g h : Heap) (L d : Addr) : List (Addr × Obj) := (allNews g h L).filter fun p => decide (p.1 ≠ d)
end L2

namespace L2
open PySem PySem.Spec PyProof.Rows

/-- the module's facts, over the base: the heap at the law's entry without what is tracked there -/
structure Mod (K : PySem.W.Frag) (mg : Str → Option Value) (base : Heap) : Prop where
  kin : K.In base
  glob : base.Ns mainGlobals mg
  blt : ∃ mb, base.Ns builtinsNs mb ∧ ∀ x : Str, x ≠ "__name__" → mb x = bootBuiltins x
  nolimit : base.NoLimit

/-- the context: a def's body (or a comprehension's block) running. base: fixed through the whole law; s₀, H₀: the entry; outer: the frames whose slots others may change (a def's callers); stack: all frames that run;
   ex: iterators that were made ahead of the entry and are walked here (a comprehension's); fn: the names whose cells were made at the entry (a def: all; a comprehension's block: its own); calm: not within an except suite; pn: pins that every state bears; xe: what is wanted of an exception that leaves the code -/
structure Cx where
  prog : Program
  w : World
  K : PySem.W.Frag
  mg : Str → Option Value
  base : Heap
  A : Around
  N : List Str
  s₀ : Shared
  H₀ : Hp
  env : Env
  outer : List Env
  stack : List Env
  ex : List Addr
  fn : Str → Bool
  calm : Bool
  pn : List (Addr × Obj)
  xe : Value → Shared → Prop
/-- the callers' frames -/
def frs (l : List Env) : List Addr := l.filterMap (·.frame)
abbrev Cx.fs (X : Cx) : List Addr := frs X.outer

def Vis (sc : Scope) (x : Str) : Prop := sc.names.lookup x = some .local ∨ sc.names.lookup x = some .cell ∨ sc.names.lookup x = some .free
def Loc (sc : Scope) (x : Str) : Prop := sc.names.lookup x = some .local ∨ sc.names.lookup x = some .cell
def Look (env : Env) (h : Heap) (m : Str → Option Value) (x : Str) (u : Value) : Prop :=
  (env.kindOf x = some .local ∧ m x = some u) ∨ ((env.kindOf x = some .cell ∨ env.kindOf x = some .free) ∧ ∃ c, env.cells.lookup x = some c ∧ h.IsCell c (some u))

structure Cx.Ok (X : Cx) : Prop where
  mod : Mod X.K X.mg X.base
  kind : X.env.scope.kind = .function
  glob : X.env.globals = mainGlobals
  blt : X.env.builtins = builtinsNs
  above : X.s₀.heap.objs.size ≤ X.env.locals
  inj : ∀ x y c, X.env.cells.lookup x = some c → X.env.cells.lookup y = some c → x = y
  has : ∀ x, (X.env.kindOf x = some .cell ∨ X.env.kindOf x = some .free) → ∃ c, X.env.cells.lookup x = some c
  cab : ∀ x c, X.fn x = true → X.env.cells.lookup x = some c → X.s₀.heap.objs.size ≤ c
  hd : X.calm = true → X.A.handled = none
  frames : X.A.frames = some X.stack
  stk : X.stack = X.outer ∨ (X.stack = X.env :: X.outer ∧ X.env.frame = some X.env.locals)
  exf : ∀ b ∈ X.ex, b ≠ X.env.locals ∧ ∀ x c, X.env.cells.lookup x = some c → c ≠ b
  bs : ∀ b o, X.base.get? b = some o → X.s₀.heap.get? b = some o ∧ X.H₀ b = none
  bsz : X.base.objs.size ≤ X.s₀.heap.objs.size
  noex : ∀ b o, X.base.get? b = some o → b ∉ X.ex
  exfs : ∀ b ∈ X.ex, b ∉ X.fs
  funs : X.s₀.heap.FunFrames X.base X.outer
  frf : ∀ b ∈ X.fs, X.H₀ b = none

structure Inv (X : Cx) (pins : List (Addr × Obj)) (σ : List (Option V)) (H : Hp) (s : Shared) : Prop where
  ok : X.Ok
  os : s.os = X.s₀.os
  bare : AllBare s.gens
  base : Un X.fs X.ex X.H₀ H X.s₀.heap s.heap
  loc : ∃ m, s.heap.Ns X.env.locals m ∧ ∀ (i : Nat) (x : Str) (v : V), X.N[i]? = some x → σ[i]? = some (some v) → Vis X.env.scope x → ∃ u, RelV v u ∧ Look X.env s.heap m x u
  cell : ∀ x c, X.env.cells.lookup x = some c → ∃ v, s.heap.IsCell c v
  free : H X.env.locals = none
  freeC : ∀ x c, X.env.cells.lookup x = some c → H c = none
  pin : ∀ p ∈ X.pn ++ pins, s.heap.get? p.1 = some p.2 ∧ H p.1 = none ∧ p.1 ≠ X.env.locals ∧ p.1 ∉ X.fs ∧ ∀ v, p.2.data ≠ .cell v
  hok : HOk X.prog X.w H s.heap
  len : σ.length = X.N.length

section
variable {X : Cx} {pins : List (Addr × Obj)} {σ : List (Option V)} {H H' : Hp} {s : Shared} {h' : Heap}

theorem Cx.Ok.nofr (ok : X.Ok) {b : Addr} {o : Obj} (e : X.base.get? b = some o) : b ∉ X.fs := fun hb => by
  have := (ok.funs.mem hb).1
  rw [e] at this; cases this
theorem Inv.bs (I : Inv X pins σ H s) : ∀ b o, X.base.get? b = some o → s.heap.get? b = some o ∧ H b = none := fun b o e =>
  ⟨I.base.keep b o (I.ok.bs b o e).1 (I.ok.bs b o e).2 (I.ok.nofr e) (I.ok.noex b o e), I.base.free b o (I.ok.bs b o e).1 (I.ok.bs b o e).2 (I.ok.noex b o e)⟩
theorem Inv.bk (I : Inv X pins σ H s) : ∀ b o, X.base.get? b = some o → s.heap.get? b = some o := fun b o e => (I.bs b o e).1
theorem Inv.mod (I : Inv X pins σ H s) : Mod X.K X.mg X.base := I.ok.mod
theorem Inv.kIn (I : Inv X pins σ H s) : X.K.In s.heap := I.ok.mod.kin.keeps I.bk
theorem Inv.lt (I : Inv X pins σ H s) : X.env.locals < s.heap.objs.size := let ⟨_, hn, _⟩ := I.loc; hn.lt
theorem Inv.sz (I : Inv X pins σ H s) : X.s₀.heap.objs.size ≤ s.heap.objs.size := Nat.le_trans I.ok.above (Nat.le_of_lt I.lt)
theorem Inv.nofs (I : Inv X pins σ H s) {a : Addr} (h : s.heap.objs.size ≤ a) : a ∉ X.fs := fun hb => by
  obtain ⟨_, o, ho, _⟩ := I.ok.funs.mem hb
  exact absurd (Nat.lt_of_lt_of_le (Heap.lt_size ho) (Nat.le_trans I.sz h)) (Nat.lt_irrefl _)
theorem Inv.cne (I : Inv X pins σ H s) : ∀ x c, X.env.cells.lookup x = some c → c ≠ X.env.locals := fun x c e z => by
  obtain ⟨v, o, ho, hd⟩ := I.cell x c e
  obtain ⟨m, ⟨o', es, ep, ho', hd', _⟩, _⟩ := I.loc
  rw [z, ho'] at ho; cases ho; rw [hd'] at hd; cases hd
theorem Inv.funs (I : Inv X pins σ H s) : s.heap.FunFrames X.base X.outer := by
  have all : ∀ (l : List Env), (∀ b ∈ frs l, b ∈ X.fs) → X.s₀.heap.FunFrames X.base l → s.heap.FunFrames X.base l := by
    intro l
    induction l with
    | nil => intro _ _; trivial
    | cons env r ih =>
      intro hs hl
      obtain ⟨hk, ⟨L, o, hf, hn, ho, hd⟩, hr⟩ := hl
      have hL : L ∈ X.fs := hs L (by unfold frs; rw [List.filterMap_cons, hf]; exact List.mem_cons_self)
      obtain ⟨sl, e⟩ := I.base.slot L o ho (I.ok.frf L hL) hL fun z => I.ok.exfs L z hL
      exact ⟨hk, ⟨L, _, hf, hn, e, hd⟩, ih (fun b hb => hs b (by unfold frs; rw [List.filterMap_cons, hf]; exact List.mem_cons_of_mem _ hb)) hr⟩
  exact all X.outer (fun _ hb => hb) I.ok.funs

/-- the frames that run, for a call -/
theorem Inv.stack (I : Inv X pins σ H s) : s.heap.FunFrames X.base X.stack := by
  rcases I.ok.stk with e | ⟨e, hf⟩
  · rw [e]; exact I.funs
  · rw [e]
    obtain ⟨m, hn, _⟩ := I.loc
    refine .cons (by rw [I.ok.kind]; decide) hf hn ?_ I.funs
    exact Heap.get?_none_of_le (Nat.le_trans I.ok.bsz I.ok.above)
theorem Inv.stkSub (I : Inv X pins σ H s) : ∀ b ∈ frs X.stack, b ∈ X.env.locals :: X.fs := fun b hb => by
  rcases I.ok.stk with e | ⟨e, hf⟩
  · rw [e] at hb; exact List.mem_cons_of_mem _ hb
  · rw [e] at hb
    unfold frs at hb
    rw [List.filterMap_cons, hf] at hb
    exact hb
theorem Inv.stkFree (I : Inv X pins σ H s) : ∀ b ∈ frs X.stack, H b = none := fun b hb => by
  rcases List.mem_cons.mp (I.stkSub b hb) with e | hb
  · rw [e]; exact I.free
  · obtain ⟨_, o, ho, _⟩ := I.ok.funs.mem hb
    exact I.base.free b o ho (I.ok.frf b hb) fun z => I.ok.exfs b z hb

/-- THE STEP: the untracked objects but the frame and the records at ch are kept (the callers' frames up to slots), the frame's map is kept, the new abstract heap is held -/
theorem Inv.step {g' : Array GenState} {t' : Nat} {d' : Drawn} {ch : List Addr} (I : Inv X pins σ H s)
    (hch : ∀ b ∈ ch, (b ∈ X.ex ∨ X.s₀.heap.objs.size ≤ b) ∧ b ≠ X.env.locals ∧ (∀ x c, X.env.cells.lookup x = some c → c ≠ b) ∧ ∀ p ∈ X.pn ++ pins, p.1 ≠ b)
    (keep : ∀ b o, b ≠ X.env.locals → b ∉ X.fs → b ∉ ch → s.heap.get? b = some o → H b = none → h'.get? b = some o)
    (slot : ∀ b o, b ≠ X.env.locals → b ∈ X.fs → b ∉ ch → s.heap.get? b = some o → H b = none → ∃ sl, h'.get? b = some { o with slots := sl }) (free : ∀ b o, b ∉ ch → s.heap.get? b = some o → H b = none → H' b = none)
    (there : ∀ b o, b ∉ ch → s.heap.get? b = some o → ∃ o', h'.get? b = some o')
    (tups : ∀ b xs, H b = some (.tup xs) → H' b = some (.tup xs)) (frzs : ∀ b o u, H b = some (.frz o u) → H' b = some (.frz o u)) (tbls : ∀ b ps, H b = some (.tbl ps) → ∃ more, H' b = some (.tbl (ps ++ more)))
    (ns : ∀ m, s.heap.Ns X.env.locals m → h'.Ns X.env.locals m) (hok : HOk X.prog X.w H' h') (hg : AllBare g') :
    Inv X pins σ H' { s with heap := h', gens := g', drawn := d', toks := t' } := by
  have neL : ∀ b o, X.s₀.heap.get? b = some o → b ≠ X.env.locals := fun b o e => Nat.ne_of_lt (Nat.lt_of_lt_of_le (Heap.lt_size e) I.ok.above)
  have neC : ∀ b o, X.s₀.heap.get? b = some o → b ∉ X.ex → b ∉ ch := fun b o e hx hb => by
    rcases (hch b hb).1 with z | z
    · exact hx z
    · exact absurd (Nat.lt_of_lt_of_le (Heap.lt_size e) z) (Nat.lt_irrefl _)
  have cellK : ∀ x c, X.env.cells.lookup x = some c → ∀ v, s.heap.IsCell c v → h'.IsCell c v := fun x c e v ⟨o, ho, hd⟩ => by
    have nch : c ∉ ch := fun z => (hch c z).2.2.1 x c e rfl
    by_cases hc : c ∈ X.fs
    · obtain ⟨sl, q⟩ := slot c o (I.cne x c e) hc nch ho (I.freeC x c e)
      exact ⟨_, q, hd⟩
    · exact ⟨o, keep c o (I.cne x c e) hc nch ho (I.freeC x c e), hd⟩
  refine ⟨I.ok, I.os, hg, ⟨fun b o e n hb hx => ?_, fun b o e n hb hx => ?_, fun b o e n hx => ?_, fun b o e hx => ?_, fun b xs e => tups b xs (I.base.tups b xs e), fun b o xs e => frzs b o xs (I.base.frzs b o xs e), fun b ps e => ?_⟩, ?_, fun x c e => ?_, ?_, fun x c e => ?_, fun p hp => ?_, hok, I.len⟩
  · exact keep b o (neL b o e) hb (neC b o e hx) (I.base.keep b o e n hb hx) (I.base.free b o e n hx)
  · obtain ⟨sl, e1⟩ := I.base.slot b o e n hb hx
    obtain ⟨sl', e2⟩ := slot b _ (neL b o e) hb (neC b o e hx) e1 (I.base.free b o e n hx)
    exact ⟨sl', e2⟩
  · obtain ⟨o', e1⟩ := I.base.there b o e hx
    exact free b o' (neC b o e hx) e1 (I.base.free b o e n hx)
  · obtain ⟨o', e1⟩ := I.base.there b o e hx
    exact there b o' (neC b o e hx) e1
  · obtain ⟨m1, e1⟩ := I.base.tbls b ps e
    obtain ⟨m2, e2⟩ := tbls b _ e1
    exact ⟨m1 ++ m2, by rw [e2, Array.append_assoc]⟩
  · obtain ⟨m, hn, hl⟩ := I.loc
    refine ⟨m, ns m hn, fun i x v e1 e2 e3 => ?_⟩
    obtain ⟨u, r, l⟩ := hl i x v e1 e2 e3
    refine ⟨u, r, ?_⟩
    rcases l with l | ⟨k, c, e, z⟩
    · exact .inl l
    · exact .inr ⟨k, c, e, cellK x c e _ z⟩
  · obtain ⟨v, z⟩ := I.cell x c e
    exact ⟨v, cellK x c e v z⟩
  · obtain ⟨m, ⟨o, _, _, ho, _⟩, _⟩ := I.loc
    exact free _ o (fun z => (hch _ z).2.1 rfl) ho I.free
  · obtain ⟨v, o, ho, hd⟩ := I.cell x c e
    exact free c o (fun z => (hch c z).2.2.1 x c e rfl) ho (I.freeC x c e)
  · obtain ⟨e, n, ne, nf, d⟩ := I.pin p hp
    have nch : p.1 ∉ ch := fun z => (hch p.1 z).2.2.2 p hp rfl
    exact ⟨keep p.1 p.2 ne nf nch e n, free p.1 p.2 nch e n, ne, nf, d⟩
/-- .. where the frame's own object is kept too -/
theorem Inv.un {t' : Nat} (I : Inv X pins σ H s) (u : Un X.fs [] H H' s.heap h') (hok : HOk X.prog X.w H' h') : Inv X pins σ H' { s with heap := h', toks := t' } := by
  obtain ⟨m, ⟨o, es, ep, ho, r⟩, _⟩ := id I.loc
  obtain ⟨sl, hL⟩ := u.any ho I.free (by simp)
  exact I.step (g' := s.gens) (d' := s.drawn) (ch := []) (fun _ z => nomatch z) (fun b o _ hb _ e n => u.keep b o e n hb (by simp)) (fun b o _ hb _ e n => u.slot b o e n hb (by simp)) (fun b o _ e n => u.free b o e n (by simp)) (fun b o _ e => u.there b o e (by simp)) u.tups u.frzs u.tbls (fun m' hm => by
    obtain ⟨o', es', ep', ho', r'⟩ := hm
    rw [ho] at ho'; cases ho'
    exact ⟨_, es', ep', hL, r'⟩) hok I.bare
/-- behind a call (or a comprehension's block): the slots of this frame may have changed too, the records at ch may have turned -/
theorem Inv.call {g' : Array GenState} {t' : Nat} {d' : Drawn} {ch : List Addr} (I : Inv X pins σ H s) (u : Un (frs X.stack) ch H H' s.heap h') (hok : HOk X.prog X.w H' h') (hg : AllBare g')
    (hch : ∀ b ∈ ch, (b ∈ X.ex ∨ X.s₀.heap.objs.size ≤ b) ∧ b ≠ X.env.locals ∧ (∀ x c, X.env.cells.lookup x = some c → c ≠ b) ∧ ∀ p ∈ X.pn ++ pins, p.1 ≠ b) :
    Inv X pins σ H' { s with heap := h', gens := g', drawn := d', toks := t' } := by
  obtain ⟨m, ⟨o, es, ep, ho, r⟩, _⟩ := id I.loc
  obtain ⟨sl, hL⟩ := u.any ho I.free fun z => (hch _ z).2.1 rfl
  exact I.step (ch := ch) hch (fun b o hL hb hc e n => u.keep b o e n (fun z => (List.mem_cons.mp (I.stkSub b z)).elim hL hb) hc) (fun b o _ _ hc e n => u.any e n hc) (fun b o hc e n => u.free b o e n hc) (fun b o hc e => u.there b o e hc) u.tups u.frzs u.tbls (fun m' hm => by
    obtain ⟨o', es', ep', ho', r'⟩ := hm
    rw [ho] at ho'; cases ho'
    exact ⟨_, es', ep', hL, r'⟩) hok hg
/-- an untracked record of ours (an iterator) has turned -/
theorem Inv.turned {t' : Nat} {it : Addr} (I : Inv X pins σ H s) (k : ∀ b o, b ≠ it → s.heap.get? b = some o → h'.get? b = some o) (hn : H it = none) (hL : it ≠ X.env.locals)
    (h1 : it ∈ X.ex ∨ X.s₀.heap.objs.size ≤ it) (h2 : ∀ x c, X.env.cells.lookup x = some c → c ≠ it) (h3 : ∀ p ∈ X.pn ++ pins, p.1 ≠ it) : Inv X pins σ H { s with heap := h', toks := t' } := by
  have nit : ∀ b u, H b = some u → b ≠ it := fun b u e z => by rw [z, hn] at e; cases e
  refine I.step (g' := s.gens) (d' := s.drawn) (ch := [it]) (fun b hb => ?_) (fun b o _ _ hc e _ => k b o (fun z => hc (by simp [z])) e) (fun b o _ _ hc e _ => ⟨o.slots, k b o (fun z => hc (by simp [z])) e⟩) (fun _ _ _ _ n => n)
    (fun b o hc e => ⟨o, k b o (fun z => hc (by simp [z])) e⟩) (fun _ _ e => e) (fun _ _ _ e => e) (fun b ps e => ⟨#[], by rw [e]; simp⟩) (fun m hm => ?_) (fun b u e => ?_) I.bare
  · have e : b = it := by simpa using hb
    subst e
    exact ⟨h1, hL, h2, h3⟩
  · obtain ⟨o, es, ep, ho, r⟩ := hm
    exact ⟨o, es, ep, k _ o (Ne.symm hL) ho, r⟩
  · refine (I.hok b u e).stay (fun c v hc q => k c v ?_ q) (fun _ q => q) fun _ _ q => q
    rcases hc with z | z
    · rw [z]; exact nit b u e
    · exact nit c _ z
theorem Inv.tok (I : Inv X pins σ H s) (t : Nat) : Inv X pins σ H { s with toks := t } := I.un (h' := s.heap) (t' := t) Un.refl I.hok
/-- all objects kept -/
theorem Inv.kept {t' : Nat} (I : Inv X pins σ H s) (k : ∀ b u, s.heap.get? b = some u → h'.get? b = some u) : Inv X pins σ H { s with heap := h', toks := t' } := I.un (Un.kept k) (I.hok.kept k)
/-- a new object laid and tracked -/
theorem Inv.laid {a : Addr} {o : HO} {t' : Nat} (I : Inv X pins σ H s) (k : ∀ b u, s.heap.get? b = some u → h'.get? b = some u) (hp : s.heap.objs.size ≤ a) (new : ObjOk X.prog X.w (upd H a o) h' a o) :
    Inv X pins σ (upd H a o) { s with heap := h', toks := t' } := I.un (Un.laid k hp (I.hok.fresh hp)) (I.hok.laid k hp new)
/-- an object written -/
theorem Inv.write {x e : Addr} {o : HO} {t' : Nat} (I : Inv X pins σ H s) (mu : Mut (H x)) (he : e = x ∨ H e = some (.own x)) (k : ∀ b u, b ≠ e → s.heap.get? b = some u → h'.get? b = some u) (heo : ∃ u, h'.get? e = some u)
    (new : ObjOk X.prog X.w (upd H x o) h' x o) : Inv X pins σ (upd H x o) { s with heap := h', toks := t' } := I.un (Un.write mu he k heo) (I.hok.write mu he k heo new)
theorem Inv.pins_of {pins' : List (Addr × Obj)} (I : Inv X pins σ H s) (h : ∀ p ∈ pins', s.heap.get? p.1 = some p.2 ∧ H p.1 = none ∧ p.1 ≠ X.env.locals ∧ p.1 ∉ X.fs ∧ ∀ v, p.2.data ≠ .cell v) : Inv X pins' σ H s :=
  ⟨I.ok, I.os, I.bare, I.base, I.loc, I.cell, I.free, I.freeC, fun p hp => (List.mem_append.mp hp).elim (fun z => I.pin p (List.mem_append_left _ z)) (h p), I.hok, I.len⟩

theorem nodup_ix {N : List Str} (hN : N.Nodup) {i j : Nat} {x : Str} (a : N[i]? = some x) (b : N[j]? = some x) : i = j := by
  obtain ⟨h1, e1⟩ := List.getElem?_eq_some_iff.mp a
  obtain ⟨h2, e2⟩ := List.getElem?_eq_some_iff.mp b
  exact (List.getElem_inj hN).mp (e1.trans e2.symm)

/-- a name is stored; what changed -/
theorem store_ok2 {M : Model} {A : Around} {E : Value → Shared → Prop} {i : Nat} {x : Str} {v : V} {u : Value} {Q : Unit → Shared → Prop} (I : Inv X pins σ H s) (hN : X.N.Nodup) (hi : X.N[i]? = some x) (hx : Loc X.env.scope x) (r : RelV v u)
    (h : ∀ s', Inv X pins (σ.set i (some v)) H s' → (∃ a, Heap.SameBut a s.heap s'.heap ∧ (a = X.env.locals ∨ X.env.cells.lookup x = some a)) → Q () s') (hf : X.fn x = true ∨ X.env.scope.names.lookup x = some .local := by first | exact .inl rfl | exact .inr rfl | assumption) : wpAny M A (storeName X.env x u) Q E s := by
  obtain ⟨m, hn, hl⟩ := id I.loc
  have hcls : (X.env.scope.kind == .class || (X.env.scope.kind == .module && X.env.locals != X.env.globals)) = false := by rw [I.ok.kind]; rfl
  have hiσ : i < σ.length := by rw [I.len]; exact (List.getElem?_eq_some_iff.mp hi).1
  have cne := I.cne
  have tracked : ∀ {a : Addr} {h' : Heap}, (∃ o, s.heap.get? a = some o ∧ H a = none) → Heap.SameBut a s.heap h' → HOk X.prog X.w H h' := fun {a h'} ha hs b ob e => by
    obtain ⟨_, _, hfree⟩ := ha
    refine (I.hok b ob e).stay (fun c w' hc q => (hs.2 c ?_).trans q) (fun _ q => q) fun _ _ q => q
    rintro rfl
    rcases hc with rfl | hc
    · rw [hfree] at e; cases e
    · rw [hfree] at hc; cases hc
  rcases hx with hk | hk
  · refine wpAny_storeName_local hk hn (fun h' hn' hs => ?_) hcls
    obtain ⟨oL, _, _, hoL, _⟩ := id hn
    refine h _ ⟨I.ok, I.os, I.bare, ⟨fun b o e n hb hx => ?_, fun b o e n hb hx => ?_, I.base.free, fun b o e hx => ?_, I.base.tups, I.base.frzs, I.base.tbls⟩, ⟨_, hn', fun j y v' e1 e2 e3 => ?_⟩, fun y c e => ?_, I.free, I.freeC, fun p hp => ?_, tracked ⟨oL, hoL, I.free⟩ hs, by simpa using I.len⟩ ⟨_, hs, .inl rfl⟩
    · exact (hs.2 b (Nat.ne_of_lt (Nat.lt_of_lt_of_le (Heap.lt_size e) I.ok.above))).trans (I.base.keep b o e n hb hx)
    · obtain ⟨sl, e1⟩ := I.base.slot b o e n hb hx
      exact ⟨sl, (hs.2 b (Nat.ne_of_lt (Nat.lt_of_lt_of_le (Heap.lt_size e) I.ok.above))).trans e1⟩
    · obtain ⟨o', e1⟩ := I.base.there b o e hx
      exact ⟨o', (hs.2 b (Nat.ne_of_lt (Nat.lt_of_lt_of_le (Heap.lt_size e) I.ok.above))).trans e1⟩
    · by_cases hj : j = i
      · subst hj
        rw [hi] at e1; cases e1
        rw [List.getElem?_set_self hiσ] at e2
        cases e2
        exact ⟨u, r, .inl ⟨hk, by simp⟩⟩
      · rw [List.getElem?_set_ne (Ne.symm hj)] at e2
        obtain ⟨u', r', q⟩ := hl j y v' e1 e2 e3
        refine ⟨u', r', ?_⟩
        rcases q with ⟨k, e⟩ | ⟨k, c, e, z⟩
        · refine .inl ⟨k, ?_⟩
          have : y ≠ x := fun e => hj (nodup_ix hN e1 (e ▸ hi))
          simp [this, e]
        · exact .inr ⟨k, c, e, z.sameBut hs (cne y c e)⟩
    · obtain ⟨w', z⟩ := I.cell y c e
      exact ⟨w', z.sameBut hs (cne y c e)⟩
    · obtain ⟨e, n, ne, nf, d⟩ := I.pin p hp
      exact ⟨(hs.2 p.1 ne).trans e, n, ne, nf, d⟩
  · have hfn : X.fn x = true := by
      rcases hf with z | z
      · exact z
      · rw [z] at hk; cases hk
    obtain ⟨c, hc⟩ := I.ok.has x (.inl hk)
    obtain ⟨w', z⟩ := I.cell x c hc
    refine wpAny_storeName_cell I.ok.kind hk hc z (fun h' hc' hs => ?_)
    obtain ⟨oc, hoc, hocd⟩ := id z
    refine h { s with heap := h' } ⟨I.ok, I.os, I.bare, ⟨fun b o e n hb hx => ?_, fun b o e n hb hx => ?_, I.base.free, fun b o e hx => ?_, I.base.tups, I.base.frzs, I.base.tbls⟩, ⟨m, hn.sameBut hs (Ne.symm (cne x c hc)), fun j y v' e1 e2 e3 => ?_⟩, fun y c' e => ?_, I.free, I.freeC, fun p hp => ?_, tracked ⟨oc, hoc, I.freeC x c hc⟩ hs, by simpa using I.len⟩ ⟨c, hs, .inr hc⟩
    · exact (hs.2 b (Nat.ne_of_lt (Nat.lt_of_lt_of_le (Heap.lt_size e) (I.ok.cab x c hfn hc)))).trans (I.base.keep b o e n hb hx)
    · obtain ⟨sl, e1⟩ := I.base.slot b o e n hb hx
      exact ⟨sl, (hs.2 b (Nat.ne_of_lt (Nat.lt_of_lt_of_le (Heap.lt_size e) (I.ok.cab x c hfn hc)))).trans e1⟩
    · obtain ⟨o', e1⟩ := I.base.there b o e hx
      exact ⟨o', (hs.2 b (Nat.ne_of_lt (Nat.lt_of_lt_of_le (Heap.lt_size e) (I.ok.cab x c hfn hc)))).trans e1⟩
    · by_cases hj : j = i
      · subst hj
        rw [hi] at e1; cases e1
        rw [List.getElem?_set_self hiσ] at e2
        cases e2
        exact ⟨u, r, .inr ⟨.inl hk, c, hc, hc'⟩⟩
      · rw [List.getElem?_set_ne (Ne.symm hj)] at e2
        obtain ⟨u', r', q⟩ := hl j y v' e1 e2 e3
        refine ⟨u', r', ?_⟩
        rcases q with q | ⟨k, c', e, z'⟩
        · exact .inl q
        · refine .inr ⟨k, c', e, z'.sameBut hs ?_⟩
          rintro rfl
          exact hj (nodup_ix hN e1 (I.ok.inj _ _ _ e hc ▸ hi))
    · by_cases hcc : c' = c
      · subst hcc; exact ⟨_, hc'⟩
      · obtain ⟨w2, z2⟩ := I.cell y c' e
        exact ⟨w2, z2.sameBut hs hcc⟩
    · obtain ⟨e, n, ne, nf, d⟩ := I.pin p hp
      refine ⟨(hs.2 p.1 ?_).trans e, n, ne, nf, d⟩
      intro q
      rw [q, hoc] at e
      have q' : oc = p.2 := Option.some.inj e
      exact d w' (by rw [← q']; exact hocd)
theorem store_ok {M : Model} {A : Around} {E : Value → Shared → Prop} {i : Nat} {x : Str} {v : V} {u : Value} {Q : Unit → Shared → Prop} (I : Inv X pins σ H s) (hN : X.N.Nodup) (hi : X.N[i]? = some x) (hx : Loc X.env.scope x) (r : RelV v u)
    (h : ∀ s', Inv X pins (σ.set i (some v)) H s' → Q () s') (hf : X.fn x = true ∨ X.env.scope.names.lookup x = some .local := by first | exact .inl rfl | exact .inr rfl | assumption) : wpAny M A (storeName X.env x u) Q E s :=
  store_ok2 I hN hi hx r (fun s' I' _ => h s' I') hf
/-- behind a call or a block, the state as it is -/
theorem Inv.call' {s' : Shared} {ch : List Addr} (I : Inv X pins σ H s) (ho : s'.os = s.os) (u : Un (frs X.stack) ch H H' s.heap s'.heap) (hok : HOk X.prog X.w H' s'.heap) (hg : AllBare s'.gens)
    (hch : ∀ b ∈ ch, (b ∈ X.ex ∨ X.s₀.heap.objs.size ≤ b) ∧ b ≠ X.env.locals ∧ (∀ x c, X.env.cells.lookup x = some c → c ≠ b) ∧ ∀ p ∈ X.pn ++ pins, p.1 ≠ b) : Inv X pins σ H' s' := by
  obtain ⟨h', g', d', t', o'⟩ := s'
  have e : o' = s.os := ho
  subst e
  exact I.call (g' := g') (t' := t') (d' := d') u hok hg hch
end

/-! ### the judgements -/
/-- an exception: its class, its own dict's address (where it has one), the abstract heap behind it -/
abbrev XK := Value → Option Addr → Hp → Prop
abbrev St := List (Option V)
abbrev VK := V → Hp → Prop
/-- an expression's reading; a test's; an argument list's -/
abbrev TE := St → Hp → VK → Prop
abbrev TT := St → Hp → (Bool → Hp → Prop) → Prop
abbrev TA := St → Hp → (List V → Hp → Prop) → Prop
/-- what is wanted behind a statement -/
structure Ends where
  nx : St → Hp → Prop
  rt : VK
  bk : St → Hp → Prop := fun _ _ => False
  ct : St → Hp → Prop := fun _ _ => False
abbrev TS := Ends → St → Hp → Prop

def EP (X : Cx) (pins : List (Addr × Obj)) (σ : St) (Q : VK) (u : Value) (s' : Shared) : Prop := ∃ v H', Inv X pins σ H' s' ∧ RelV v u ∧ Q v H'
def TP (X : Cx) (pins : List (Addr × Obj)) (σ : St) (Q : Bool → Hp → Prop) (b : Bool) (s' : Shared) : Prop := ∃ H', Inv X pins σ H' s' ∧ Q b H'
def AP (X : Cx) (pins : List (Addr × Obj)) (σ : St) (Q : List V → Hp → Prop) (us : List Value) (s' : Shared) : Prop := ∃ vs H', Inv X pins σ H' s' ∧ Vals vs us ∧ Q vs H'
def SP (X : Cx) (pins : List (Addr × Obj)) (D : Ends) (f : Flow) (s' : Shared) : Prop :=
  match f with
  | .next => ∃ σ' H', Inv X pins σ' H' s' ∧ D.nx σ' H'
  | .brk => ∃ σ' H', Inv X pins σ' H' s' ∧ D.bk σ' H'
  | .cont => ∃ σ' H', Inv X pins σ' H' s' ∧ D.ct σ' H'
  | .ret u => ∃ v σ' H', Inv X pins σ' H' s' ∧ RelV v u ∧ D.rt v H'

def PE (X : Cx) (e : Expr) (t : TE) : Prop :=
  ∀ (pins : List (Addr × Obj)) (s : Shared) (σ : St) (H : Hp) (Q : VK), Inv X pins σ H s → t σ H Q → wpAny (model X.prog X.w) X.A (eval e X.env) (EP X pins σ Q) X.xe s
def PT (X : Cx) (e : Expr) (t : TT) : Prop :=
  ∀ (pins : List (Addr × Obj)) (s : Shared) (σ : St) (H : Hp) (Q : Bool → Hp → Prop), Inv X pins σ H s → t σ H Q → wpAny (model X.prog X.w) X.A (isTrue e X.env (eval e X.env)) (TP X pins σ Q) X.xe s
/-- a test whatever its 'whole' is (and, or) -/
def PW (X : Cx) (e : Expr) (t : TT) : Prop :=
  ∀ (whole : Sem Value) (pins : List (Addr × Obj)) (s : Shared) (σ : St) (H : Hp) (Q : Bool → Hp → Prop), Inv X pins σ H s → t σ H Q → wpAny (model X.prog X.w) X.A (isTrue e X.env whole) (TP X pins σ Q) X.xe s
theorem PW.pt {X : Cx} {e : Expr} {t : TT} (h : PW X e t) : PT X e t := h _
/-- an argument list (no star), from the left -/
def PA (X : Cx) (es : List Expr) (t : TA) : Prop :=
  ∀ (pos : Pos) (pins : List (Addr × Obj)) (s : Shared) (σ : St) (H : Hp) (Q : List V → Hp → Prop), Inv X pins σ H s → t σ H Q → wpAny (model X.prog X.w) X.A (spliced (backTo pos (starEach es X.env))) (AP X pins σ Q) X.xe s
def PS (X : Cx) (st : Stmt) (t : TS) : Prop :=
  ∀ (pins : List (Addr × Obj)) (s : Shared) (σ : St) (H : Hp) (D : Ends), Inv X pins σ H s → t D σ H → wpAny (model X.prog X.w) X.A (exec st X.env) (SP X pins D) X.xe s
def PSs (X : Cx) (st : List Stmt) (t : TS) : Prop :=
  ∀ (pins : List (Addr × Obj)) (s : Shared) (σ : St) (H : Hp) (D : Ends), Inv X pins σ H s → t D σ H → wpAny (model X.prog X.w) X.A (execs st X.env) (SP X pins D) X.xe s
/-- weaken the end -/
theorem thn {α : Type} {t : Sem α} {Q Q' : α → Shared → Prop} {M : Model} {A : Around} {E : Value → Shared → Prop} {s : Shared} (h : wpAny M A t Q E s) (hQ : ∀ a s, Q a s → Q' a s) : wpAny M A t Q' E s := wpAny_mono h hQ fun _ _ x => x
end L2

namespace L2
open PySem PySem.Spec PyProof.Rows
section
variable {X : Cx}

/-! ### names and constants -/
def tVar (i : Nat) : TE := fun σ H Q => ∃ v, σ[i]? = some (some v) ∧ Q v H
def tC (v : V) : TE := fun _ H Q => Q v H
theorem pe_var {i : Nat} {x : Str} {pos : Pos} (hN : X.N[i]? = some x) (hv : Vis X.env.scope x) (hd : (x == ("__debug__" : Str)) = false := by decide) (hcd : (x == ("__classdict__" : Str)) = false := by decide) : PE X (.Name x pos) (tVar i) := by
  intro pins s σ H Q I h
  obtain ⟨v, e, h⟩ := h
  obtain ⟨m, hn, hl⟩ := I.loc
  obtain ⟨u, r, l⟩ := hl i x v hN e hv
  have fin : EP X pins σ Q u s := ⟨v, H, I, r, h⟩
  rcases l with ⟨hk, hm⟩ | ⟨hk, c, hc, hcell⟩
  · exact wpAny_Name (wpAny_loadName_local I.ok.kind hk hn hm fin) hd
  · rcases hk with hk | hk
    · exact wpAny_Name (wpAny_loadName_cell I.ok.kind hk hc hcell fin) hd
    · exact wpAny_Name (wpAny_loadName_free I.ok.kind hk hc hcell fin hcd) hd
theorem pe_int {i j pos} : PE X (.Constant (.int i) j pos) (tC (.int i)) := fun _ _ _ H _ I h => wpAny_Constant_int ⟨.int i, H, I.tok _, ⟨_, rfl⟩, h⟩
theorem pe_bl {b j pos} : PE X (.Constant (.bool b) j pos) (tC (.bl b)) := fun _ _ _ H _ I h => Constant_bool ⟨.bl b, H, I, rfl, h⟩
theorem pe_non {j pos} : PE X (.Constant .none j pos) (tC .non) := fun _ _ _ H _ I h => Constant_none ⟨.non, H, I, rfl, h⟩
theorem pe_str {x j pos} : PE X (.Constant (.str x) j pos) (tC (.str x)) := fun _ _ _ H _ I h => Calls.Constant_str ⟨.str x, H, I.tok _, ⟨_, rfl⟩, h⟩

/-- a global name of the def -/
def Gl (X : Cx) (x : Str) : Prop := X.env.kindOf x = some .globalImplicit
theorem ld_glob {E : Value → Shared → Prop} {pins : List (Addr × Obj)} {s : Shared} {σ : St} {H : Hp} {x : Str} {u : Value} {pos : Pos} {Q : Value → Shared → Prop} (I : Inv X pins σ H s) (hg : Gl X x) (hm : X.mg x = some u) (h : Q u s)
    (hd : (x == ("__debug__" : Str)) = false := by decide) : wpAny (model X.prog X.w) X.A (eval (.Name x pos) X.env) Q E s :=
  Calls.Name_function_global I.ok.kind hg (Calls.loadGlobal_global (by rw [I.ok.glob]; exact I.mod.glob.keeps I.bk) hm h) hd
theorem ld_blt {E : Value → Shared → Prop} {pins : List (Addr × Obj)} {s : Shared} {σ : St} {H : Hp} {x : Str} {u : Value} {pos : Pos} {Q : Value → Shared → Prop} (I : Inv X pins σ H s) (hg : Gl X x) (hm : X.mg x = none) (hv : bootBuiltins x = some u) (h : Q u s)
    (hn : x ≠ "__name__" := by decide) (hd : (x == ("__debug__" : Str)) = false := by decide) : wpAny (model X.prog X.w) X.A (eval (.Name x pos) X.env) Q E s := by
  obtain ⟨mb, h1, h2⟩ := I.mod.blt
  exact Calls.Name_function_global I.ok.kind hg (Calls.loadGlobal_builtin (by rw [I.ok.glob]; exact I.mod.glob.keeps I.bk) hm (by rw [I.ok.blt]; exact h1.keeps I.bk) ((h2 x hn).trans hv) h) hd
/-- a module's constant, a class, a function, as a value -/
theorem pe_glob {x : Str} {v : V} {u : Value} {pos : Pos} (hg : Gl X x) (hm : X.mg x = some u) (r : RelV v u) (hd : (x == ("__debug__" : Str)) = false := by decide) : PE X (.Name x pos) (tC v) :=
  fun _ _ _ H _ I h => ld_glob I hg hm ⟨v, H, I, r, h⟩ hd
theorem pe_bltn {x : Str} {v : V} {u : Value} {pos : Pos} (hg : Gl X x) (hm : X.mg x = none) (hv : bootBuiltins x = some u) (r : RelV v u) (hn : x ≠ "__name__" := by decide) (hd : (x == ("__debug__" : Str)) = false := by decide) : PE X (.Name x pos) (tC v) :=
  fun _ _ _ H _ I h => ld_blt I hg hm hv ⟨v, H, I, r, h⟩ hn hd

/-! ### arithmetic -/
variable {a b : Expr} {ta tb : TE} {pos : Pos}
/-! ### comparisons -/
/-! ### and, or, not -/
variable {tA tB' : TT} {rest : List Expr}
def tAnd (t u : TT) : TT := fun σ H Q => t σ H fun c H1 => if c = true then u σ H1 Q else Q false H1
def tOr (t u : TT) : TT := fun σ H Q => t σ H fun c H1 => if c = true then Q true H1 else u σ H1 Q
def tNot (t : TT) : TT := fun σ H Q => t σ H fun c H1 => Q (!c) H1
theorem pw_and1 (ha : PT X a tA) : PW X (.BoolOp .And [a] pos) tA := by
  intro wh pins s σ H Q I h
  refine isTrue_and (thn (ha pins s σ H Q I h) fun c s1 e => ?_)
  cases c with
  | true => exact isTrue_and_nil e
  | false => exact e
theorem pw_or1 (ha : PT X a tA) : PW X (.BoolOp .Or [a] pos) tA := by
  intro wh pins s σ H Q I h
  refine isTrue_or (thn (ha pins s σ H Q I h) fun c s1 e => ?_)
  cases c with
  | false => exact isTrue_or_nil e
  | true => exact e
theorem pw_and (ha : PT X a tA) (hb : PW X (.BoolOp .And (b :: rest) pos) tB') : PW X (.BoolOp .And (a :: b :: rest) pos) (tAnd tA tB') := by
  intro wh pins s σ H Q I h
  refine isTrue_and (thn (ha pins s σ H _ I h) fun c s1 ⟨H1, I1, q1⟩ => ?_)
  cases c with
  | true => exact hb wh pins s1 σ H1 Q I1 q1
  | false => exact ⟨H1, I1, q1⟩
theorem pw_or (ha : PT X a tA) (hb : PW X (.BoolOp .Or (b :: rest) pos) tB') : PW X (.BoolOp .Or (a :: b :: rest) pos) (tOr tA tB') := by
  intro wh pins s σ H Q I h
  refine isTrue_or (thn (ha pins s σ H _ I h) fun c s1 ⟨H1, I1, q1⟩ => ?_)
  cases c with
  | true => exact ⟨H1, I1, q1⟩
  | false => exact hb wh pins s1 σ H1 Q I1 q1
theorem pt_not (ha : PT X a tA) : PT X (.UnaryOp .Not a pos) (tNot tA) := by
  intro pins s σ H Q I h
  exact isTrue_not (ha pins s σ H (fun c H1 => Q (!c) H1) I h)
/-- .. as values (bools) -/
def tAndV (ta tb : TE) : TE := fun σ H Q => ta σ H fun x H1 => ∃ c, x = .bl c ∧ if c = true then tb σ H1 Q else Q (.bl false) H1
def tNotV (ta : TE) : TE := fun σ H Q => ta σ H fun x H1 => ∃ c, x = .bl c ∧ Q (.bl (!c)) H1
theorem pe_one {op} {t : TE} (h : PE X a t) : PE X (.BoolOp op [a] pos) t := fun pins s σ H Q I hw => BoolOp_one (h pins s σ H Q I hw)
theorem pe_and (ha : PE X a ta) (hb : PE X (.BoolOp .And (b :: rest) pos) tb) : PE X (.BoolOp .And (a :: b :: rest) pos) (tAndV ta tb) := by
  intro pins s σ H Q I h
  refine BoolOp_and (thn (ha pins s σ H _ I h) fun v s1 ⟨x, H1, I1, r1, q1⟩ => ?_)
  obtain ⟨c, rfl, q1⟩ := q1
  cases r1
  refine wpAny_truthy_bool ?_
  cases c with
  | true => exact hb pins s1 σ H1 Q I1 q1
  | false => exact ⟨.bl false, H1, I1, rfl, q1⟩
theorem pe_not (ha : PE X a ta) : PE X (.UnaryOp .Not a pos) (tNotV ta) := by
  intro pins s σ H Q I h
  refine UnaryOp_ (thn (ha pins s σ H _ I h) fun v s1 ⟨x, H1, I1, r1, q1⟩ => ?_)
  obtain ⟨c, rfl, q1⟩ := q1
  cases r1
  exact not_of (wpAny_truthy_bool ⟨.bl (!c), H1, I1, rfl, q1⟩)
end
end L2

namespace L2
open PySem PySem.Spec PyProof.Rows

/-! ### a list, a tuple that is read: tracked, frozen, or an object of the module -/
def SqL (K : PySem.W.Frag) (H : Hp) (a : Addr) (xs : List V) : Prop :=
  Rd H a (.lst xs) ∨
    ∃ (o : Obj) (its : Array Value) (n : Nat), K.lookup a = some o ∧ o.cls = .type "list" ∧ o.dict = none ∧ o.data = .seq its n ∧ its.size ≤ sizeLine ∧ Vals xs its.toList
def SqT (K : PySem.W.Frag) (H : Hp) (a : Addr) (xs : List V) : Prop :=
  Rd H a (.tup xs) ∨
    ∃ (o : Obj) (its : Array Value) (n : Nat), K.lookup a = some o ∧ o.cls = .type "tuple" ∧ o.data = .seq its n ∧ its.size ≤ sizeLine ∧ Vals xs its.toList
def absV : Value → Option V
  | .none => some .non
  | .bool b => some (.bl b)
  | .int i _ => some (.int i)
  | .str x _ => some (.str x)
  | .bytes b _ => some (.byt b)
  | .float b _ => some (.flt b)
  | .ref a => some (.ref a)
  | .type n => some (.ty n)
  | _ => none
theorem RelV.abs {x : V} {u : Value} (r : RelV x u) : absV u = some x := by
  cases x with
  | non => cases r; rfl
  | bl _ => cases r; rfl
  | int _ => obtain ⟨t, rfl⟩ := r; rfl
  | str _ => obtain ⟨t, rfl⟩ := r; rfl
  | byt _ => obtain ⟨t, rfl⟩ := r; rfl
  | flt _ => obtain ⟨t, rfl⟩ := r; rfl
  | ref _ => cases r; rfl
  | ty _ => cases r; rfl
theorem RelV.inj {x y : V} {u : Value} (r : RelV x u) (q : RelV y u) : x = y := Option.some.inj (r.abs.symm.trans q.abs)
theorem Vals.inj : ∀ {xs ys : List V} {us : List Value}, Vals xs us → Vals ys us → xs = ys
  | _, _, _, .nil, .nil => rfl
  | _, _, _, .cons r t, .cons r' t' => by rw [r.inj r', Vals.inj t t']
section
variable {X : Cx} {pins : List (Addr × Obj)} {σ : St} {H : Hp} {s : Shared} {a : Addr} {xs ys : List V}
theorem SqL.of {K : PySem.W.Frag} (h : H a = some (.lst xs)) : SqL K H a xs := .inl (.inl h)
theorem SqT.of {K : PySem.W.Frag} (h : H a = some (.tup xs)) : SqT K H a xs := .inl (.inl h)
theorem Inv.list (I : Inv X pins σ H s) (h : SqL X.K H a xs) : ∃ its : List Value, Vals xs its ∧ PlainL s.heap a its.toArray ∧ xs.length ≤ sizeLine := by
  rcases h with h | ⟨o, its, n, hk, hc, hd, hs, hz, r⟩
  · obtain ⟨z, its, n, r, e⟩ := h.ok I.hok
    exact ⟨its, r, ⟨_, n, e, rfl, rfl, rfl⟩, z⟩
  · refine ⟨its.toList, r, ⟨o, n, I.kIn a o hk, hc, hd, by simpa using hs⟩, ?_⟩
    have e := r.length
    simp only [Array.length_toList] at e
    omega
theorem Inv.tuple (I : Inv X pins σ H s) (h : SqT X.K H a xs) : ∃ its : List Value, Vals xs its ∧ IsTup s.heap a its.toArray ∧ xs.length ≤ sizeLine := by
  rcases h with h | ⟨o, its, n, hk, hc, hs, hz, r⟩
  · obtain ⟨z, its, r, p, _⟩ := h.ok I.hok
    exact ⟨its, r, p, z⟩
  · refine ⟨its.toList, r, ⟨o, I.kIn a o hk, hc, n, by simpa using hs⟩, ?_⟩
    have e := r.length
    simp only [Array.length_toList] at e
    omega
theorem Inv.list_inj (I : Inv X pins σ H s) (h : SqL X.K H a xs) (h' : SqL X.K H a ys) : xs = ys := by
  obtain ⟨its, r, ⟨o, n, e, _, _, d⟩, _⟩ := I.list h
  obtain ⟨its', r', ⟨o', n', e', _, _, d'⟩, _⟩ := I.list h'
  rw [e] at e'; cases e'
  rw [d] at d'
  injection d' with d1 _
  have : its = its' := by simpa using congrArg Array.toList d1
  subst this
  exact r.inj r'
theorem Inv.tuple_inj (I : Inv X pins σ H s) (h : SqT X.K H a xs) (h' : SqT X.K H a ys) : xs = ys := by
  obtain ⟨its, r, ⟨o, e, _, n, d⟩, _⟩ := I.tuple h
  obtain ⟨its', r', ⟨o', e', _, n', d'⟩, _⟩ := I.tuple h'
  rw [e] at e'; cases e'
  rw [d] at d'
  injection d' with d1 _
  have : its = its' := by simpa using congrArg Array.toList d1
  subst this
  exact r.inj r'
end

/-! ### another wish about exceptions -/
abbrev Cx.wish (X : Cx) (E : Value → Shared → Prop) : Cx := { X with xe := E }
/-- no exception leaves -/
abbrev Cx.nox (X : Cx) : Cx := X.wish fun _ _ => False
theorem Cx.Ok.wish {X : Cx} (ok : X.Ok) (E : Value → Shared → Prop) : (X.wish E).Ok :=
  ⟨ok.mod, ok.kind, ok.glob, ok.blt, ok.above, ok.inj, ok.has, ok.cab, ok.hd, ok.frames, ok.stk, ok.exf, ok.bs, ok.bsz, ok.noex, ok.exfs, ok.funs, ok.frf⟩
theorem Cx.Ok.unwish {X : Cx} {E : Value → Shared → Prop} (ok : (X.wish E).Ok) : X.Ok :=
  ⟨ok.mod, ok.kind, ok.glob, ok.blt, ok.above, ok.inj, ok.has, ok.cab, ok.hd, ok.frames, ok.stk, ok.exf, ok.bs, ok.bsz, ok.noex, ok.exfs, ok.funs, ok.frf⟩
section
variable {X : Cx} {pins : List (Addr × Obj)} {σ : St} {H : Hp} {s : Shared} {E : Value → Shared → Prop}
theorem Inv.wish (I : Inv X pins σ H s) (E : Value → Shared → Prop) : Inv (X.wish E) pins σ H s := ⟨I.ok.wish E, I.os, I.bare, I.base, I.loc, I.cell, I.free, I.freeC, I.pin, I.hok, I.len⟩
theorem Inv.unwish (I : Inv (X.wish E) pins σ H s) : Inv X pins σ H s := ⟨I.ok.unwish, I.os, I.bare, I.base, I.loc, I.cell, I.free, I.freeC, I.pin, I.hok, I.len⟩
theorem SP.unwish {D : Ends} {f : Flow} {s' : Shared} (h : SP (X.wish E) pins D f s') : SP X pins D f s' := by
  cases f with
  | next => obtain ⟨σ', H', I, q⟩ := h; exact ⟨σ', H', I.unwish, q⟩
  | brk => obtain ⟨σ', H', I, q⟩ := h; exact ⟨σ', H', I.unwish, q⟩
  | cont => obtain ⟨σ', H', I, q⟩ := h; exact ⟨σ', H', I.unwish, q⟩
  | ret u => obtain ⟨v, σ', H', I, r, q⟩ := h; exact ⟨v, σ', H', I.unwish, r, q⟩
theorem PSs.nox {st : List Stmt} {t : TS} (h : PSs X.nox st t) : PSs X st t := fun pins s σ H D I hw =>
  wpAny_mono (h pins s σ H D (I.wish _) hw) (fun _ _ q => q.unwish) fun _ _ z => False.elim z
end

/-! ### blocks and small statements -/
section
variable {X : Cx} {st : Stmt} {rest : List Stmt} {t u : TS} {e : Expr} {te : TE} {pos : Pos}
def tNext : TS := fun D σ H => D.nx σ H
def tSeq (t u : TS) : TS := fun D σ H => t { D with nx := u D } σ H
theorem pss_nil : PSs X [] tNext := fun _ _ σ H _ I h => wpAny_execs_nil ⟨σ, H, I, h⟩
theorem pss_cons (h1 : PS X st t) (h2 : PSs X rest u) : PSs X (st :: rest) (tSeq t u) := by
  intro pins s σ H D I h
  refine wpAny_execs_cons (thn (h1 pins s σ H { D with nx := u D } I h) fun f s1 q => ?_)
  cases f with
  | next =>
    obtain ⟨σ', H', I', q⟩ := q
    exact h2 pins s1 σ' H' D I' q
  | ret v => exact q
  | brk => exact q
  | cont => exact q
theorem pss_one (h1 : PS X st t) : PSs X [st] t := by
  intro pins s σ H D I h
  refine wpAny_execs_cons (thn (h1 pins s σ H D I h) fun f s1 q => ?_)
  cases f with
  | next => exact wpAny_execs_nil q
  | ret v => exact q
  | brk => exact q
  | cont => exact q
/-- in a def's body nothing is shown -/
theorem Inv.quiet {pins : List (Addr × Obj)} {σ : St} {H : Hp} {s : Shared} (I : Inv X pins σ H s) : interactive X.env = false := by simp [interactive, I.ok.kind]
/-- an expression whose value is dropped -/
def tDrop (te : TE) : TS := fun D σ H => te σ H fun _ H1 => D.nx σ H1
theorem ps_expr (he : PE X e te) (hs : swapsWith e none pos.line X.env = pure false := by rfl) : PS X (.Expr e pos) (tDrop te) := by
  intro pins s σ H D I h
  exact wpAny_Expr_any (thn (he pins s σ H _ I h) fun v s1 ⟨x, H1, I1, r1, q1⟩ => ⟨σ, H1, I1, q1⟩) I.quiet hs
def tRet (te : TE) : TS := fun D σ H => te σ H D.rt
theorem ps_ret (he : PE X e te) : PS X (.Return (some e) pos) (tRet te) := by
  intro pins s σ H D I h
  exact wpAny_Return_some (thn (he pins s σ H _ I h) fun v s1 ⟨x, H1, I1, r1, q1⟩ => ⟨x, σ, H1, I1, r1, q1⟩)
def tIfS (c : TT) (t u : TS) : TS := fun D σ H => c σ H fun b H1 => if b = true then t D σ H1 else u D σ H1
theorem ps_if {c : Expr} {a b : List Stmt} {tc : TT} (hc : PT X c tc) (ha : PSs X a t) (hb : PSs X b u) : PS X (.If c a b pos) (tIfS tc t u) := by
  intro pins s σ H D I h
  refine wpAny_If (thn (hc pins s σ H _ I h) fun d s1 ⟨H1, I1, q1⟩ => ?_)
  cases d with
  | true => exact ha pins s1 σ H1 D I1 q1
  | false => exact hb pins s1 σ H1 D I1 q1
end

/-! ### targets -/
abbrev TG := V → St → Hp → (St → Hp → Prop) → Prop
abbrev TGs := List V → St → Hp → (St → Hp → Prop) → Prop
def PG (X : Cx) (target : Expr) (t : TG) : Prop :=
  ∀ (pins : List (Addr × Obj)) (s : Shared) (σ : St) (H : Hp) (v : V) (u : Value) (Q : St → Hp → Prop), Inv X pins σ H s → RelV v u → t v σ H Q →
    wpAny (model X.prog X.w) X.A (assign target X.env u) (fun _ s' => ∃ σ' H', Inv X pins σ' H' s' ∧ Q σ' H') X.xe s
/-- several targets, one after another -/
def PGs (X : Cx) (ts : List Expr) (t : TGs) : Prop :=
  ∀ (pins : List (Addr × Obj)) (s : Shared) (σ : St) (H : Hp) (vs : List V) (us : List Value) (Q : St → Hp → Prop), Inv X pins σ H s → Vals vs us → t vs σ H Q →
    wpAny (model X.prog X.w) X.A (assignInOrder ((assignEach ts X.env).map (·.2)) us) (fun _ s' => ∃ σ' H', Inv X pins σ' H' s' ∧ Q σ' H') X.xe s
/-- o[i] = v, by values -/
abbrev TSet := V → V → V → Hp → (Hp → Prop) → Prop
def PSet (X : Cx) (t : TSet) : Prop :=
  ∀ (pins : List (Addr × Obj)) (s : Shared) (σ : St) (H : Hp) (o i v : V) (ov iv u : Value) (Q : Hp → Prop), Inv X pins σ H s → RelV o ov → RelV i iv → RelV v u → t o i v H Q →
    wpAny (model X.prog X.w) X.A (setItem ov iv u) (fun _ s' => ∃ H', Inv X pins σ H' s' ∧ Q H') X.xe s
/-- a op= b, by values -/
abbrev TIp := V → V → Hp → VK → Prop
def PIp (X : Cx) (op : Operator) (t : TIp) : Prop :=
  ∀ (pins : List (Addr × Obj)) (s : Shared) (σ : St) (H : Hp) (x y : V) (v u : Value) (Q : VK), Inv X pins σ H s → RelV x v → RelV y u → t x y H Q →
    wpAny (model X.prog X.w) X.A (inplaceOp op v u) (EP X pins σ Q) X.xe s
section
variable {X : Cx} {pos : Pos}
def gName (i : Nat) : TG := fun v σ H Q => Q (σ.set i (some v)) H
theorem pg_name {i : Nat} {x : Str} (hN : X.N.Nodup) (hi : X.N[i]? = some x) (hx : Loc X.env.scope x) (hf : X.fn x = true ∨ X.env.scope.names.lookup x = some .local := by first | exact .inl rfl | exact .inr rfl | assumption) : PG X (.Name x pos) (gName i) := by
  intro pins s σ H v u Q I r h
  exact wpAny_assign_Name (store_ok I hN hi hx r (fun s' I' => ⟨_, H, I', h⟩) hf)
def gNil : TGs := fun vs σ H Q => vs = [] ∧ Q σ H
def gCons (t : TG) (u : TGs) : TGs := fun vs σ H Q => ∃ v r, vs = v :: r ∧ t v σ H fun σ' H' => u r σ' H' Q
theorem pgs_nil : PGs X [] gNil := by
  intro pins s σ H vs us Q I r h
  obtain ⟨e, h⟩ := h
  subst e
  cases r
  exact assignInOrder_nil ⟨σ, H, I, h⟩
theorem pgs_cons {e : Expr} {es : List Expr} {t : TG} {u : TGs} (h1 : PG X e t) (h2 : PGs X es u)
    (hs : (assignEach (e :: es) X.env).map (·.2) = assign e X.env :: (assignEach es X.env).map (·.2) := by rfl) : PGs X (e :: es) (gCons t u) := by
  intro pins s σ H vs us Q I r h
  obtain ⟨v, vr, e1, h⟩ := h
  subst e1
  cases r with
  | cons r rr =>
    rw [hs]
    refine assignInOrder_cons (thn (h1 pins s σ H _ _ _ I r h) fun _ s1 ⟨σ1, H1, I1, q1⟩ => ?_)
    exact h2 pins s1 σ1 H1 _ _ Q I1 rr q1
/-- (a, b, ..) = a tuple of that length -/
def gTup (K : PySem.W.Frag) (n : Nat) (t : TGs) : TG := fun v σ H Q => ∃ a xs, v = .ref a ∧ SqT K H a xs ∧ xs.length = n ∧ t xs σ H Q
theorem pg_tup {es : List Expr} {k : Nat} {t : TGs} {n : Nat} (hc : X.calm = true) (h : PGs X es t)
    (hn : (assignEach es X.env).length = n := by rfl) (hst : (assignEach es X.env).findIdx? (·.1) = none := by rfl) : PG X (.Tuple es k pos) (gTup X.K n t) := by
  intro pins s σ H v u Q I r hw
  obtain ⟨a, xs, e1, hq, hl, hw⟩ := hw
  subst e1
  cases r
  obtain ⟨its, rv, ht, hz⟩ := I.tuple hq
  refine assign_Tuple_tuple (I.ok.hd hc) ht (by simp [hn, ← hl, rv.length]) hst fun h' hx => ?_
  have I1 : Inv X pins σ H { s with heap := h' } := I.kept (t' := s.toks) fun b o e => hx b o (Nat.ne_of_lt (Heap.lt_size e)) e
  exact h pins _ σ H xs _ Q I1 (by simpa using rv) hw
/-- o[i] = .. -/
def gSub (to ti : TE) (t : TSet) : TG := fun v σ H Q => to σ H fun o H1 => ti σ H1 fun i H2 => t o i v H2 fun H3 => Q σ H3
theorem pg_sub {o i : Expr} {to ti : TE} {t : TSet} (ho : PE X o to) (hi : PE X i ti) (hs : PSet X t)
    (ha : ∀ v, assign (.Subscript o i pos) X.env v = (do
      let ov ← holding [v] (eval o X.env)
      let iv ← holding [v, ov] (eval i X.env)
      standAt pos
      holding [v, ov, iv] (setItem ov iv v)
      release [v, ov, iv] []) := by intro _; rfl) : PG X (.Subscript o i pos) (gSub to ti t) := by
  intro pins s σ H v u Q I r h
  rw [ha]
  refine wpAny_bind (wpAny_holding (thn (ho pins s σ H _ I h) fun ov s1 ⟨x, H1, I1, r1, q1⟩ => ?_))
  refine wpAny_bind (wpAny_holding (thn (hi pins s1 σ H1 _ I1 q1) fun iv s2 ⟨y, H2, I2, r2, q2⟩ => ?_))
  refine wpAny_bind (wpAny_standAt (wpAny_bind (wpAny_holding (thn (hs pins s2 σ H2 x y v ov iv u _ I2 r1 r2 r q2) fun _ s3 ⟨H3, I3, q3⟩ => ?_))))
  exact wpAny_release ⟨σ, H3, I3, q3⟩
/-- target = value -/
def tAsg (te : TE) (g : TG) : TS := fun D σ H => te σ H fun x H1 => g x σ H1 D.nx
theorem ps_asg {tg e : Expr} {te : TE} {g : TG} (he : PE X e te) (hg : PG X tg g) (hs : swapsWithSole [tg] e pos.line X.env = pure false := by rfl) (hw : swappedStores [tg] e X.env = pure none := by rfl)
    (h1 : (assignEach [tg] X.env).map (·.2) = [assign tg X.env] := by rfl) : PS X (.Assign [tg] e pos) (tAsg te g) := by
  intro pins s σ H D I h
  refine wpAny_Assign_stores (thn (he pins s σ H _ I h) fun v s1 ⟨x, H1, I1, r1, q1⟩ => ?_) hs hw
  rw [h1]
  exact thn (hg pins s1 σ H1 x v _ I1 r1 q1) fun _ s2 q => q
/-- name = value -/
theorem ps_set {i : Nat} {x : Str} {e : Expr} {te : TE} {pos' : Pos} (hN : X.N.Nodup) (hi : X.N[i]? = some x) (hx : Loc X.env.scope x) (he : PE X e te) (hs : swapsWith e (some (.Name x pos')) pos.line X.env = pure false := by rfl) (hf : X.fn x = true ∨ X.env.scope.names.lookup x = some .local := by first | exact .inl rfl | exact .inr rfl | assumption) :
    PS X (.Assign [.Name x pos'] e pos) (tAsg te (gName i)) := by
  intro pins s σ H D I h
  refine wpAny_Assign_Name (thn (he pins s σ H _ I h) fun v s1 ⟨y, H1, I1, r1, q1⟩ => ?_) hs
  exact store_ok I1 hN hi hx r1 (fun s2 I2 => ⟨_, H1, I2, q1⟩) hf
/-- o[i] op= e -/
def tAugS (to ti te : TE) (tget : V → V → Hp → VK → Prop) (tip : TIp) (tset : TSet) : TS := fun D σ H => to σ H fun o H1 => ti σ H1 fun i H2 => tget o i H2 fun x H3 => te σ H3 fun y H4 => tip x y H4 fun z H5 => tset o i z H5 fun H6 => D.nx σ H6
/-- o[i], by values -/
def PGet (X : Cx) (t : V → V → Hp → VK → Prop) : Prop :=
  ∀ (pins : List (Addr × Obj)) (s : Shared) (σ : St) (H : Hp) (o i : V) (ov iv : Value) (Q : VK), Inv X pins σ H s → RelV o ov → RelV i iv → t o i H Q →
    wpAny (model X.prog X.w) X.A (getItem ov iv) (EP X pins σ Q) X.xe s
theorem ps_augS {o i e : Expr} {to ti te : TE} {tget : V → V → Hp → VK → Prop} {tip : TIp} {tset : TSet} {op : Operator} {tpos : Pos} (ho : PE X o to) (hi : PE X i ti) (hg : PGet X tget) (he : PE X e te) (hp : PIp X op tip) (hs : PSet X tset)
    (ha : ∀ ov iv new, augStore i ov iv new = (do holding [new, ov, iv] (setItem ov iv new); release [new, ov, iv] []; pure .next) := by intros; rfl) : PS X (.AugAssign (.Subscript o i tpos) op e pos) (tAugS to ti te tget tip tset) := by
  intro pins s σ H D I h
  refine wpAny_AugAssign_SubscriptAny (thn (ho pins s σ H _ I h) fun ov s1 ⟨x1, H1, I1, r1, q1⟩ => ?_) ha
  refine thn (hi pins s1 σ H1 _ I1 q1) fun iv s2 ⟨x2, H2, I2, r2, q2⟩ => ?_
  refine thn (hg pins s2 σ H2 x1 x2 ov iv _ I2 r1 r2 q2) fun old s3 ⟨x3, H3, I3, r3, q3⟩ => ?_
  refine thn (he pins s3 σ H3 _ I3 q3) fun v s4 ⟨x4, H4, I4, r4, q4⟩ => ?_
  refine thn (hp pins s4 σ H4 x3 x4 old v _ I4 r3 r4 q4) fun new s5 ⟨x5, H5, I5, r5, q5⟩ => ?_
  exact thn (hs pins s5 σ H5 x1 x2 x5 ov iv new _ I5 r1 r2 r5 q5) fun _ s6 ⟨H6, I6, q6⟩ => ⟨σ, H6, I6, q6⟩
/-- ints -/
def ipI (f : Int → Int → Int) : TIp := fun x y H Q => ∃ i j, x = .int i ∧ y = .int j ∧ Q (.int (f i j)) H
theorem ip_add : PIp X .Add (ipI fun i j => i + j) := by
  intro pins s σ H x y v u Q I r1 r2 h
  obtain ⟨i, j, e1, e2, q⟩ := h
  subst e1; subst e2
  obtain ⟨t, rfl⟩ := r1
  obtain ⟨t', rfl⟩ := r2
  exact iadd_int ⟨.int _, H, I.tok _, ⟨_, rfl⟩, q⟩
end

/-! ### while -/
section
variable {X : Cx} {pos : Pos}
/-- the invariant W with its measure -/
def tWhile (c : TT) (tb : TS) : TS := fun D σ H => ∃ W : Nat → St → Hp → Prop, (∃ m, W m σ H) ∧ ∀ m σ H, W m σ H →
  c σ H fun b H1 => if b = true then ∃ N : St → Hp → Prop, (∀ σ' H', N σ' H' → ∃ m', m' < m ∧ W m' σ' H') ∧ tb { D with nx := N, ct := N, bk := D.nx } σ H1 else D.nx σ H1
theorem ps_while {c : Expr} {body : List Stmt} {tc : TT} {tb : TS} (hp : PassesOwn (model X.prog X.w) X.A X.env X.xe) (hc : PT X c tc) (hb : PSs X body tb) : PS X (.While c body [] pos) (tWhile tc tb) := by
  intro pins s σ H D I h
  obtain ⟨W, ⟨m0, w0⟩, turn⟩ := h
  refine wpAny_While (codeAny_whileLoop (fun n s' => ∃ σ' H', Inv X pins σ' H' s' ∧ W n σ' H') ?_ m0 ⟨σ, H, I, w0⟩)
  rintro n s1 ⟨σ1, H1, I1, w1⟩
  refine wpAny_passesOwn hp (thn (hc pins s1 σ1 H1 _ I1 (turn n σ1 H1 w1)) fun b s2 ⟨H2, I2, q2⟩ => ?_)
  cases b with
  | true =>
    obtain ⟨N, hN, q2⟩ := q2
    rw [if_pos rfl]
    refine wpAny_passesOwn hp (thn (hb pins s2 σ1 H2 _ I2 q2) fun f s3 q3 => ?_)
    cases f with
    | next =>
      obtain ⟨σ3, H3, I3, n3⟩ := q3
      obtain ⟨m', hm, w3⟩ := hN σ3 H3 n3
      exact ⟨m', hm, σ3, H3, I3, w3⟩
    | cont =>
      obtain ⟨σ3, H3, I3, n3⟩ := q3
      obtain ⟨m', hm, w3⟩ := hN σ3 H3 n3
      exact ⟨m', hm, σ3, H3, I3, w3⟩
    | brk => exact q3
    | ret v => exact q3
  | false =>
    rw [if_neg Bool.false_ne_true]
    exact wpAny_execs_nil ⟨σ1, H2, I2, q2⟩
end

/-! ### what a loop or a comprehension walks -/
/-- at turn i: it yields x (the heap may grow), or it stops -/
structure It where
  go : Nat → Hp → Prop
  yld : Nat → Hp → V → Hp → Prop
  stop : Nat → Hp → Prop
/-- the iterator's own objects may turn: they are not the frame's, not pinned, younger than the entry (or a comprehension's own) -/
def FpOk (X : Cx) (pins : List (Addr × Obj)) (H : Hp) (b : Addr) : Prop :=
  H b = none ∧ b ≠ X.env.locals ∧ b ∉ X.fs ∧ (b ∈ X.ex ∨ X.s₀.heap.objs.size ≤ b) ∧ (∀ x c, X.env.cells.lookup x = some c → c ≠ b) ∧ ∀ p ∈ X.pn ++ pins, p.1 ≠ b
theorem Inv.fpOk {X : Cx} {pins : List (Addr × Obj)} {σ : St} {H H' : Hp} {s : Shared} {b : Addr} (I : Inv X pins σ H s) (hb : s.heap.objs.size ≤ b) (hn : H' b = none) : FpOk X pins H' b := by
  refine ⟨hn, Nat.ne_of_gt (Nat.lt_of_lt_of_le I.lt hb), I.nofs hb, .inr (Nat.le_trans I.sz hb), fun x c e z => ?_, fun p hp z => ?_⟩
  · obtain ⟨v, q⟩ := I.cell x c e
    exact absurd (Nat.lt_of_lt_of_le q.lt (by rw [z]; exact hb)) (Nat.lt_irrefl _)
  · exact absurd (Nat.lt_of_lt_of_le (Heap.lt_size (I.pin p hp).1) (by rw [z]; exact hb)) (Nat.lt_irrefl _)
structure Turn (P : Program) (w : World) (K : PySem.W.Frag) (tg : Expr) (J : It) (fp : List Addr) (it : Addr) (tn : Nat → Heap → Prop) : Prop where
  mem : it ∈ fp
  obj : ∀ i h, tn i h → ∀ b ∈ fp, ∃ o, h.get? b = some o ∧ ∀ v, o.data ≠ .cell v
  keep : ∀ i h h', tn i h → (∀ b ∈ fp, ∀ o, h.get? b = some o → h'.get? b = some o) → tn i h'
  item : ∀ (X : Cx), X.prog = P → X.w = w → X.K = K → X.calm = true → ∀ (i : Nat) (pins : List (Addr × Obj)) (s : Shared) (σ : St) (H : Hp) (E : Value → Shared → Prop), Inv X pins σ H s → (∀ b ∈ fp, FpOk X pins H b) → tn i s.heap → J.go i H →
    wpAny (model P w) X.A (pyNext (.ref it)) (fun r s1 => ∃ u, r = some u ∧
      wpAny (model P w) X.A (letOwnedTupleGo tg (.ref it) u) (fun _ s2 => ∃ x H', Inv X pins σ H' s2 ∧ RelV x u ∧ J.yld i H x H' ∧ tn (i + 1) s2.heap ∧ ∀ b ∈ fp, H' b = none) E s1) E s
  done : ∀ (X : Cx), X.prog = P → X.w = w → X.K = K → X.calm = true → ∀ (i : Nat) (pins : List (Addr × Obj)) (s : Shared) (σ : St) (H : Hp) (E : Value → Shared → Prop), Inv X pins σ H s → (∀ b ∈ fp, FpOk X pins H b) → tn i s.heap → J.stop i H →
    wpAny (model P w) X.A (pyNext (.ref it)) (fun r s1 => r = none ∧ Inv X pins σ H s1) E s
  self : ∀ (A : Around) (i : Nat) (s : Shared) (Q : Value → Shared → Prop) (E : Value → Shared → Prop), tn i s.heap → Q (.ref it) s → wpAny (model P w) A (pyIter (.ref it)) Q E s
abbrev TI := St → Hp → (It → Hp → Prop) → Prop
/-- an iterator has come -/
def PIE (X : Cx) (pins : List (Addr × Obj)) (σ : St) (tg : Expr) (R : It → Hp → Prop) (itv : Value) (s2 : Shared) : Prop :=
  ∃ (it : Addr) (fp : List Addr) (tn : Nat → Heap → Prop) (J : It) (H' : Hp), itv = .ref it ∧ Inv X pins σ H' s2 ∧ Turn X.prog X.w X.K tg J fp it tn ∧ tn 0 s2.heap ∧ (∀ b ∈ fp, FpOk X pins H' b) ∧ R J H'
def PI (X : Cx) (tg iter : Expr) (wi : TI) : Prop :=
  ∀ (pins : List (Addr × Obj)) (s : Shared) (σ : St) (H : Hp) (R : It → Hp → Prop), Inv X pins σ H s → wi σ H R →
    wpAny (model X.prog X.w) X.A (eval iter X.env) (fun v s1 => wpAny (model X.prog X.w) X.A (pyIter v) (PIE X pins σ tg R) X.xe s1) X.xe s

/-- the step ahead of the store is nothing for an iterator that keeps no tuple -/
theorem go_of {M : Model} {A : Around} {E : Value → Shared → Prop} {s : Shared} {tg : Expr} {it : Addr} {u : Value} {o : Obj} {n : String} {vs : Array Value} {Q : Unit → Shared → Prop} (ho : s.heap.get? it = some o) (hc : o.cls = .type n) (hd : o.data = .fields vs)
    (hn : ["enumerate", "zip", "dict_itemiterator", "dict_reverseitemiterator", "odict_iterator", "itertools.zip_longest", "itertools.pairwise"].contains n = false) (hQ : Q () s) : wpAny M A (letOwnedTupleGo tg (.ref it) u) Q E s := by
  unfold letOwnedTupleGo
  cases tg <;> first
    | exact wpAny_pure hQ
    | (cases u <;> first
        | exact wpAny_pure hQ
        | (refine wpAny_bind (wpAny_load ho ?_)
           rw [hc, hd]
           show wpAny M A (if (["enumerate", "zip", "dict_itemiterator", "dict_reverseitemiterator", "odict_iterator", "itertools.zip_longest", "itertools.pairwise"].contains n && vs[0]? == some (rawInt _)) = true then _ else _) Q E s
           rw [if_neg (by intro h; rw [hn, Bool.false_and] at h; cases h)]
           exact wpAny_pure hQ))

/-- the list at a, as it stands at each turn (a loop may append to it) -/
def Itl (K : PySem.W.Frag) (a : Addr) : It :=
  ⟨fun i H => ∃ xs x, SqL K H a xs ∧ xs[i]? = some x, fun i H x H' => H' = H ∧ ∀ xs, SqL K H a xs → xs[i]? = some x, fun i H => ∃ xs, SqL K H a xs ∧ xs.length ≤ i⟩
def Itt (K : PySem.W.Frag) (a : Addr) : It :=
  ⟨fun i H => ∃ xs x, SqT K H a xs ∧ xs[i]? = some x, fun i H x H' => H' = H ∧ ∀ xs, SqT K H a xs → xs[i]? = some x, fun i H => ∃ xs, SqT K H a xs ∧ xs.length ≤ i⟩
/-- lo, lo + 1, .. (n of them) -/
def Itr (lo : Int) (n : Nat) : It := ⟨fun i _ => i < n, fun i H x H' => H' = H ∧ x = .int (lo + i), fun i _ => n ≤ i⟩
theorem turn_list {P : Program} {w : World} {K : PySem.W.Frag} {tg : Expr} (a it : Addr) : Turn P w K tg (Itl K a) [it] it (fun i h => h.IsListIter it a i) where
  mem := by simp
  obj := fun i h st b hb => by
    have e : b = it := by simpa using hb
    subst e
    obtain ⟨o, e, c, d⟩ := st
    exact ⟨o, e, fun v z => by rw [d] at z; cases z⟩
  keep := fun i h h' st k => st.at fun o e => k it (by simp) o e
  item := by
    intro X hP hw hK hc i pins s σ H E I hf st hg
    subst hP hw hK
    obtain ⟨xs, x, hq, hx⟩ := hg
    obtain ⟨its, rv, p, hz⟩ := I.list hq
    obtain ⟨u, hu, ru⟩ := rv.get hx
    obtain ⟨f0, f1, f2, f3, f4, f5⟩ := hf it (by simp)
    refine wpAny_pyNext_list_item st p.isList (x := u) (by simpa using hu) fun h' st' sb => ?_
    have I1 : Inv X pins σ H { s with heap := h' } := I.turned (t' := s.toks) (fun b o hb e => (sb.2 b hb).trans e) f0 f1 f3 f4 f5
    obtain ⟨o, e, c, d⟩ := id st'
    exact ⟨u, rfl, go_of (s := { s with heap := h' }) e c d (by decide) ⟨x, H, I1, ru, ⟨rfl, fun ys hy => by rw [I.list_inj hy hq]; exact hx⟩, st', fun b hb => (hf b hb).1⟩⟩
  done := by
    intro X hP hw hK hc i pins s σ H E I hf st hg
    subst hP hw hK
    obtain ⟨xs, hq, hx⟩ := hg
    obtain ⟨its, rv, p, hz⟩ := I.list hq
    obtain ⟨f0, f1, f2, f3, f4, f5⟩ := hf it (by simp)
    have hl := rv.length
    exact wpAny_pyNext_list_end (I.ok.hd hc) st p.isList (by simp; omega) fun h' eb => ⟨rfl, I.turned (t' := s.toks) (fun b o hb e => eb b o hb e) f0 f1 f3 f4 f5⟩
  self := fun _ _ _ _ _ st h => wpAny_pyIter_listiter st h
theorem turn_tuple {P : Program} {w : World} {K : PySem.W.Frag} {tg : Expr} (a it : Addr) : Turn P w K tg (Itt K a) [it] it (fun i h => h.IsTupleIter it a i) where
  mem := by simp
  obj := fun i h st b hb => by
    have e : b = it := by simpa using hb
    subst e
    obtain ⟨o, e, c, d⟩ := st
    exact ⟨o, e, fun v z => by rw [d] at z; cases z⟩
  keep := fun i h h' st k => st.at fun o e => k it (by simp) o e
  item := by
    intro X hP hw hK hc i pins s σ H E I hf st hg
    subst hP hw hK
    obtain ⟨xs, x, hq, hx⟩ := hg
    obtain ⟨its, rv, p, hz⟩ := I.tuple hq
    obtain ⟨u, hu, ru⟩ := rv.get hx
    obtain ⟨f0, f1, f2, f3, f4, f5⟩ := hf it (by simp)
    refine wpAny_pyNext_tuple_item st (show s.heap.IsTuple a its.toArray from p) (x := u) (by simpa using hu) fun h' st' sb => ?_
    have I1 : Inv X pins σ H { s with heap := h' } := I.turned (t' := s.toks) (fun b o hb e => (sb.2 b hb).trans e) f0 f1 f3 f4 f5
    obtain ⟨o, e, c, d⟩ := id st'
    exact ⟨u, rfl, go_of (s := { s with heap := h' }) e c d (by decide) ⟨x, H, I1, ru, ⟨rfl, fun ys hy => by rw [I.tuple_inj hy hq]; exact hx⟩, st', fun b hb => (hf b hb).1⟩⟩
  done := by
    intro X hP hw hK hc i pins s σ H E I hf st hg
    subst hP hw hK
    obtain ⟨xs, hq, hx⟩ := hg
    obtain ⟨its, rv, p, hz⟩ := I.tuple hq
    obtain ⟨f0, f1, f2, f3, f4, f5⟩ := hf it (by simp)
    have hl := rv.length
    exact wpAny_pyNext_tuple_end (I.ok.hd hc) st (show s.heap.IsTuple a its.toArray from p) (by simp; omega) fun h' eb => ⟨rfl, I.turned (t' := s.toks) (fun b o hb e => eb b o hb e) f0 f1 f3 f4 f5⟩
  self := fun _ _ _ _ _ st h => wpAny_pyIter_tupleiter st h
theorem turn_range {P : Program} {w : World} {K : PySem.W.Frag} {tg : Expr} (it : Addr) (lo : Int) (n : Nat) : Turn P w K tg (Itr lo n) [it] it (fun i h => IsRangeIter h it (lo + (i : Nat) * 1) ((n : Int) - (i : Nat)) 1) where
  mem := by simp
  obj := fun i h st b hb => by
    have e : b = it := by simpa using hb
    subst e
    exact ⟨_, st, fun v z => by
      have z' : Data.fields _ = Data.cell v := z
      cases z'⟩
  keep := fun i h h' st k => k it (by simp) _ st
  item := by
    intro X hP hw hK hc i pins s σ H E I hf st hg
    subst hP hw hK
    obtain ⟨f0, f1, f2, f3, f4, f5⟩ := hf it (by simp)
    have W := Walks.range (prog := X.prog) (w := X.w) (I.ok.hd hc) it lo 1 n
    refine W.item i s _ _ hg st fun v h' tk hv st' kk => ?_
    obtain ⟨t, rfl⟩ := hv
    have I1 : Inv X pins σ H { s with heap := h', toks := tk } := I.turned (fun b o hb e => kk b o (by simpa using hb) e) f0 f1 f3 f4 f5
    refine ⟨_, rfl, go_of (s := { s with heap := h', toks := tk }) (n := "range_iterator") st' rfl rfl (by decide) ⟨.int (lo + i), H, I1, ⟨t, ?_⟩, ⟨rfl, rfl⟩, st', fun b hb => (hf b hb).1⟩⟩
    rw [Int.mul_one]
  done := by
    intro X hP hw hK hc i pins s σ H E I hf st hg
    subst hP hw hK
    obtain ⟨f0, f1, f2, f3, f4, f5⟩ := hf it (by simp)
    exact wpAny_pyNext_range_end (I.ok.hd hc) st (by have : n ≤ i := hg; omega) fun h' eb => ⟨rfl, I.turned (t' := s.toks) (fun b o hb e => eb b o hb e) f0 f1 f3 f4 f5⟩
  self := fun _ _ _ _ _ st h => wpAny_pyIter_rangeiter st h
end L2

namespace L2
open PySem PySem.Spec PyProof.Rows
section
variable {X : Cx} {tg : Expr}
def iList (K : PySem.W.Frag) (tl : TE) : TI := fun σ H R => tl σ H fun x H1 => ∃ a, x = .ref a ∧ (∃ xs, SqL K H1 a xs) ∧ R (Itl K a) H1
def iTup (K : PySem.W.Frag) (tl : TE) : TI := fun σ H R => tl σ H fun x H1 => ∃ a, x = .ref a ∧ (∃ xs, SqT K H1 a xs) ∧ R (Itt K a) H1
theorem pi_list {l : Expr} {tl : TE} (hl : PE X l tl) : PI X tg l (iList X.K tl) := by
  intro pins s σ H R I h
  refine thn (hl pins s σ H _ I h) fun v s1 ⟨x, H1, I1, r1, q1⟩ => ?_
  obtain ⟨a, e, ⟨xs, hq⟩, q⟩ := q1
  subst e
  cases r1
  obtain ⟨its, rv, p, hz⟩ := I1.list hq
  refine wpAny_pyIter_list p.isList ?_
  refine ⟨s1.heap.objs.size, [s1.heap.objs.size], _, _, H1, rfl, I1.kept (t' := s1.toks) fun b o e => Heap.get?_push_of_some _ e, turn_list a _, ⟨_, Heap.get?_push_size _ rfl, rfl, rfl⟩, fun b hb => ?_, q⟩
  have e : b = s1.heap.objs.size := by simpa using hb
  subst e
  exact I1.fpOk (Nat.le_refl _) (I1.hok.fresh (Nat.le_refl _))
theorem pi_tup {l : Expr} {tl : TE} (hl : PE X l tl) : PI X tg l (iTup X.K tl) := by
  intro pins s σ H R I h
  refine thn (hl pins s σ H _ I h) fun v s1 ⟨x, H1, I1, r1, q1⟩ => ?_
  obtain ⟨a, e, ⟨xs, hq⟩, q⟩ := q1
  subst e
  cases r1
  obtain ⟨its, rv, p, hz⟩ := I1.tuple hq
  refine wpAny_pyIter_tuple (show s1.heap.IsTuple a its.toArray from p) ?_
  refine ⟨s1.heap.objs.size, [s1.heap.objs.size], _, _, H1, rfl, I1.kept (t' := s1.toks) fun b o e => Heap.get?_push_of_some _ e, turn_tuple a _, ⟨_, Heap.get?_push_size _ rfl, rfl, rfl⟩, fun b hb => ?_, q⟩
  have e : b = s1.heap.objs.size := by simpa using hb
  subst e
  exact I1.fpOk (Nat.le_refl _) (I1.hok.fresh (Nat.le_refl _))
/-- a range object just made, walked -/
theorem range_it {pins : List (Addr × Obj)} {σ : St} {H : Hp} {s : Shared} {R : It → Hp → Prop} {E : Value → Shared → Prop} {lo hi : Int} {t u v : Tok} {tk : Nat} (I : Inv X pins σ H s) (h1 : -(2 ^ 62) ≤ lo) (h2 : lo < 2 ^ 62) (h3 : -(2 ^ 62) ≤ hi) (h4 : hi < 2 ^ 62)
    (q : R (Itr lo (hi - lo).toNat) H) : wpAny (model X.prog X.w) X.A (pyIter (.ref s.heap.objs.size)) (PIE X pins σ tg R) E { s with heap := s.heap.push { cls := .type "range", data := .fields #[.int lo t, .int hi u, .int 1 v] }, toks := tk } := by
  refine wpAny_pyIter_range (IsRange.new ..) (small_one h1 h2 h3 h4) ?_
  have I1 : Inv X pins σ H { s with heap := s.heap.push { cls := .type "range", data := .fields #[.int lo t, .int hi u, .int 1 v] }, toks := tk } := I.kept fun b o e => Heap.get?_push_of_some _ e
  refine ⟨(s.heap.push { cls := .type "range", data := .fields #[.int lo t, .int hi u, .int 1 v] }).objs.size, [(s.heap.push { cls := .type "range", data := .fields #[.int lo t, .int hi u, .int 1 v] }).objs.size], _, _, H, rfl,
    I1.kept (t' := tk) fun b o e => Heap.get?_push_of_some _ e, turn_range _ lo (hi - lo).toNat, ?_, fun b hb => ?_, q⟩
  · have e1 : lo + ((0 : Nat) : Int) * 1 = lo := by simp
    have e2 : (((hi - lo).toNat : Nat) : Int) - ((0 : Nat) : Int) = Builtin.Range.rangeSize lo hi 1 := by rw [rangeSize_one]; split <;> omega
    show IsRangeIter _ _ (lo + ((0 : Nat) : Int) * 1) ((((hi - lo).toNat : Nat) : Int) - ((0 : Nat) : Int)) 1
    rw [e1, e2]
    exact Heap.get?_push_size _ rfl
  · have e : b = (s.heap.push { cls := .type "range", data := .fields #[.int lo t, .int hi u, .int 1 v] }).objs.size := by simpa using hb
    subst e
    exact I1.fpOk (Nat.le_refl _) (I1.hok.fresh (Nat.le_refl _))
def iRng1 (ta : TA) : TI := fun σ H R => ta σ H fun vs H1 => ∃ j : Int, vs = [.int j] ∧ -(2 ^ 62) ≤ j ∧ j < 2 ^ 62 ∧ R (Itr 0 j.toNat) H1
theorem pi_range1 {a : Expr} {ta : TA} {p pos : Pos} (hg : Gl X "range") (hm : X.mg "range" = none) (ha : PA X [a] ta) (hs : starEach [a] X.env = [(false, eval a X.env)] := by rfl) : PI X tg (.Call (.Name "range" p) [a] [] pos) (iRng1 ta) := by
  intro pins s σ H R I h
  refine Call_ (ld_blt I hg hm boot_range (PyProof.Rows.callWith_type1 (thn (ha pos pins s σ H _ I h) fun us s1 ⟨vs, H1, I1, r1, q1⟩ => ?_) hs rfl))
  obtain ⟨j, e, q1, q2, q⟩ := q1
  subst e
  cases r1 with
  | cons r rr =>
    cases rr
    obtain ⟨t, rfl⟩ := r
    exact call_range_1 (range_it I1 (by omega) (by omega) q1 q2 (by simpa using q))
/-! ### for -/
/-- W: the invariant by the turn and a measure; N: what the body is to reach -/
def tFor (wi : TI) (g : TG) (tb : TS) : TS := fun D σ H => wi σ H fun J H1 => ∃ W : Nat → Nat → St → Hp → Prop, (∃ m, W 0 m σ H1) ∧ ∀ i m σ H, W i m σ H →
  (J.stop i H ∧ D.nx σ H) ∨ (J.go i H ∧ ∃ N : St → Hp → Prop, (∀ σ' H', N σ' H' → ∃ m', m' < m ∧ W (i + 1) m' σ' H') ∧ ∀ x H', J.yld i H x H' → g x σ H' fun σ2 H2 => tb { D with nx := N, ct := N, bk := D.nx } σ2 H2)
/-- the records at fp as they stand -/
def pinsAt (fp : List Addr) (h : Heap) : List (Addr × Obj) := fp.filterMap fun b => (h.get? b).map fun o => (b, o)
theorem mem_pinsAt {fp : List Addr} {h : Heap} {b : Addr} {o : Obj} (hb : b ∈ fp) (e : h.get? b = some o) : (b, o) ∈ pinsAt fp h := List.mem_filterMap.mpr ⟨b, hb, by rw [e]; rfl⟩
theorem of_pinsAt {fp : List Addr} {h : Heap} {p : Addr × Obj} (hp : p ∈ pinsAt fp h) : p.1 ∈ fp ∧ h.get? p.1 = some p.2 := by
  obtain ⟨b, hb, e⟩ := List.mem_filterMap.mp hp
  cases q : h.get? b with
  | none => rw [q] at e; cases e
  | some o =>
    rw [q] at e
    have e' : (b, o) = p := Option.some.inj e
    subst e'
    exact ⟨hb, q⟩
theorem Inv.pinned {pins : List (Addr × Obj)} {σ : St} {H : Hp} {s : Shared} {fp : List Addr} (I : Inv X pins σ H s) (hf : ∀ b ∈ fp, FpOk X pins H b) (ho : ∀ b ∈ fp, ∃ o, s.heap.get? b = some o ∧ ∀ v, o.data ≠ .cell v) : Inv X (pins ++ pinsAt fp s.heap) σ H s :=
  I.pins_of fun p hp => (List.mem_append.mp hp).elim (fun z => I.pin p (List.mem_append_right _ z)) fun z => by
    obtain ⟨hb, e⟩ := of_pinsAt z
    obtain ⟨f0, f1, f2, _⟩ := hf p.1 hb
    obtain ⟨o, e', d⟩ := ho p.1 hb
    rw [e] at e'; cases e'
    exact ⟨e, f0, f1, f2, d⟩
theorem Inv.unpinned {pins pl : List (Addr × Obj)} {σ : St} {H : Hp} {s : Shared} (I : Inv X (pins ++ pl) σ H s) : Inv X pins σ H s := I.pins_of fun p hp => I.pin p (List.mem_append_right _ (List.mem_append_left _ hp))
theorem ps_for {iter : Expr} {body : List Stmt} {wi : TI} {g : TG} {tb : TS} {pos : Pos} (hp : PassesOwn (model X.prog X.w) X.A X.env X.xe) (hc : X.calm = true) (hi : PI X tg iter wi) (hg : PG X tg g) (hb : PSs X body tb)
    (hs : ∀ x, foldedSetIterable iter X.env x = pure x := by intro _; rfl) : PS X (.For tg iter body [] pos) (tFor wi g tb) := by
  intro pins s σ H D I h
  refine wpAny_For (thn (hi pins s σ H _ I h) fun v s1 h1 => thn h1 fun itv s2 h2 => ?_) hs
  obtain ⟨it, fp, tn, J, H2, e, I2, T, st2, f2, W, ⟨m0, w0⟩, turn⟩ := h2
  subst e
  -- what stays true of the iterator's objects through the loop
  have stat : ∀ {H' : Hp}, (∀ b ∈ fp, H' b = none) → ∀ b ∈ fp, FpOk X pins H' b := fun hn b hb => ⟨hn b hb, (f2 b hb).2⟩
  refine codeAny_forLoop_any (fun n s' => ∃ i σ' H', Inv X pins σ' H' s' ∧ tn i s'.heap ∧ (∀ b ∈ fp, H' b = none) ∧ W i n σ' H') ?_ m0 ⟨0, σ, H2, I2, st2, fun b hb => (f2 b hb).1, w0⟩
  rintro n s3 ⟨i, σ3, H3, I3, st3, fr3, w3⟩
  rcases turn i n σ3 H3 w3 with ⟨stop, qn⟩ | ⟨go, N, hN, step⟩
  · refine wpAny_passesOwn hp (thn (T.done X rfl rfl rfl hc i pins s3 σ3 H3 X.xe I3 (stat fr3) st3 stop) fun r s4 ⟨hr, I4⟩ => ?_)
    subst hr
    exact wpAny_execs_nil ⟨σ3, H3, I4, qn⟩
  · refine wpAny_passesOwn hp (thn (T.item X rfl rfl rfl hc i pins s3 σ3 H3 X.xe I3 (stat fr3) st3 go) fun r s4 ⟨u, hr, h4⟩ => ?_)
    subst hr
    refine wpAny_passesOwn hp (thn h4 fun _ s5 ⟨x, H5, I5, r5, y5, st5, fr5⟩ => ?_)
    have I5' := I5.pinned (stat fr5) (T.obj _ _ st5)
    refine wpAny_passesOwn hp (thn (hg _ s5 σ3 H5 x u _ I5' r5 (step x H5 y5)) fun _ s6 ⟨σ6, H6, I6, q6⟩ => ?_)
    refine wpAny_passesOwn hp (thn (hb _ s6 σ6 H6 _ I6 q6) fun f s7 q7 => ?_)
    have again : ∀ {σ7 : St} {H7 : Hp}, Inv X (pins ++ pinsAt fp s5.heap) σ7 H7 s7 → N σ7 H7 → ∃ m, m < n ∧ ∃ i σ' H', Inv X pins σ' H' s7 ∧ tn i s7.heap ∧ (∀ b ∈ fp, H' b = none) ∧ W i m σ' H' := fun {σ7 H7} I7 n7 => by
      obtain ⟨m', hm, w7⟩ := hN σ7 H7 n7
      refine ⟨m', hm, i + 1, σ7, H7, I7.unpinned, T.keep _ _ _ st5 fun b hb o e => (I7.pin (b, o) (List.mem_append_right _ (List.mem_append_right _ (mem_pinsAt hb e)))).1, fun b hb => ?_, w7⟩
      obtain ⟨o, e, d⟩ := T.obj _ _ st5 b hb
      exact (I7.pin (b, o) (List.mem_append_right _ (List.mem_append_right _ (mem_pinsAt hb e)))).2.1
    cases f with
    | next => obtain ⟨σ7, H7, I7, n7⟩ := q7; exact again I7 n7
    | cont => obtain ⟨σ7, H7, I7, n7⟩ := q7; exact again I7 n7
    | brk => obtain ⟨σ7, H7, I7, q7⟩ := q7; exact ⟨σ7, H7, I7.unpinned, q7⟩
    | ret v => obtain ⟨x7, σ7, H7, I7, r7, q7⟩ := q7; exact ⟨x7, σ7, H7, I7.unpinned, r7, q7⟩
end

/-! ### the forms one uses -/
/-- over a list that the body leaves as it is -/
theorem for_list {K : PySem.W.Frag} {a : Addr} {xs : List V} {g : TG} {tb : TS} {D : Ends} {σ : St} {H : Hp} (Pv : Nat → St → Hp → Prop) (h0 : Pv 0 σ H) (hl : ∀ i σ H, i ≤ xs.length → Pv i σ H → SqL K H a xs)
    (hs : ∀ i x σ H, xs[i]? = some x → Pv i σ H → g x σ H fun σ2 H2 => tb { D with nx := Pv (i + 1), ct := Pv (i + 1), bk := D.nx } σ2 H2) (hd : ∀ σ H, Pv xs.length σ H → D.nx σ H) :
    ∃ W : Nat → Nat → St → Hp → Prop, (∃ m, W 0 m σ H) ∧ ∀ i m σ H, W i m σ H →
      ((Itl K a).stop i H ∧ D.nx σ H) ∨ ((Itl K a).go i H ∧ ∃ N : St → Hp → Prop, (∀ σ' H', N σ' H' → ∃ m', m' < m ∧ W (i + 1) m' σ' H') ∧ ∀ x H', (Itl K a).yld i H x H' → g x σ H' fun σ2 H2 => tb { D with nx := N, ct := N, bk := D.nx } σ2 H2) := by
  refine ⟨fun i m σ H => m = xs.length - i ∧ i ≤ xs.length ∧ Pv i σ H, ⟨xs.length, by simp, Nat.zero_le _, h0⟩, ?_⟩
  rintro i m σ H ⟨rfl, hi, p⟩
  have q := hl i σ H hi p
  by_cases hlt : i < xs.length
  · refine .inr ⟨⟨xs, xs[i], q, by simp [hlt]⟩, Pv (i + 1), fun σ' H' p' => ⟨xs.length - (i + 1), by omega, rfl, hlt, p'⟩, fun x H' y => ?_⟩
    obtain ⟨e, y⟩ := y
    subst e
    exact hs i x σ _ (y xs q) p
  · have e : i = xs.length := by omega
    subst e
    exact .inl ⟨⟨xs, q, Nat.le_refl _⟩, hd σ H p⟩
theorem for_tup {K : PySem.W.Frag} {a : Addr} {xs : List V} {g : TG} {tb : TS} {D : Ends} {σ : St} {H : Hp} (Pv : Nat → St → Hp → Prop) (h0 : Pv 0 σ H) (hl : ∀ i σ H, i ≤ xs.length → Pv i σ H → SqT K H a xs)
    (hs : ∀ i x σ H, xs[i]? = some x → Pv i σ H → g x σ H fun σ2 H2 => tb { D with nx := Pv (i + 1), ct := Pv (i + 1), bk := D.nx } σ2 H2) (hd : ∀ σ H, Pv xs.length σ H → D.nx σ H) :
    ∃ W : Nat → Nat → St → Hp → Prop, (∃ m, W 0 m σ H) ∧ ∀ i m σ H, W i m σ H →
      ((Itt K a).stop i H ∧ D.nx σ H) ∨ ((Itt K a).go i H ∧ ∃ N : St → Hp → Prop, (∀ σ' H', N σ' H' → ∃ m', m' < m ∧ W (i + 1) m' σ' H') ∧ ∀ x H', (Itt K a).yld i H x H' → g x σ H' fun σ2 H2 => tb { D with nx := N, ct := N, bk := D.nx } σ2 H2) := by
  refine ⟨fun i m σ H => m = xs.length - i ∧ i ≤ xs.length ∧ Pv i σ H, ⟨xs.length, by simp, Nat.zero_le _, h0⟩, ?_⟩
  rintro i m σ H ⟨rfl, hi, p⟩
  have q := hl i σ H hi p
  by_cases hlt : i < xs.length
  · refine .inr ⟨⟨xs, xs[i], q, by simp [hlt]⟩, Pv (i + 1), fun σ' H' p' => ⟨xs.length - (i + 1), by omega, rfl, hlt, p'⟩, fun x H' y => ?_⟩
    obtain ⟨e, y⟩ := y
    subst e
    exact hs i x σ _ (y xs q) p
  · have e : i = xs.length := by omega
    subst e
    exact .inl ⟨⟨xs, q, Nat.le_refl _⟩, hd σ H p⟩
theorem for_range {lo : Int} {n : Nat} {g : TG} {tb : TS} {D : Ends} {σ : St} {H : Hp} (Pv : Nat → St → Hp → Prop) (h0 : Pv 0 σ H)
    (hs : ∀ i σ H, i < n → Pv i σ H → g (.int (lo + i)) σ H fun σ2 H2 => tb { D with nx := Pv (i + 1), ct := Pv (i + 1), bk := D.nx } σ2 H2) (hd : ∀ σ H, Pv n σ H → D.nx σ H) :
    ∃ W : Nat → Nat → St → Hp → Prop, (∃ m, W 0 m σ H) ∧ ∀ i m σ H, W i m σ H →
      ((Itr lo n).stop i H ∧ D.nx σ H) ∨ ((Itr lo n).go i H ∧ ∃ N : St → Hp → Prop, (∀ σ' H', N σ' H' → ∃ m', m' < m ∧ W (i + 1) m' σ' H') ∧ ∀ x H', (Itr lo n).yld i H x H' → g x σ H' fun σ2 H2 => tb { D with nx := N, ct := N, bk := D.nx } σ2 H2) := by
  refine ⟨fun i m σ H => m = n - i ∧ i ≤ n ∧ Pv i σ H, ⟨n, by simp, Nat.zero_le _, h0⟩, ?_⟩
  rintro i m σ H ⟨rfl, hi, p⟩
  by_cases hlt : i < n
  · refine .inr ⟨hlt, Pv (i + 1), fun σ' H' p' => ⟨n - (i + 1), by omega, rfl, hlt, p'⟩, fun x H' y => ?_⟩
    obtain ⟨e, y⟩ := y
    subst e y
    exact hs i σ _ hlt p
  · have e : i = n := by omega
    subst e
    exact .inl ⟨Nat.le_refl _, hd σ H p⟩
end L2

namespace L2
open PySem PySem.Spec PyProof.Rows

abbrev R2 := V → V → Hp → VK → Prop
/-- a two-place operation on values: f is binaryOp op, inplaceOp op or compareOp op -/
def OpR (X : Cx) (f : Value → Value → Sem Value) (r : R2) : Prop :=
  ∀ (pins : List (Addr × Obj)) (s : Shared) (σ : St) (H : Hp) (x y : V) (v u : Value) (Q : VK), Inv X pins σ H s → RelV x v → RelV y u → r x y H Q →
    wpAny (model X.prog X.w) X.A (f v u) (EP X pins σ Q) X.xe s
/-- a call of a value that is known (a builtin, a type) with values -/
def CallR (X : Cx) (f : Value) (r : List V → Hp → VK → Prop) : Prop :=
  ∀ (pins : List (Addr × Obj)) (s : Shared) (σ : St) (H : Hp) (xs : List V) (us : List Value) (Q : VK), Inv X pins σ H s → Vals xs us → r xs H Q →
    wpAny (model X.prog X.w) X.A (call f us) (EP X pins σ Q) X.xe s
/-- a value's truth -/
def TruR (X : Cx) (r : V → Hp → (Bool → Hp → Prop) → Prop) : Prop :=
  ∀ (pins : List (Addr × Obj)) (s : Shared) (σ : St) (H : Hp) (x : V) (v : Value) (Q : Bool → Hp → Prop), Inv X pins σ H s → RelV x v → r x H Q →
    wpAny (model X.prog X.w) X.A (truthy v) (TP X pins σ Q) X.xe s

def tOp (r : R2) (ta tb : TE) : TE := fun σ H Q => ta σ H fun x H1 => tb σ H1 fun y H2 => r x y H2 Q
/-- ints in, under C, and a value out -/
def rI (C : Int → Int → Prop) (g : Int → Int → V) : R2 := fun x y H Q => ∃ i j, x = .int i ∧ y = .int j ∧ C i j ∧ Q (g i j) H
def rI0 (g : Int → Int → V) : R2 := fun x y H Q => ∃ i j, x = .int i ∧ y = .int j ∧ Q (g i j) H
section
variable {X : Cx} {a b c : Expr} {ta tb tc : TE} {pos : Pos}

theorem binT (ha : PE X a ta) (hb : PE X b tb) {pins : List (Addr × Obj)} {s : Shared} {σ : St} {H : Hp} {R : V → V → Hp → Prop} (I : Inv X pins σ H s)
    (h : ta σ H fun x H1 => tb σ H1 fun y H2 => R x y H2) {Q : Value → Shared → Prop} {f : Value → Value → Sem Value}
    (hf : ∀ v u s2 x y H2, Inv X pins σ H2 s2 → RelV x v → RelV y u → R x y H2 → wpAny (model X.prog X.w) X.A (f v u) Q X.xe s2) :
    wpAny (model X.prog X.w) X.A (eval a X.env) (fun v s₁ => wpAny (model X.prog X.w) X.A (eval b X.env) (fun u s₂ => wpAny (model X.prog X.w) X.A (f v u) Q X.xe s₂) X.xe s₁) X.xe s := by
  refine thn (ha pins s σ H _ I h) fun v s1 ⟨x, H1, I1, r1, q1⟩ => ?_
  refine thn (hb pins s1 σ H1 _ I1 q1) fun u s2 ⟨y, H2, I2, r2, q2⟩ => ?_
  exact hf v u s2 x y H2 I2 r1 r2 q2

theorem pe_op {op : Operator} {r : R2} (ho : OpR X (binaryOp op) r) (ha : PE X a ta) (hb : PE X b tb) : PE X (.BinOp a op b pos) (tOp r ta tb) := by
  intro pins s σ H Q I h
  exact wpAny_BinOp (binT ha hb I h fun v u s2 x y H2 I2 rx ry q => ho pins s2 σ H2 x y v u Q I2 rx ry q)
/-! ### ints -/
theorem opI {f : Value → Value → Sem Value} {C : Int → Int → Prop} {g : Int → Int → Int}
    (rule : ∀ (i j : Int) (t u : Tok) (s : Shared) (Q : Value → Shared → Prop) (E : Value → Shared → Prop), C i j → Q (.int (g i j) s.toks) { s with toks := s.toks + 1 } → wpAny (model X.prog X.w) X.A (f (.int i t) (.int j u)) Q E s) :
    OpR X f (rI C fun i j => .int (g i j)) := by
  intro pins s σ H x y v u Q I rx ry h
  obtain ⟨i, j, rfl, rfl, hc, q⟩ := h
  obtain ⟨t, rfl⟩ := rx
  obtain ⟨t', rfl⟩ := ry
  exact rule i j t t' s _ _ hc ⟨.int (g i j), H, I.tok _, ⟨_, rfl⟩, q⟩
theorem opI0 {f : Value → Value → Sem Value} {g : Int → Int → Int}
    (rule : ∀ (i j : Int) (t u : Tok) (s : Shared) (Q : Value → Shared → Prop) (E : Value → Shared → Prop), Q (.int (g i j) s.toks) { s with toks := s.toks + 1 } → wpAny (model X.prog X.w) X.A (f (.int i t) (.int j u)) Q E s) :
    OpR X f (rI0 fun i j => .int (g i j)) := by
  intro pins s σ H x y v u Q I rx ry h
  obtain ⟨i, j, rfl, rfl, q⟩ := h
  obtain ⟨t, rfl⟩ := rx
  obtain ⟨t', rfl⟩ := ry
  exact rule i j t t' s _ _ ⟨.int (g i j), H, I.tok _, ⟨_, rfl⟩, q⟩
theorem opB0 {f : Value → Value → Sem Value} {g : Int → Int → Bool}
    (rule : ∀ (i j : Int) (t u : Tok) (s : Shared) (Q : Value → Shared → Prop) (E : Value → Shared → Prop), Q (.bool (g i j)) s → wpAny (model X.prog X.w) X.A (f (.int i t) (.int j u)) Q E s) :
    OpR X f (rI0 fun i j => .bl (g i j)) := by
  intro pins s σ H x y v u Q I rx ry h
  obtain ⟨i, j, rfl, rfl, q⟩ := h
  obtain ⟨t, rfl⟩ := rx
  obtain ⟨t', rfl⟩ := ry
  exact rule i j t t' s _ _ ⟨.bl (g i j), H, I, rfl, q⟩

def CPow (i j : Int) : Prop := 0 ≤ j ∧ j ≤ 1000000 ∧ i.natAbs < 2 ^ 64
def CMul (i j : Int) : Prop := (-(2 ^ 64) < i ∧ i < 2 ^ 64) ∨ (-(2 ^ 64) < j ∧ j < 2 ^ 64)
theorem CMul.ok {i j : Int} (h : CMul i j) : IntMulOk i j := by
  rcases h with ⟨h1, h2⟩ | ⟨h1, h2⟩
  · exact .of_left (intBits_le_64 h1 h2)
  · exact .of_right (intBits_le_64 h1 h2)
theorem op_add : OpR X (binaryOp .Add) (rI0 fun i j => .int (i + j)) := opI0 fun _ _ _ _ _ _ _ q => add_int q
theorem op_sub : OpR X (binaryOp .Sub) (rI0 fun i j => .int (i - j)) := opI0 fun _ _ _ _ _ _ _ q => sub_int q
theorem op_mul : OpR X (binaryOp .Mult) (rI CMul fun i j => .int (i * j)) := opI fun _ _ _ _ _ _ _ hc q => mul_int q hc.ok
/-- % by a positive divisor of any size -/
theorem op_mod : OpR X (binaryOp .Mod) (rI (fun _ j => 0 < j) fun i j => .int (i % j)) := opI fun i j _ _ _ _ _ hc q => by
  have h1 : (0 : Int) < j := hc
  exact mod_int' (by omega) (by rw [Int.fmod_eq_emod_of_nonneg i (by omega)]; exact q)
theorem op_pow : OpR X (binaryOp .Pow) (rI CPow fun i j => .int (i ^ j.toNat)) := opI fun _ _ _ _ _ _ _ hc q => pow_int_small hc.1 hc.2.1 hc.2.2 q
/-! ### bools among ints: n += (a < b) -/
end

/-! ### comparisons -/
/-- the scalars that == tells apart as data does -/
def scal : V → V → Bool
  | .non, .non => true | .non, .int _ => true | .int _, .non => true | .non, .bl _ => true | .bl _, .non => true | .non, .str _ => true | .str _, .non => true
  | .int _, .int _ => true | .bl _, .bl _ => true | .str _, .str _ => true | .byt _, .byt _ => true
  | .int _, .str _ => true | .str _, .int _ => true | .bl _, .str _ => true | .str _, .bl _ => true
  | _, _ => false
def rEq : R2 := fun x y H Q => scal x y = true ∧ Q (.bl (decide (x = y))) H
def rNe : R2 := fun x y H Q => scal x y = true ∧ Q (.bl (!decide (x = y))) H

theorem dec_int {i j : Int} : decide (V.int i = V.int j) = (i == j) := by
  rw [Bool.eq_iff_iff]
  simp
theorem dec_bl {i j : Bool} : decide (V.bl i = V.bl j) = (i == j) := by
  rw [Bool.eq_iff_iff]
  simp
theorem dec_str {i j : Str} : decide (V.str i = V.str j) = (i == j) := by
  rw [Bool.eq_iff_iff]
  simp
theorem dec_byt {i j : Array UInt8} : decide (V.byt i = V.byt j) = (i.toList == j.toList) := by
  rw [Bool.eq_iff_iff]
  cases i
  cases j
  simp

section
variable {X : Cx} {a b c : Expr} {ta tb tc : TE} {pos : Pos}
theorem fin_bl {pins : List (Addr × Obj)} {σ : St} {H : Hp} {s : Shared} {Q : VK} {k k' : Bool} (I : Inv X pins σ H s) (q : Q (.bl k) H) (e : k = k') : EP X pins σ Q (.bool k') s := by
  subst e
  exact ⟨.bl k, H, I, rfl, q⟩
theorem op_eq : OpR X (compareOp .Eq) rEq := by
  intro pins s σ H x y v u Q I rx ry h
  obtain ⟨hs, q⟩ := h
  cases x with
  | non =>
    cases rx
    cases y with
    | non => cases ry; exact PySem.EqNone.eq_none_none (fin_bl I q (by simp))
    | bl j => cases ry; exact PySem.EqNone.eq_none_bool (fin_bl I q (by simp))
    | int j => obtain ⟨t', rfl⟩ := ry; exact PySem.EqNone.eq_none_int (fin_bl I q (by simp))
    | str j => obtain ⟨t', rfl⟩ := ry; exact PySem.EqNone.eq_none_str (fin_bl I q (by simp))
    | _ => exact absurd (show false = true from hs) Bool.false_ne_true
  | bl i =>
    cases rx
    cases y with
    | non => cases ry; exact PySem.EqNone.eq_bool_none (fin_bl I q (by simp))
    | bl j => cases ry; exact eq_bool (fin_bl I q dec_bl)
    | str j => obtain ⟨t', rfl⟩ := ry; exact PySem.EqMixed.eq_bool_str (fin_bl I q (by simp))
    | _ => exact absurd (show false = true from hs) Bool.false_ne_true
  | int i =>
    obtain ⟨t, rfl⟩ := rx
    cases y with
    | non => cases ry; exact PySem.EqNone.eq_int_none (fin_bl I q (by simp))
    | int j => obtain ⟨t', rfl⟩ := ry; exact eq_int (fin_bl I q dec_int)
    | str j => obtain ⟨t', rfl⟩ := ry; exact PySem.EqMixed.eq_int_str (fin_bl I q (by simp))
    | _ => exact absurd (show false = true from hs) Bool.false_ne_true
  | str i =>
    obtain ⟨t, rfl⟩ := rx
    cases y with
    | non => cases ry; exact PySem.EqNone.eq_str_none (fin_bl I q (by simp))
    | bl j => cases ry; exact PySem.EqMixed.eq_str_bool (fin_bl I q (by simp))
    | int j => obtain ⟨t', rfl⟩ := ry; exact PySem.EqMixed.eq_str_int (fin_bl I q (by simp))
    | str j => obtain ⟨t', rfl⟩ := ry; exact eq_str (fin_bl I q dec_str)
    | _ => exact absurd (show false = true from hs) Bool.false_ne_true
  | byt i =>
    obtain ⟨t, rfl⟩ := rx
    cases y with
    | byt j => obtain ⟨t', rfl⟩ := ry; exact PySem.W.eq_bytes (fin_bl I q dec_byt)
    | _ => exact absurd (show false = true from hs) Bool.false_ne_true
  | _ => cases y <;> exact absurd (show false = true from hs) Bool.false_ne_true
theorem op_ne : OpR X (compareOp .NotEq) rNe := by
  intro pins s σ H x y v u Q I rx ry h
  obtain ⟨hs, q⟩ := h
  cases x with
  | non =>
    cases rx
    cases y with
    | non => cases ry; exact PySem.EqNone.ne_none_none (fin_bl I q (by simp))
    | bl j => cases ry; exact PySem.EqNone.ne_none_bool (fin_bl I q (by simp))
    | int j => obtain ⟨t', rfl⟩ := ry; exact PySem.EqNone.ne_none_int (fin_bl I q (by simp))
    | str j => obtain ⟨t', rfl⟩ := ry; exact PySem.EqNone.ne_none_str (fin_bl I q (by simp))
    | _ => exact absurd (show false = true from hs) Bool.false_ne_true
  | bl i =>
    cases rx
    cases y with
    | non => cases ry; exact PySem.EqNone.ne_bool_none (fin_bl I q (by simp))
    | bl j => cases ry; exact ne_bool (fin_bl I q (congrArg not dec_bl))
    | str j => obtain ⟨t', rfl⟩ := ry; exact PySem.EqMixed.ne_bool_str (fin_bl I q (by simp))
    | _ => exact absurd (show false = true from hs) Bool.false_ne_true
  | int i =>
    obtain ⟨t, rfl⟩ := rx
    cases y with
    | non => cases ry; exact PySem.EqNone.ne_int_none (fin_bl I q (by simp))
    | int j => obtain ⟨t', rfl⟩ := ry; exact ne_int (fin_bl I q (congrArg not dec_int))
    | str j => obtain ⟨t', rfl⟩ := ry; exact PySem.EqMixed.ne_int_str (fin_bl I q (by simp))
    | _ => exact absurd (show false = true from hs) Bool.false_ne_true
  | str i =>
    obtain ⟨t, rfl⟩ := rx
    cases y with
    | non => cases ry; exact PySem.EqNone.ne_str_none (fin_bl I q (by simp))
    | bl j => cases ry; exact PySem.EqMixed.ne_str_bool (fin_bl I q (by simp))
    | int j => obtain ⟨t', rfl⟩ := ry; exact PySem.EqMixed.ne_str_int (fin_bl I q (by simp))
    | str j => obtain ⟨t', rfl⟩ := ry; exact ne_str (fin_bl I q (congrArg not dec_str))
    | _ => exact absurd (show false = true from hs) Bool.false_ne_true
  | byt i =>
    obtain ⟨t, rfl⟩ := rx
    cases y with
    | byt j => obtain ⟨t', rfl⟩ := ry; exact PySem.W.ne_bytes (fin_bl I q (congrArg not dec_byt))
    | _ => exact absurd (show false = true from hs) Bool.false_ne_true
  | _ => cases y <;> exact absurd (show false = true from hs) Bool.false_ne_true

theorem op_lt : OpR X (compareOp .Lt) (rI0 fun i j => .bl (decide (i < j))) := opB0 fun _ _ _ _ _ _ _ q => lt_int q
theorem op_le : OpR X (compareOp .LtE) (rI0 fun i j => .bl (decide (i ≤ j))) := opB0 fun _ _ _ _ _ _ _ q => le_int q
theorem op_gt : OpR X (compareOp .Gt) (rI0 fun i j => .bl (decide (j < i))) := opB0 fun _ _ _ _ _ _ _ q => gt_int q
theorem op_ge : OpR X (compareOp .GtE) (rI0 fun i j => .bl (decide (j ≤ i))) := opB0 fun _ _ _ _ _ _ _ q => ge_int q
/-- is None, is not None: the right side a value none -/
theorem op_isN : OpR X (compareOp .Is) (fun x y H Q => y = .non ∧ Q (.bl (decide (x = .non))) H) := by
  intro pins s σ H x y v u Q I rx ry h
  obtain ⟨rfl, q⟩ := h
  cases ry
  refine is_none_gen (fin_bl I q ?_)
  cases x <;> first
    | (cases rx; rfl)
    | (obtain ⟨t, rfl⟩ := rx; rfl)
theorem nomark (b : Expr) {op : CmpOp} (h : op ≠ .In := by decide) (h2 : op ≠ .NotIn := by decide) : behindInMarks op b = false := by
  have e1 : (op == CmpOp.In) = false := by cases op <;> first | rfl | exact absurd rfl h
  have e2 : (op == CmpOp.NotIn) = false := by cases op <;> first | rfl | exact absurd rfl h2
  cases b <;> simp [behindInMarks, e1, e2]
/-- a comparison as a value; hm: nomark b, or (for in, not in) by with_unfolding_all rfl -/
theorem pe_cmpR {op : CmpOp} {r : R2} (ho : OpR X (compareOp op) r) (ha : PE X a ta) (hb : PE X b tb) (hm : behindInMarks op b = false) : PE X (.Compare a [op] [b] pos) (tOp r ta tb) := by
  intro pins s σ H Q I h
  exact wpAny_Compare1 (binT ha hb I h fun v u s2 x y H2 I2 rx ry q => ho pins s2 σ H2 x y v u Q I2 rx ry q) hm
/-- a reading of a value as a test -/
def tTest (t : TE) : TT := fun σ H Q => t σ H fun x H' => ∃ k, x = .bl k ∧ Q k H'
theorem pt_cmpR {op : CmpOp} {r : R2} (ho : OpR X (compareOp op) r) (ha : PE X a ta) (hb : PE X b tb) (hm : behindInMarks op b = false) : PT X (.Compare a [op] [b] pos) (tTest (tOp r ta tb)) := by
  intro pins s σ H Q I h
  refine wpAny_isTrue_Compare1 (thn (ha pins s σ H _ I h) fun v s1 ⟨x, H1, I1, r1, q1⟩ => thn (hb pins s1 σ H1 _ I1 q1) fun u s2 ⟨y, H2, I2, r2, q2⟩ =>
    thn (ho pins s2 σ H2 x y v u _ I2 r1 r2 q2) fun c s3 ⟨z, H3, I3, r3, k, e, q3⟩ => ?_) hm
  subst e
  cases r3
  exact wpAny_truthy_bool ⟨H3, I3, q3⟩
/-! ### truth -/
/-- a value's truth by the abstract heap -/
def TruV (K : PySem.W.Frag) (x : V) (H : Hp) (k : Bool) : Prop :=
  match x with
  | .non => k = false
  | .bl b => k = b
  | .int i => k = (i != 0)
  | .str y => y.length ≤ sizeLine ∧ k = ((y.length : Int) != 0)
  | .byt y => y.size ≤ sizeLine ∧ k = ((y.size : Int) != 0)
  | .ref p => (∃ xs, SqL K H p xs ∧ k = !xs.isEmpty) ∨ (∃ xs, SqT K H p xs ∧ k = !xs.isEmpty) ∨ ∃ kvs, H p = some (.dK kvs) ∧ k = !kvs.isEmpty
  | _ => False
theorem isEmpty_kv {κ : Type} {kvs : List (κ × V)} {vs : List (κ × Value)} (r : KV kvs vs) : (!vs.isEmpty) = !kvs.isEmpty := by
  cases r <;> rfl
theorem isEmpty_of {xs : List V} {its : List Value} (r : Vals xs its) : (!its.toArray.isEmpty) = !xs.isEmpty := by
  cases r <;> simp
theorem line63 : (sizeLine : Nat) < 2 ^ 63 := by rw [sizeLine_eq]; decide
theorem tru_ok : TruR X (fun x H Q => ∃ k, TruV X.K x H k ∧ Q k H) := by
  intro pins s σ H x v Q I rx h
  obtain ⟨k, e, q⟩ := h
  have hl := line63
  have hs : sizeLine = 16777216 := sizeLine_eq
  cases x with
  | non =>
    cases rx
    have e' : k = false := e
    subst e'
    exact truthy_none ⟨H, I, q⟩
  | bl b =>
    cases rx
    have e' : k = b := e
    subst e'
    exact wpAny_truthy_bool ⟨H, I, q⟩
  | int i =>
    obtain ⟨t, rfl⟩ := rx
    have e' : k = (i != 0) := e
    subst e'
    exact PySem.P.truthy_int ⟨H, I, q⟩
  | str y =>
    obtain ⟨t, rfl⟩ := rx
    obtain ⟨hy, e'⟩ : y.length ≤ sizeLine ∧ k = ((y.length : Int) != 0) := e
    subst e'
    exact PySem.P.truthy_str (by omega) ⟨H, I.tok _, q⟩
  | byt y =>
    obtain ⟨t, rfl⟩ := rx
    obtain ⟨hy, e'⟩ : y.size ≤ sizeLine ∧ k = ((y.size : Int) != 0) := e
    subst e'
    exact PySem.W.truthy_bytes (by omega) ⟨H, I.tok _, q⟩
  | ref p =>
    cases rx
    have e' : (∃ xs, SqL X.K H p xs ∧ k = !xs.isEmpty) ∨ (∃ xs, SqT X.K H p xs ∧ k = !xs.isEmpty) ∨ ∃ kvs, H p = some (.dK kvs) ∧ k = !kvs.isEmpty := e
    rcases e' with ⟨xs, hx, e'⟩ | ⟨xs, hx, e'⟩ | ⟨kvs, hx, e'⟩
    · subst e'
      obtain ⟨its, r, pl, hz⟩ := I.list hx
      have hlen := r.length
      exact wpAny_truthy_list pl.isList (by simp only [List.size_toArray]; omega) ⟨H, I.tok _, by rw [isEmpty_of r]; exact q⟩
    · subst e'
      obtain ⟨its, r, pl, hz⟩ := I.tuple hx
      have hlen := r.length
      exact truthy_tuple pl (by simp only [List.size_toArray]; omega) ⟨H, I.tok _, by rw [isEmpty_of r]; exact q⟩
    · subst e'
      obtain ⟨hz, hS, vs, r, m⟩ : kvs.length ≤ sizeLine ∧ (p == sysModules) = false ∧ ∃ vs, KV kvs vs ∧ s.heap.DictOf (mixKind X.prog X.w) p vs := I.hok p _ hx
      have hlen : kvs.length = vs.length := Paired.length r
      exact wpAny_truthy_dict hS m (by omega) ⟨H, I.tok _, by rw [isEmpty_kv r]; exact q⟩
  | _ => exact (show False from e).elim
/-- any expression whose test is its value's truth (a name, a call, a subscript, a field ..: he by fun _ => rfl) -/
theorem pt_truth (ha : PE X a ta) (he : ∀ whole, isTrue a X.env whole = (do let v ← whole; standAt a.pos; holding [v] (truthy v))) :
    PT X a (fun σ H Q => ta σ H fun x H' => ∃ k, TruV X.K x H' k ∧ Q k H') := by
  intro pins s σ H Q I h
  exact isTrue_plain (thn (ha pins s σ H _ I h) fun v s1 ⟨x, H1, I1, r1, q1⟩ => tru_ok pins s1 σ H1 x v Q I1 r1 q1) (he _)

/-! ### strs and bytes -/
/-! ### scalar builtins, by CallR -/
theorem vals1 {x : V} {us : List Value} (r : Vals [x] us) : ∃ u, us = [u] ∧ RelV x u := by
  cases r with
  | cons r1 r2 => cases r2; exact ⟨_, rfl, r1⟩
theorem vals2 {x y : V} {us : List Value} (r : Vals [x, y] us) : ∃ u w', us = [u, w'] ∧ RelV x u ∧ RelV y w' := by
  cases r with
  | cons r1 r2 =>
    cases r2 with
    | cons r3 r4 => cases r4; exact ⟨_, _, rfl, r1, r3⟩
end
end L2

namespace L2
open PySem PySem.Spec PyProof.Rows

/-! ### an instance, its attributes a map -/
structure ObjM (h : Heap) (x dx C : Addr) (mA : Str → Option Value) : Prop where
  obj : h.get? x = some (PySem.W.instObj C dx)
  ns : h.Ns1 dx mA
  ne : dx ≠ x

theorem lookIn_ns {h : Heap} {dx : Addr} {mA : Str → Option Value} (n : h.Ns1 dx mA) : ∃ od, h.get? dx = some od ∧ ∀ name, PySem.W.lookIn name od = some (mA name) := by
  obtain ⟨o, es, ep, ho, hd, hk, _, hm⟩ := n
  refine ⟨o, ho, fun name => ?_⟩
  have e := hm name
  unfold nsFind findBy at e
  rw [← Array.find?_toList] at e
  unfold PySem.W.lookIn
  rw [hd]
  dsimp only
  split
  · rename_i y q
    rw [q] at e
    exact congrArg some e
  · rename_i q
    rw [q] at e
    have a : es.toList.any (·.refKey) = false := by
      rw [List.any_eq_false]
      intro y hy
      obtain ⟨z, t, hkey⟩ := hk y (Array.mem_toList_iff.mp hy)
      simp [DictEntry.refKey, hkey]
    have a' : ¬ es.toList.any (·.refKey) = true := by rw [a]; exact Bool.false_ne_true
    rw [if_neg a']
    exact congrArg some e

theorem ObjM.look {h : Heap} {x dx C : Addr} {mA : Str → Option Value} (I : ObjM h x dx C mA) : ∃ od, PySem.W.InstAt h x (PySem.W.instObj C dx) C (some od) ∧ ∀ name, PySem.W.lookIn name od = some (mA name) :=
  let ⟨od, ho, hl⟩ := lookIn_ns I.ns
  ⟨od, ⟨I.obj, rfl, rfl, ho⟩, hl⟩

section
variable {prog : Program} {w : World} {A : Around} {E : Value → Shared → Prop} {s : Shared} {K : PySem.W.Frag} {x dx C f : Addr} {mA : Str → Option Value} {name : Str} {v : Value}

end

/-! ### the attributes as a list of pairs -/
theorem RelO.some_of {v : V} {o : Option Value} (r : RelO (some v) o) : ∃ u, o = some u ∧ RelV v u := by
  cases o with
  | none => exact (show False from r).elim
  | some u => exact ⟨u, rfl, r⟩
theorem handed_of {v : V} {u : Value} (r : RelV v u) : PySem.W.handedIn u = true := by
  cases v with
  | non => cases (show u = Value.none from r); rfl
  | bl b => cases (show u = Value.bool b from r); rfl
  | int i => obtain ⟨t, e⟩ := (show ∃ t, u = Value.int i t from r); cases e; rfl
  | str x => obtain ⟨t, e⟩ := (show ∃ t, u = Value.str x t from r); cases e; rfl
  | byt b => obtain ⟨t, e⟩ := (show ∃ t, u = Value.bytes b t from r); cases e; rfl
  | flt b => obtain ⟨t, e⟩ := (show ∃ t, u = Value.float b t from r); cases e; rfl
  | ref a => cases (show u = Value.ref a from r); rfl
  | ty n => cases (show u = Value.type n from r); rfl

section
variable {P : Program} {w : World} {H H' : Hp} {h h' : Heap} {a C dx : Addr} {fs fs' : List (Str × V)}
theorem ins_get (hok : HOk P w H h) (e : H a = some (.ins C dx fs)) : ∃ mA, ObjM h a dx C mA ∧ (∀ f, RelO (fs.lookup f) (mA f)) ∧ PySem.Within mA (fs.map (·.1)) ∧ fs.length ≤ 1000 ∧ H dx = some (.own a) := by
  obtain ⟨d, z, ne, ob, mA, n, r, q⟩ := (show ObjOk P w H h a (.ins C dx fs) from hok a _ e)
  exact ⟨mA, ⟨ob, n, ne⟩, r, q, z, d⟩
end

/-! ### what of the text a class must have -/
structure Cls (K : PySem.W.Frag) (C : Addr) : Prop where
  pg : PySem.W.plainGet K C Str.empty = true
  hd : PySem.W.hasDictIn K C = true
  po : PySem.W.plainOver K C = true
  sa : PySem.W.findIn K (.ref C) "__setattr__" = some (some (.builtin "object.__setattr__"))
theorem Cls.get {K : PySem.W.Frag} {C : Addr} (c : Cls K C) (f : Str) : PySem.W.plainGet K C f = true := c.pg
/-- no class of it has the name -/
def NoAttr (K : PySem.W.Frag) (C : Addr) (f : Str) : Prop := PySem.W.findIn K (.ref C) f = some none
section
variable {X : Cx} {pins : List (Addr × Obj)} {σ : St} {H : Hp} {s : Shared} {a C dx : Addr} {fs : List (Str × V)} {f : Str} {v : V} {A : Around} {E : Value → Shared → Prop}

/-- e.f where nothing but the object is asked: through attributeBase (super) and the last hold -/
theorem attr_of {prog : Program} {w : World} {env : Env} {e : Expr} {f : Str} {pos : Pos} {s : Shared} {Q : Value → Shared → Prop} (hb : attributeBase e f env (eval e env) = eval e env)
    (h : wpAny (model prog w) A (eval e env) (fun o s₁ => wpAny (model prog w) A (getAttr o f true) Q E s₁) E s) : wpAny (model prog w) A (eval (.Attribute e f pos) env) Q E s :=
  Attribute_any_ h (by rw [arm_eval_Attribute, hb])
end

/-! ### readings and rules -/
section
variable {X : Cx} {o e value : Expr} {f : Str} {pos pos' tpos : Pos} {ta tv : TE}
end

/-! ### isinstance -/
section
variable {X : Cx} {pins : List (Addr × Obj)} {σ : St} {H : Hp} {s : Shared} {A : Around} {E : Value → Shared → Prop} {Q : Value → Shared → Prop} {c : Value} {b : Bool}
/-- the type of a value, as the fragment's deciders take it; for an instance its class -/
inductive TyOf (K : PySem.W.Frag) (H : Hp) : V → Value → Prop where
  | non : TyOf K H .non (.type "NoneType")
  | bl (x : Bool) : TyOf K H (.bl x) (.type "bool")
  | int (i : Int) : TyOf K H (.int i) (.type "int")
  | str (x : Str) : TyOf K H (.str x) (.type "str")
  | flt (x : UInt64) : TyOf K H (.flt x) (.type "float")
  | lst {a : Addr} {xs : List V} (e : H a = some (.lst xs)) : TyOf K H (.ref a) (.type "list")
  | frz {a : Addr} {o : Obj} {xs : List V} (e : H a = some (.frz o (.lst xs))) : TyOf K H (.ref a) (.type "list")
  | tup {a : Addr} {xs : List V} (e : H a = some (.tup xs)) : TyOf K H (.ref a) (.type "tuple")
  | dK {a : Addr} {kvs : List (Key × V)} (e : H a = some (.dK kvs)) : TyOf K H (.ref a) (.type "dict")
  | dT {a : Addr} {kvs : List (List Key × V)} (e : H a = some (.dT kvs)) : TyOf K H (.ref a) (.type "dict")
  | ins {a C dx : Addr} {fs : List (Str × V)} (e : H a = some (.ins C dx fs)) (cl : Cls K C) (ha : PySem.W.findIn K (.ref C) "__class__" = some (some (.builtin "object.__class__")))
      (hn : PySem.W.specialIn K (.builtin "object.__class__") "__get__" = some (some (.builtin "getset_descriptor.__get__"))) (htk : PySem.W.takesIn K (.builtin "object.__class__") = some true)
      (hm : PySem.W.mroIn K C (.type "object") = some true) : TyOf K H (.ref a) (.ref C)
/-- isinstance(x, c) for one class c, a built-in or an own one: kitOne's answer -/
theorem isinst_ok {x : V} {u t : Value} (I : Inv X pins σ H s) (rx : RelV x u) (ty : TyOf X.K H x t) (e : PySem.W.kitOne X.K t c = some b) (h : ∀ tk, Q (.bool b) { s with toks := tk }) :
    wpAny (model X.prog X.w) A (call (.builtin "isinstance") [u, c]) Q E s := by
  cases ty with
  | non => cases (show u = Value.none from rx); exact PySem.W.kia_one PySem.W.kitx_none I.kIn True.intro e (fun z => nomatch z) h
  | bl y => cases (show u = Value.bool y from rx); exact PySem.W.kia_one PySem.W.kitx_bool I.kIn True.intro e (fun z => nomatch z) h
  | int i => obtain ⟨t, q⟩ := (show ∃ t, u = Value.int i t from rx); cases q; exact PySem.W.kia_one PySem.W.kitx_int I.kIn True.intro e (fun z => nomatch z) h
  | str y => obtain ⟨t, q⟩ := (show ∃ t, u = Value.str y t from rx); cases q; exact PySem.W.kia_one PySem.W.kitx_str I.kIn True.intro e (fun z => nomatch z) h
  | flt y => obtain ⟨t, q⟩ := (show ∃ t, u = Value.float y t from rx); cases q; exact PySem.W.kia_one PySem.W.kitx_float I.kIn True.intro e (fun z => nomatch z) h
  | @lst a xs ea =>
    cases (show u = Value.ref a from rx)
    obtain ⟨_, _, n, _, h1⟩ := (show ObjOk X.prog X.w H s.heap a (.lst xs) from I.hok a _ ea)
    exact PySem.W.kia_one PySem.W.kitx_list I.kIn ⟨_, h1, rfl⟩ e (fun z => nomatch z) h
  | @frz a ob xs ea =>
    cases (show u = Value.ref a from rx)
    obtain ⟨_, _, _, n, _, h1⟩ := (show ObjOk X.prog X.w H s.heap a (.frz ob (.lst xs)) from I.hok a _ ea)
    exact PySem.W.kia_one PySem.W.kitx_list I.kIn ⟨_, h1, rfl⟩ e (fun z => nomatch z) h
  | @tup a xs ea =>
    cases (show u = Value.ref a from rx)
    obtain ⟨_, _, _, p, _⟩ := (show ObjOk X.prog X.w H s.heap a (.tup xs) from I.hok a _ ea)
    obtain ⟨o, h1, h2, _⟩ := p
    exact PySem.W.kia_one PySem.W.kitx_tuple I.kIn ⟨o, h1, h2⟩ e (fun z => nomatch z) h
  | @dK a kvs ea =>
    cases (show u = Value.ref a from rx)
    obtain ⟨_, _, vs, _, p⟩ := (show ObjOk X.prog X.w H s.heap a (.dK kvs) from I.hok a _ ea)
    obtain ⟨o, es, ep, h1, h2, _⟩ := p
    exact PySem.W.kia_one PySem.W.kitx_dict I.kIn ⟨o, h1, h2.1⟩ e (fun z => nomatch z) h
  | @dT a kvs ea =>
    cases (show u = Value.ref a from rx)
    obtain ⟨_, _, xs, _, o, es, ep, h1, h2, _⟩ := (show ObjOk X.prog X.w H s.heap a (.dT kvs) from I.hok a _ ea)
    exact PySem.W.kia_one PySem.W.kitx_dict I.kIn ⟨o, h1, h2.1⟩ e (fun z => nomatch z) h
  | @ins a C dx fs ea cl ha hn htk hm =>
    cases (show u = Value.ref a from rx)
    obtain ⟨mA, O, _⟩ := ins_get I.hok ea
    obtain ⟨od, J, _⟩ := O.look
    exact PySem.W.kia_one (PySem.W.kitx_own (cl.get _) cl.hd ha hn htk hm) I.kIn J e (fun z => nomatch z) h
end
end L2

namespace L2
open PySem PySem.Spec PyProof.Rows

/-! ### room -/
structure Room (k : Nat) (A : Around) (cm : Bool := true) : Prop where
  hd : cm = true → A.handled = none
  dp : A.depth + 3 * k + 5 < recursionLimit
  un : A.units + 16 * k + 200 < cLine
theorem Room.mono {j k : Nat} {A : Around} {cm : Bool} (r : Room k A cm) (h : j ≤ k) : Room j A cm := ⟨r.hd, by have := r.dp; omega, by have := r.un; omega⟩
theorem Room.deeper {k : Nat} {A : Around} {cm : Bool} (r : Room (k + 1) A cm) (env : Env) : Room k (A.deeper env) cm :=
  ⟨r.hd, by have := r.dp; show A.depth + 1 + 3 * k + 5 < _; omega, by have := r.un; show A.units + 3 + 16 * k + 200 < _; omega⟩
theorem make_depth {A : Around} {C : Addr} {us : List Value} {kw : List (Str × Value)} : (A.under (.builtin "type.__call__" ⟨.ref C :: us, kw⟩)).depth = A.depth + 1 := by
  first | rfl | simp [Around.under, Code.weight, Code.isCreation, Code.isGuard, Code.isCaller, Code.frames, Code.isFrame, guardIds]
theorem make_units {A : Around} {C : Addr} {us : List Value} {kw : List (Str × Value)} : (A.under (.builtin "type.__call__" ⟨.ref C :: us, kw⟩)).units = A.units + 1 := by
  first | rfl | simp [Around.under, Code.cUnits, Code.frames, Code.isFrame]
theorem Room.make {k : Nat} {A : Around} {cm : Bool} (r : Room (k + 1) A cm) (C : Addr) (us : List Value) (kw : List (Str × Value)) : Room k (A.under (.builtin "type.__call__" ⟨.ref C :: us, kw⟩)) cm :=
  ⟨r.hd, by have := r.dp; rw [make_depth]; omega, by have := r.un; rw [make_units]; omega⟩
theorem Room.depth {k : Nat} {A : Around} {cm : Bool} (r : Room k A cm) : A.depth < recursionLimit := by have := r.dp; omega
theorem Room.units {k : Nat} {A : Around} {cm : Bool} (r : Room k A cm) : A.units + 64 < cLine := by have := r.un; omega
/-! ### argument lists and displays -/
def tNil : TA := fun _ H Q => Q [] H
def tCons (ta : TE) (tr : TA) : TA := fun σ H Q => ta σ H fun x H1 => tr σ H1 fun xs H2 => Q (x :: xs) H2
section
variable {X : Cx} {e : Expr} {es : List Expr} {te : TE} {t : TA} {pos : Pos}
theorem pa_nil : PA X [] tNil := fun _ _ _ _ H Q I h => Calls.spliced_nil ⟨[], H, I, .nil, h⟩
theorem pa_cons (ha : PE X e te) (hr : PA X es t) (hs : starEach (e :: es) X.env = (false, eval e X.env) :: starEach es X.env := by rfl) : PA X (e :: es) (tCons te t) := by
  intro pos pins s σ H Q I h
  rw [hs]
  show wpAny _ _ (spliced ((false, eval e X.env) :: backTo pos (starEach es X.env))) _ _ s
  refine Calls.spliced_cons (thn (ha pins s σ H _ I h) fun u s1 ⟨x, H1, I1, r1, q1⟩ => ?_)
  exact thn (hr pos pins s1 σ H1 _ I1 q1) fun us s2 ⟨xs, H2, I2, r2, q2⟩ => ⟨x :: xs, H2, I2, .cons r1 r2, q2⟩

/-- a tuple, a list of written items -/
def tTup (t : TA) : TE := fun σ H Q => t σ H fun xs H1 => xs.length ≤ sizeLine ∧ ∀ p, H1 p = none → Q (.ref p) (upd H1 p (.tup xs))
def tLst (t : TA) : TE := fun σ H Q => t σ H fun xs H1 => xs.length ≤ sizeLine ∧ ∀ p, H1 p = none → Q (.ref p) (upd H1 p (.lst xs))
theorem pe_tup {x1} (h : PA X es t) : PE X (.Tuple es x1 pos) (tTup t) := by
  intro pins s σ H Q I hq
  refine wpAny_Tuple_spliced (thn (h pos pins s σ H _ I hq) fun us s1 ⟨xs, H1, I1, r, z, q⟩ => ⟨by rw [← r.length]; exact z, ?_⟩)
  have hf : H1 s1.heap.objs.size = none := I1.hok.fresh (Nat.le_refl _)
  refine ⟨.ref s1.heap.objs.size, upd H1 s1.heap.objs.size (.tup xs), I1.laid (t' := s1.toks) (fun b u e => Heap.get?_push_of_some _ e) (Nat.le_refl _) ?_, rfl, q _ hf⟩
  exact ⟨z, us, r, ⟨_, Heap.get?_push_size _ rfl, rfl, _, rfl⟩, tup_nodict⟩
theorem pe_lst (h : PA X es t) : PE X (.List es pos) (tLst t) := by
  intro pins s σ H Q I hq
  refine wpAny_List_spliced (thn (h pos pins s σ H _ I hq) fun us s1 ⟨xs, H1, I1, r, z, q⟩ => ⟨by rw [← r.length]; exact z, ?_⟩)
  have hf : H1 s1.heap.objs.size = none := I1.hok.fresh (Nat.le_refl _)
  refine ⟨.ref s1.heap.objs.size, upd H1 s1.heap.objs.size (.lst xs), I1.laid (t' := s1.toks) (fun b u e => Heap.get?_push_of_some _ e) (Nat.le_refl _) ?_, rfl, q _ hf⟩
  exact ⟨z, us, 0, r, Heap.get?_push_size _ rfl⟩
end

/-! ### what a def promises -/
/-- a def's promise: the bound arguments in the parameters' order, the heap, the wanted end, the wanted exception -/
abbrev Sp := List V → Hp → VK → XK → Prop
/-- how an exception lies behind a call (file 08 gives it): the callers' frames, abstract heap and state ahead of the call, the wish, the exception, the state -/
abbrev CXT := List Env → Hp → Shared → XK → Value → Shared → Prop

/-- the state at a call -/
structure Env0 (P : Program) (w : World) (K : PySem.W.Frag) (mg : Str → Option Value) (base : Heap) (A : Around) (outer : List Env) (s : Shared) (H : Hp) : Prop where
  frames : A.frames = some outer
  mod : Mod K mg base
  bs : ∀ b o, base.get? b = some o → s.heap.get? b = some o ∧ H b = none
  bsz : base.objs.size ≤ s.heap.objs.size
  funs : s.heap.FunFrames base outer
  frf : ∀ b ∈ frs outer, H b = none
  hok : HOk P w H s.heap
  bare : AllBare s.gens
/-- a call's end -/
def CE (outer : List Env) (P : Program) (w : World) (H : Hp) (s : Shared) (Q : VK) (u : Value) (s' : Shared) : Prop :=
  ∃ v H', s'.os = s.os ∧ AllBare s'.gens ∧ Un (frs outer) [] H H' s.heap s'.heap ∧ HOk P w H' s'.heap ∧ RelV v u ∧ Q v H'
def CR (CX : CXT) (outer : List Env) (P : Program) (w : World) (H : Hp) (s : Shared) (Q : VK) (E : XK) (r : Result) (s' : Shared) : Prop :=
  match r with
  | .ok (.ret u) => CE outer P w H s Q u s'
  | .ok _ => False
  | .error e => CX outer H s E e s'
structure FnOk (P : Program) (w : World) (K : PySem.W.Frag) (mg : Str → Option Value) (base : Heap) (CX : CXT) (k : Nat) (f : Addr) (fd : FuncData) (ps : List Str) (sp : Sp) (cm : Bool := true) : Prop where
  len : ∀ vs H Q E, sp vs H Q E → vs.length = ps.length
  run : ∀ (A : Around) (outer : List Env) (s : Shared) (H : Hp) (args : Args) (us : List Value) (vs : List V) (Q : VK) (E : XK), Room k A cm → Env0 P w K mg base A outer s H → BindsTo s fd args (ps.zip us) → Vals vs us → sp vs H Q E →
    codeAny (model P w) A (.call (.ref f) args) (CR CX outer P w H s Q E) s
theorem Env0.make {P : Program} {w : World} {K : PySem.W.Frag} {mg : Str → Option Value} {base : Heap} {A : Around} {outer : List Env} {s : Shared} {H : Hp} (e : Env0 P w K mg base A outer s H) (C : Addr) (us : List Value) (kw : List (Str × Value)) :
    Env0 P w K mg base (A.under (.builtin "type.__call__" ⟨.ref C :: us, kw⟩)) outer s H := ⟨by first | exact e.frames | (simpa [Around.under, Code.envs, Code.isFrame, pushEnvs] using e.frames), e.mod, e.bs, e.bsz, e.funs, e.frf, e.hok, e.bare⟩
section
variable {X : Cx} {pins : List (Addr × Obj)} {σ : St} {H : Hp} {s s' : Shared}
/-- from a body: what a callee wants -/
theorem Inv.env0 (I : Inv X pins σ H s) : Env0 X.prog X.w X.K X.mg X.base X.A X.stack s H :=
  ⟨I.ok.frames, I.ok.mod, I.bs, Nat.le_trans I.ok.bsz I.sz, I.stack, I.stkFree, I.hok, I.bare⟩
/-- behind a call -/
theorem Inv.after {Q : VK} {u : Value} (I : Inv X pins σ H s) (h : CE X.stack X.prog X.w H s Q u s') : EP X pins σ Q u s' := by
  obtain ⟨v, H', os, bare, un, hok, r, q⟩ := h
  obtain ⟨hh, g, d, t, os'⟩ := s'
  obtain rfl : os' = s.os := os
  exact ⟨v, H', I.call (h' := hh) (g' := g) (d' := d) (t' := t) (ch := []) un hok bare (fun b z => absurd z (by simp)), r, q⟩
end

/-! ### calls -/
/-- f(..): the written arguments, then the defaults dvs; E: what is wanted of an exception -/
def tCall (sp : Sp) (dvs : List V) (E : XK) (t : TA) : TE := fun σ H Q => t σ H fun vs H1 => sp (vs ++ dvs) H1 Q E
/-- how the parameters are bound: us the positional arguments, kw the keywords' values by name, ds the defaults that fill up -/
def Binds (K : PySem.W.Frag) (fd : FuncData) (ps : List Str) (ds : List Value) : Prop :=
  ∀ (s : Shared) (us : List Value), K.In s.heap → (us ++ ds).length = ps.length → BindsTo s fd ⟨us, []⟩ (ps.zip (us ++ ds))
/-- every parameter is given -/
theorem Binds.all {K : PySem.W.Frag} {fd : FuncData} {ps : List Str} (h : ∀ us : List Value, us.length = ps.length → bindArgs fd ⟨us, []⟩ = pure (ps.zip us)) : Binds K fd ps [] := fun s us _ hl => by
  rw [List.append_nil] at hl ⊢
  exact .of_eq (h us hl)

/-- an exception of a callee reaches what this body wants of exceptions -/
def Passes (CX : CXT) (X : Cx) (E : XK) : Prop := ∀ (pins : List (Addr × Obj)) (σ : St) (H : Hp) (s : Shared) (e : Value) (s' : Shared), Inv X pins σ H s → CX X.stack H s E e s' → X.xe e s'

section
variable {cm : Bool} {X : Cx} {CX : CXT} {k : Nat} {f C : Addr} {fd : FuncData} {ps : List Str} {sp : Sp} {dvs : List V} {ds : List Value} {E : XK} {x m : Str} {p pos apos : Pos} {e o : Expr} {es : List Expr} {ta : TE} {t : TA}

/-- the callee runs -/
theorem run_fn {pins : List (Addr × Obj)} {σ : St} {H : Hp} {s : Shared} {Q : VK} {us : List Value} {vs : List V} (F : FnOk X.prog X.w X.K X.mg X.base CX k f fd ps sp cm) (hr : Room k X.A cm) (hb : Binds X.K fd ps ds) (hd : Vals dvs ds) (hx : Passes CX X E)
    (I : Inv X pins σ H s) (r : Vals vs us) (h : sp (vs ++ dvs) H Q E) : wpAny (model X.prog X.w) X.A (call (.ref f) us) (EP X pins σ Q) X.xe s := by
  have r2 : Vals (vs ++ dvs) (us ++ ds) := r.append hd
  have hl : (us ++ ds).length = ps.length := by rw [← r2.length]; exact F.len _ _ _ _ h
  refine wpAny_call (codeAny_mono (F.run X.A X.stack s H ⟨us, []⟩ (us ++ ds) (vs ++ dvs) Q E hr I.env0 (hb s us I.kIn hl) r2 h) fun r s' hq => ?_)
  cases r with
  | error e => exact hx pins σ H s e s' I hq
  | ok fl =>
    cases fl with
    | ret u => exact I.after hq
    | next => exact False.elim hq
    | brk => exact False.elim hq
    | cont => exact False.elim hq

theorem pe_call (F : FnOk X.prog X.w X.K X.mg X.base CX k f fd ps sp cm) (hr : Room k X.A cm) (hg : Gl X x) (hm : X.mg x = some (.ref f)) (hk : PySem.W.keepIn X.K (.ref f) = true) (hb : Binds X.K fd ps ds) (hd : Vals dvs ds) (hx : Passes CX X E)
    (ha : PA X (e :: es) t) (hdb : (x == ("__debug__" : Str)) = false := by decide) (he : starEach (e :: es) X.env = (false, eval e X.env) :: starEach es X.env := by rfl) (hpl : (backTo pos (starEach es X.env)).any (·.1) = false := by rfl) :
    PE X (.Call (.Name x p) (e :: es) [] pos) (tCall sp dvs E t) := by
  intro pins s σ H Q I h
  refine wpAny_Call_Name_kw (ld_glob I hg hm ?_ hdb)
  refine PySem.W.callWith_K (h₀ := X.base) I.ok.mod.kin hk (thn (ha pos pins s σ H _ I h) fun us s1 ⟨vs, H1, I1, r, q⟩ => ⟨I1.kIn, ?_⟩) he hpl
  exact run_fn F hr hb hd hx I1 r q
end

/-! ### keywords -/
section
variable {cm : Bool} {X : Cx} {CX : CXT} {k : Nat} {f C : Addr} {fd : FuncData} {ps ks : List Str} {sp : Sp} {E : XK} {x m : Str} {p pos apos kpos : Pos} {e o : Expr} {es : List Expr} {kws : List Keyword} {te ta : TE} {t tk : TA} {nm : Option Str}
variable {g : List Value → List Value → List Value} {gV : List V → List V → List V}
end

/-! ### a def's body keeps its promise -/
/-- names: the parameters first -/
structure FnScope (N P : List Str) (sc : Scope) : Prop where
  kind : sc.kind = .function
  co : sc.isCoroutine = false
  gen : sc.isGenerator = false
  nd : N.Nodup
  pre : N.take P.length = P
  par : ∀ x ∈ P, sc.names.lookup x = some .local ∨ sc.names.lookup x = some .cell
  nofree : ∀ y ∈ sc.names, y.2 ≠ .free

theorem bindL_out {kindOf : Str → Option NameKind} {x : Str} : ∀ {binds : List (Str × Value)} {m : Str → Option Value}, (∀ v, (x, v) ∉ binds) → bindL kindOf binds m x = m x
  | [], _, _ => rfl
  | (n, v) :: r, m, h => by
    unfold bindL
    rw [bindL_out fun w hw => h w (List.mem_cons_of_mem _ hw)]
    split
    · have : x ≠ n := by rintro rfl; exact h v List.mem_cons_self
      simp [this]
    · rfl
theorem bindC_out {kindOf : Str → Option NameKind} {x : Str} : ∀ {binds : List (Str × Value)} {m : Str → Option Value}, (∀ v, (x, v) ∉ binds) → bindC kindOf binds m x = m x
  | [], _, _ => rfl
  | (n, v) :: r, m, h => by
    unfold bindC
    rw [bindC_out fun w hw => h w (List.mem_cons_of_mem _ hw)]
    split
    · rfl
    · have : x ≠ n := by rintro rfl; exact h v List.mem_cons_self
      simp [this]
theorem bindL_get {kindOf : Str → Option NameKind} {x : Str} {v : Value} : ∀ {P : List Str} {vs : List Value} {i : Nat} {m : Str → Option Value}, P.Nodup → P[i]? = some x → vs[i]? = some v → kindOf x = some .local →
    bindL kindOf (P.zip vs) m x = some v
  | [], _, _, _, _, h, _, _ => by simp at h
  | _ :: _, [], _, _, _, _, h, _ => by simp at h
  | p :: P, w :: vs, 0, m, nd, h1, h2, hk => by
    simp at h1 h2; subst h1; subst h2
    show bindL kindOf ((p, w) :: P.zip vs) m p = _
    unfold bindL
    rw [bindL_out fun v hv => (List.nodup_cons.mp nd).1 (List.of_mem_zip hv).1, if_pos hk]
    simp
  | p :: P, w :: vs, i + 1, m, nd, h1, h2, hk => by
    show bindL kindOf ((p, w) :: P.zip vs) m x = _
    unfold bindL
    exact bindL_get (i := i) (List.nodup_cons.mp nd).2 (by simpa using h1) (by simpa using h2) hk
theorem bindC_get {kindOf : Str → Option NameKind} {x : Str} {v : Value} : ∀ {P : List Str} {vs : List Value} {i : Nat} {m : Str → Option Value}, P.Nodup → P[i]? = some x → vs[i]? = some v → kindOf x ≠ some .local →
    bindC kindOf (P.zip vs) m x = some v
  | [], _, _, _, _, h, _, _ => by simp at h
  | _ :: _, [], _, _, _, _, h, _ => by simp at h
  | p :: P, w :: vs, 0, m, nd, h1, h2, hk => by
    simp at h1 h2; subst h1; subst h2
    show bindC kindOf ((p, w) :: P.zip vs) m p = _
    unfold bindC
    rw [bindC_out fun v hv => (List.nodup_cons.mp nd).1 (List.of_mem_zip hv).1, if_neg hk]
    simp
  | p :: P, w :: vs, i + 1, m, nd, h1, h2, hk => by
    show bindC kindOf ((p, w) :: P.zip vs) m x = _
    unfold bindC
    exact bindC_get (i := i) (List.nodup_cons.mp nd).2 (by simpa using h1) (by simpa using h2) hk

/-- the names' values at the entry -/
def start (N : List Str) (vs : List V) : St := vs.map some ++ List.replicate (N.length - vs.length) none

/-- the context of a def's body, at its entry; an exception leaves the frame, then lies as CX says -/
def cxOf (CX : CXT) (P : Program) (w : World) (K : PySem.W.Frag) (mg : Str → Option Value) (base : Heap) (N : List Str) (qual : Str) (scope : Scope) (f : Addr) (cd : Value) (A : Around) (outer : List Env) (s : Shared) (H : Hp) (E : XK) (cm : Bool := true) : Cx where
  prog := P
  w := w
  K := K
  mg := mg
  base := base
  A := A.deeper (envOfC qual scope s.heap.objs.size f cd)
  N := N
  s₀ := s
  H₀ := H
  env := envOfC qual scope s.heap.objs.size f cd
  outer := outer
  stack := envOfC qual scope s.heap.objs.size f cd :: outer
  ex := []
  calm := cm
  fn := fun _ => true
  pn := []
  xe := fun e s' => wpAny (model P w) (A.deeper (envOfC qual scope s.heap.objs.size f cd)) (leaving (envOfC qual scope s.heap.objs.size f cd) e) (fun _ s'' => CX outer H s E e s'') (fun e' s'' => CX outer H s E e' s'') s'

theorem cell_has {sc : Scope} {n : Nat} {x : Str} (h : sc.names.lookup x = some .cell) : ∃ c, (cellsFrom n sc.names []).lookup x = some c := by
  have q := PySem.W.cellsFrom_some sc.names n [] (.inl h)
  exact Option.isSome_iff_exists.mp q

theorem inv_start {CX : CXT} {P : Program} {w : World} {K : PySem.W.Frag} {mg : Str → Option Value} {base : Heap} {N ps : List Str} {qual : Str} {scope : Scope} {f : Addr} {cd : Value} {A : Around} {outer : List Env} {s s1 : Shared} {H : Hp} {E : XK} {cm : Bool} {us : List Value} {vs : List V}
    (S : FnScope N ps scope) (hd : cm = true → A.handled = none) (e0 : Env0 P w K mg base A outer s H) (hl : vs.length = ps.length) (r : Vals vs us)
    (x : InCallC s s.heap.objs.size (bindL (envOfC qual scope s.heap.objs.size f cd).kindOf (ps.zip us) fun _ => none) (cellsFrom (s.heap.objs.size + 1) scope.names []) (bindC (envOfC qual scope s.heap.objs.size f cd).kindOf (ps.zip us) fun _ => none) s1) :
    Inv (cxOf CX P w K mg base N qual scope f cd A outer s H E cm) [] (start N vs) H s1 := by
  have hpl : ps.length ≤ N.length := by have := congrArg List.length S.pre; rw [List.length_take] at this; omega
  obtain ⟨h1, tk, rfl, hk⟩ := x.done
  have noA : ∀ b : Addr, b ∉ (cxOf CX P w K mg base N qual scope f cd A outer s H E cm).ex := fun b z => absurd (show b ∈ ([] : List Addr) from z) (by simp)
  refine ⟨⟨e0.mod, S.kind, rfl, rfl, Nat.le_refl _, fun y z c h1 h2 => ?_, fun y hy => ?_, fun y c _ h => ?_, hd, Around.frames_deeper e0.frames, .inr ⟨rfl, rfl⟩, fun b z => absurd z (noA b), e0.bs, e0.bsz, fun b _ _ => noA b, fun b z => absurd z (noA b), e0.funs, e0.frf⟩,
    rfl, e0.bare, Un.kept hk, ⟨_, x.toInCall.ns, fun i y v h1 h2 h3 => ?_⟩, fun y c h => ⟨_, x.cell y c h⟩, e0.hok.fresh (Nat.le_refl _), fun y c h => ?_, fun p hp => absurd (show p ∈ ([] : List (Addr × Obj)) from hp) (by simp), e0.hok.kept hk, ?_⟩
  · exact name_of_addr x.apart (PySem.mem_of_lookup h1) (PySem.mem_of_lookup h2)
  · have hy : scope.names.lookup y = some .cell ∨ scope.names.lookup y = some .free := hy
    rcases hy with hy | hy
    · exact cell_has hy
    · exact absurd rfl (S.nofree _ (PySem.mem_of_lookup hy))
  · exact Nat.le_of_lt (x.above y c (PySem.mem_of_lookup h))
  · have hi : i < vs.length := by
      unfold start at h2
      by_cases hi : i < vs.length
      · exact hi
      · rw [List.getElem?_append_right (by simpa using hi)] at h2
        rw [List.getElem?_replicate] at h2
        split at h2 <;> cases h2
    have ha : vs[i]? = some v := by
      unfold start at h2
      rw [List.getElem?_append_left (by simpa using hi), List.getElem?_map] at h2
      cases e : vs[i]? with
      | none => rw [e] at h2; cases h2
      | some a => rw [e] at h2; cases h2; rfl
    obtain ⟨u, hu, rv⟩ := r.get ha
    have hp : ps[i]? = some y := by
      rw [← S.pre, List.getElem?_take_of_lt (by omega)]; exact h1
    have ndP : ps.Nodup := by rw [← S.pre]; exact S.nd.sublist (List.take_sublist _ _)
    refine ⟨u, rv, ?_⟩
    rcases S.par y (List.mem_of_getElem? hp) with k | k
    · exact .inl ⟨k, bindL_get ndP hp hu k⟩
    · obtain ⟨c, e⟩ := cell_has (n := s.heap.objs.size + 1) k
      refine .inr ⟨.inl k, c, e, ?_⟩
      have q := x.cell y c e
      rw [bindC_get ndP hp hu (by show scope.names.lookup y ≠ _; rw [k]; decide)] at q
      exact q
  · exact e0.hok.fresh (Nat.le_of_lt (x.above y c (PySem.mem_of_lookup h)))
  · unfold start
    show _ = N.length
    rw [List.length_append, List.length_map, List.length_replicate]
    omega

/-- THE RULE: a def (or a method) of the text, by its body. The body's reading t is chosen for each entry; it is run at the parameters' values -/
theorem fn_of {CX : CXT} {P : Program} {w : World} {K : PySem.W.Frag} {mg : Str → Option Value} {base : Heap} {k : Nat} {f : Addr} {name qual : Str} {params : Arguments} {body : List Stmt} {scope : Scope} {dV kV doc pm cdv ct oc : Value} {an od : Option Addr}
    {osl : Array (Option Value)} {N ps : List Str} {sp : Sp} {cm : Bool} (lk : K.lookup f = some ⟨oc, od, .func (PySem.W.fnOf name qual params body scope dV kV doc pm an cdv ct), osl⟩) (hcd : PySem.W.codeIn K cdv qual = true) (S : FnScope N ps scope)
    (len : ∀ vs H Q E, sp vs H Q E → vs.length = ps.length)
    (hbody : ∀ (A : Around) (outer : List Env) (s : Shared) (H : Hp) (vs : List V) (Q : VK) (E : XK), Room k (A.deeper (envOfC qual scope s.heap.objs.size f cdv)) cm → sp vs H Q E →
      ∃ t, PSs (cxOf CX P w K mg base N qual scope f cdv A outer s H E cm) body t ∧ t { nx := fun _ H' => Q .non H', rt := Q } (start N vs) H) :
    FnOk P w K mg base CX (k + 1) f (PySem.W.fnOf name qual params body scope dV kV doc pm an cdv ct) ps sp cm := by
  refine ⟨len, fun A outer s H args us vs Q E hr e0 hb r hsp => ?_⟩
  have hl := len _ _ _ _ hsp
  have KX : K.In s.heap := e0.mod.kin.keeps fun b o e => (e0.bs b o e).1
  have lim : s.heap.NoLimit := e0.mod.nolimit.keeps fun b o e => (e0.bs b o e).1
  have hkind : ∀ y ∈ ps.zip us, scope.names.lookup y.1 = some .local ∨ (scope.names.lookup y.1 = some .cell ∧ ((cellsFrom (s.heap.objs.size + 1) scope.names []).lookup y.1).isSome = true) := fun ⟨n, v⟩ hy => by
    rcases S.par n (List.of_mem_zip hy).1 with q | q
    · exact .inl q
    · exact .inr ⟨q, PySem.W.cellsFrom_some _ _ _ (.inl q)⟩
  refine codeAny_call_function hr.depth (KX _ _ lk) rfl S.co S.gen rfl (PySem.W.codeRec_of KX hcd) (hb _ _ _ _ ?_)
  refine wpAny_newFunctionEnv_cells S.kind hkind fun env he s1 x => ?_
  subst he
  refine ⟨lim.keeps x.toInCall.keep, codeAny_func ?_⟩
  obtain ⟨t, ht, hq⟩ := hbody A outer s H vs Q E (hr.deeper _) hsp
  have I : Inv (cxOf CX P w K mg base N qual scope f cdv A outer s H E cm) [] (start N vs) H s1 := inv_start S hr.hd e0 hl r x
  refine wpAny_mono (ht [] s1 (start N vs) H _ I hq) (fun fl s' hs => ?_) fun e s' hs => hs
  have fin : ∀ {σ' : St} {H' : Hp} {v : V} {u : Value}, Inv (cxOf CX P w K mg base N qual scope f cdv A outer s H E cm) [] σ' H' s' → RelV v u → Q v H' → CE outer P w H s Q u s' :=
    fun {σ' H' v u} J rv q => ⟨v, H', J.os, J.bare, J.base, J.hok, rv, q⟩
  cases fl with
  | ret u =>
    obtain ⟨v, σ', H', J, rv, q⟩ := hs
    exact fin J rv q
  | next =>
    obtain ⟨σ', H', J, q⟩ := hs
    exact fin (v := V.non) (u := Value.none) J rfl q
  | brk =>
    obtain ⟨_, _, _, q⟩ := hs
    exact False.elim q
  | cont =>
    obtain ⟨_, _, _, q⟩ := hs
    exact False.elim q
end L2

namespace L2
open PySem PySem.Spec PyProof.Rows
section
variable {X : Cx} {x : Str} {p pos : Pos} {e : Expr} {es : List Expr} {t : TA} {id T : String} {r : List V → Hp → VK → Prop}

def tCB (r : List V → Hp → VK → Prop) (t : TA) : TE := fun σ H Q => t σ H fun vs H1 => r vs H1 Q
/-- f(e, ..), f a built-in function -/
theorem pe_callB (hc : CallR X (.builtin id) r) (hg : Gl X x) (hm : X.mg x = none) (hv : bootBuiltins x = some (.builtin id)) (ha : PA X (e :: es) t) (hn : x ≠ "__name__" := by decide) (hdb : (x == ("__debug__" : Str)) = false := by decide)
    (he : starEach (e :: es) X.env = (false, eval e X.env) :: starEach es X.env := by rfl) (hpl : (backTo pos (starEach es X.env)).any (·.1) = false := by rfl) : PE X (.Call (.Name x p) (e :: es) [] pos) (tCB r t) := by
  intro pins s σ H Q I h
  refine wpAny_Call_Name_kw (ld_blt I hg hm hv ?_ hn hdb)
  exact PyProof.Rows.callWith_builtin1 (thn (ha pos pins s σ H _ I h) fun us s1 ⟨vs, H1, I1, r1, q1⟩ => hc pins s1 σ H1 vs us Q I1 r1 q1) he hpl
/-- T(e, ..), T a built-in type -/
theorem pe_callTy (hc : CallR X (.type T) r) (hg : Gl X x) (hm : X.mg x = none) (hv : bootBuiltins x = some (.type T)) (ha : PA X (e :: es) t) (hn : x ≠ "__name__" := by decide) (hdb : (x == ("__debug__" : Str)) = false := by decide)
    (he : starEach (e :: es) X.env = (false, eval e X.env) :: starEach es X.env := by rfl) (hpl : (backTo pos (starEach es X.env)).any (·.1) = false := by rfl) : PE X (.Call (.Name x p) (e :: es) [] pos) (tCB r t) := by
  intro pins s σ H Q I h
  refine wpAny_Call_Name_kw (ld_blt I hg hm hv ?_ hn hdb)
  exact PyProof.Rows.callWith_type1 (thn (ha pos pins s σ H _ I h) fun us s1 ⟨vs, H1, I1, r1, q1⟩ => hc pins s1 σ H1 vs us Q I1 r1 q1) he hpl
end
end L2

namespace HT
open PySem PyProof.Rows

section
open PySem.SeqAt
open PySem.AutoSeq1 (wpAny_loadPart')
open PySem.MeetsSeq PySem.MeetsSeq2 PySem.MeetsSeq3

end

section
variable {prog : Program} {w : World} {A : Around} {E : Value → Shared → Prop} {s : Shared}

/-- t + u, t not empty -/
theorem cat_tup {t b : Addr} {vs ws : List Value} {Q : Value → Shared → Prop} (ht : IsTup s.heap t vs.toArray) (hb : IsTup s.heap b ws.toArray) (hv : vs ≠ [])
    (h1 : ws = [] → Q (.ref t) s) (h2 : ws ≠ [] → Q (.ref s.heap.objs.size) { s with heap := s.heap.push { cls := .type "tuple", data := .seq (vs ++ ws).toArray } })
    (hsz : vs.length + ws.length ≤ sizeLine) : wpAny (model prog w) A (binaryOp .Add (.ref t) (.ref b)) Q E s := by
  obtain ⟨⟨cls, dd, data, sl⟩, ho, hc, n, hd⟩ := id ht
  obtain ⟨⟨cls2, dd2, data2, sl2⟩, ho2, hc2, n2, hd2⟩ := id hb
  simp only at hc hd hc2 hd2
  subst hc hd hc2 hd2
  have e : vs.toArray ++ ws.toArray = (vs ++ ws).toArray := by simp
  by_cases hw : ws = []
  · exact concat_meets ⟨_, ho, rfl⟩ ⟨_, ho2, rfl⟩ noFill_tuple_add seq_tuple_add PySem.F.slot_tuple_add PySem.F.entry_tuple_add (PySem.F.args_tuple_add_2 _ _)
      (tuple_addW1 t b vs.toArray ws.toArray n n2 dd dd2 sl sl2 (by simpa using hv) (by simp [hw])) ⟨ho, ho2, h1 hw⟩
  · refine concat_meets ⟨_, ho, rfl⟩ ⟨_, ho2, rfl⟩ noFill_tuple_add seq_tuple_add PySem.F.slot_tuple_add PySem.F.entry_tuple_add (PySem.F.args_tuple_add_2 _ _)
      (tuple_addW2 t b vs.toArray ws.toArray n n2 dd dd2 sl sl2 (by simpa using hv) (by simpa using hw) (by rw [List.size_toArray, List.size_toArray]; exact hsz)) ⟨ho, ho2, ?_⟩
    rw [e]
    exact h2 hw

/-! ### t[a:b], not the whole -/
/-- a slice's bound as a place among n (d where it is left out) -/
def sIx (n d : Nat) : Option Int → Nat
  | none => d
  | some v => if v < 0 then (v + (n : Int)).toNat else min v.toNat n
theorem sIx_none (n d : Nat) : sIx n d none = d := rfl
theorem sIx_nat (n d k : Nat) : sIx n d (some (k : Int)) = min k n := by
  show (if (k : Int) < 0 then ((k : Int) + (n : Int)).toNat else min (k : Int).toNat n) = min k n
  rw [if_neg (by omega), Int.toNat_natCast]
theorem sIx_le (n d : Nat) (hd : d ≤ n) (o : Option Int) : sIx n d o ≤ n := by
  cases o with
  | none => exact hd
  | some v =>
    show (if v < 0 then (v + (n : Int)).toNat else min v.toNat n) ≤ n
    by_cases hv : v < 0
    · rw [if_pos hv]; omega
    · rw [if_neg hv]; exact Nat.min_le_right _ _
theorem clip_eq (v : Int) (n d : Nat) : (if v < 0 then max (v + (n : Int)) 0 else min v (n : Int)) = ((sIx n d (some v) : Nat) : Int) := by
  show (if v < 0 then max (v + (n : Int)) 0 else min v (n : Int)) = (((if v < 0 then (v + (n : Int)).toNat else min v.toNat n) : Nat) : Int)
  by_cases hv : v < 0
  · simp only [if_pos hv]; omega
  · simp only [if_neg hv]; omega
theorem adjust_gen (lo hi : Option Int) (n : Nat) : Builtin.Slice.sliceAdjust lo hi 1 (n : Int) = (((sIx n 0 lo : Nat) : Int), ((sIx n n hi : Nat) : Int)) := by
  have h1 : ¬ ((1 : Int) < 0) := by omega
  unfold Builtin.Slice.sliceAdjust
  simp only [h1, if_false]
  refine Prod.ext ?_ ?_
  · cases lo with
    | none => rfl
    | some v => exact clip_eq v n 0
  · cases hi with
    | none => rfl
    | some v => exact clip_eq v n n
theorem places_gen (i j : Nat) : Builtin.Slice.slicePlaces (i : Int) (j : Int) 1 = j - i := by
  unfold Builtin.Slice.slicePlaces
  have h1 : (1 : Int) > 0 := by omega
  simp only [h1, if_true, Int.ediv_one]
  split <;> omega
theorem slicePart_ {v : Value} {o : Option Int} {Q : Option Int → Shared → Prop} (p : IsPart v o) (h : Q o s) : wpAny (model prog w) A (Builtin.Slice.slicePartIndex v) Q E s := by
  cases p with
  | none => exact slicePart_none h
  | int i t => exact slicePart_int h
theorem sliceApplied_gen {sl : Addr} {vl vu : Value} {lo hi : Option Int} {n : Nat} {Q : Int × Int × Nat → Shared → Prop} (hs : s.heap.IsSliceOf sl vl vu .none) (pl : IsPart vl lo) (pu : IsPart vu hi)
    (h : Q (((sIx n 0 lo : Nat) : Int), 1, sIx n n hi - sIx n 0 lo) s) : wpAny (model prog w) A (Builtin.Slice.sliceApplied (.ref sl) (pure (n : Int))) Q E s := by
  obtain ⟨os, hos, hcs, hds⟩ := id hs
  unfold Builtin.Slice.sliceApplied Builtin.Slice.sliceFields
  refine wpAny_bind (wpAny_bind (wpAny_field hos hds (x := vl) rfl (wpAny_bind (wpAny_field hos hds (x := vu) rfl (wpAny_bind (wpAny_field hos hds (x := .none) rfl (wpAny_pure ?_)))))))
  refine wpAny_bind (slicePart_none ?_)
  show wpAny _ _ (if ((1 : Int) == 0) = true then _ else _) _ _ s
  rw [if_neg (by decide)]
  refine wpAny_bind (slicePart_ pl (wpAny_bind (slicePart_ pu (wpAny_bind (wpAny_pure ?_)))))
  show wpAny _ _ (match Builtin.Slice.sliceAdjust lo hi 1 (n : Int) with | (lo, hi) => pure (lo, (1 : Int), Builtin.Slice.slicePlaces lo hi 1)) _ _ s
  rw [adjust_gen lo hi n]
  show wpAny _ _ (pure (((sIx n 0 lo : Nat) : Int), (1 : Int), Builtin.Slice.slicePlaces ((sIx n 0 lo : Nat) : Int) ((sIx n n hi : Nat) : Int) 1)) _ _ s
  rw [places_gen]
  exact wpAny_pure h
theorem pick_gen (xs : Array Value) (i k : Nat) : ((List.range k).filterMap fun (m : Nat) => xs[((i : Int) + (m : Int) * 1).toNat]?).toArray = ((xs.toList.drop i).take k).toArray := by
  have e : (fun (m : Nat) => xs[((i : Int) + (m : Int) * 1).toNat]?) = fun m => xs[i + m]? := by
    funext m
    have : ((i : Int) + (m : Int) * 1).toNat = i + m := by omega
    rw [this]
  rw [e]
  have := pick_run xs i k
  rw [List.filterMap_map] at this
  have e2 : ((fun x => xs[x]?) ∘ fun x => i + x) = fun m => xs[i + m]? := rfl
  rw [e2] at this
  rw [this]

theorem getItem_tuple_cut {t sl : Addr} {items : Array Value} {vl vu : Value} {lo hi : Option Int} {Q : Value → Shared → Prop} (ht : IsTup s.heap t items) (hs : s.heap.IsSliceOf sl vl vu .none) (pl : IsPart vl lo) (pu : IsPart vu hi)
    (hw : ¬ (sIx items.size 0 lo = 0 ∧ sIx items.size items.size hi = items.size))
    (h : Q (.ref s.heap.objs.size) { s with heap := s.heap.push { cls := .type "tuple", data := .seq ((items.toList.drop (sIx items.size 0 lo)).take (sIx items.size items.size hi - sIx items.size 0 lo)).toArray } })
    (hsz : items.size ≤ sizeLine) : wpAny (model prog w) A (getItem (.ref t) (.ref sl)) Q E s := by
  have htake : sizeOk (.seq ((items.toList.drop (sIx items.size 0 lo)).take (sIx items.size items.size hi - sIx items.size 0 lo)).toArray) := by
    show ((items.toList.drop (sIx items.size 0 lo)).take (sIx items.size items.size hi - sIx items.size 0 lo)).toArray.size ≤ sizeLine
    rw [List.size_toArray, List.length_take, List.length_drop, Array.length_toList]
    omega
  have hj : sIx items.size items.size hi ≤ items.size := sIx_le _ _ (Nat.le_refl _) hi
  obtain ⟨os, hos, hcs, hds⟩ := id hs
  have hTs : s.TypeIs (.ref sl) "slice" := ⟨os, hos, hcs⟩
  unfold getItem
  try with_reducible refine wpAny_holding ?_
  first | refine wpAny_bind (wpAny_pure ?_) | skip
  refine wpAny_bind (wpAny_sequenceKey ht.typeIs (by decide) ?_)
  refine wpAny_bind (wpAny_callSpecial?_slot (name := Str.ofString "__getitem__") ht.typeIs PyProof.Rows.slot_tuple_getitem
    (wpAny_call_entry PyProof.Rows.slot_tuple_getitem ht.typeIs entry_tuple_getitem ?_ (args_tuple_getitem _ _)))
  show wpAny _ _ (Builtin.Tuple.tupleItemsOf (.ref t) >>= _) _ _ s
  refine wpAny_bind (tupleItemsOf_ ht ?_)
  refine wpAny_bind (wpAny_typeOf hTs ?_)
  rw [if_pos (by decide)]
  refine wpAny_bind (sliceApplied_gen hs pl pu ?_)
  have hno : ¬ ((((sIx items.size 0 lo : Nat) : Int) == 0 && (1 : Int) == 1 && (sIx items.size items.size hi - sIx items.size 0 lo) == items.size) = true) := by
    intro q
    rw [Bool.and_eq_true, Bool.and_eq_true] at q
    have q1 : ((sIx items.size 0 lo : Nat) : Int) = 0 := eq_of_beq q.1.1
    have q2 : sIx items.size items.size hi - sIx items.size 0 lo = items.size := eq_of_beq q.2
    exact hw ⟨by omega, by omega⟩
  show wpAny _ _ (if (((sIx items.size 0 lo : Nat) : Int) == 0 && (1 : Int) == 1 && (sIx items.size items.size hi - sIx items.size 0 lo) == items.size) = true then _ else _) _ _ s
  rw [if_neg hno, pick_gen]
  first
    | exact wpAny_bind (m := Builtin.Tuple.tupleExact _) (wpAny_newObj_type (wpAny_pure ⟨_, rfl, wpAny_pure h⟩) htake)
    | exact wpAny_bind (m := Builtin.Tuple.tupleExact _) (wpAny_newObj_type (wpAny_bind (wpAny_pure (wpAny_pure ⟨_, rfl, wpAny_pure h⟩))) htake)
    | exact wpAny_bind (wpAny_bind (m := Builtin.Tuple.tupleExact _) (wpAny_newObj_type (wpAny_pure (wpAny_pure ⟨_, rfl, wpAny_pure h⟩)) htake))
    | exact wpAny_bind (wpAny_bind (m := Builtin.Tuple.tupleExact _) (wpAny_newObj_type (wpAny_pure ⟨_, rfl, wpAny_pure h⟩) htake))
end
end HT

namespace L2
open PySem PySem.Spec PyProof.Rows

/-! ### the parts of a slice -/
abbrev TO := St → Hp → (Option Int → Hp → Prop) → Prop
/-- a slice's part (left out, or an int) -/
def PO (X : Cx) (e : Option Expr) (t : TO) : Prop :=
  ∀ (pins : List (Addr × Obj)) (s : Shared) (σ : St) (H : Hp) (Q : Option Int → Hp → Prop), Inv X pins σ H s → t σ H Q →
    wpAny (model X.prog X.w) X.A (evalPart e X.env) (fun u s' => ∃ o H', Inv X pins σ H' s' ∧ IsPart u o ∧ Q o H') X.xe s
def tNoPart : TO := fun _ H Q => Q none H
def tPart (t : TE) : TO := fun σ H Q => t σ H fun x H1 => ∃ i, x = .int i ∧ Q (some i) H1

theorem intsAre_of {ns : List Int} : ∀ {us : List Value}, Vals (ns.map V.int) us → IntsAre us ns := by
  induction ns with
  | nil => intro us r; rw [List.map_nil] at r; cases r; exact .nil
  | cons n ns ih =>
    intro us r
    rw [List.map_cons] at r
    cases r with
    | cons r1 r2 =>
      obtain ⟨t, e⟩ := r1
      subst e
      exact .cons n t (ih r2)

section
variable {X : Cx} {e : Expr} {te : TE} {lo hi : Option Expr} {tl th : TO} {pos p2 : Pos}

theorem po_none : PO X none tNoPart := by
  intro pins s σ H Q I h
  rw [evalPart_none]
  exact wpAny_pure ⟨none, H, I, .none, h⟩
theorem po_some (h : PE X e te) : PO X (some e) (tPart te) := by
  intro pins s σ H Q I hw
  rw [evalPart_some]
  refine thn (h pins s σ H _ I hw) fun u s1 ⟨x, H1, I1, r1, q1⟩ => ?_
  obtain ⟨i, rfl, q⟩ := q1
  obtain ⟨t, rfl⟩ := r1
  exact ⟨some i, H1, I1, .int i t, q⟩

/-- what a slice of a value is, by values: the slice object stands at sl -/
def SlR (X : Cx) (r : V → Option Int → Option Int → Hp → VK → Prop) : Prop :=
  ∀ (pins : List (Addr × Obj)) (s : Shared) (σ : St) (H : Hp) (x : V) (v vl vu : Value) (lo hi : Option Int) (sl : Addr) (Q : VK), Inv X pins σ H s → RelV x v → s.heap.IsSliceOf sl vl vu .none → IsPart vl lo → IsPart vu hi → r x lo hi H Q →
    ∃ T id, typeLookup (.type T) "__getitem__" = pure (some (.builtin id)) ∧ s.TypeIs v T ∧ wpAny (model X.prog X.w) X.A (getItem v (.ref sl)) (EP X pins σ Q) X.xe s
theorem SlR.or {r r' : V → Option Int → Option Int → Hp → VK → Prop} (h : SlR X r) (h' : SlR X r') : SlR X (fun x lo hi H Q => r x lo hi H Q ∨ r' x lo hi H Q) := by
  intro pins s σ H x v vl vu lo hi sl Q I rx hs pl pu q
  rcases q with q | q
  · exact h pins s σ H x v vl vu lo hi sl Q I rx hs pl pu q
  · exact h' pins s σ H x v vl vu lo hi sl Q I rx hs pl pu q
def tSl (r : V → Option Int → Option Int → Hp → VK → Prop) (te : TE) (tl th : TO) : TE := fun σ H Q => te σ H fun x H1 => tl σ H1 fun l H2 => th σ H2 fun u H3 => r x l u H3 Q
/-- a[lo:hi], any a -/
theorem pe_slice {r : V → Option Int → Option Int → Hp → VK → Prop} (hr : SlR X r) (he : PE X e te) (hl : PO X lo tl) (hu : PO X hi th) : PE X (.Subscript e (.Slice lo hi none p2) pos) (tSl r te tl th) := by
  intro pins s σ H Q I h
  refine Subscript_ (thn (he pins s σ H _ I h) fun v s1 ⟨x, H1, I1, r1, q1⟩ => ?_)
  refine wpAny_Slice (thn (hl pins s1 σ H1 _ I1 q1) fun vl s2 ⟨l, H2, I2, pl, q2⟩ => thn (hu pins s2 σ H2 _ I2 q2) fun vu s3 ⟨u, H3, I3, pu, q3⟩ => ?_)
  rw [evalPart_none]
  refine wpAny_pure ?_
  have I4 : Inv X pins σ H3 { s3 with heap := s3.heap.push { cls := .type "slice", data := .fields #[vl, vu, .none] } } := I3.kept (t' := s3.toks) fun b ob q => Heap.get?_push_of_some _ q
  obtain ⟨T, id, hT, ht, hg⟩ := hr pins { s3 with heap := s3.heap.push { cls := .type "slice", data := .fields #[vl, vu, .none] } } σ H3 x v vl vu l u s3.heap.objs.size Q I4 r1 (Heap.IsSliceOf.new ..) pl pu q3
  show wpAny (model X.prog X.w) X.A (subscriptTail e (.Slice lo hi none p2) v (.ref s3.heap.objs.size)) (EP X pins σ Q) X.xe { s3 with heap := s3.heap.push { cls := .type "slice", data := .fields #[vl, vu, .none] } }
  exact tail_any (ops := [.ref s3.heap.objs.size, v]) ht hT hg (by with_unfolding_all rfl)

/-- the items of xs[lo:hi] -/
def cutV (xs : List V) (lo hi : Option Int) : List V := (xs.drop (HT.sIx xs.length 0 lo)).take (HT.sIx xs.length xs.length hi - HT.sIx xs.length 0 lo)
theorem cutV_length (xs : List V) (lo hi : Option Int) : (cutV xs lo hi).length ≤ xs.length := by
  unfold cutV
  rw [List.length_take, List.length_drop]
  omega
/-- t[lo:hi], not the whole of it (the whole would be t itself) -/
def rSlT (K : PySem.W.Frag) : V → Option Int → Option Int → Hp → VK → Prop := fun x lo hi H Q => ∃ a xs, x = .ref a ∧ SqT K H a xs ∧
  ¬ (HT.sIx xs.length 0 lo = 0 ∧ HT.sIx xs.length xs.length hi = xs.length) ∧ ∀ p, H p = none → Q (.ref p) (upd H p (.tup (cutV xs lo hi)))
theorem sl_tup : SlR X (rSlT X.K) := by
  intro pins s σ H x v vl vu lo hi sl Q I rx hs pl pu h
  obtain ⟨a, xs, rfl, hx, hw, q⟩ := h
  cases rx
  obtain ⟨its, r, ht, hz⟩ := I.tuple hx
  have hlen : its.toArray.size = xs.length := by rw [List.size_toArray]; exact r.length.symm
  refine ⟨"tuple", _, PyProof.Rows.slot_tuple_getitem.lookup, ht.typeIs, ?_⟩
  refine HT.getItem_tuple_cut ht hs pl pu (by rw [hlen]; exact hw) ?_ (by rw [hlen]; exact hz)
  rw [hlen]
  refine ⟨.ref s.heap.objs.size, _, I.laid (t' := s.toks) (o := .tup (cutV xs lo hi)) (fun b ob q => Heap.get?_push_of_some _ q) (Nat.le_refl _) ?_, rfl, q _ (I.hok.fresh (Nat.le_refl _))⟩
  exact ⟨Nat.le_trans (cutV_length xs lo hi) hz, _, (r.drop (HT.sIx xs.length 0 lo)).take (HT.sIx xs.length xs.length hi - HT.sIx xs.length 0 lo), IsTup.new _ _, tup_nodict⟩

/-! ### t < u, t + u -/
/-- t + u, t not empty: u empty gives t itself -/
def rCatT (K : PySem.W.Frag) : R2 := fun x y H Q => ∃ a b xs ys, x = .ref a ∧ y = .ref b ∧ SqT K H a xs ∧ SqT K H b ys ∧ xs ≠ [] ∧ xs.length + ys.length ≤ sizeLine ∧
  (ys = [] → Q (.ref a) H) ∧ (ys ≠ [] → ∀ p, H p = none → Q (.ref p) (upd H p (.tup (xs ++ ys))))
theorem Vals.nil_iff {xs : List V} {us : List Value} (r : Vals xs us) : us = [] ↔ xs = [] := by
  cases r with
  | nil => simp
  | cons _ _ => simp
theorem op_catT : OpR X (binaryOp .Add) (rCatT X.K) := by
  intro pins s σ H x y v u Q I rx ry h
  obtain ⟨a, b, xs, ys, rfl, rfl, ha, hb, hx, hz, q1, q2⟩ := h
  cases rx
  cases ry
  obtain ⟨its, r1, p1, _⟩ := I.tuple ha
  obtain ⟨its2, r2, p2, _⟩ := I.tuple hb
  refine HT.cat_tup p1 p2 (fun z => hx (r1.nil_iff.mp z)) (fun z => ⟨.ref a, H, I, rfl, q1 (r2.nil_iff.mp z)⟩) (fun z => ?_) (by rw [← r1.length, ← r2.length]; exact hz)
  refine ⟨.ref s.heap.objs.size, _, I.laid (t' := s.toks) (o := .tup (xs ++ ys)) (fun b ob q => Heap.get?_push_of_some _ q) (Nat.le_refl _) ?_, rfl, q2 (fun w => z (r2.nil_iff.mpr w)) _ (I.hok.fresh (Nat.le_refl _))⟩
  exact ⟨by rw [List.length_append]; exact hz, _, r1.append r2, IsTup.new _ _, tup_nodict⟩
end
end L2

namespace L2
open PySem PySem.Spec PyProof.Rows

/-! ### places -/
/-- the place that an index of any sign means -/
def ixN (n : Nat) (i : Int) : Option Nat := if 0 ≤ i then (if i < n then some i.toNat else none) else if -(n : Int) ≤ i then some (i + n).toNat else none
def atI {α : Type} (xs : List α) (i : Int) : Option α := (ixN xs.length i).bind fun j => xs[j]?
theorem ixN_seq {n : Nat} {i : Int} {j : Nat} (h : ixN n i = some j) : seqIndex? i n = some j ∧ j < n ∧ -(n : Int) ≤ i ∧ i < n := by
  unfold ixN at h
  by_cases h0 : 0 ≤ i
  · rw [if_pos h0] at h
    by_cases h1 : i < n
    · rw [if_pos h1] at h
      have e : i.toNat = j := Option.some.inj h
      exact ⟨by rw [seqIndex_of h0 h1, e], by omega, by omega, h1⟩
    · rw [if_neg h1] at h; cases h
  · rw [if_neg h0] at h
    by_cases h1 : -(n : Int) ≤ i
    · rw [if_pos h1] at h
      have e : (i + n).toNat = j := Option.some.inj h
      exact ⟨by rw [seqIndex_neg (by omega) h1, e], by omega, h1, by omega⟩
    · rw [if_neg h1] at h; cases h
theorem atI_get {α : Type} {xs : List α} {i : Int} {v : α} (h : atI xs i = some v) : ∃ j, seqIndex? i xs.length = some j ∧ xs[j]? = some v ∧ j < xs.length ∧ -(xs.length : Int) ≤ i ∧ i < xs.length := by
  unfold atI at h
  cases e : ixN xs.length i with
  | none => rw [e] at h; cases h
  | some j =>
    rw [e] at h
    obtain ⟨h1, h2, h3, h4⟩ := ixN_seq e
    exact ⟨j, h1, h, h2, h3, h4⟩
theorem atI_nat {α : Type} {xs : List α} {j : Nat} {v : α} (h : xs[j]? = some v) : atI xs (j : Int) = some v := by
  have hj : j < xs.length := (List.getElem?_eq_some_iff.mp h).1
  have e : ixN xs.length (j : Int) = some j := by
    unfold ixN
    rw [if_pos (by omega), if_pos (by omega)]; simp
  unfold atI; rw [e]; exact h
/-! ### what may be subscripted -/
/-- what stands as an index of a plain subscript -/
def PlainIx (b : Expr) : Prop := ∀ o i, subscripted b false o i = operate [o, i] (getItem o i)
/-- a subscript by values -/
def IxR (X : Cx) (r : R2) : Prop :=
  ∀ (value slice : Expr) (pins : List (Addr × Obj)) (s : Shared) (σ : St) (H : Hp) (x y : V) (v u : Value) (Q : VK), Inv X pins σ H s → RelV x v → RelV y u → r x y H Q →
    subscripted slice false v u = operate [v, u] (getItem v u) → wpAny (model X.prog X.w) X.A (subscriptTail value slice v u) (EP X pins σ Q) X.xe s
/-- a call of a builtin's method by values: the receiver, the arguments -/
def MtR (X : Cx) (id : String) (r : V → List V → Hp → VK → Prop) : Prop :=
  ∀ (pins : List (Addr × Obj)) (s : Shared) (σ : St) (H : Hp) (x : V) (xs : List V) (v : Value) (us : List Value) (Q : VK), Inv X pins σ H s → RelV x v → Vals xs us → r x xs H Q →
    wpAny (model X.prog X.w) X.A (call (.builtin id) (v :: us)) (EP X pins σ Q) X.xe s
section
variable {X : Cx} {a b : Expr} {ta tb : TE} {pos : Pos}
/-- a[b] -/
theorem pe_ix {r : R2} (hr : IxR X r) (ha : PE X a ta) (hb : PE X b tb) (hs : PlainIx b) : PE X (.Subscript a b pos) (tOp r ta tb) := by
  intro pins s σ H Q I h
  exact Subscript_ (binT ha hb I h fun v u s2 x y H2 I2 rx ry q => hr a b pins s2 σ H2 x y v u Q I2 rx ry q (hs _ _))

def rIxL (K : PySem.W.Frag) : R2 := fun x y H Q => ∃ p xs i v, x = .ref p ∧ y = .int i ∧ SqL K H p xs ∧ atI xs i = some v ∧ Q v H
def rIxT (K : PySem.W.Frag) : R2 := fun x y H Q => ∃ p xs i v, x = .ref p ∧ y = .int i ∧ SqT K H p xs ∧ atI xs i = some v ∧ Q v H
theorem ix_list : IxR X (rIxL X.K) := by
  intro value slice pins s σ H x y v u Q I rx ry h hs
  obtain ⟨p, xs, i, z, rfl, rfl, hq, he, q⟩ := h
  cases rx
  obtain ⟨t, rfl⟩ := ry
  obtain ⟨its, r, pl, hz⟩ := I.list hq
  obtain ⟨j, h1, h2, h3, h4, h5⟩ := atI_get he
  obtain ⟨w, ew, rw'⟩ := r.get h2
  have hl := r.length
  have hn := line63
  have fin : EP X pins σ Q w s := ⟨z, H, I, rw', q⟩
  by_cases h0 : 0 ≤ i
  · have hj : i.toNat = j := by
      rw [seqIndex_of h0 h5] at h1
      exact Option.some.inj h1
    exact item_listR pl.isList h0 (by omega) (by rw [hj]; simpa using ew) fin hs
  · have hj : (i + (its.toArray.size : Int)).toNat = j := by
      rw [seqIndex_neg (by omega) h4] at h1
      rw [List.size_toArray, ← hl]
      exact Option.some.inj h1
    exact subscriptTail_builtinR (x := w) pl.isList.typeIs slot_list_getitem.lookup
      (wpAny_getItem_list_neg (Q := fun r s' => r = w ∧ EP X pins σ Q r s') pl.isList (by omega) (by rw [List.size_toArray] <;> omega) (by omega) (by rw [hj]; simpa using ew) ⟨rfl, fin⟩) hs
theorem ix_tup : IxR X (rIxT X.K) := by
  intro value slice pins s σ H x y v u Q I rx ry h hs
  obtain ⟨p, xs, i, z, rfl, rfl, hq, he, q⟩ := h
  cases rx
  obtain ⟨t, rfl⟩ := ry
  obtain ⟨its, r, pl, hz⟩ := I.tuple hq
  obtain ⟨j, h1, h2, h3, h4, h5⟩ := atI_get he
  obtain ⟨w, ew, rw'⟩ := r.get h2
  have hl := r.length
  have hn := line63
  have fin : EP X pins σ Q w s := ⟨z, H, I, rw', q⟩
  exact subscriptTail_builtinR (x := w) pl.typeIs slot_tuple_getitem.lookup
    (getItem_tuple (j := j) (Q := fun r s' => r = w ∧ EP X pins σ Q r s') pl (by omega) (by omega) (by rw [List.size_toArray, ← hl]; exact h1) (by simpa using ew) ⟨rfl, fin⟩) hs
/-! ### xs[i] = v, any sign -/
/-- the list's object behind a store -/
theorem mapSeq_set (its : List Value) (n j : Nat) (u : Value) : Obj.mapSeq (·.setIfInBounds j u) { cls := .type "list", data := .seq its.toArray n } = { cls := .type "list", data := .seq (its.set j u).toArray n } := by
  simp [Obj.mapSeq]
theorem Inv.lst {pins : List (Addr × Obj)} {σ : St} {H : Hp} {s : Shared} {p : Addr} {xs : List V} (I : Inv X pins σ H s) (h : H p = some (.lst xs)) :
    ∃ (its : List Value) (n : Nat), Vals xs its ∧ s.heap.get? p = some { cls := .type "list", data := .seq its.toArray n } ∧ xs.length ≤ sizeLine := by
  obtain ⟨z, its, n, r, e⟩ := I.hok p _ h
  exact ⟨its, n, r, e, z⟩
/-- the list at p is written by an update of its object -/
theorem Inv.lstUpd {pins : List (Addr × Obj)} {σ : St} {H : Hp} {s : Shared} {p : Addr} {xs ys : List V} {its its' : List Value} {n n' : Nat} {f : Obj → Obj} (I : Inv X pins σ H s) (h : H p = some (.lst xs))
    (ho : s.heap.get? p = some { cls := .type "list", data := .seq its.toArray n }) (hf : f { cls := .type "list", data := .seq its.toArray n } = { cls := .type "list", data := .seq its'.toArray n' }) (r : Vals ys its') (hz : ys.length ≤ sizeLine) (t : Nat) :
    Inv X pins σ (upd H p (.lst ys)) { s with heap := s.heap.update p f, toks := t } := by
  have e : (s.heap.update p f).get? p = some { cls := .type "list", data := .seq its'.toArray n' } := by
    rw [Heap.get?_update_self f ho (by rw [hf] <;> rfl), hf]
  refine I.write (x := p) (e := p) (by rw [h]; trivial) (.inl rfl) (fun b u hb q => (Heap.get?_update_other _ _ (Ne.symm hb)).trans q) ⟨_, e⟩ ?_
  exact ⟨hz, its', n', r, e⟩
def rSetL : V → V → V → Hp → (Hp → Prop) → Prop := fun o i v H Q => ∃ p xs k j, o = .ref p ∧ i = .int k ∧ H p = some (.lst xs) ∧ ixN xs.length k = some j ∧ Q (upd H p (.lst (xs.set j v)))
theorem set_list : PSet X rSetL := by
  intro pins s σ H o i v ov iv u Q I ro ri rv h
  obtain ⟨p, xs, k, j, rfl, rfl, hp, hj, q⟩ := h
  cases ro
  obtain ⟨t, rfl⟩ := ri
  obtain ⟨its, n, r, ho, hz⟩ := I.lst hp
  obtain ⟨h1, h2, h3, h4⟩ := ixN_seq hj
  have hl := r.length
  have hn := line63
  have I' : Inv X pins σ (upd H p (.lst (xs.set j v))) { s with heap := s.heap.update p (Obj.mapSeq (·.setIfInBounds j u)) } :=
    I.lstUpd hp ho (mapSeq_set its n j u) (r.set rv j) (by rw [List.length_set]; exact hz) s.toks
  by_cases h0 : 0 ≤ k
  · have hk : k.toNat = j := by
      rw [seqIndex_of h0 h4] at h1
      exact Option.some.inj h1
    exact PySem.W.ki_setAt ho h0 (by omega) (by rw [List.size_toArray, ← hl]; exact h4) (by rw [hk]; exact ⟨_, I', q⟩)
  · have hk : (k + (its.toArray.size : Int)).toNat = j := by
      rw [seqIndex_neg (by omega) h3] at h1
      rw [List.size_toArray, ← hl]
      exact Option.some.inj h1
    exact PySem.W.ki_setBack ho (by omega) (by rw [List.size_toArray, ← hl]; exact h3) (by omega) (by rw [hk]; exact ⟨_, I', q⟩)

/-! ### slices -/
/-! ### in, not in: flat items -/
def flatV : V → Bool
  | .non => true
  | .bl _ => true
  | .int _ => true
  | .str _ => true
  | _ => false
/-- == of flat values -/
def eqV : V → V → Bool
  | .non, .non => true
  | .bl a, .bl b => a == b
  | .bl a, .int b => (if a then 1 else 0) == b
  | .int a, .bl b => a == (if b then 1 else 0)
  | .int a, .int b => a == b
  | .str a, .str b => a == b
  | _, _ => false
theorem eqAt_V {A : Around} {s : Shared} {y x : V} {u v : Value} (ry : RelV y u) (rx : RelV x v) (fy : flatV y = true) (fx : flatV x = true) : SeqAt.EqAt A s u v (eqV y x) := by
  cases y with
  | non =>
    cases ry
    cases x with
    | non => cases rx; exact SeqAt.EqAt.same _
    | bl b => cases rx; exact SeqAt.EqAt.none_bool b
    | int b => obtain ⟨t, rfl⟩ := rx; exact SeqAt.EqAt.none_int b t
    | str b => obtain ⟨t, rfl⟩ := rx; exact SeqAt.EqAt.none_str b t
    | _ => exact absurd (show false = true from fx) Bool.false_ne_true
  | bl a =>
    cases ry
    cases x with
    | non => cases rx; exact SeqAt.EqAt.bool_none a
    | bl b => cases rx; exact SeqAt.EqAt.bool_bool a b
    | int b => obtain ⟨t, rfl⟩ := rx; exact SeqAt.EqAt.bool_int a b t
    | str b => obtain ⟨t, rfl⟩ := rx; exact SeqAt.EqAt.bool_str a b t
    | _ => exact absurd (show false = true from fx) Bool.false_ne_true
  | int a =>
    obtain ⟨t', rfl⟩ := ry
    cases x with
    | non => cases rx; exact SeqAt.EqAt.int_none a t'
    | bl b => cases rx; exact SeqAt.EqAt.int_bool a t' b
    | int b => obtain ⟨t, rfl⟩ := rx; exact SeqAt.EqAt.int_int a t' b t
    | str b => obtain ⟨t, rfl⟩ := rx; exact SeqAt.EqAt.int_str a t' b t
    | _ => exact absurd (show false = true from fx) Bool.false_ne_true
  | str a =>
    obtain ⟨t', rfl⟩ := ry
    cases x with
    | non => cases rx; exact SeqAt.EqAt.str_none a t'
    | bl b => cases rx; exact SeqAt.EqAt.str_bool a t' b
    | int b => obtain ⟨t, rfl⟩ := rx; exact SeqAt.EqAt.str_int a t' b t
    | str b => obtain ⟨t, rfl⟩ := rx; exact SeqAt.EqAt.str_str a t' b t
    | _ => exact absurd (show false = true from fx) Bool.false_ne_true
  | _ => exact absurd (show false = true from fy) Bool.false_ne_true
/-- the items' answers, read off the values (a value's own answer does not lean on its token) -/
def eqU (x : V) (u : Value) : Bool := match u with
  | .none => eqV .non x
  | .bool b => eqV (.bl b) x
  | .int i _ => eqV (.int i) x
  | .str z _ => eqV (.str z) x
  | _ => false
theorem eqU_of {x y : V} {u : Value} (r : RelV y u) (f : flatV y = true) : eqU x u = eqV y x := by
  cases y with
  | non => cases r; rfl
  | bl b => cases r; rfl
  | int i => obtain ⟨t, rfl⟩ := r; rfl
  | str z => obtain ⟨t, rfl⟩ := r; rfl
  | _ => exact absurd (show false = true from f) Bool.false_ne_true
theorem mem_eqAt {A : Around} {s : Shared} {x : V} {v : Value} (rx : RelV x v) (fx : flatV x = true) : ∀ {xs : List V} {us : List Value}, Vals xs us → xs.all flatV = true → ∀ u ∈ us, SeqAt.EqAt A s u v (eqU x u)
  | _, _, .nil, _ => fun u hu => by cases hu
  | y :: xs, u :: us, .cons r t, f => fun u' hu => by
    rw [List.all_cons, Bool.and_eq_true] at f
    rcases List.mem_cons.mp hu with rfl | hu
    · rw [eqU_of r f.1]; exact eqAt_V r rx f.1 fx
    · exact mem_eqAt rx fx t f.2 u' hu
/-! ### len, list(x), tuple(x) of any list or tuple that is read -/
theorem call_len_seq : CallR X (.builtin "len") (fun xs H Q => ∃ p ys, xs = [.ref p] ∧ (SqL X.K H p ys ∨ SqT X.K H p ys) ∧ Q (.int ys.length) H) := by
  intro pins s σ H xs us Q I r h
  obtain ⟨p, ys, rfl, hq, q⟩ := h
  obtain ⟨u, rfl, rx⟩ := vals1 r
  cases rx
  have hn := line63
  rcases hq with hq | hq
  · obtain ⟨its, r', pl, hz⟩ := I.list hq
    have hlen := r'.length
    exact Calls.call_len_list pl.isList (by simp only [List.size_toArray] <;> omega) ⟨.int ys.length, H, I.tok _, ⟨s.toks + 1, by rw [List.size_toArray, hlen]⟩, q⟩
  · obtain ⟨its, r', pl, hz⟩ := I.tuple hq
    have hlen := r'.length
    exact len_tuple pl (by simp only [List.size_toArray] <;> omega) ⟨.int ys.length, H, I.tok _, ⟨s.toks + 1, by rw [List.size_toArray, hlen]⟩, q⟩
theorem call_list_of : CallR X (.type "list") (fun xs H Q => ∃ p ys, xs = [.ref p] ∧ (SqL X.K H p ys ∨ SqT X.K H p ys) ∧ ∀ l, H l = none → Q (.ref l) (upd H l (.lst ys))) := by
  intro pins s σ H xs us Q I r h
  obtain ⟨p, ys, rfl, hq, q⟩ := h
  obtain ⟨u, rfl, rx⟩ := vals1 r
  cases rx
  have fin : ∀ (its : List Value), Vals ys its → ys.length ≤ sizeLine → ∀ (h' : Heap) (c' : Nat), (∀ b o', s.heap.get? b = some o' → h'.get? b = some o') →
      h'.get? s.heap.objs.size = some { cls := .type "list", dict := none, data := .seq its.toArray c', slots := #[] } → EP X pins σ Q (.ref s.heap.objs.size) { s with heap := h' } := fun its r' hz h' c' kp e =>
    ⟨.ref s.heap.objs.size, _, I.laid (t' := s.toks) kp (Nat.le_refl _) (show ObjOk X.prog X.w _ h' _ (.lst ys) from ⟨hz, its, c', r', e⟩), rfl, q _ (I.hok.fresh (Nat.le_refl _))⟩
  rcases hq with hq | hq
  · obtain ⟨its, r', pl, hz⟩ := I.list hq
    have hlen := r'.length
    obtain ⟨o, ho, hc, n, hd⟩ := pl.isList
    exact call_list_seq p (.inl rfl) ho hc hd (fun h' c' kp e => fin its r' hz h' c' kp e) (by simp only [List.size_toArray] <;> omega)
  · obtain ⟨its, r', pl, hz⟩ := I.tuple hq
    have hlen := r'.length
    obtain ⟨o, ho, hc, n, hd⟩ := pl
    exact call_list_seq p (.inr rfl) ho hc hd (fun h' c' kp e => fin its r' hz h' c' kp e) (by simp only [List.size_toArray] <;> omega)
theorem call_tuple_of : CallR X (.type "tuple") (fun xs H Q => ∃ p ys, xs = [.ref p] ∧ ((SqL X.K H p ys ∧ ∀ l, H l = none → Q (.ref l) (upd H l (.tup ys))) ∨ (SqT X.K H p ys ∧ Q (.ref p) H))) := by
  intro pins s σ H xs us Q I r h
  obtain ⟨p, ys, rfl, h⟩ := h
  obtain ⟨u, rfl, rx⟩ := vals1 r
  cases rx
  rcases h with ⟨hq, q⟩ | ⟨hq, q⟩
  · obtain ⟨its, r', pl, hz⟩ := I.list hq
    have hlen := r'.length
    refine call_tuple_list pl.isList (fun h' kp => ?_) (by simp only [List.size_toArray] <;> omega)
    have I1 : Inv X pins σ H { s with heap := h' } := I.kept (t' := s.toks) kp
    have I2 : Inv X pins σ (upd H h'.objs.size (.tup ys)) { s with heap := h'.push { cls := .type "tuple", data := .seq its.toArray } } :=
      I1.laid (t' := s.toks) (fun b o e => Heap.get?_push_of_some _ e) (Nat.le_refl _) (show ObjOk X.prog X.w _ _ _ (.tup ys) from ⟨hz, its, r', IsTup.new _ _, tup_nodict⟩)
    exact ⟨.ref h'.objs.size, _, I2, rfl, q _ (I1.hok.fresh (Nat.le_refl _))⟩
  · obtain ⟨its, r', pl, hz⟩ := I.tuple hq
    exact call_tuple_same pl ⟨.ref p, H, I, rfl, q⟩

/-! ### the call of a builtin's method: o.m(..) -/
/-- the value is of that builtin type -/
def tyV (K : PySem.W.Frag) (T : String) (x : V) (H : Hp) : Prop := match x with
  | .str _ => T = "str"
  | .int _ => T = "int"
  | .ref p => (T = "list" ∧ ∃ xs, SqL K H p xs) ∨ (T = "tuple" ∧ ((∃ o, K.lookup p = some o ∧ o.cls = .type "tuple" ∧ o.dict = none) ∨ ∃ xs, H p = some (.tup xs))) ∨
      (T = "dict" ∧ ((∃ kvs, H p = some (.dK kvs)) ∨ ∃ kvs, H p = some (.dT kvs))) ∨ (T = "set" ∧ ∃ S n, H p = some (.set S n))
  | _ => False
theorem tyV_is {pins : List (Addr × Obj)} {σ : St} {H : Hp} {s : Shared} {T : String} {x : V} {v : Value} (I : Inv X pins σ H s) (r : RelV x v) (ty : tyV X.K T x H) :
    s.TypeIs v T ∧ ∀ a, v = .ref a → ∃ ob, s.heap.get? a = some ob ∧ ob.dict = none := by
  cases x with
  | str z =>
    obtain ⟨t, rfl⟩ := r
    cases (show T = "str" from ty)
    exact ⟨typeIs_str s z t, fun _ e => nomatch e⟩
  | int i =>
    obtain ⟨t, rfl⟩ := r
    cases (show T = "int" from ty)
    exact ⟨typeIs_int s i t, fun _ e => nomatch e⟩
  | ref p =>
    cases r
    rcases ty with ⟨rfl, xs, hq⟩ | ⟨rfl, ⟨o, hk, hc, hd⟩ | ⟨xs, hk⟩⟩ | ⟨rfl, hk⟩ | ⟨rfl, S, n, hk⟩
    · obtain ⟨its, _, pl, _⟩ := I.list hq
      refine ⟨pl.isList.typeIs, fun a e => ?_⟩
      cases e
      obtain ⟨o, n, e, c, hd, _⟩ := pl
      exact ⟨o, e, hd⟩
    · refine ⟨⟨o, I.kIn p o hk, hc⟩, fun a e => ?_⟩
      cases e
      exact ⟨o, I.kIn _ o hk, hd⟩
    · obtain ⟨_, _, _, ⟨o, e, hc, _⟩, nd⟩ := (show ObjOk X.prog X.w H s.heap p (.tup xs) from I.hok p _ hk)
      refine ⟨⟨o, e, hc⟩, fun a e2 => ?_⟩
      cases e2
      exact ⟨o, e, nd o e⟩
    · have z : ∃ o, s.heap.get? p = some o ∧ o.ExactDict := by
        rcases hk with ⟨kvs, hk⟩ | ⟨kvs, hk⟩
        · obtain ⟨_, _, _, _, o, _, _, e, ex, _⟩ := I.hok p _ hk
          exact ⟨o, e, ex⟩
        · obtain ⟨_, _, _, _, o, _, _, e, ex, _⟩ := I.hok p _ hk
          exact ⟨o, e, ex⟩
      obtain ⟨o, e, ex⟩ := z
      refine ⟨⟨o, e, ex.1⟩, fun a e2 => ?_⟩
      cases e2
      exact ⟨o, e, ex.2.1⟩
    · obtain ⟨o, _, _, _, e, ex, _⟩ := I.hok p _ hk
      refine ⟨⟨o, e, ex.1⟩, fun a e2 => ?_⟩
      cases e2
      exact ⟨o, e, ex.2.1⟩
  | _ => exact False.elim ty
def tBM (K : PySem.W.Frag) (T : String) (r : V → List V → Hp → VK → Prop) (to : TE) (t : TA) : TE := fun σ H Q => to σ H fun x H1 => tyV K T x H1 ∧ t σ H1 fun xs H2 => r x xs H2 Q
variable {o e : Expr} {es : List Expr} {to : TE} {t : TA} {name : Str} {apos cpos : Pos} {T id : String} {r : V → List V → Hp → VK → Prop}
theorem pe_bm (pa : PlainAttrs T) (slot : Slot T name id) (hty : typeOf (.builtin id) = pure (.type "method_descriptor")) (hm : MtR X id r) (ho : PE X o to) (ha : PA X (e :: es) t)
    (hbase : attributeBase o name X.env (eval o X.env) = eval o X.env := by rfl)
    (hfew : ((backTo cpos (starEach (e :: es) X.env)).all (fun x => !x.1) && (backToKw cpos (keywordEach [] X.env)).all (fun x => x.1.isSome)
      && decide ((e :: es).length + ([] : List Keyword).length + (if ([] : List Keyword).isEmpty then 0 else 1) < 30)) = true := by rfl)
    (hline : (apos.endLine == cpos.line) = true := by rfl) (hs : starEach (e :: es) X.env = (false, eval e X.env) :: starEach es X.env := by rfl) (hplain : (backTo cpos (starEach es X.env)).any (·.1) = false := by rfl) :
    PE X (.Call (.Attribute o name apos) (e :: es) [] cpos) (tBM X.K T r to t) := by
  intro pins s σ H Q I h
  refine wpAny_Call_method_late hbase hfew hline rfl (thn (ho pins s σ H _ I h) fun v s1 ⟨x, H1, I1, r1, ty, q1⟩ => ?_)
  obtain ⟨h1, h2⟩ := tyV_is I1 r1 ty
  refine ⟨T, id, pa, slot, hty, h1, h2, ?_⟩
  have hA := ha cpos pins s1 σ H1 _ I1 q1
  rw [hs] at hA ⊢
  refine Calls.callWith_builtin (by show (false || (backTo cpos (starEach es X.env)).any (·.1)) = false; rw [hplain] <;> rfl) (Calls.evalArgs_plain ?_)
  exact thn hA fun us s2 ⟨vs, H2, I2, r2, q2⟩ => hm pins s2 σ H2 x vs v us Q I2 r1 r2 q2
/- xs.append(e), list.index on a module's tuple .. are MtR facts of 06m -/
end
end L2

namespace L2
open PySem PySem.Spec PyProof.Rows

def MtM (X : Cx) (id : String) (r : V → List V → Hp → VK → Prop) : Prop :=
  ∀ (pins : List (Addr × Obj)) (s : Shared) (σ : St) (H : Hp) (x : V) (xs : List V) (v : Value) (us : List Value) (Q : VK), Inv X pins σ H s → RelV x v → Vals xs us → r x xs H Q →
    wpAny (model X.prog X.w) X.A (call (.builtin id) (v :: us)) (EP X pins σ Q) X.xe s

/-! ### lists of values -/
theorem Vals.one : ∀ {x : V} {us : List Value}, Vals [x] us → ∃ u, us = [u] ∧ RelV x u
  | _, _, .cons r .nil => ⟨_, rfl, r⟩
theorem Vals.eraseIdx : ∀ {xs : List V} {us : List Value} (i : Nat), Vals xs us → Vals (xs.eraseIdx i) (us.eraseIdx i)
  | _, _, _, .nil => .nil
  | _, _, 0, .cons _ t => t
  | _, _, i + 1, .cons r t => .cons r (Vals.eraseIdx i t)
theorem len_erase {α : Type} : ∀ (l : List α) (i : Nat), (l.eraseIdx i).length ≤ l.length
  | [], _ => Nat.le_refl _
  | _ :: _, 0 => Nat.le_succ _
  | _ :: r, i + 1 => Nat.succ_le_succ (len_erase r i)
section
variable {X : Cx} {pins : List (Addr × Obj)} {σ : St} {H : Hp} {s : Shared} {l b : Addr} {xs ys zs : List V}

/-! ### the two steps: a tracked list is rewritten, a new list is laid -/
theorem Inv.lset {its its' : List Value} {n : Nat} {f : Array Value → Array Value} {t' : Nat} (I : Inv X pins σ H s) (hH : H l = some (.lst xs))
    (e : s.heap.get? l = some { cls := .type "list", data := .seq its.toArray n }) (hf : f its.toArray = its'.toArray) (hv : Vals ys its') (hz : ys.length ≤ sizeLine) :
    Inv X pins σ (upd H l (.lst ys)) { s with heap := s.heap.update l (Obj.mapSeq f), toks := t' } := by
  have q := PySem.IsL.update e f
  rw [hf] at q
  refine I.write (x := l) (e := l) (by rw [hH]; exact trivial) (.inl rfl) (fun b' u hb hu => (Heap.get?_update_other s.heap (Obj.mapSeq f) (Ne.symm hb)).trans hu) ⟨_, q⟩ ?_
  exact ⟨hz, its', _, hv, q⟩
theorem Inv.lnew {its : List Value} {t' : Nat} (I : Inv X pins σ H s) (hv : Vals ys its) (hz : ys.length ≤ sizeLine) :
    Inv X pins σ (upd H s.heap.objs.size (.lst ys)) { s with heap := s.heap.push { cls := .type "list", data := .seq its.toArray }, toks := t' } :=
  I.laid (fun _ _ q => Heap.get?_push_of_some _ q) (Nat.le_refl _) ⟨hz, its, 0, hv, Heap.get?_push_size _ rfl⟩
theorem Inv.fresh (I : Inv X pins σ H s) : H s.heap.objs.size = none := I.hok.fresh (Nat.le_refl _)
theorem Inv.lstM (I : Inv X pins σ H s) (hH : H l = some (.lst xs)) : xs.length ≤ sizeLine ∧ ∃ (its : List Value) (n : Nat), Vals xs its ∧ xs.length = its.length ∧ s.heap.get? l = some { cls := .type "list", data := .seq its.toArray n } := by
  obtain ⟨z, its, n, r, e⟩ := I.hok l _ hH
  exact ⟨z, its, n, r, r.length, e⟩

end

section
variable {X : Cx}

/-! ### methods -/
def rAppend : V → List V → Hp → VK → Prop := fun x vs H Q => ∃ l xs y, x = .ref l ∧ vs = [y] ∧ H l = some (.lst xs) ∧ xs.length < sizeLine ∧ Q .non (upd H l (.lst (xs ++ [y])))
theorem mt_append : MtM X "list.append" rAppend := by
  intro pins s σ H x vs v us Q I rx rv h
  obtain ⟨l, xs, y, rfl, rfl, hH, hz, q⟩ := h
  cases rx
  obtain ⟨u, rfl, ru⟩ := rv.one
  obtain ⟨z, its, n, r, hl, e⟩ := I.lstM hH
  refine call_meets F.slot_list_append ⟨_, e, rfl⟩ F.entry_list_append (F.args_list_append_2 _ _) (PySem.list_append l its.toArray n u (by rw [List.size_toArray]; omega)) ⟨e, ?_⟩
  refine ⟨.non, _, I.lset (its' := its ++ [u]) hH e (by simp) (r.append (.cons ru .nil)) ?_, rfl, q⟩
  rw [List.length_append, List.length_singleton]
  omega

def rPopAt : V → List V → Hp → VK → Prop := fun x vs H Q => ∃ l xs i k y, x = .ref l ∧ vs = [.int i] ∧ H l = some (.lst xs) ∧ -(2 ^ 63) ≤ i ∧ i < 2 ^ 63 ∧ seqIndex? i xs.length = some k ∧ xs[k]? = some y ∧ Q y (upd H l (.lst (xs.eraseIdx k)))
theorem mt_popAt : MtM X "list.pop" rPopAt := by
  intro pins s σ H x vs v us Q I rx rv h
  obtain ⟨l, xs, i, k, y, rfl, rfl, hH, h1, h2, hk, hy, q⟩ := h
  cases rx
  obtain ⟨u, rfl, ru⟩ := rv.one
  obtain ⟨t, rfl⟩ := ru
  obtain ⟨z, its, n, r, hl, e⟩ := I.lstM hH
  obtain ⟨w, hw, rw'⟩ := r.get hy
  refine call_meets F.slot_list_pop ⟨_, e, rfl⟩ F.entry_list_pop (F.args_list_pop_2 _ _)
    (MeetsSeq.list_pop_at l its.toArray n i t k w (fitsIndex_both h1 h2) (by rw [List.size_toArray, ← hl]; exact hk) (by rw [← Array.getElem?_toList]; exact hw) (by rw [List.size_toArray]; omega)) ⟨e, ?_⟩
  refine ⟨y, _, I.lset (its' := its.eraseIdx k) hH e ?_ (r.eraseIdx k) ?_, rw', q⟩
  · show its.toArray.eraseIdxIfInBounds k = (its.eraseIdx k).toArray
    rw [List.eraseIdxIfInBounds_toArray]
  · have := len_erase xs k
    omega

/-! ### list + list, list += list, list * int -/
def rCat : R2 := fun x y H Q => ∃ l b xs zs, x = .ref l ∧ y = .ref b ∧ H l = some (.lst xs) ∧ H b = some (.lst zs) ∧ xs.length + zs.length ≤ sizeLine ∧ ∀ p, H p = none → Q (.ref p) (upd H p (.lst (xs ++ zs)))
theorem op_cat : OpR X (binaryOp .Add) rCat := by
  intro pins s σ H x y v u Q I rx ry h
  obtain ⟨l, b, xs, zs, rfl, rfl, hH, hB, hz, q⟩ := h
  cases rx
  cases ry
  obtain ⟨z, its, n, r, hl, e⟩ := I.lstM hH
  obtain ⟨z2, its2, n2, r2, hl2, e2⟩ := I.lstM hB
  refine PySem.P.add_list e e2 ?_ (by rw [List.size_toArray, List.size_toArray]; omega)
  have ea : its.toArray ++ its2.toArray = (its ++ its2).toArray := by simp
  rw [ea]
  exact ⟨.ref _, _, I.lnew (t' := s.toks) (r.append r2) (by rw [List.length_append]; omega), rfl, q _ I.fresh⟩
/-! ### del xs[i] -/
end

/-! ### xs[a:b] = ys -/
section
variable {prog : Program} {w : World} {A : Around} {E : Value → Shared → Prop} {s : Shared}
end

section
variable {X : Cx}
end
end L2

namespace Att
open PySem PySem.W PySem.Calls PyProof.Rows

/-! ### the script -/
theorem ints_of_wellAll {P : Params} {h : Heap} : ∀ (ns : List Int) (vs : List Value), WellAll P h vs (ns.map WData.int) → IntsAre vs ns := by
  intro ns
  induction ns with
  | nil =>
    intro vs w
    rw [List.map_nil] at w
    cases w
    exact .nil
  | cons n ns ih =>
    intro vs w
    rw [List.map_cons] at w
    cases w with
    | cons a b =>
      cases a
      exact .cons _ _ (ih _ b)

theorem script_of {l : OpenLaw} {n : Nat} (hn : l.most = some n) {P : Params} {h : Heap} {args : List WData} {vals : List Value}
    (hpre : l.row.toRowW.claim.pre args = true) (hwl : WellAll P h vals args) :
    ∃ a vs ns, vals = [Value.ref a] ∧ args = [WData.list (ns.map WData.int)] ∧ h.get? a = some { cls := .type "list", data := .seq vs.toArray } ∧ IntsAre vs ns ∧ ns.length ≤ n := by
  have hsh : WShape.hasAll [] args [.list .int] = true := (pre_splitW hpre).1
  have hc : l.pre.holds [] { args := args } = true := (pre_splitW hpre).2
  obtain ⟨d, r, rfl, h1, h2⟩ := hasAllW_cons hsh
  obtain rfl := hasAllW_nil h2
  obtain ⟨xs, rfl, h3⟩ := hasW_list h1
  obtain ⟨ns, rfl⟩ := items_int h3
  have hlen : ns.length ≤ n := by
    unfold OpenLaw.pre at hc
    have h4 : (WTm.not (.lt (.lit (.int (n : Int))) (.len (.arg 0)))).holds [] { args := [.list (ns.map .int)] } = true := by
      have h4 := (holds_andW hc).1
      rw [hn] at h4
      exact h4
    have h5 := condW_of h4 (w_not (w_lt w_lit (w_len_list (w_arg rfl))))
    rw [List.length_map] at h5
    refine Nat.le_of_not_lt fun q => ?_
    have q' : (n : Int) < ((ns.length : Nat) : Int) := by omega
    first
      | (rw [decide_eq_true q'] at h5; exact absurd h5 (by decide))
      | (simp at h5; omega)
  cases hwl with
  | cons w1 w2 =>
    cases w2
    cases w1 with
    | list ho hall => exact ⟨_, _, ns, rfl, rfl, ho, ints_of_wellAll ns _ hall, hlen⟩

theorem post_true (l : OpenLaw) (args : List WData) : l.row.toRowW.claim.post args (.bool true) args = true :=
  postW_of (r := l.row.toRowW) (X := (true == true))
    (show WShape.has [] (.bool true) .bool = true by first | rfl | decide | simp [WShape.has, WShape.arms, WShape.armsAll])
    (show (WTm.eq .res (.lit (.bool true))).value [] { args := args, res := some (.bool true), after := args } = some (.bool (true == true)) from w_eq_bool (w_res rfl) w_lit) rfl

/-! ### the attachment: holds_open's last premise (the goal 'hc' behind k_head) from a wpAny of the law's body -/
/-- the same from a codeAny of the CALL (for a layer whose function contracts speak of calls) -/
theorem attach_call {l : OpenLaw} {n : Nat} {q : Program} {loose : List Str} {XP : (Str → Option Value) → Heap → Prop} {YP : World → Heap → Prop} {d : DefRec}
    (hn : l.most = some n) (hdf : d.params.defaults = [])
    (call : ∀ (w : World) (s₀ s₁ : Shared) (mg mb : Str → Option Value) (fa : Addr) (o : Obj) (pm cd doc : Value) (a : Addr) (vs : List Value) (ns : List Int),
      Ground q loose [] XP w s₀ mg mb s₁.heap → YP w s₁.heap →
      s₁.heap.get? fa = some o → o.data = .func (docDef d.name d.params d.body d.scope pm cd doc) → s₁.heap.CodeRec cd d.name → mg d.name = some (.ref fa) →
      s₁.heap.get? a = some { cls := .type "list", data := .seq vs.toArray } → IntsAre vs ns → ns.length ≤ n → s₁.gens = #[] →
      codeAny (model l.prog w) callerA (.call (.ref fa) ⟨[.ref a], []⟩) (fun r s' => r = .ok (.ret (.bool true)) ∧ OldK s₁.heap s'.heap ∧ s'.os = s₁.os ∧ AllBare s'.gens) s₁) :
    WalkO q loose XP YP l.row.toRowW d [] (fun f vs => PySem.call f vs) := by
  intro w s₀ s₁ mg mb G Y fa o pm cd doc dV kV ho hd hcd hD hmg hg args vals as hpre hlay hrd hwl hlo
  obtain rfl : dV = .none := Dflts.none hD hdf
  obtain rfl : kV = .none := Dflts.noKw hD
  obtain ⟨a, vs, ns, rfl, rfl, hobj, hints, hlen⟩ := script_of hn hpre hwl
  refine enter_call (codeAny_mono (call w s₀ s₁ mg mb fa o pm cd doc a vs ns G Y ho (fd_plain hd) hcd hmg hobj hints hlen hg) fun r s' hq => ?_)
  obtain ⟨rfl, h2, h3, h4⟩ := hq
  exact ⟨.inl ⟨.bool true, .bool true, [], rfl, fun _ => rfl, .bool true, post_true l _, fun _ => ⟨List.Pairwise.nil, fun _ hm => (nomatch hm)⟩⟩, h2, h3, h4⟩

/-! ### rules over ANY heap (no ledger) from facts about the written part K: the library's own take a ledger (News) for what they write -/
section
variable {prog : Program} {w : World} {A : Around} {E : Value → Shared → Prop} {s : Shared} {K : Frag}

/-! the whole heap as the ledger: makes every rule that writes through a ledger a rule over any heap -/
def ledger (h : Heap) (L d : Addr) : List (Addr × Obj) := (List.range h.objs.size).filterMap fun a => if a = L ∨ a = d then none else (h.get? a).map fun o => (a, o)
end
end Att

namespace L2
open PySem PySem.Spec PyProof.Rows

theorem vals_ints : ∀ {vs : List Value} {ns : List Int}, IntsAre vs ns → Vals (ns.map V.int) vs
  | _, _, .nil => .nil
  | _, _, .cons n t h => .cons ⟨t, rfl⟩ (vals_ints h)

/-- nothing is tracked but the script, known to the object (or it is an object of the module) -/
def Only (H : Hp) : Prop := ∀ b, H b = none ∨ ∃ o xs, H b = some (.frz o (.lst xs))

/-- THE HEAD: the law's promise, at the heap behind the top. F, the promise of the law's def, may use that base is part of the heap (so K.In base, base.Ns mainGlobals mg stand in Mod) -/
theorem law_call {P : Program} {w : World} {K : PySem.W.Frag} {mg mb : Str → Option Value} {CX : CXT} {k : Nat} {fa a : Addr} {fd : FuncData} {x : Str} {sp : Sp} {s₁ : Shared} {vs : List Value} {ns : List Int}
    (KX : K.In s₁.heap) (hns : s₁.heap.Ns mainGlobals mg) (hb : s₁.heap.Ns builtinsNs mb) (hbb : ∀ x : Str, x ≠ "__name__" → mb x = bootBuiltins x) (hlim : s₁.heap.NoLimit) (hg : s₁.gens = #[])
    (ha : s₁.heap.get? a = some { cls := .type "list", data := .seq vs.toArray }) (hi : IntsAre vs ns) (hl : ns.length ≤ sizeLine) (hr : Room k callerA)
    (F : ∀ base : Heap, K.In base → base.Ns mainGlobals mg → FnOk P w K mg base CX k fa fd [x] sp) (hbind : ∀ (s : Shared) (u : Value), BindsTo s fd ⟨[u], []⟩ [(x, u)])
    (hsp : ∀ H : Hp, Only H → SqL K H a (ns.map V.int) → sp [.ref a] H (fun v _ => v = .bl true) fun _ _ _ => False)
    (hCX : ∀ H e s', CX [] H s₁ (fun _ _ _ => False) e s' → False) :
    codeAny (model P w) callerA (.call (.ref fa) ⟨[.ref a], []⟩) (fun r s' => r = .ok (.ret (.bool true)) ∧ OldK s₁.heap s'.heap ∧ s'.os = s₁.os ∧ AllBare s'.gens) s₁ := by
  have rv := vals_ints hi
  have lenV := hi.length
  -- from an abstract heap in which nothing but the script may be tracked
  have core : ∀ H : Hp, Only H → SqL K H a (ns.map V.int) → HOk P w H s₁.heap → (∀ b, H b ≠ none → b = a) → (H a ≠ none → K.lookup a = none) →
      codeAny (model P w) callerA (.call (.ref fa) ⟨[.ref a], []⟩) (fun r s' => r = .ok (.ret (.bool true)) ∧ OldK s₁.heap s'.heap ∧ s'.os = s₁.os ∧ AllBare s'.gens) s₁ := by
    intro H hO hS hok hA hK
    have base_of : ∀ {b : Addr} {o : Obj}, s₁.heap.get? b = some o → H b = none → (hidT s₁.heap H).get? b = some o := fun e n => hidT_get e n
    have noA : ∀ {b : Addr} {o : Obj} {es : Array DictEntry} {ep : Nat}, s₁.heap.get? b = some o → o.data = .dict es ep → H b = none := fun {b o es ep} e d => by
      cases q : H b with
      | none => rfl
      | some u =>
        have e' : b = a := hA b (by rw [q]; simp)
        subst e'
        rw [ha] at e; cases e
        have d' : Data.seq vs.toArray _ = Data.dict es ep := d
        cases d'
    have nsK : ∀ {b : Addr} {m : Str → Option Value}, s₁.heap.Ns b m → (hidT s₁.heap H).Ns b m := fun {b m} ⟨o, es, ep, e, d, r⟩ => ⟨o, es, ep, base_of e (noA e d), d, r⟩
    have hKb : K.In (hidT s₁.heap H) := fun b o e => base_of (KX b o e) (by
      cases q : H b with
      | none => rfl
      | some u =>
        have e' : b = a := hA b (by rw [q]; simp)
        subst e'
        rw [hK (by rw [q]; simp)] at e; cases e)
    have hM : Mod K mg (hidT s₁.heap H) := ⟨hKb, nsK hns, ⟨mb, nsK hb, hbb⟩, let ⟨mc, h1, h2⟩ := hlim; ⟨mc, nsK h1, h2⟩⟩
    have e0 : Env0 P w K mg (hidT s₁.heap H) callerA [] s₁ H := ⟨rfl, hM, fun b o e => of_hidT e, Nat.le_of_eq (hidT_size _ _), trivial, fun b hb => absurd (show b ∈ ([] : List Addr) from hb) (by simp), hok, .of_eq hg⟩
    refine codeAny_mono ((F _ hKb (nsK hns)).run callerA [] s₁ H ⟨[.ref a], []⟩ [.ref a] [.ref a] _ _ hr e0 (hbind s₁ (.ref a)) (.cons rfl .nil) (hsp H hO hS)) fun r s' h => ?_
    cases r with
    | error e => exact (hCX H e s' h).elim
    | ok fl =>
      cases fl with
      | next => exact False.elim h
      | brk => exact False.elim h
      | cont => exact False.elim h
      | ret u =>
        obtain ⟨v, H', os, bare, un, hok', r', q⟩ := h
        have q' : v = .bl true := q
        subst q'
        obtain rfl : u = Value.bool true := r'
        refine ⟨rfl, OldK.of_keep fun b o e => ?_, os, bare⟩
        cases q : H b with
        | none => exact un.keep b o e q (by intro z; exact absurd (show b ∈ ([] : List Addr) from z) (by simp)) (by simp)
        | some u =>
          rcases hO b with z | ⟨ob, xs, z⟩
          · rw [q] at z; cases z
          · have z2 := un.frzs b ob _ z
            obtain ⟨e1, _⟩ := hok b _ z
            obtain ⟨e2, _⟩ := hok' b _ z2
            rw [e] at e1; cases e1
            exact e2
  cases hk : K.lookup a with
  | some o =>
    -- the script is one of the module's own objects
    have e := KX a o hk
    rw [ha] at e
    cases e
    refine core (fun _ => none) (fun _ => .inl rfl) (.inr ⟨_, vs.toArray, _, hk, rfl, rfl, rfl, by rw [List.size_toArray, lenV]; exact hl, by simpa using rv⟩) (fun b u z => by have z' : (none : Option HO) = some u := z; cases z') (fun b z => absurd rfl z) fun z => absurd rfl z
  | none =>
    refine core (fun b => if b = a then some (.frz { cls := .type "list", data := .seq vs.toArray } (.lst (ns.map V.int))) else none) (fun b => ?_) (.inl (.inr ⟨{ cls := .type "list", data := .seq vs.toArray }, if_pos rfl⟩)) (fun b u z => ?_) (fun b z => ?_) fun _ => hk
    · by_cases hb : b = a
      · exact .inr ⟨_, _, if_pos hb⟩
      · exact .inl (if_neg hb)
    · by_cases hb : b = a
      · have z' := (if_pos hb).symm.trans z
        cases z'
        subst hb
        exact ⟨ha, by rw [List.length_map]; exact hl, vs, _, rv, ha⟩
      · have z' := (if_neg hb).symm.trans z
        cases z'
    · by_cases hb : b = a
      · exact hb
      · exact absurd (if_neg hb) z
end L2

namespace L2
open PySem PySem.Spec PyProof.Rows

/-- the goal that k_head leaves (case hc), from the law's promise. F gives the function object fd (K's own) once, then the promise over every base -/
theorem walk_of {l : PySem.W.OpenLaw} {n k : Nat} {q : Program} {loose : List Str} {XP : (Str → Option Value) → Heap → Prop} {YP : World → Heap → Prop} {d : DefRec} {K : Params → PySem.W.Frag} {CX : World → CXT} {sp : World → Sp} {x : Str}
    (hn : l.most = some n) (hn2 : n ≤ sizeLine) (hdf : d.params.defaults = []) (hr : Room k callerA)
    (hY : ∀ (w : World) (h : Heap), YP w h → (K w.params).In h)
    (F : ∀ (w : World) (mg : Str → Option Value) (fa : Addr) (h : Heap), (K w.params).In h → h.Ns mainGlobals mg → mg d.name = some (.ref fa) →
      ∃ fd : FuncData, (∀ (s : Shared) (u : Value), BindsTo s fd ⟨[u], []⟩ [(x, u)]) ∧
        ∀ base : Heap, (K w.params).In base → base.Ns mainGlobals mg → FnOk l.prog w (K w.params) mg base (CX w) k fa fd [x] (sp w))
    (hsp : ∀ (w : World) (H : Hp) (a : Addr) (ns : List Int), ns.length ≤ n → Only H → SqL (K w.params) H a (ns.map V.int) → sp w [.ref a] H (fun v _ => v = .bl true) fun _ _ _ => False)
    (hCX : ∀ (w : World) (H : Hp) (s : Shared) (e : Value) (s' : Shared), CX w [] H s (fun _ _ _ => False) e s' → False) :
    PySem.W.WalkO q loose XP YP l.row.toRowW d [] (fun f vs => PySem.call f vs) := by
  refine Att.attach_call hn hdf fun w s₀ s₁ mg mb fa o pm cd doc a vs ns G Y ho hd hcd hmg hobj hints hlen hg => ?_
  have KX := hY w _ Y
  obtain ⟨fd, hb, hF⟩ := F w mg fa _ KX G.T.g hmg
  exact law_call KX G.T.g G.T.b G.T.builtins G.T.nolimit hg hobj hints (Nat.le_trans hlen hn2) hr hF hb (fun H hO hS => hsp w H a ns hlen hO hS) fun H e s' => hCX w H s₁ e s'
end L2

/- THE LAST THEOREM (shape; LID, My.* are yours):
   My.Adr: a structure of the addresses that your layer names (classes, functions); My.Txt K t: a structure (Prop) of the equations over K;
   My.txt_mk : {K} {implicit addresses ..} (e1 : nsIn K mainGlobals "law" = some (some (.ref f))) (e2 : K.lookup f = some ⟨oc, od, .func (fnOf "law" "law" params body scope dV kV doc pm an cdv ct), sl⟩) (e3 : codeIn K cdv "law" = true) .. : ∃ t, My.Txt K t

(the tactic k_is has no namespace: write k_is) -/

/-! SHORT WORDS over the layer: a def of the text, its body, what a loop and a test want. -/
namespace L2
open PySem PySem.Spec PyProof.Rows

/-! ### the text by places -/
/-- the j-th statement of a class's body -/
def inClass (s : Stmt) (j : Nat) : Stmt := match s with
  | .ClassDef _ _ _ body _ _ _ _ _ _ _ => body.getD j (.Pass ⟨0, 0, 0, 0⟩)
  | _ => .Pass ⟨0, 0, 0, 0⟩
def defArgs (s : Stmt) : Arguments := match s with
  | .FunctionDef _ a _ _ _ _ _ _ _ _ => a
  | _ => { posonlyargs := [], args := [], vararg := none, kwonlyargs := [], kw_defaults := [], kwarg := none, defaults := [] }
def defBody (s : Stmt) : List Stmt := match s with
  | .FunctionDef _ _ b _ _ _ _ _ _ _ => b
  | _ => []
def defScope (s : Stmt) : Scope := match s with
  | .FunctionDef _ _ _ _ _ _ sc _ _ _ => sc
  | _ => { kind := .function, names := [], isGenerator := false, isCoroutine := false }

/-! ### no exception leaves a def -/
abbrev CX0 : CXT := fun _ _ _ _ _ _ => False
abbrev E0 : XK := fun _ _ _ => False
theorem pass0 {X : Cx} : Passes CX0 X E0 := fun _ _ _ _ _ _ _ h => h.elim

/-! ### a def (or method) of the text as it stands behind the top -/
structure Fun (K : PySem.W.Frag) (x qual : Str) (st : Stmt) (f : Addr) (fd : FuncData) : Prop where
  ex : ∃ (oc : Value) (od : Option Addr) (kV doc pm : Value) (an : Option Addr) (cdv ct : Value) (osl : Array (Option Value)),
    fd = PySem.W.fnOf x qual (defArgs st) (defBody st) (defScope st) .none kV doc pm an cdv ct ∧ K.lookup f = some ⟨oc, od, .func fd, osl⟩ ∧ PySem.W.codeIn K cdv qual = true
  kp : PySem.W.keepIn K (.ref f) = true
section
variable {P : Program} {w : World} {K : PySem.W.Frag} {mg : Str → Option Value} {base : Heap}
/-- THE RULE for a def: its body as a term of rules, and the reading of that term -/
theorem Fun.ok {x qual : Str} {st : Stmt} {f : Addr} {fd : FuncData} {N ps : List Str} {k : Nat} {sp : Sp} {cm : Bool} (F : Fun K x qual st f fd) (S : FnScope N ps (defScope st)) (len : ∀ vs H Q E, sp vs H Q E → vs.length = ps.length)
    (hbody : ∀ (cdv : Value) (A : Around) (outer : List Env) (s : Shared) (H : Hp) (vs : List V) (Q : VK) (E : XK), Room k (A.deeper (envOfC qual (defScope st) s.heap.objs.size f cdv)) cm → sp vs H Q E →
      ∃ t, PSs (cxOf CX0 P w K mg base N qual (defScope st) f cdv A outer s H E cm).nox (defBody st) t ∧ t { nx := fun _ H' => Q .non H', rt := Q } (start N vs) H) : FnOk P w K mg base CX0 (k + 1) f fd ps sp cm := by
  obtain ⟨oc, od, kV, doc, pm, an, cdv, ct, osl, rfl, lk, hcd⟩ := F.ex
  refine fn_of lk hcd S len fun A outer s H vs Q E hr hsp => ?_
  obtain ⟨t, h, q⟩ := hbody cdv A outer s H vs Q E hr hsp
  exact ⟨t, h.nox, q⟩
/-- how its arguments bind (no defaults): h is «fun _ _ _ _ _ _ us hl => match us, hl with | [_, _], _ => rfl», one _ a parameter -/
theorem Fun.binds {x qual : Str} {st : Stmt} {f : Addr} {fd : FuncData} {ps : List Str} (F : Fun K x qual st f fd)
    (h : ∀ (kV doc pm : Value) (an : Option Addr) (cdv ct : Value) (us : List Value), us.length = ps.length → bindArgs (PySem.W.fnOf x qual (defArgs st) (defBody st) (defScope st) .none kV doc pm an cdv ct) ⟨us, []⟩ = pure (ps.zip us)) : Binds K fd ps [] := by
  obtain ⟨oc, od, kV, doc, pm, an, cdv, ct, osl, rfl, lk, hcd⟩ := F.ex
  exact .all (h kV doc pm an cdv ct)
theorem fun_mk {x qual : Str} {st : Stmt} {f : Addr} {oc : Value} {od an : Option Addr} {osl : Array (Option Value)} {kV doc pm cdv ct : Value} (l : K.lookup f = some ⟨oc, od, .func (PySem.W.fnOf x qual (defArgs st) (defBody st) (defScope st) .none kV doc pm an cdv ct), osl⟩)
    (c : PySem.W.codeIn K cdv qual = true) (k : PySem.W.keepIn K (.ref f) = true) : Fun K x qual st f (PySem.W.fnOf x qual (defArgs st) (defBody st) (defScope st) .none kV doc pm an cdv ct) := ⟨⟨oc, od, kV, doc, pm, an, cdv, ct, osl, rfl, l, c⟩, k⟩
end
/-! ### expressions in short: the name that stands in the i-th slot -/
section
variable {X : Cx}
theorem pv (i : Nat) {x : Str} {pos : Pos} (hN : X.N[i]? = some x := by rfl) (hv : Vis X.env.scope x := by first | exact Or.inl rfl | exact Or.inr (Or.inl rfl) | exact Or.inr (Or.inr rfl)) (hd : (x == ("__debug__" : Str)) = false := by decide)
    (hcd : (x == ("__classdict__" : Str)) = false := by decide) : PE X (.Name x pos) (tVar i) := pe_var hN hv hd hcd
end

/-! ### tests -/
theorem iteF {A B : Prop} (h : B) : if false = true then A else B := by
  rw [if_neg Bool.false_ne_true]
  exact h
theorem iteT {A B : Prop} (h : A) : if true = true then A else B := by
  rw [if_pos rfl]
  exact h
theorem ite2 {c A B : Prop} [Decidable c] (h1 : c → A) (h2 : ¬ c → B) : if c then A else B := by
  by_cases h : c
  · rw [if_pos h]
    exact h1 h
  · rw [if_neg h]
    exact h2 h
/-! ### heaps -/
/-- all that was tracked is as it was -/
def Same (H H' : Hp) : Prop := ∀ b o, H b = some o → H' b = some o
theorem Same.refl (H : Hp) : Same H H := fun _ _ h => h
theorem Same.trans {H H1 H2 : Hp} (a : Same H H1) (b : Same H1 H2) : Same H H2 := fun c o h => b c o (a c o h)
theorem Same.free {H H' : Hp} (e : Same H H') {l : Addr} (h : H' l = Option.none) : H l = Option.none := by
  cases q : H l with
  | none => rfl
  | some o =>
    rw [e l o q] at h
    cases h
theorem Same.seq {K : PySem.W.Frag} {H H' : Hp} {a : Addr} {xs : List V} (e : Same H H') (h : SqL K H a xs) : SqL K H' a xs := by
  rcases h with (h | ⟨o, h⟩) | h
  · exact .inl (.inl (e _ _ h))
  · exact .inl (.inr ⟨o, e _ _ h⟩)
  · exact .inr h

end L2

set_option Elab.async false
set_option linter.all false
set_option maxRecDepth 100000
/-! ### list comprehensions (one for, none or one test) -/
namespace L2
open PySem PySem.Spec PyProof.Rows

section
variable {prog : Program} {w : World} {A : Around} {R : Result → Shared → Prop} {s : Shared}
theorem comp_loop_any {elt target iter : Expr} {ifs : List Expr} {scope : Scope} {pos : Pos} {it acc : Value} {env : Env} (I : Nat → Shared → Prop)
    (turn : ∀ n s, I n s → wpAny (model prog w) A (pyNext it) (fun r s₁ => match r with
      | none => R (.ok .next) s₁
      | some v => wpAny (model prog w) A (letOwnedTupleGo target it v) (fun _ s₁' => wpAny (model prog w) A (assign target env v) (fun _ s₂ =>
          wpAny (model prog w) A (forIn ifs true fun c r => if r = true then do let ok ← isTrue c env (eval c env); pure (ForInStep.yield ok) else pure (ForInStep.yield r)) (fun ok s₃ =>
            if ok = true then wpAny (model prog w) A (eval elt env) (fun x s₄ =>
              wpAny (model prog w) A (call (.builtin "list.append") [acc, x]) (fun _ s₅ => ∃ m, m < n ∧ I m s₅) (notedBy (model prog w) A env fun e s' => R (.error e) s') s₄) (notedBy (model prog w) A env fun e s' => R (.error e) s') s₃
            else ∃ m, m < n ∧ I m s₃) (notedBy (model prog w) A env fun e s' => R (.error e) s') s₂) (notedBy (model prog w) A env fun e s' => R (.error e) s') s₁') (notedBy (model prog w) A env fun e s' => R (.error e) s') s₁) (notedBy (model prog w) A env fun e s' => R (.error e) s') s)
    (n : Nat) (h : I n s) :
    codeAny (model prog w) A (.compLoop (.ListComp elt [⟨target, iter, ifs, 0⟩] scope pos) 0 it acc env) R s := by
  refine codeAny_loop rfl I (fun n s hI => ?_) n h
  show wpAny _ A ((compTurn (.ListComp elt [⟨target, iter, ifs, 0⟩] scope pos) 0 it acc env).onRaise (fun x => do noteFrame x env; theTreesLotGoes x)) _ _ s
  refine wpAny_noted ?_
  rw [compTurn_list]
  refine wpAny_bind (wpAny_standAt (wpAny_bind (wpAny_mono (turn n s hI) (fun r s₁ h₁ => ?_) fun _ _ h' => h')))
  cases r with
  | none => exact wpAny_pure h₁
  | some v =>
    refine wpAny_bind (wpAny_mono h₁ (fun _ s₁' h₁ => ?_) fun _ _ h' => h')
    refine wpAny_bind (wpAny_mono h₁ (fun _ s₂ h₂ => wpAny_bind (wpAny_mono h₂ (fun ok s₃ h₃ => ?_) fun _ _ h' => h')) fun _ _ h' => h')
    cases ok with
    | false => exact wpAny_pure ⟨rfl, h₃⟩
    | true =>
      exact wpAny_bind (wpAny_bind (wpAny_mono h₃ (fun x s₄ h₄ => wpAny_bind (wpAny_mono h₄ (fun _ s₅ h₅ => wpAny_pure (wpAny_pure ⟨rfl, h₅⟩)) fun _ _ h' => h')) fun _ _ h' => h'))
end

/-- the closure of a comprehension's block -/
def closL (env : Env) : List (Str × NameKind) → List (Str × Addr) → List (Str × Addr)
  | [], cs => cs
  | (n, k) :: r, cs => closL env r (if k == .free then (n, (env.cells.lookup n).getD 0) :: cs else cs)
def clos (scope : Scope) (env : Env) : List (Str × Addr) := closL env scope.names []
theorem forIn_closL {env : Env} : ∀ (ns : List (Str × NameKind)) (cs : List (Str × Addr)), (∀ x ∈ ns, x.2 = .free → ∃ c, env.cells.lookup x.1 = some c) →
    (forIn ns cs fun (x : Str × NameKind) (r : List (Str × Addr)) => (match x with | (name, kind) => if kind == .free then do let c ← cellOf env name; pure (ForInStep.yield ((name, c) :: r)) else pure (ForInStep.yield r) : Sem (ForInStep (List (Str × Addr))))) = (pure (closL env ns cs) : Sem (List (Str × Addr)))
  | [], cs, _ => rfl
  | (n, k) :: r, cs, h => by
    rw [List.forIn_cons]
    by_cases hk : k = .free
    · subst hk
      obtain ⟨c, hc⟩ := h (n, .free) List.mem_cons_self rfl
      have e : cellOf env n = pure c := by
        have hc' : env.cells.lookup n = some c := hc
        unfold cellOf; rw [hc']
      simp only [beq_self_eq_true, if_true, e, pure_bind]
      rw [forIn_closL r _ fun x hx => h x (List.mem_cons_of_mem _ hx)]
      have hc' : env.cells.lookup n = some c := hc
      simp [closL, hc']
    · have hb : (k == NameKind.free) = false := by simpa using hk
      simp only [hb, Bool.false_eq_true, if_false, pure_bind]
      rw [forIn_closL r _ fun x hx => h x (List.mem_cons_of_mem _ hx)]
      simp [closL, hb]
theorem closureFor_eq {scope : Scope} {env : Env} (h : ∀ x ∈ scope.names, x.2 = .free → ∃ c, env.cells.lookup x.1 = some c) : closureFor scope env = pure (clos scope env) := by
  unfold closureFor clos
  have := forIn_closL (env := env) scope.names [] h
  simp only [bind_pure]
  exact this
theorem closL_look {env : Env} {x : Str} {c : Addr} : ∀ (ns : List (Str × NameKind)) (cs : List (Str × Addr)), (∀ y ∈ ns, y.2 = .free → ∃ c, env.cells.lookup y.1 = some c) → (∀ c, cs.lookup x = some c → env.cells.lookup x = some c) →
    (closL env ns cs).lookup x = some c → env.cells.lookup x = some c
  | [], cs, _, hc, e => hc c e
  | (n, k) :: r, cs, h, hc, e => by
    refine closL_look r _ (fun y hy => h y (List.mem_cons_of_mem _ hy)) (fun c' e' => ?_) e
    by_cases hk : k = .free
    · subst hk
      obtain ⟨c₁, h₁⟩ := h (n, .free) List.mem_cons_self rfl
      have h₁' : env.cells.lookup n = some c₁ := h₁
      simp only [beq_self_eq_true, if_true, List.lookup_cons] at e'
      cases hx : x == n with
      | true =>
        rw [hx] at e'
        have hxn : x = n := by simpa using hx
        subst hxn
        rw [h₁'] at e' ⊢
        exact e'
      | false => rw [hx] at e'; exact hc c' e'
    · have hb : (k == NameKind.free) = false := by simpa using hk
      simp only [hb, Bool.false_eq_true, if_false] at e'
      exact hc c' e'
theorem closL_has {env : Env} {x : Str} : ∀ (ns : List (Str × NameKind)) (cs : List (Str × Addr)), ((x, NameKind.free) ∈ ns ∨ ∃ c, cs.lookup x = some c) → ∃ c, (closL env ns cs).lookup x = some c
  | [], cs, h => h.elim (fun z => nomatch z) fun z => z
  | (n, k) :: r, cs, h => by
    refine closL_has r _ ?_
    rcases h with h | ⟨c, h⟩
    · rcases List.mem_cons.mp h with e | h
      · cases e
        right
        simp
      · exact .inl h
    · right
      by_cases hk : k = .free
      · subst hk
        simp only [beq_self_eq_true, if_true, List.lookup_cons]
        cases x == n with
        | true => exact ⟨_, rfl⟩
        | false => exact ⟨c, h⟩
      · have hb : (k == NameKind.free) = false := by simpa using hk
        simp only [hb, Bool.false_eq_true, if_false]
        exact ⟨c, h⟩

theorem relabel_back {env : Env} {x : Str} {k' : NameKind} : ∀ {names : List (Str × NameKind)},
    (names.map fun (n, k) => if (k == NameKind.free && env.scope.kind == .function && env.kindOf n == some .cell) then (n, NameKind.cell) else (n, k)).lookup x = some k' →
    ∃ k, names.lookup x = some k ∧ (x, k) ∈ names ∧ (k' = k ∨ (k = .free ∧ k' = .cell))
  | [], h => by simp at h
  | (n, k) :: r, h => by
    have ih := @relabel_back env x k' r
    have h' : List.lookup x ((if (k == NameKind.free && env.scope.kind == .function && env.kindOf n == some .cell) = true then (n, NameKind.cell) else (n, k)) :: r.map fun (n, k) => if (k == NameKind.free && env.scope.kind == .function && env.kindOf n == some .cell) then (n, NameKind.cell) else (n, k)) = some k' := h
    cases hx : x == n with
    | true =>
      have hxn : x = n := by simpa using hx
      subst hxn
      refine ⟨k, by simp, List.mem_cons_self, ?_⟩
      by_cases hc : (k == NameKind.free && env.scope.kind == .function && env.kindOf x == some .cell) = true
      · rw [if_pos hc] at h'
        simp at h'
        have hk : k = .free := by
          cases k <;> simp at hc ⊢
        exact .inr ⟨hk, h'.symm⟩
      · rw [if_neg hc] at h'
        simp at h'
        exact .inl h'.symm
    | false =>
      have h2 : (r.map fun (n, k) => if (k == NameKind.free && env.scope.kind == .function && env.kindOf n == some .cell) then (n, NameKind.cell) else (n, k)).lookup x = some k' := by
        by_cases hc : (k == NameKind.free && env.scope.kind == .function && env.kindOf n == some .cell) = true
        · rw [if_pos hc] at h'; simp only [List.lookup_cons, hx] at h'; exact h'
        · rw [if_neg hc] at h'; simp only [List.lookup_cons, hx] at h'; exact h'
      obtain ⟨k0, e1, e2, e3⟩ := ih h2
      exact ⟨k0, by simp only [List.lookup_cons, hx]; exact e1, List.mem_cons_of_mem _ e2, e3⟩

/-- the block's context: s, H at the entry, ex the iterator's records -/
def cxC (X : Cx) (scope : Scope) (N : List Str) (C : Addr) (s : Shared) (H : Hp) (ex : List Addr) : Cx :=
  { X with N := N, s₀ := s, H₀ := H, env := compEnvC scope (clos scope X.env) C X.env, outer := X.stack, stack := X.stack, ex := ex, fn := fun _ => false, pn := [], xe := fun _ _ => False }

/-- a comprehension's scope in X; fr: its free names with their slots in X -/
structure CScope (X : Cx) (scope : Scope) (ls : List Str) (fr : List (Str × Nat)) : Prop where
  kind : scope.kind = .function
  nocell : ∀ y ∈ scope.names, y.2 ≠ .cell
  names : ∀ y ∈ scope.names, y.2 = .local → scope.names.lookup y.1 = some .local
  free : ∀ y ∈ scope.names, y.2 = .free → X.env.kindOf y.1 = some .cell ∨ X.env.kindOf y.1 = some .free
  slots : ∀ p ∈ fr, X.N[p.2]? = some p.1 ∧ scope.names.lookup p.1 = some .free

def startC (ls : List Str) (fr : List (Str × Nat)) (σ : St) : St := ls.map (fun _ => none) ++ fr.map fun p => (σ[p.2]?).join
section
variable {X : Cx} {scope : Scope} {ls : List Str} {fr : List (Str × Nat)}
theorem CScope.cells {pins : List (Addr × Obj)} {σ : St} {H : Hp} {s : Shared} (S : CScope X scope ls fr) (I : Inv X pins σ H s) : ∀ x ∈ scope.names, x.2 = .free → ∃ c, X.env.cells.lookup x.1 = some c :=
  fun x hx hk => I.ok.has x.1 (S.free x hx hk)
theorem CScope.look {pins : List (Addr × Obj)} {σ : St} {H : Hp} {s : Shared} (S : CScope X scope ls fr) (I : Inv X pins σ H s) {x : Str} {c : Addr} (e : (clos scope X.env).lookup x = some c) : X.env.cells.lookup x = some c :=
  closL_look scope.names [] (S.cells I) (fun _ z => by simp at z) e

theorem comp_ok {pins : List (Addr × Obj)} {σ : St} {H : Hp} {s : Shared} {C : Addr} {ex : List Addr} (S : CScope X scope ls fr) (I : Inv X pins σ H s) (hC : s.heap.objs.size ≤ C) (hex : ∀ b ∈ ex, FpOk X pins H b ∧ b < s.heap.objs.size) :
    (cxC X scope (ls ++ fr.map (·.1)) C s H ex).Ok where
  mod := I.ok.mod
  kind := S.kind
  glob := I.ok.glob
  blt := I.ok.blt
  above := hC
  inj := fun x y c e1 e2 => I.ok.inj x y c (S.look I e1) (S.look I e2)
  has := fun x h => by
    have h' : ∃ k', (relabel scope X.env).names.lookup x = some k' ∧ (k' = .cell ∨ k' = .free) := h.elim (fun z => ⟨_, z, .inl rfl⟩) fun z => ⟨_, z, .inr rfl⟩
    obtain ⟨k', e, hk⟩ := h'
    obtain ⟨k, e1, e2, e3⟩ := relabel_back e
    refine closL_has scope.names [] (.inl ?_)
    have hn := S.nocell _ e2
    rcases e3 with rfl | ⟨rfl, _⟩
    · rcases hk with rfl | rfl
      · exact absurd rfl hn
      · exact e2
    · exact e2
  cab := fun x c h => nomatch h
  hd := I.ok.hd
  frames := I.ok.frames
  stk := .inl rfl
  exf := fun b hb => by
    obtain ⟨⟨f0, f1, f2, f3, f4, f5⟩, hl⟩ := hex b hb
    exact ⟨Nat.ne_of_lt (Nat.lt_of_lt_of_le hl hC), fun x c e => f4 x c (S.look I e)⟩
  bs := I.bs
  bsz := Nat.le_trans I.ok.bsz I.sz
  noex := fun b o e hb => by
    obtain ⟨⟨f0, f1, f2, f3, f4, f5⟩, hl⟩ := hex b hb
    rcases f3 with z | z
    · exact I.ok.noex b o e z
    · exact absurd (Nat.lt_of_lt_of_le (Heap.lt_size e) (Nat.le_trans I.ok.bsz z)) (Nat.lt_irrefl _)
  exfs := fun b hb hf => by
    obtain ⟨⟨f0, f1, f2, f3, f4, f5⟩, hl⟩ := hex b hb
    exact (List.mem_cons.mp (I.stkSub b hf)).elim f1 f2
  funs := I.stack
  frf := I.stkFree

theorem comp_inv {pins : List (Addr × Obj)} {σ : St} {H : Hp} {s s' : Shared} {C : Addr} {m : Str → Option Value} {ex : List Addr} (S : CScope X scope ls fr) (I : Inv X pins σ H s) (hC : s.heap.objs.size ≤ C) (hex : ∀ b ∈ ex, FpOk X pins H b ∧ b < s.heap.objs.size)
    (ho : s'.os = s.os) (hg : AllBare s'.gens) (k : ∀ b o, s.heap.get? b = some o → s'.heap.get? b = some o) (hn : s'.heap.Ns C m) : Inv (cxC X scope (ls ++ fr.map (·.1)) C s H ex) [] (startC ls fr σ) H s' where
  ok := comp_ok S I hC hex
  os := ho
  bare := hg
  base := Un.kept k
  loc := by
    refine ⟨m, hn, fun i x v e1 e2 e3 => ?_⟩
    have e2' : (ls.map (fun _ => (none : Option V)) ++ fr.map fun p => (σ[p.2]?).join)[i]? = some (some v) := e2
    have e1' : (ls ++ fr.map (·.1))[i]? = some x := e1
    by_cases hi : i < ls.length
    · rw [List.getElem?_append_left (by simpa using hi), List.getElem?_map] at e2'
      cases q : ls[i]? with
      | none => rw [q] at e2'; cases e2'
      | some y => rw [q] at e2'; cases e2'
    · have hi' : ls.length ≤ i := Nat.le_of_not_lt hi
      rw [List.getElem?_append_right (by simpa using hi'), List.getElem?_map, List.length_map] at e2'
      rw [List.getElem?_append_right hi', List.getElem?_map] at e1'
      cases q : fr[i - ls.length]? with
      | none => rw [q] at e1'; cases e1'
      | some p =>
        rw [q] at e1' e2'
        have ex1 : p.1 = x := Option.some.inj e1'
        have hp : p ∈ fr := List.mem_of_getElem? q
        obtain ⟨hsl, hfree⟩ := S.slots p hp
        subst ex1
        have hv : σ[p.2]? = some (some v) := by
          have z : (σ[p.2]?).join = some v := Option.some.inj e2'
          cases w : σ[p.2]? with
          | none => rw [w] at z; cases z
          | some o => rw [w] at z; exact congrArg some z
        obtain ⟨m0, hn0, hl⟩ := id I.loc
        have vis' : ∃ k', (relabel scope X.env).names.lookup p.1 = some k' ∧ (k' = .local ∨ k' = .cell ∨ k' = .free) := by
          rcases e3 with z | z | z
          · exact ⟨_, z, .inl rfl⟩
          · exact ⟨_, z, .inr (.inl rfl)⟩
          · exact ⟨_, z, .inr (.inr rfl)⟩
        obtain ⟨k', ek, _⟩ := vis'
        obtain ⟨k0, f1, f2, f3⟩ := relabel_back ek
        rw [hfree] at f1
        cases f1
        have hk := S.free _ f2 rfl
        have hk' : k' = .cell ∨ k' = .free := f3.elim .inr fun z => .inl z.2
        have hvis : Vis X.env.scope p.1 := hk.elim (fun z => .inr (.inl z)) fun z => .inr (.inr z)
        obtain ⟨u, ru, lk⟩ := hl p.2 p.1 v hsl hv hvis
        obtain ⟨c', hc'⟩ : ∃ c, (clos scope X.env).lookup p.1 = some c := closL_has scope.names [] (.inl f2)
        refine ⟨u, ru, .inr ⟨hk'.elim (fun z => .inl (z ▸ ek)) fun z => .inr (z ▸ ek), c', hc', ?_⟩⟩
        rcases lk with ⟨z, _⟩ | ⟨_, c, ec, ic⟩
        · rcases hk with y | y <;> (rw [y] at z; cases z)
        · have := S.look I hc'
          rw [ec] at this
          cases this
          exact ic.keeps k
  cell := fun x c e => by
    obtain ⟨v, z⟩ := I.cell x c (S.look I e)
    exact ⟨v, z.keeps k⟩
  free := I.hok.fresh hC
  freeC := fun x c e => I.freeC x c (S.look I e)
  pin := fun p hp => nomatch hp
  hok := I.hok.kept k
  len := by simp [startC, cxC]

/-- none or one test -/
def PF (X : Cx) (ifs : List Expr) (t : TT) : Prop :=
  ∀ (pins : List (Addr × Obj)) (s : Shared) (σ : St) (H : Hp) (Q : Bool → Hp → Prop), Inv X pins σ H s → t σ H Q →
    wpAny (model X.prog X.w) X.A (forIn ifs true fun c r => if r = true then do let ok ← isTrue c X.env (eval c X.env); pure (ForInStep.yield ok) else pure (ForInStep.yield r)) (TP X pins σ Q) X.xe s
def tYes : TT := fun _ H Q => Q true H
theorem pf_nil {X : Cx} : PF X [] tYes := fun pins s σ H Q I h => wpAny_tests_nil ⟨H, I, h⟩
theorem pf_one {X : Cx} {c : Expr} {t : TT} (h : PT X c t) : PF X [c] t := fun pins s σ H Q I hw => wpAny_tests_one (h pins s σ H Q I hw)

/-- the list that was grown aside is tracked -/
theorem HOk.add {P : Program} {w : World} {H : Hp} {h : Heap} {a : Addr} {o : HO} (x : HOk P w H h) (hn : H a = none) (new : ObjOk P w (upd H a o) h a o) : HOk P w (upd H a o) h := fun b u e => by
  by_cases hb : b = a
  · subst hb; rw [upd_same] at e; cases e; exact new
  · rw [upd_ne hb] at e
    exact (x b u e).stay (fun _ _ _ q => q) (fun c q => by rw [upd_ne (ne_of_none q hn)]; exact q) fun c xs q => by rw [upd_ne (ne_of_none q hn)]; exact q
theorem Un.add {fs ex : List Addr} {H H' : Hp} {h h' : Heap} {a : Addr} {o : HO} (u : Un fs ex H H' h h') (ha : h.objs.size ≤ a) (hn : H' a = none) : Un fs ex H (upd H' a o) h h' where
  keep := u.keep
  slot := u.slot
  free := fun b ob q n hx => by rw [upd_ne (Nat.ne_of_lt (Nat.lt_of_lt_of_le (Heap.lt_size q) ha))]; exact u.free b ob q n hx
  there := u.there
  tups := fun b xs q => by
    have z := u.tups b xs q
    rw [upd_ne (ne_of_none z hn)]; exact z
  frzs := fun b ob xs q => by
    have z := u.frzs b ob xs q
    rw [upd_ne (ne_of_none z hn)]; exact z
  tbls := fun b ps q => by
    obtain ⟨more, z⟩ := u.tbls b ps q
    exact ⟨more, by rw [upd_ne (ne_of_none z hn)]; exact z⟩

/-- W: the invariant by the turn, a measure and the list so far -/
def tCompK (g : TG) (tf : TT) (te : TE) (σ0 : St) (J : It) (H : Hp) (Q : VK) : Prop :=
  ∃ W : Nat → Nat → List V → St → Hp → Prop, (∃ m, W 0 m [] σ0 H) ∧ ∀ i m ys σ H, W i m ys σ H →
    (J.stop i H ∧ ys.length ≤ sizeLine ∧ ∀ p, H p = none → Q (.ref p) (upd H p (.lst ys))) ∨
    (J.go i H ∧ ys.length ≤ sizeLine ∧ ∃ N : List V → St → Hp → Prop, (∀ ys σ' H', N ys σ' H' → ∃ m', m' < m ∧ W (i + 1) m' ys σ' H') ∧ ∀ x H1, J.yld i H x H1 → g x σ H1 fun σ2 H2 => tf σ2 H2 fun b H3 => if b = true then te σ2 H3 fun v H4 => N (ys ++ [v]) σ2 H4 else N ys σ2 H3)
def tComp (wi : TI) (ls : List Str) (fr : List (Str × Nat)) (g : TG) (tf : TT) (te : TE) : TE := fun σ H Q => wi σ H fun J H1 => tCompK g tf te (startC ls fr σ) J H1 Q

/-- the block, from the iterator on -/
theorem comp_block {pins : List (Addr × Obj)} {σ : St} {H : Hp} {s : Shared} {it : Addr} {fp : List Addr} {tn : Nat → Heap → Prop} {J : It} {tg elt iter : Expr} {ifs : List Expr} {pos : Pos} {g : TG} {tf : TT} {te : TE} {Q : VK} {E : Value → Shared → Prop} {RR : Value → Addr → Result → Shared → Prop}
    (S : CScope X scope ls fr) (hc : X.calm = true) (I : Inv X pins σ H s) (T : Turn X.prog X.w X.K tg J fp it tn) (st : tn 0 s.heap) (hf : ∀ b ∈ fp, FpOk X pins H b) (hq : tCompK g tf te (startC ls fr σ) J H Q)
    (hg : ∀ C s H ex, PG (cxC X scope (ls ++ fr.map (·.1)) C s H ex) tg g) (ht : ∀ C s H ex, PF (cxC X scope (ls ++ fr.map (·.1)) C s H ex) ifs tf) (he : ∀ C s H ex, PE (cxC X scope (ls ++ fr.map (·.1)) C s H ex) elt te)
    (hRR : ∀ (D C : Addr) (s' : Shared) (H' : Hp) (m : Str → Option Value), Inv X pins σ H' s' → s'.heap.Ns C m → s.heap.objs.size ≤ C → H' C = none → Q (.ref D) H' → RR (.ref D) C (.ok .next) s') :
    wpAny (model X.prog X.w) X.A (newList []) (fun acc s₃ => wpAny (model X.prog X.w) X.A (newFunctionEnv scope X.env.globals (clos scope X.env) [] X.env.qual none .none (some X.env)) (fun cenv s₄ =>
      codeAny (model X.prog X.w) X.A (.compStart (.ListComp elt [⟨tg, iter, ifs, 0⟩] scope pos) 0 (.ref it) acc { cenv with scope := relabel scope X.env }) (RR acc cenv.locals) s₄) E s₃) E s := by
  refine wpAny_newObj_type (wpAny_newFunctionEnv S.nocell (by intro y hy; simp at hy) (fun h₁ hns₁ hsb₁ => ?_) S.kind)
  dsimp only at hns₁ hsb₁ ⊢
  generalize hH2 : s.heap.push { cls := .type "list", dict := none, data := .seq ([] : List Value).toArray } = H2 at hns₁ hsb₁ ⊢
  have hC : H2.objs.size = s.heap.objs.size + 1 := by rw [← hH2, Heap.size_push]
  have hDC : s.heap.objs.size ≠ H2.objs.size := by rw [hC]; exact Nat.ne_of_lt (Nat.lt_succ_self _)
  have hCle : s.heap.objs.size ≤ H2.objs.size := by rw [hC]; exact Nat.le_succ _
  have below : ∀ b, b < s.heap.objs.size → b ≠ H2.objs.size ∧ b ≠ s.heap.objs.size := fun b hb => ⟨by rw [hC]; exact Nat.ne_of_lt (Nat.lt_succ_of_lt hb), Nat.ne_of_lt hb⟩
  have old : ∀ b o, s.heap.get? b = some o → h₁.get? b = some o := fun b o e => hsb₁.extBut b o (below b (Heap.lt_size e)).1 (Heap.get?_push_of_some _ (hH2 ▸ Heap.get?_push_of_some _ e))
  have hacc : h₁.PlainList s.heap.objs.size #[] := ⟨_, hsb₁.extBut _ _ hDC (Heap.get?_push_of_some _ (hH2 ▸ Heap.get?_push_size _ rfl))⟩
  have hfl : ∀ b ∈ fp, b < s.heap.objs.size := fun b hb => by
    obtain ⟨o, e, _⟩ := T.obj _ _ st b hb
    exact Heap.lt_size e
  have hex : ∀ b ∈ fp, FpOk X pins H b ∧ b < s.heap.objs.size := fun b hb => ⟨hf b hb, hfl b hb⟩
  generalize hs4 : ({ s with heap := h₁, toks := s.toks + ([] : List (Str × Value)).length } : Shared) = s4
  generalize hX : cxC X scope (ls ++ fr.map (·.1)) H2.objs.size s H fp = Y
  have I4 : Inv Y [] (startC ls fr σ) H s4 := by
    rw [← hX, ← hs4]
    exact comp_inv S I hCle hex rfl I.bare old hns₁
  have YP : Y.prog = X.prog := by rw [← hX]; rfl
  have Yw : Y.w = X.w := by rw [← hX]; rfl
  have YK : Y.K = X.K := by rw [← hX]; rfl
  have YA : Y.A = X.A := by rw [← hX]; rfl
  have Yc : Y.calm = true := by rw [← hX]; exact hc
  have Yx : Y.xe = fun _ _ => False := by rw [← hX]; rfl
  have Yl : Y.env.locals = H2.objs.size := by rw [← hX]; rfl
  have Yok : (cxC X scope (ls ++ fr.map (·.1)) H2.objs.size s H fp).Ok := comp_ok S I hCle hex
  have fpY : ∀ {H' : Hp} {o : Obj}, (∀ b ∈ fp, H' b = none) → ∀ b ∈ fp, FpOk Y [(s.heap.objs.size, o)] H' b := fun {H' o} hn b hb => by
    rw [← hX]
    obtain ⟨f0, f1, f2, f3, f4, f5⟩ := hf b hb
    refine ⟨hn b hb, (below b (hfl b hb)).1, fun z => Yok.exfs b hb z, .inl hb, fun x c e => f4 x c (S.look I e), fun p hp => ?_⟩
    have e : p = (s.heap.objs.size, o) := by simpa [cxC] using hp
    subst e
    exact Ne.symm (below b (hfl b hb)).2
  have pinD : ∀ {σ' : St} {H' : Hp} {s' : Shared} {its : Array Value} {n : Nat}, Inv Y [] σ' H' s' → H' s.heap.objs.size = none → s'.heap.get? s.heap.objs.size = some { cls := .type "list", data := .seq its n } →
      Inv Y [(s.heap.objs.size, { cls := .type "list", data := .seq its n })] σ' H' s' := fun {σ' H' s' its n} I' hn e => I'.pins_of fun p hp => by
    have ep : p = (s.heap.objs.size, { cls := .type "list", data := .seq its n }) := by simpa using hp
    subst ep
    refine ⟨e, hn, by rw [Yl]; exact hDC, ?_, fun v z => nomatch z⟩
    rw [← hX]
    exact fun hb => I.nofs (Nat.le_refl _) ((List.mem_cons.mp (I.stkSub _ hb)).resolve_left fun z => absurd I.lt (by rw [← z]; exact Nat.lt_irrefl _))
  obtain ⟨W, ⟨m0, w0⟩, turn⟩ := hq
  have E1 : ∀ {α : Type} {t : Sem α} {Q1 : α → Shared → Prop} {s1 : Shared} {E1 : Value → Shared → Prop}, wpAny (model X.prog X.w) X.A t Q1 Y.xe s1 → wpAny (model X.prog X.w) X.A t Q1 E1 s1 := fun h => wpAny_mono h (fun _ _ z => z) fun _ _ z => by rw [Yx] at z; exact z.elim
  have endC : ∀ {σ' : St} {H' : Hp} {s' : Shared} {its : List Value} {ys : List V}, Inv Y [] σ' H' s' → H' s.heap.objs.size = none → s'.heap.PlainList s.heap.objs.size its.toArray → Vals ys its → ys.length ≤ sizeLine →
      (∀ p, H' p = none → Q (.ref p) (upd H' p (.lst ys))) → RR (.ref s.heap.objs.size) H2.objs.size (.ok .next) s' := fun {σ' H' s' its ys} I' hn ⟨n, e⟩ rv hz q => by
    subst hX
    obtain ⟨m, hm, _⟩ := id I'.loc
    have hCn : H' H2.objs.size = none := I'.free
    refine hRR _ _ s' (upd H' s.heap.objs.size (.lst ys)) m (I.call' I'.os (Un.add I'.base (Nat.le_refl _) hn) (I'.hok.add hn ⟨hz, its, n, rv, e⟩) I'.bare fun b hb => ?_) hm hCle (by rw [upd_ne (Ne.symm hDC)]; exact hCn) (q _ hn)
    obtain ⟨f0, f1, f2, f3, f4, f5⟩ := hf b hb
    exact ⟨f3, f1, f4, f5⟩
  have loop : codeAny (model X.prog X.w) X.A (.compLoop (.ListComp elt [⟨tg, iter, ifs, 0⟩] scope pos) 0 (.ref it) (.ref s.heap.objs.size) Y.env) (RR (.ref s.heap.objs.size) H2.objs.size) s4 := by
    refine comp_loop_any (fun n s' => ∃ (i : Nat) (σ' : St) (H' : Hp) (ys : List V) (its : List Value), Inv Y [] σ' H' s' ∧ tn i s'.heap ∧ (∀ b ∈ fp, H' b = none) ∧ H' s.heap.objs.size = none ∧ s'.heap.PlainList s.heap.objs.size its.toArray ∧ Vals ys its ∧ W i n ys σ' H') ?_ m0
      ⟨0, startC ls fr σ, H, [], [], I4, T.keep _ _ _ st fun b _ o e => by rw [← hs4]; exact old b o e, fun b hb => (hf b hb).1, I.hok.fresh (Nat.le_refl _), by rw [← hs4]; exact hacc, .nil, w0⟩
    rintro n s5 ⟨i, σ5, H5, ys, its, I5, st5, fr5, hn5, ⟨nn, e5⟩, rv, w5⟩
    have I5p := pinD I5 hn5 e5
    rcases turn i n ys σ5 H5 w5 with ⟨stop, hz, qn⟩ | ⟨go, hz, NN, hNN, step⟩
    · rw [← YA]
      refine thn (T.done Y YP Yw YK Yc i _ s5 σ5 H5 _ I5p (fpY fr5) st5 stop) fun r s6 ⟨hr, I6⟩ => ?_
      subst hr
      exact endC (I6.pins_of fun p hp => nomatch hp) hn5 ⟨nn, (I6.pin _ (List.mem_append_right _ List.mem_cons_self)).1⟩ rv hz qn
    · have hit := T.item Y YP Yw YK Yc i _ s5 σ5 H5 (notedBy (model X.prog X.w) X.A Y.env fun e s' => RR (Value.ref s.heap.objs.size) H2.objs.size (Except.error e) s') I5p (fpY fr5) st5 go
      rw [YA] at hit
      refine thn hit fun r s6 ⟨u, hr, h6⟩ => ?_
      subst hr
      refine thn h6 fun _ s7 ⟨x, H7, I7, r7, y7, st7, fr7⟩ => ?_
      have I7' := I7.pinned (fpY fr7) (T.obj _ _ st7)
      have h8 := hg H2.objs.size s H fp
      have h9 := ht H2.objs.size s H fp
      have h10 := he H2.objs.size s H fp
      rw [hX] at h8 h9 h10
      have a8 := h8 _ s7 σ5 H7 x u _ I7' r7 (step x H7 y7)
      rw [YP, Yw, YA] at a8
      refine thn (E1 a8) fun _ s8 ⟨σ8, H8, I8, q8⟩ => ?_
      have a9 := h9 _ s8 σ8 H8 _ I8 q8
      rw [YP, Yw, YA] at a9
      refine thn (E1 a9) fun b s9 ⟨H9, I9, q9⟩ => ?_
      have back : ∀ {σ' : St} {H' : Hp} {s' : Shared}, Inv Y ([(s.heap.objs.size, { cls := .type "list", data := .seq its.toArray nn })] ++ pinsAt fp s7.heap) σ' H' s' →
          tn (i + 1) s'.heap ∧ (∀ b ∈ fp, H' b = none) ∧ H' s.heap.objs.size = none ∧ s'.heap.PlainList s.heap.objs.size its.toArray := fun {σ' H' s'} I' => by
        have hp := I'.pin (s.heap.objs.size, { cls := .type "list", data := .seq its.toArray nn }) (List.mem_append_right _ (List.mem_append_left _ List.mem_cons_self))
        refine ⟨T.keep _ _ _ st7 fun b hb o e => (I'.pin (b, o) (List.mem_append_right _ (List.mem_append_right _ (mem_pinsAt hb e)))).1, fun b hb => ?_, hp.2.1, ⟨nn, hp.1⟩⟩
        obtain ⟨o, e, d⟩ := T.obj _ _ st7 b hb
        exact (I'.pin (b, o) (List.mem_append_right _ (List.mem_append_right _ (mem_pinsAt hb e)))).2.1
      cases b with
      | false =>
        rw [if_neg Bool.false_ne_true] at q9 ⊢
        obtain ⟨m', hm, w9⟩ := hNN _ _ _ q9
        obtain ⟨z1, z2, z3, z4⟩ := back I9
        exact ⟨m', hm, i + 1, σ8, H9, ys, its, I9.pins_of (fun p hp => nomatch hp), z1, z2, z3, z4, rv, w9⟩
      | true =>
        rw [if_pos rfl] at q9 ⊢
        have a10 := h10 _ s9 σ8 H9 _ I9 q9
        rw [YP, Yw, YA] at a10
        refine thn (E1 a10) fun xv s10 ⟨v, H10, I10, rx, q10⟩ => ?_
        obtain ⟨m', hm, w10⟩ := hNN _ _ _ q10
        obtain ⟨z1, z2, z3, z4⟩ := back I10
        have hlen : its.length = ys.length := (rv.length).symm
        refine wpAny_list_append_plain z4 (fun h' pl sb => ?_) (by rw [List.size_toArray, hlen]; exact hz)
        refine ⟨m', hm, i + 1, σ8, H10, ys ++ [v], its ++ [xv], ?_, ?_, z2, z3, ?_, rv.append (.cons rx .nil), w10⟩
        · have I10' : Inv Y [] σ8 H10 s10 := I10.pins_of fun p hp => nomatch hp
          refine I10'.turned (t' := s10.toks) (it := s.heap.objs.size) (fun b o hb e => (sb.2 b hb).trans e) z3 (by rw [Yl]; exact hDC) (.inr ?_) (fun x c e => ?_) fun p hp => ?_
          · rw [← hX]; exact Nat.le_refl _
          · rw [← hX] at e
            intro z
            obtain ⟨v0, q0⟩ := I.cell x c (S.look I e)
            exact absurd q0.lt (by rw [z]; exact Nat.lt_irrefl _)
          · rw [← hX] at hp; exact nomatch hp
        · refine T.keep _ _ _ z1 fun b hb o e => (sb.2 b (below b (hfl b hb)).2).trans e
        · have : (its ++ [xv]).toArray = its.toArray.push xv := by simp
          rw [this]; exact pl
  have hYe : Y.env = { newEnv scope H2.objs.size X.env.globals (clos scope X.env) X.env.qual none .none (some X.env) builtinsNs with scope := relabel scope X.env } := by rw [← hX]; rfl
  rw [← hYe]
  rw [hYe] at loop ⊢
  refine codeAny_compStart_list loop ?_
  exact T.self _ 0 _ _ _ (T.keep _ _ _ st fun b _ o e => by rw [← hs4]; exact old b o e) loop

/-- a comprehension as a value -/
theorem pe_comp {wi : TI} {tg elt iter : Expr} {ifs : List Expr} {pos : Pos} {g : TG} {tf : TT} {te : TE} (S : CScope X scope ls fr) (hc : X.calm = true) (hi : PI X tg iter wi)
    (hg : ∀ C s H ex, PG (cxC X scope (ls ++ fr.map (·.1)) C s H ex) tg g) (ht : ∀ C s H ex, PF (cxC X scope (ls ++ fr.map (·.1)) C s H ex) ifs tf) (he : ∀ C s H ex, PE (cxC X scope (ls ++ fr.map (·.1)) C s H ex) elt te)
    (hs : ∀ x, foldedSetIterable iter X.env x = pure x := by intro _; rfl) : PE X (.ListComp elt [⟨tg, iter, ifs, 0⟩] scope pos) (tComp wi ls fr g tf te) := by
  intro pins s σ H Q I h
  rw [eval_ListComp]
  refine wpAny_comprehension_free (use := none) rfl hs (closureFor_eq (S.cells I)) S.kind S.names (thn (hi pins s σ H _ I h) fun xv s₁ h₁ => thn h₁ fun itv s₂ h₂ => ?_)
  obtain ⟨it, fp, tn, J, H2, rfl, I2, T, st, hf, q⟩ := h₂
  refine comp_block (RR := fun acc C => compPost (model X.prog X.w) X.A X.xe none (EP X pins σ Q) acc C) S hc I2 T st hf q hg ht he ?_
  intro D C s' H' m I' hn hC hCn hq
  refine ⟨m, hn, fun h' sb => ?_⟩
  have nC : ∀ {b : Addr}, b < s₂.heap.objs.size → b ≠ C := fun hb => Nat.ne_of_lt (Nat.lt_of_lt_of_le hb hC)
  refine ⟨.ref D, H', I'.turned (t' := s'.toks) (it := C) (fun b o hb e => (sb.2 b hb).trans e) hCn (Ne.symm (nC I2.lt)) (.inr (Nat.le_trans I2.sz hC)) (fun x c e => ?_) fun p hp => ?_, rfl, hq⟩
  · obtain ⟨v0, q0⟩ := I2.cell x c e
    exact nC q0.lt
  · exact nC (Heap.lt_size (I2.pin p hp).1)
/-- x = [..] (the name is stored ahead of the block's end) -/
theorem ps_comp {wi : TI} {tg elt iter : Expr} {ifs : List Expr} {pos spos py : Pos} {y : Str} {i : Nat} {g : TG} {tf : TT} {te : TE} (S : CScope X scope ls fr) (hc : X.calm = true) (hi : PI X tg iter wi)
    (hg : ∀ C s H ex, PG (cxC X scope (ls ++ fr.map (·.1)) C s H ex) tg g) (ht : ∀ C s H ex, PF (cxC X scope (ls ++ fr.map (·.1)) C s H ex) ifs tf) (he : ∀ C s H ex, PE (cxC X scope (ls ++ fr.map (·.1)) C s H ex) elt te)
    (hN : X.N.Nodup) (hy : X.N[i]? = some y) (hl : X.env.scope.names.lookup y = some .local) (hsw : swapsWith (.ListComp elt [⟨tg, iter, ifs, 0⟩] scope pos) (some (.Name y py)) spos.line X.env = pure true)
    (hs : ∀ x, foldedSetIterable iter X.env x = pure x := by intro _; rfl) : PS X (.Assign [.Name y py] (.ListComp elt [⟨tg, iter, ifs, 0⟩] scope pos) spos) (tAsg (tComp wi ls fr g tf te) (gName i)) := by
  intro pins s σ H D I h
  rw [exec_Assign_Name_used _ _ _ _ hsw]
  refine wpAny_bind (wpAny_standAt (wpAny_bind ?_))
  show wpAny _ X.A (do let _ ← comprehension (.ListComp elt [⟨tg, iter, ifs, 0⟩] scope pos) scope X.env _ (newList []) false (eval iter X.env) (some (assign (.Name y py) X.env))) _ _ s
  refine wpAny_bind (wpAny_mono (wpAny_comprehension_free (use := some (assign (.Name y py) X.env)) (Q := fun _ s' => SP X pins D .next s') rfl hs (closureFor_eq (S.cells I)) S.kind S.names
    (thn (hi pins s σ H _ I h) fun xv s₁ h₁ => thn h₁ fun itv s₂ h₂ => ?_)) (fun _ s' hq => wpAny_pure (wpAny_pure hq)) fun _ _ e => e)
  obtain ⟨it, fp, tn, J, H2, rfl, I2, T, st, hf, q⟩ := h₂
  refine comp_block (RR := fun acc C => compPost (model X.prog X.w) X.A X.xe (some (assign (.Name y py) X.env)) (fun _ s' => SP X pins D .next s') acc C) S hc I2 T st hf q hg ht he ?_
  intro D1 C s' H' m I' hn hC hCn hq
  have nC : ∀ {b : Addr}, b < s₂.heap.objs.size → b ≠ C := fun hb => Nat.ne_of_lt (Nat.lt_of_lt_of_le hb hC)
  have cC : ∀ x c, X.env.cells.lookup x = some c → c ≠ C := fun x c e => by
    obtain ⟨v0, q0⟩ := I2.cell x c e
    exact nC q0.lt
  show wpAny _ X.A (assign (.Name y py) X.env (.ref D1)) _ _ _
  refine wpAny_assign_Name (store_ok2 I' hN hy (.inl hl) (v := .ref D1) rfl (fun s3 I3 hsb => ?_) (.inr hl))
  obtain ⟨a, sb1, ha⟩ := hsb
  have haC : C ≠ a := by
    rcases ha with rfl | e
    · exact Ne.symm (nC I2.lt)
    · exact Ne.symm (cC _ _ e)
  refine ⟨m, hn.sameBut sb1 haC, fun h' sb => ⟨_, H', I3.turned (t' := s3.toks) (it := C) (fun b o hb e => (sb.2 b hb).trans e) hCn (Ne.symm (nC I2.lt)) (.inr (Nat.le_trans I2.sz hC)) cC fun p hp => nC (Heap.lt_size (I2.pin p hp).1), hq⟩⟩
end

/-! ### the forms one uses -/
theorem comp_list {K : PySem.W.Frag} {a : Addr} {xs : List V} {g : TG} {tf : TT} {te : TE} {σ : St} {H : Hp} {Q : VK} (Pv : Nat → List V → St → Hp → Prop) (h0 : Pv 0 [] σ H) (hl : ∀ i ys σ H, i ≤ xs.length → Pv i ys σ H → SqL K H a xs ∧ ys.length ≤ sizeLine)
    (hs : ∀ i x ys σ H, xs[i]? = some x → Pv i ys σ H → g x σ H fun σ2 H2 => tf σ2 H2 fun b H3 => if b = true then te σ2 H3 fun v H4 => Pv (i + 1) (ys ++ [v]) σ2 H4 else Pv (i + 1) ys σ2 H3)
    (hd : ∀ ys σ H, Pv xs.length ys σ H → ∀ p, H p = none → Q (.ref p) (upd H p (.lst ys))) : tCompK g tf te σ (Itl K a) H Q := by
  refine ⟨fun i m ys σ H => m = xs.length - i ∧ i ≤ xs.length ∧ Pv i ys σ H, ⟨xs.length, by simp, Nat.zero_le _, h0⟩, ?_⟩
  rintro i m ys σ H ⟨rfl, hi, p⟩
  obtain ⟨q, hz⟩ := hl i ys σ H hi p
  by_cases hlt : i < xs.length
  · refine .inr ⟨⟨xs, xs[i], q, by simp [hlt]⟩, hz, Pv (i + 1), fun ys' σ' H' p' => ⟨xs.length - (i + 1), by omega, rfl, hlt, p'⟩, fun x H' y => ?_⟩
    obtain ⟨e, y⟩ := y
    subst e
    exact hs i x ys σ _ (y xs q) p
  · have e : i = xs.length := by omega
    subst e
    exact .inl ⟨⟨xs, q, Nat.le_refl _⟩, hz, hd ys σ H p⟩
theorem comp_tup {K : PySem.W.Frag} {a : Addr} {xs : List V} {g : TG} {tf : TT} {te : TE} {σ : St} {H : Hp} {Q : VK} (Pv : Nat → List V → St → Hp → Prop) (h0 : Pv 0 [] σ H) (hl : ∀ i ys σ H, i ≤ xs.length → Pv i ys σ H → SqT K H a xs ∧ ys.length ≤ sizeLine)
    (hs : ∀ i x ys σ H, xs[i]? = some x → Pv i ys σ H → g x σ H fun σ2 H2 => tf σ2 H2 fun b H3 => if b = true then te σ2 H3 fun v H4 => Pv (i + 1) (ys ++ [v]) σ2 H4 else Pv (i + 1) ys σ2 H3)
    (hd : ∀ ys σ H, Pv xs.length ys σ H → ∀ p, H p = none → Q (.ref p) (upd H p (.lst ys))) : tCompK g tf te σ (Itt K a) H Q := by
  refine ⟨fun i m ys σ H => m = xs.length - i ∧ i ≤ xs.length ∧ Pv i ys σ H, ⟨xs.length, by simp, Nat.zero_le _, h0⟩, ?_⟩
  rintro i m ys σ H ⟨rfl, hi, p⟩
  obtain ⟨q, hz⟩ := hl i ys σ H hi p
  by_cases hlt : i < xs.length
  · refine .inr ⟨⟨xs, xs[i], q, by simp [hlt]⟩, hz, Pv (i + 1), fun ys' σ' H' p' => ⟨xs.length - (i + 1), by omega, rfl, hlt, p'⟩, fun x H' y => ?_⟩
    obtain ⟨e, y⟩ := y
    subst e
    exact hs i x ys σ _ (y xs q) p
  · have e : i = xs.length := by omega
    subst e
    exact .inl ⟨⟨xs, q, Nat.le_refl _⟩, hz, hd ys σ H p⟩
theorem comp_range {lo : Int} {n : Nat} {g : TG} {tf : TT} {te : TE} {σ : St} {H : Hp} {Q : VK} (Pv : Nat → List V → St → Hp → Prop) (h0 : Pv 0 [] σ H) (hl : ∀ i ys σ H, i ≤ n → Pv i ys σ H → ys.length ≤ sizeLine)
    (hs : ∀ i ys σ H, i < n → Pv i ys σ H → g (.int (lo + i)) σ H fun σ2 H2 => tf σ2 H2 fun b H3 => if b = true then te σ2 H3 fun v H4 => Pv (i + 1) (ys ++ [v]) σ2 H4 else Pv (i + 1) ys σ2 H3)
    (hd : ∀ ys σ H, Pv n ys σ H → ∀ p, H p = none → Q (.ref p) (upd H p (.lst ys))) : tCompK g tf te σ (Itr lo n) H Q := by
  refine ⟨fun i m ys σ H => m = n - i ∧ i ≤ n ∧ Pv i ys σ H, ⟨n, by simp, Nat.zero_le _, h0⟩, ?_⟩
  rintro i m ys σ H ⟨rfl, hi, p⟩
  have hz := hl i ys σ H hi p
  by_cases hlt : i < n
  · refine .inr ⟨hlt, hz, Pv (i + 1), fun ys' σ' H' p' => ⟨n - (i + 1), by omega, rfl, hlt, p'⟩, fun x H' y => ?_⟩
    obtain ⟨e, y⟩ := y
    subst e y
    exact hs i ys σ _ hlt p
  · have e : i = n := by omega
    subst e
    exact .inl ⟨Nat.le_refl _, hz, hd ys σ H p⟩

/-- the scope's conditions, to be decided -/
def cscopeB (sc : Scope) (N : List Str) (scope : Scope) (fr : List (Str × Nat)) : Bool :=
  (scope.kind == .function) && scope.names.all (fun y => y.2 != .cell) && scope.names.all (fun y => y.2 != .local || scope.names.lookup y.1 == some .local) &&
  scope.names.all (fun y => y.2 != .free || sc.names.lookup y.1 == some .cell || sc.names.lookup y.1 == some .free) && fr.all (fun p => N[p.2]? == some p.1 && scope.names.lookup p.1 == some .free)
theorem cs_of {X : Cx} {scope : Scope} {ls : List Str} {fr : List (Str × Nat)} (sc : Scope) (N : List Str) (h1 : X.env.scope = sc) (h2 : X.N = N) (h : cscopeB sc N scope fr = true) : CScope X scope ls fr := by
  subst h1 h2
  simp only [cscopeB, Bool.and_eq_true, List.all_eq_true, Bool.or_eq_true, bne_iff_ne, beq_iff_eq, ne_eq] at h
  obtain ⟨⟨⟨⟨a, b⟩, c⟩, d⟩, e⟩ := h
  refine ⟨a, b, fun y hy hk => (c y hy).resolve_left fun z => z hk, fun y hy hk => ?_, e⟩
  rcases d y hy with (z | z) | z
  · exact absurd hk z
  · exact .inl z
  · exact .inr z
theorem pgc {X : Cx} {scope : Scope} {ls : List Str} {fr : List (Str × Nat)} {C : Addr} {s : Shared} {H : Hp} {ex : List Addr} {x : Str} {pos : Pos} (i : Nat) (hN : (ls ++ fr.map (·.1)).Nodup) (hi : (ls ++ fr.map (·.1))[i]? = some x) (hx : scope.names.lookup x = some .local) :
    PG (cxC X scope (ls ++ fr.map (·.1)) C s H ex) (.Name x pos) (gName i) :=
  pg_name hN hi (.inl (lookup_relabel_local hx)) (.inr (lookup_relabel_local hx))
/-- names within a block, to be decided over the two scopes -/
def relN (scope sc : Scope) : List (Str × NameKind) := scope.names.map fun (n, k) => if (k == .free && sc.kind == .function && sc.names.lookup n == some .cell) then (n, .cell) else (n, k)
def visB (scope sc : Scope) (x : Str) : Bool := match (relN scope sc).lookup x with | some .local => true | some .cell => true | some .free => true | _ => false
theorem pvc (sc : Scope) (i : Nat) {X : Cx} {scope : Scope} {N : List Str} {C : Addr} {s : Shared} {H : Hp} {ex : List Addr} {x : Str} {pos : Pos} (hN : N[i]? = some x := by rfl) (hs : X.env.scope = sc := by rfl) (hv : visB scope sc x = true := by decide +kernel)
    (hd : (x == ("__debug__" : Str)) = false := by decide +kernel) (hcd : (x == ("__classdict__" : Str)) = false := by decide +kernel) : PE (cxC X scope N C s H ex) (.Name x pos) (tVar i) := by
  subst hs
  refine pe_var hN ?_ hd hcd
  have hv' : visB scope X.env.scope x = true := hv
  unfold visB at hv'
  show (relN scope X.env.scope).lookup x = some .local ∨ (relN scope X.env.scope).lookup x = some .cell ∨ (relN scope X.env.scope).lookup x = some .free
  split at hv'
  · rename_i e; exact .inl e
  · rename_i e; exact .inr (.inl e)
  · rename_i e; exact .inr (.inr e)
  · cases hv'
theorem glc (sc : Scope) {X : Cx} {scope : Scope} {N : List Str} {C : Addr} {s : Shared} {H : Hp} {ex : List Addr} {x : Str} (hs : X.env.scope = sc := by rfl) (h : ((relN scope sc).lookup x == some .globalImplicit) = true := by decide +kernel) : Gl (cxC X scope N C s H ex) x := by
  subst hs
  exact eq_of_beq h
end L2

set_option Elab.async false
set_option linter.all false
set_option maxRecDepth 100000
namespace L2
open PySem PySem.Spec PyProof.Rows

/-! ### ints sorted falling -/
def insD (x : Int) : List Int → List Int
  | [] => [x]
  | y :: r => if y ≤ x then x :: y :: r else y :: insD x r
def sortD : List Int → List Int
  | [] => []
  | x :: r => insD x (sortD r)
theorem insD_perm (x : Int) : ∀ l : List Int, (insD x l).Perm (x :: l)
  | [] => .refl _
  | y :: r => by
    unfold insD
    split
    · exact .refl _
    · exact ((insD_perm x r).cons y).trans (.swap x y r)
theorem sortD_perm : ∀ l : List Int, (sortD l).Perm l
  | [] => .refl _
  | x :: r => (insD_perm x _).trans ((sortD_perm r).cons x)
theorem insD_pw (x : Int) : ∀ {l : List Int}, l.Pairwise (· ≥ ·) → (insD x l).Pairwise (· ≥ ·)
  | [], _ => by simp [insD]
  | y :: r, h => by
    obtain ⟨h1, h2⟩ := List.pairwise_cons.mp h
    unfold insD
    split
    · rename_i hy
      refine List.pairwise_cons.mpr ⟨fun z hz => ?_, h⟩
      rcases List.mem_cons.mp hz with rfl | hz
      · exact hy
      · exact Int.le_trans (h1 z hz) hy
    · rename_i hy
      refine List.pairwise_cons.mpr ⟨fun z hz => ?_, insD_pw x h2⟩
      rcases List.mem_cons.mp ((insD_perm x r).mem_iff.mp hz) with rfl | hz
      · show z ≤ y
        omega
      · exact h1 z hz
theorem sortD_pw : ∀ l : List Int, (sortD l).Pairwise (· ≥ ·)
  | [] => .nil
  | x :: r => insD_pw x (sortD_pw r)
theorem perm_ge_eq {a b : List Int} (ha : a.Pairwise (· ≥ ·)) (hb : b.Pairwise (· ≥ ·)) (p : a.Perm b) : a = b :=
  p.eq_of_pairwise (le := fun x y => x ≥ y) (fun x y _ _ h1 h2 => Int.le_antisymm h2 h1) ha hb
theorem sortD_eq {a l : List Int} (p : a.Perm l) (h : a.Pairwise (· ≥ ·)) : a = sortD l := perm_ge_eq h (sortD_pw l) (p.trans (sortD_perm l).symm)
theorem sortD_length (l : List Int) : (sortD l).length = l.length := (sortD_perm l).length_eq

section
variable {prog : Program} {w : World} {A : Around} {E : Value → Shared → Prop} {s : Shared}
theorem sorted_ints_revT {l : Addr} {vs : List Value} {ns : List Int} {b : Bool} {Q : Value → Shared → Prop} (hl : IsTup s.heap l vs.toArray) (hI : IntsAre vs ns) (h64 : vs.length < 64)
    (h : ∀ (out : List Value) (n : Nat) (h1 h' : Heap) (ns' : List Int), (∀ b o, s.heap.get? b = some o → h1.get? b = some o) → (∀ b o, h1.get? b = some o → h'.get? b = some o) → h'.get? h1.objs.size = some (seqObj "list" out.toArray n) → IntsAre out ns' → ns'.Perm ns → Ordered b ns' → Q (.ref h1.objs.size) { s with heap := h' }) :
    wpAny (model prog w) A (call (.builtin "sorted") [.ref l] [(Str.ofString "reverse", .bool b)]) Q E s := by
  refine call_function_entry_kw kind_sorted plain_sorted entry_sorted (args_sorted_rev _ _) ?_
  unfold Builtin.«sorted»
  refine wpAny_bind (m := checkCount "sorted" 1 1 _) (wpAny_pure ?_)
  obtain ⟨o, ho, hc, n, hd⟩ := hl
  refine wpAny_bind (wpAny_collect_seq l (.inr rfl) ho hc hd (fun h1 hk1 => ?_) (by simp [sizeLine_eq]; omega))
  refine wpAny_bind (wpAny_newList ?_)
  have hoL : (h1.push (seqObj "list" vs.toArray 0)).get? h1.objs.size = some (seqObj "list" vs.toArray 0) := Heap.get?_push_size _ rfl
  refine wpAny_bind (wpAny_holding (wpAny_call_entry_kw slot_list_sort ⟨_, hoL, rfl⟩ entry_list_sort (list_sort_tree_rev hoL hI h64 fun out ns' a1 a2 a3 => ⟨_, rfl, ?_⟩) (args_list_sort_rev _ _)))
  obtain ⟨e, he⟩ := sortedHeap_at (vs := vs) (out := out) hoL
  refine wpAny_pure ⟨_, rfl, h out.toList e h1 _ ns' hk1 (fun b o hb => ?_) he a1 a2 a3⟩
  have hlt := Heap.lt_size hb
  rw [sortedHeap_old (Nat.ne_of_lt hlt) (by rw [Heap.size_push]; exact Nat.lt_succ_of_lt hlt)]
  exact Heap.get?_push_of_some _ hb
end

section
variable {X : Cx}
def rSortR (K : PySem.W.Frag) (b : Bool) : V → Hp → VK → Prop := fun x H Q => ∃ a ns, x = .ref a ∧ (SqL K H a (ns.map V.int) ∨ SqT K H a (ns.map V.int)) ∧ ns.length < 64 ∧ ∀ ns' p, ns'.Perm ns → Ordered b ns' → H p = none → Q (.ref p) (upd H p (.lst (ns'.map V.int)))
def tSortR (K : PySem.W.Frag) (b : Bool) (te : TE) : TE := fun σ H Q => te σ H fun x H1 => rSortR K b x H1 Q
theorem small64 {n : Nat} (h : n < 64) : n ≤ sizeLine := Nat.le_trans (Nat.le_of_lt h) (by decide)
/-- sorted(e, reverse=True) -/
theorem pe_sortR {e : Expr} {te : TE} {b : Bool} {p kp cp pos : Pos} {j : Nat} (hg : Gl X "sorted") (hm : X.mg "sorted" = none) (he : PE X e te)
    (hse : starEach [e] X.env = [(false, eval e X.env)] := by rfl) : PE X (.Call (.Name "sorted" p) [e] [⟨some "reverse", .Constant (.bool b) j cp, kp⟩] pos) (tSortR X.K b te) := by
  intro pins s σ H Q I h
  refine wpAny_Call_Name_kw (ld_blt I hg hm boot_sorted ?_ (by decide) (by decide))
  refine callWith_kw (thn (pa_cons he pa_nil hse pos pins s σ H (fun vs H1 => match vs with | [x] => rSortR X.K b x H1 Q | _ => False) I h) fun us s1 ⟨vs, H1, I1, r1, q1⟩ => ?_) (by rw [hse]; rfl) (by rw [hse]; rfl)
  match vs, r1, q1 with
  | [x], r1, q =>
    obtain ⟨u, rfl, ru⟩ := vals1 r1
    refine kws_cons (Constant_bool (kws_nil ?_))
    obtain ⟨a, ns, rfl, hq, hl, q⟩ := q
    cases ru
    show wpAny _ _ (call (.builtin "sorted") [.ref a] [(Str.ofString "reverse", .bool b)]) _ _ _
    rcases hq with hq | hq
    · obtain ⟨its, r', pl, hz⟩ := I1.list hq
      have hlen := r'.length
      rw [List.length_map] at hlen
      refine sorted_ints_rev pl.isList (intsAre_of r') (by omega) fun out ns' a1 a2 a3 => ?_
      obtain ⟨n, hn⟩ := sortedAll_at s1.heap its out
      have hz' : (ns'.map V.int).length ≤ sizeLine := by rw [List.length_map, a2.length_eq]; exact small64 hl
      exact ⟨.ref _, _, I1.laid (t' := s1.toks) (fun _ _ => sortedAll_old) (Nat.le_succ _) (show ObjOk X.prog X.w _ _ _ (.lst (ns'.map V.int)) from ⟨hz', out.toList, n, vals_ints a1, by simpa [seqObj] using hn⟩), rfl, q ns' _ a2 a3 (I1.hok.fresh (Nat.le_succ _))⟩
    · obtain ⟨its, r', pl, hz⟩ := I1.tuple hq
      have hlen := r'.length
      rw [List.length_map] at hlen
      refine sorted_ints_revT pl (intsAre_of r') (by omega) fun out n h1 h' ns' k1 k2 e a1 a2 a3 => ?_
      have hz' : (ns'.map V.int).length ≤ sizeLine := by rw [List.length_map, a2.length_eq]; exact small64 hl
      have I2 : Inv X pins σ H1 { s1 with heap := h1 } := I1.kept (t' := s1.toks) k1
      exact ⟨.ref _, _, I2.laid (t' := s1.toks) k2 (Nat.le_refl _) (show ObjOk X.prog X.w _ _ _ (.lst (ns'.map V.int)) from ⟨hz', out, n, vals_ints a1, by simpa [seqObj] using e⟩), rfl, q ns' _ a2 a3 (I2.hok.fresh (Nat.le_refl _))⟩

theorem vals_int_at {ns : List Int} {its : List Value} (r : Vals (ns.map V.int) its) (i : Nat) (v : Value) (e : its.toArray[i]? = some v) : ∃ t, v = .int (ns.getD i 0) t := by
  have e' : its[i]? = some v := by simpa using e
  have hi : i < its.length := (List.getElem?_eq_some_iff.mp e').1
  have hl := r.length
  rw [List.length_map] at hl
  have hx : (ns.map V.int)[i]? = some (V.int (ns.getD i 0)) := by
    have hi' : i < ns.length := by omega
    simp [hi']
  obtain ⟨u, hu, t, rfl⟩ := r.get hx
  rw [e'] at hu
  cases hu
  exact ⟨t, rfl⟩
/-! ### x.count(y) over flat items -/
def cntV (y : V) (xs : List V) : Nat := xs.countP fun x => eqV x y
theorem cnt_eqU {x : V} : ∀ {xs : List V} {us : List Value}, Vals xs us → xs.all flatV = true → us.countP (eqU x) = cntV x xs
  | _, _, .nil, _ => rfl
  | y :: xs, u :: us, .cons r t, f => by
    rw [List.all_cons, Bool.and_eq_true] at f
    unfold cntV
    rw [List.countP_cons, List.countP_cons, eqU_of r f.1, cnt_eqU t f.2]
    rfl
def rCount (K : PySem.W.Frag) (SQ : PySem.W.Frag → Hp → Addr → List V → Prop) : V → List V → Hp → VK → Prop := fun x vs H Q => ∃ a xs y, x = .ref a ∧ vs = [y] ∧ SQ K H a xs ∧ flatV y = true ∧ xs.all flatV = true ∧ Q (.int (cntV y xs)) H
theorem mt_countT : MtR X "tuple.count" (rCount X.K SqT) := by
  intro pins s σ H x vs v us Q I rx rv h
  obtain ⟨a, xs, y, rfl, rfl, hq, fy, fs, q⟩ := h
  cases rx
  obtain ⟨u, rfl, ru⟩ := rv.one
  obtain ⟨its, r, pl, hz⟩ := I.tuple hq
  obtain ⟨o, ho, hc, n, hd⟩ := pl
  obtain ⟨c, dd, dt, sl⟩ := o
  cases hc
  cases hd
  refine call_meets F.slot_tuple_count ⟨_, ho, rfl⟩ F.entry_tuple_count (F.args_tuple_count_2 _ _) (SeqAt.tuple_countAt a its.toArray n dd sl u (eqU y)) ⟨ho, fun w hw => mem_eqAt ru fy r fs w (by simpa using hw), ?_⟩
  refine ⟨.int _, H, I.tok _, ⟨s.toks, ?_⟩, q⟩
  rw [show its.toArray.toList = its from rfl, cnt_eqU r fs]
theorem mt_countL : MtR X "list.count" (rCount X.K SqL) := by
  intro pins s σ H x vs v us Q I rx rv h
  obtain ⟨a, xs, y, rfl, rfl, hq, fy, fs, q⟩ := h
  cases rx
  obtain ⟨u, rfl, ru⟩ := rv.one
  obtain ⟨its, r, pl, hz⟩ := I.list hq
  obtain ⟨o, ho, hc, n, hd⟩ := pl.isList
  obtain ⟨c, dd, dt, sl⟩ := o
  cases hc
  cases hd
  refine call_meets F.slot_list_count ⟨_, ho, rfl⟩ F.entry_list_count (F.args_list_count_2 _ _) (SeqAt.list_countAt a its.toArray n dd sl u (eqU y)) ⟨ho, fun w hw => mem_eqAt ru fy r fs w (by simpa using hw), ?_⟩
  refine ⟨.int _, H, I.tok _, ⟨s.toks, ?_⟩, q⟩
  rw [show its.toArray.toList = its from rfl, cnt_eqU r fs]
theorem cntV_ints (k : Int) (ns : List Int) : cntV (.int k) (ns.map V.int) = ns.count k := by
  unfold cntV
  rw [List.countP_map, List.count_eq_countP]
  congr 1
theorem flat_ints (ns : List Int) : (ns.map V.int).all flatV = true := by
  rw [List.all_map]; simp [flatV]

/-! ### isinstance(x, T), T a built-in type -/
theorem call_isi : CallR X (.builtin "isinstance") (fun xs H Q => ∃ x T t b, xs = [x, .ty T] ∧ TyOf X.K H x t ∧ PySem.W.kitOne X.K t (.type T) = some b ∧ Q (.bl b) H) := by
  intro pins s σ H xs us Q I r h
  obtain ⟨x, T, t, b, rfl, ty, hk, q⟩ := h
  obtain ⟨u, v, rfl, ru, rv⟩ := vals2 r
  cases (show v = Value.type T from rv)
  exact isinst_ok I ru ty hk fun tk => ⟨.bl b, H, I.tok tk, rfl, q⟩
end
/-! ### which built-in type lies beneath which -/
theorem kit_int_int {K : PySem.W.Frag} : PySem.W.kitOne K (.type "int") (.type "int") = some true := by unfold PySem.W.kitOne; rw [if_pos (by decide +kernel)]
theorem kit_int_bool {K : PySem.W.Frag} : PySem.W.kitOne K (.type "int") (.type "bool") = some false := by
  unfold PySem.W.kitOne
  rw [if_neg (by decide +kernel)]
  rfl
theorem kit_bool_bool {K : PySem.W.Frag} : PySem.W.kitOne K (.type "bool") (.type "bool") = some true := by unfold PySem.W.kitOne; rw [if_pos (by decide +kernel)]
theorem kit_tup_tup {K : PySem.W.Frag} : PySem.W.kitOne K (.type "tuple") (.type "tuple") = some true := by unfold PySem.W.kitOne; rw [if_pos (by decide +kernel)]
theorem kit_list_list {K : PySem.W.Frag} : PySem.W.kitOne K (.type "list") (.type "list") = some true := by unfold PySem.W.kitOne; rw [if_pos (by decide +kernel)]
end L2

set_option Elab.async false
set_option linter.all false
set_option maxRecDepth 100000
namespace L2
open PySem PySem.Spec PyProof.Rows
/-! ### the drawn state: [great, rest, cells, count] -/
theorem noPylong_big {x y : Int} (h0 : 0 < y) (h : y ≤ 10 ^ 100) : Builtin.divisionGoesByPylong x y = false := by
  refine PyProof.noPylong_of_log2 ?_
  have hn : y.natAbs ≠ 0 := by omega
  have h1 : y.natAbs ≤ 10 ^ 100 := by omega
  refine (Nat.log2_lt hn).mpr (Nat.lt_of_le_of_lt h1 (by decide +kernel))
def CDivB (i j : Int) : Prop := 0 < j ∧ j ≤ 10 ^ 100
theorem op_fdivB {X : Cx} : OpR X (binaryOp .FloorDiv) (rI CDivB fun i j => .int (i / j)) := opI fun i j _ _ _ _ _ hc q => by
  refine floordiv_int (by have := hc.1; omega) ?_ (.inl (noPylong_big hc.1 hc.2))
  rw [Int.fdiv_eq_ediv_of_nonneg _ (Int.le_of_lt hc.1)]
  exact q
theorem get_list {X : Cx} : PGet X (fun x y H Q => ∃ p xs i v, x = .ref p ∧ y = .int i ∧ SqL X.K H p xs ∧ 0 ≤ i ∧ xs[i.toNat]? = some v ∧ Q v H) := by
  intro pins s σ H o i ov iv Q I ro ri h
  obtain ⟨p, xs, k, v, rfl, rfl, hq, h0, hv, q⟩ := h
  cases ro
  obtain ⟨t, rfl⟩ := ri
  obtain ⟨its, r, pl, hz⟩ := I.list hq
  have hlen := r.length
  have hn := line63
  obtain ⟨u, hu, ru⟩ := r.get hv
  have hk := (List.getElem?_eq_some_iff.mp hv).1
  exact wpAny_getItem_list pl.isList h0 (by omega) (by simpa using hu) ⟨v, H, I, ru, q⟩

/-- what holds between two statements -/
theorem seqJoin {A B : TS} {D : Ends} {σ : St} {H : Hp} (R : St → Hp → Prop) (h : ∀ nx : St → Hp → Prop, (∀ σ' H', R σ' H' → nx σ' H') → A { D with nx := nx } σ H) (hR : ∀ σ' H', R σ' H' → B D σ' H') : tSeq A B D σ H := h (B D) hR
/-- what may change is at S alone -/
def Keep (S : List Addr) (H H' : Hp) : Prop := ∀ b o, H b = some o → b ∉ S → H' b = some o
theorem Keep.refl (S : List Addr) (H : Hp) : Keep S H H := fun _ _ h _ => h
theorem Keep.trans {S : List Addr} {H H1 H2 : Hp} (a : Keep S H H1) (b : Keep S H1 H2) : Keep S H H2 := fun c o h n => b c o (a c o h n) n
theorem Keep.set {S : List Addr} {H : Hp} {p : Addr} {o : HO} (h : p ∈ S) : Keep S H (upd H p o) := fun b u e n => by
  have hb : b ≠ p := fun z => n (by rw [z]; exact h)
  rw [upd_ne hb]; exact e
theorem Same.keep {S : List Addr} {H H' : Hp} (h : Same H H') : Keep S H H' := fun b o e _ => h b o e
structure StAt (H : Hp) (st ga ca : Addr) (N : Nat) : Prop where
  ex : ∃ (gs cs : List Int) (q n : Int), H st = some (.lst [.ref ga, .int q, .ref ca, .int n]) ∧ H ga = some (.lst (gs.map V.int)) ∧ H ca = some (.lst (cs.map V.int)) ∧
    gs.length ≤ 63 ∧ (∀ x ∈ gs, 0 < x) ∧ 0 ≤ q ∧ 0 ≤ n ∧ n ≤ N
  gc : ga ≠ ca
  sg : st ≠ ga
  sc : st ≠ ca
theorem StAt.nin {H : Hp} {st ga ca : Addr} {N : Nat} (S : StAt H st ga ca N) {p : Addr} (h : H p = none) : p ∉ [st, ga] := by
  obtain ⟨gs, cs, q, n, h1, h2, _⟩ := S.ex
  intro z
  rcases List.mem_cons.mp z with rfl | z
  · rw [h1] at h; cases h
  · rcases List.mem_cons.mp z with rfl | z
    · rw [h2] at h; cases h
    · cases z
theorem StAt.mono {H : Hp} {st ga ca : Addr} {N M : Nat} (S : StAt H st ga ca N) (h : N ≤ M) : StAt H st ga ca M := by
  obtain ⟨gs, cs, q, n, h1, h2, h3, h4, h5, h6, h7, h8⟩ := S.ex
  exact ⟨⟨gs, cs, q, n, h1, h2, h3, h4, h5, h6, h7, by omega⟩, S.gc, S.sg, S.sc⟩
theorem StAt.same {H H' : Hp} {st ga ca : Addr} {N : Nat} (S : StAt H st ga ca N) (h : Same H H') : StAt H' st ga ca N := by
  obtain ⟨gs, cs, q, n, h1, h2, h3, r⟩ := S.ex
  exact ⟨⟨gs, cs, q, n, h _ _ h1, h _ _ h2, h _ _ h3, r⟩, S.gc, S.sg, S.sc⟩
theorem Same.new {H : Hp} {p : Addr} {o : HO} (h : H p = none) : Same H (upd H p o) := fun b u e => by rw [upd_ne (ne_of_none e h)]; exact e
theorem Keep.at {S : List Addr} {H H' : Hp} (k : Keep S H H') {b : Addr} {o : HO} (h : H b = some o) (n : b ∉ S) : H' b = some o := k b o h n
theorem Keep.free {S : List Addr} {H H' : Hp} (k : Keep S H H') {b : Addr} (h : H' b = none) (n : b ∉ S) : H b = none := by
  cases q : H b with
  | none => rfl
  | some o => rw [k b o q n] at h; cases h
theorem map_at {ns : List Int} {i : Nat} {x : V} (h : (ns.map V.int)[i]? = some x) : ∃ z, ns[i]? = some z ∧ x = .int z := by
  rw [List.getElem?_map] at h
  cases hn : ns[i]? with
  | none => rw [hn] at h; cases h
  | some z => rw [hn] at h; exact ⟨z, rfl, (Option.some.inj h).symm⟩
/-- one heap lies in another -/
def lies (ns ms : List Int) : Bool := ns.all fun x => decide (ns.count x ≤ ms.count x)
theorem all_take {α : Type} {p : α → Bool} {l : List α} {i : Nat} {x : α} (hx : l[i]? = some x) : (l.take (i + 1)).all p = ((l.take i).all p && p x) := by
  have hi := (List.getElem?_eq_some_iff.mp hx).1
  have ex := (List.getElem?_eq_some_iff.mp hx).2
  rw [List.take_succ_eq_append_getElem hi, List.all_append, ex]
  simp
theorem all_false {α : Type} {p : α → Bool} {l : List α} {x : α} (hx : x ∈ l) (h : p x = false) : l.all p = false := by
  rw [List.all_eq_false]
  exact ⟨x, hx, by simp [h]⟩
theorem StAt.nin3 {H : Hp} {st ga ca : Addr} {N : Nat} (S : StAt H st ga ca N) {p : Addr} (h : H p = none) : p ∉ [st, ga, ca] := by
  obtain ⟨gs, cs, q, n, h1, h2, h3, _⟩ := S.ex
  intro z
  simp only [List.mem_cons, List.not_mem_nil, or_false] at z
  rcases z with rfl | rfl | rfl
  · rw [h1] at h; cases h
  · rw [h2] at h; cases h
  · rw [h3] at h; cases h
theorem StAt.upd {H : Hp} {st ga ca : Addr} {N : Nat} {p : Addr} {o : HO} (S : StAt H st ga ca N) (h : p ∉ [st, ga, ca]) : StAt (upd H p o) st ga ca N := by
  obtain ⟨gs, cs, q, n, h1, h2, h3, r⟩ := S.ex
  have n1 : st ≠ p := fun z => h (by simp [z])
  have n2 : ga ≠ p := fun z => h (by simp [z])
  have n3 : ca ≠ p := fun z => h (by simp [z])
  exact ⟨⟨gs, cs, q, n, by rw [upd_ne n1]; exact h1, by rw [upd_ne n2]; exact h2, by rw [upd_ne n3]; exact h3, r⟩, S.gc, S.sg, S.sc⟩
theorem Keep.updN {S : List Addr} {H H' : Hp} {p : Addr} {o : HO} (k : Keep S H H') (h : H p = none) : Keep S H (L2.upd H' p o) := fun b u e n => by
  rw [upd_ne (ne_of_none e h)]
  exact k b u e n
theorem ixN_nat {n j : Nat} (h : j < n) : ixN n (j : Int) = some j := by
  unfold ixN
  rw [if_pos (by omega), if_pos (by omega)]
  simp
end L2

set_option Elab.async false
set_option linter.all false
set_option maxRecDepth 100000
namespace L2
open PySem PySem.Spec PyProof.Rows

/-! ### == and != of tuples and lists, whatever they hold -/
/-- two values of one kind are compared -/
def EqK (X : Cx) (α : Type) [DecidableEq α] (R : α → V → Hp → Prop) (n : Nat) : Prop :=
  ∀ (pins : List (Addr × Obj)) (σ : St) (H : Hp) (s : Shared) (A : Around) (a b : α) (v w : V) (u u' : Value), Inv X pins σ H s → A.units + n < cLine → R a v H → R b w H → RelV v u → RelV w u' → SeqAt.EqAt A s u u' (decide (a = b))
/-- the values of a tuple, of a list -/
inductive All2 {α : Type} (R : α → V → Hp → Prop) (H : Hp) : List α → List V → Prop
  | nil : All2 R H [] []
  | cons {a : α} {v : V} {l : List α} {xs : List V} : R a v H → All2 R H l xs → All2 R H (a :: l) (v :: xs)
theorem All2.length {α : Type} {R : α → V → Hp → Prop} {H : Hp} : ∀ {l : List α} {xs : List V}, All2 R H l xs → l.length = xs.length
  | _, _, .nil => rfl
  | _, _, .cons _ t => by simp [t.length]
theorem All2.get {α : Type} {R : α → V → Hp → Prop} {H : Hp} : ∀ {l : List α} {xs : List V} {i : Nat} {x : V}, All2 R H l xs → xs[i]? = some x → ∃ a, l[i]? = some a ∧ R a x H
  | _, _, _, _, .nil, e => by simp at e
  | _, _, 0, _, .cons r _, e => by simp at e; subst e; exact ⟨_, rfl, r⟩
  | _, _, i + 1, x, .cons _ t, e => by
    obtain ⟨u, h1, h2⟩ := All2.get (i := i) (x := x) t (by simpa using e)
    exact ⟨u, by simpa using h1, h2⟩
theorem All2.append {α : Type} {R : α → V → Hp → Prop} {H : Hp} : ∀ {l l' : List α} {xs xs' : List V}, All2 R H l xs → All2 R H l' xs' → All2 R H (l ++ l') (xs ++ xs')
  | _, _, _, _, .nil, s => s
  | _, _, _, _, .cons r t, s => .cons r (t.append s)
theorem All2.imp {α : Type} {R : α → V → Hp → Prop} {H H' : Hp} (f : ∀ a v, R a v H → R a v H') : ∀ {l : List α} {xs : List V}, All2 R H l xs → All2 R H' l xs
  | _, _, .nil => .nil
  | _, _, .cons r t => .cons (f _ _ r) (t.imp f)
def RInt : Int → V → Hp → Prop := fun i v _ => v = .int i
theorem all2_ints {H : Hp} : ∀ (ns : List Int), All2 RInt H ns (ns.map V.int)
  | [] => .nil
  | _ :: r => .cons rfl (all2_ints r)
/-- a tuple of such values -/
def RTup (K : PySem.W.Frag) {α : Type} (R : α → V → Hp → Prop) : List α → V → Hp → Prop := fun l v H => ∃ p xs, v = .ref p ∧ SqT K H p xs ∧ All2 R H l xs
def RLst (K : PySem.W.Frag) {α : Type} (R : α → V → Hp → Prop) : List α → V → Hp → Prop := fun l v H => ∃ p xs, v = .ref p ∧ SqL K H p xs ∧ All2 R H l xs
theorem all_range_eq {α : Type} [DecidableEq α] {l m : List α} {e : Nat → Bool} (h : ∀ j a b, l[j]? = some a → m[j]? = some b → e j = decide (a = b)) : ((List.range (min l.length m.length)).all e && l.length == m.length) = decide (l = m) := by
  rw [Bool.eq_iff_iff]
  simp only [Bool.and_eq_true, List.all_eq_true, List.mem_range, beq_iff_eq, decide_eq_true_eq]
  constructor
  · rintro ⟨h1, h2⟩
    refine List.ext_getElem h2 fun j j1 j2 => ?_
    have := h1 j (by omega)
    rw [h j _ _ (List.getElem?_eq_getElem j1) (List.getElem?_eq_getElem j2)] at this
    exact of_decide_eq_true this
  · rintro rfl
    refine ⟨fun j hj => ?_, rfl⟩
    have hj' : j < l.length := by omega
    rw [h j _ _ (List.getElem?_eq_getElem hj') (List.getElem?_eq_getElem hj')]
    exact decide_eq_true rfl
section
variable {X : Cx}
theorem eqk_int : EqK X Int RInt 0 := fun pins σ H s A a b v w u u' I hu r1 r2 q1 q2 => by
  unfold RInt at r1 r2
  subst r1 r2
  obtain ⟨t, rfl⟩ := q1
  obtain ⟨t', rfl⟩ := q2
  have := SeqAt.EqAt.int_int (A := A) (s := s) a t b t'
  rwa [show (a == b) = decide (a = b) from rfl] at this
variable {α : Type} [DecidableEq α] {R : α → V → Hp → Prop} {n : Nat}
/-- the items' answers -/
theorem eqk_items (h : EqK X α R n) {pins : List (Addr × Obj)} {σ : St} {H : Hp} {s : Shared} {A : Around} {l m : List α} {xs ys : List V} {us ws : List Value} (I : Inv X pins σ H s) (hu : A.units + (n + 1) < cLine)
    (r1 : All2 R H l xs) (r2 : All2 R H m ys) (q1 : Vals xs us) (q2 : Vals ys ws) :
    ∃ e : Nat → Bool, (∀ j (h1 : j < us.toArray.size) (h2 : j < ws.toArray.size), SeqAt.EqAt A.in1 s us.toArray[j] ws.toArray[j] (e j)) ∧ (∀ j a b, l[j]? = some a → m[j]? = some b → e j = decide (a = b)) := by
  refine ⟨fun j => match l[j]?, m[j]? with | some a, some b => decide (a = b) | _, _ => false, fun j h1 h2 => ?_, fun j a b e1 e2 => by simp only [e1, e2]⟩
  have l1 := q1.length
  have l2 := q2.length
  have l3 := r1.length
  have l4 := r2.length
  simp only [List.size_toArray] at h1 h2
  have hx : xs[j]? = some xs[j] := List.getElem?_eq_getElem (by omega)
  have hy : ys[j]? = some ys[j] := List.getElem?_eq_getElem (by omega)
  obtain ⟨a, ea, ra⟩ := r1.get hx
  obtain ⟨b, eb, rb⟩ := r2.get hy
  obtain ⟨u, eu, ru⟩ := q1.get hx
  obtain ⟨w, ew, rw'⟩ := q2.get hy
  have e1 : us.toArray[j]'(by simpa using h1) = u := by
    have := (List.getElem?_eq_some_iff.mp eu).2
    simpa using this
  have e2 : ws.toArray[j]'(by simpa using h2) = w := by
    have := (List.getElem?_eq_some_iff.mp ew).2
    simpa using this
  rw [e1, e2]
  simp only [ea, eb]
  exact h pins σ H s A.in1 a b _ _ u w I (by show A.units + 1 + n < cLine; omega) ra rb ru rw'
theorem rc_tup (h : EqK X α R n) {pins : List (Addr × Obj)} {σ : St} {H : Hp} {s : Shared} {A : Around} {l m : List α} {p q : Addr} (I : Inv X pins σ H s) (hu : A.units + (n + 1) < cLine) (r1 : RTup X.K R l (.ref p) H) (r2 : RTup X.K R m (.ref q) H) :
    SeqAt.RcAt A s (.ref p) (.ref q) (decide (l = m)) := by
  obtain ⟨_, xs, e1, h1, a1⟩ := r1
  obtain ⟨_, ys, e2, h2, a2⟩ := r2
  cases e1
  cases e2
  obtain ⟨us, v1, t1, z1⟩ := I.tuple h1
  obtain ⟨ws, v2, t2, z2⟩ := I.tuple h2
  obtain ⟨e, he, hd⟩ := eqk_items h I hu a1 a2 v1 v2
  have := SeqAt.RcAt.tuples (e := e) t1 t2 (by omega) he
  rw [List.size_toArray, List.size_toArray, ← v1.length, ← v2.length, ← a1.length, ← a2.length, all_range_eq hd] at this
  exact this
theorem rc_lst (h : EqK X α R n) {pins : List (Addr × Obj)} {σ : St} {H : Hp} {s : Shared} {A : Around} {l m : List α} {p q : Addr} (I : Inv X pins σ H s) (hu : A.units + (n + 1) < cLine) (r1 : RLst X.K R l (.ref p) H) (r2 : RLst X.K R m (.ref q) H) :
    SeqAt.RcAt A s (.ref p) (.ref q) (decide (l = m)) := by
  obtain ⟨_, xs, e1, h1, a1⟩ := r1
  obtain ⟨_, ys, e2, h2, a2⟩ := r2
  cases e1
  cases e2
  obtain ⟨us, v1, t1, z1⟩ := I.list h1
  obtain ⟨ws, v2, t2, z2⟩ := I.list h2
  obtain ⟨e, he, hd⟩ := eqk_items h I hu a1 a2 v1 v2
  have ee := all_range_eq hd
  have s1 : us.toArray.size = l.length := by rw [List.size_toArray, ← v1.length, ← a1.length]
  have s2 : ws.toArray.size = m.length := by rw [List.size_toArray, ← v2.length, ← a2.length]
  by_cases hl : l.length = m.length
  · have := SeqAt.RcAt.lists (e := e) t1.isList t2.isList (by rw [s1, s2, hl]) (by omega) he
    rw [s1] at this
    rw [hl, Nat.min_self, beq_self_eq_true, Bool.and_true, ← hl] at ee
    rwa [ee] at this
  · have := SeqAt.RcAt.lists_lengths t1.isList t2.isList (by rw [s1, s2]; simpa using hl) (show A.units < cLine by omega)
    have hne : ¬ l = m := fun e => hl (by rw [e])
    rw [decide_eq_false hne]
    exact this
theorem eqk_tup (h : EqK X α R n) (det : ∀ (pins : List (Addr × Obj)) (σ : St) (H : Hp) (s : Shared) (a b : α) (v : V), Inv X pins σ H s → R a v H → R b v H → a = b) : EqK X (List α) (RTup X.K R) (n + 1) := fun pins σ H s A a b v w u u' I hu r1 r2 q1 q2 => by
  obtain ⟨p, xs, rfl, h1, a1⟩ := id r1
  obtain ⟨q, ys, rfl, h2, a2⟩ := id r2
  cases q1
  cases q2
  by_cases hpq : p = q
  · subst hpq
    have e := I.tuple_inj h1 h2
    subst e
    have : a = b := by
      clear r1 r2 h1 h2 hu
      induction a1 generalizing b with
      | nil => cases a2; rfl
      | cons r t ih =>
        cases a2 with
        | cons r' t' => rw [det pins σ H s _ _ _ I r r', ih _ t']
    rw [decide_eq_true this]
    exact SeqAt.EqAt.same _
  · exact SeqAt.EqAt.of_refs hpq (rc_tup h I hu r1 r2)
theorem det_int (pins : List (Addr × Obj)) (σ : St) (H : Hp) (s : Shared) (a b : Int) (v : V) (I : Inv X pins σ H s) (h1 : RInt a v H) (h2 : RInt b v H) : a = b := by
  unfold RInt at h1 h2
  rw [h1] at h2
  cases h2
  rfl
theorem op_eqL' (h : EqK X α R n) (hu : X.A.units + (n + 1) < cLine) : OpR X (compareOp .Eq) (fun x y H Q => ∃ l m, RLst X.K R l x H ∧ RLst X.K R m y H ∧ Q (.bl (decide (l = m))) H) := by
  intro pins s σ H x y v u Q I rx ry hq
  obtain ⟨l, m, r1, r2, q⟩ := hq
  obtain ⟨p, xs, rfl, _⟩ := id r1
  obtain ⟨p', ys, rfl, _⟩ := id r2
  cases rx
  cases ry
  exact rc_lst h I hu r1 r2 X.prog X.w X.xe _ ⟨.bl _, H, I, rfl, q⟩
theorem op_neT' (h : EqK X α R n) (hu : X.A.units + (n + 1) < cLine) : OpR X (compareOp .NotEq) (fun x y H Q => ∃ l m, RTup X.K R l x H ∧ RTup X.K R m y H ∧ Q (.bl (!decide (l = m))) H) := by
  intro pins s σ H x y v u Q I rx ry hq
  obtain ⟨l, m, r1, r2, q⟩ := hq
  obtain ⟨p, xs, rfl, h1, a1⟩ := r1
  obtain ⟨p', ys, rfl, h2, a2⟩ := r2
  cases rx
  cases ry
  obtain ⟨us, v1, t1, z1⟩ := I.tuple h1
  obtain ⟨ws, v2, t2, z2⟩ := I.tuple h2
  obtain ⟨e, he, hd⟩ := eqk_items h I hu a1 a2 v1 v2
  have ee := all_range_eq hd
  have this := SeqAt.RcNeAt.tuples (e := e) t1 t2 (by omega) he
  rw [List.size_toArray, List.size_toArray, ← v1.length, ← v2.length, ← a1.length, ← a2.length, ee] at this
  exact this X.prog X.w X.xe _ ⟨.bl _, H, I, rfl, q⟩
theorem op_neL' (h : EqK X α R n) (hu : X.A.units + (n + 1) < cLine) : OpR X (compareOp .NotEq) (fun x y H Q => ∃ l m, RLst X.K R l x H ∧ RLst X.K R m y H ∧ Q (.bl (!decide (l = m))) H) := by
  intro pins s σ H x y v u Q I rx ry hq
  obtain ⟨l, m, r1, r2, q⟩ := hq
  obtain ⟨p, xs, rfl, h1, a1⟩ := r1
  obtain ⟨p', ys, rfl, h2, a2⟩ := r2
  cases rx
  cases ry
  obtain ⟨us, v1, t1, z1⟩ := I.list h1
  obtain ⟨ws, v2, t2, z2⟩ := I.list h2
  obtain ⟨e, he, hd⟩ := eqk_items h I hu a1 a2 v1 v2
  have ee := all_range_eq hd
  have s1 : us.toArray.size = l.length := by rw [List.size_toArray, ← v1.length, ← a1.length]
  have s2 : ws.toArray.size = m.length := by rw [List.size_toArray, ← v2.length, ← a2.length]
  by_cases hl : l.length = m.length
  · have this := SeqAt.RcNeAt.lists (e := e) t1.isList t2.isList (by rw [s1, s2, hl]) (by omega) he
    rw [s1] at this
    rw [hl, Nat.min_self, beq_self_eq_true, Bool.and_true, ← hl] at ee
    rw [ee] at this
    exact this X.prog X.w X.xe _ ⟨.bl _, H, I, rfl, q⟩
  · have this := SeqAt.RcNeAt.lists_lengths t1.isList t2.isList (by rw [s1, s2]; simpa using hl) (show X.A.units < cLine by omega)
    have hne : ¬ l = m := fun e => hl (by rw [e])
    rw [decide_eq_false hne] at q
    exact this X.prog X.w X.xe _ ⟨.bl _, H, I, rfl, q⟩
end
/-- of ints -/
theorem RTup.ints {K : PySem.W.Frag} {H : Hp} {p : Addr} {ns : List Int} (h : SqT K H p (ns.map V.int)) : RTup K RInt ns (.ref p) H := ⟨p, _, rfl, h, all2_ints ns⟩
end L2
namespace L2
open PySem PySem.Spec PyProof.Rows
theorem huR {A : Around} {k n : Nat} {cm : Bool} (hr : Room k A cm) (h : n ≤ 64 := by decide) : A.units + n < cLine := Nat.lt_of_le_of_lt (Nat.add_le_add_left h _) hr.units
end L2
namespace HT
open PySem PySem.Spec PyProof.Rows
section
variable {prog : Program} {w : World} {A : Around} {E : Value → Shared → Prop} {s : Shared}
theorem getItem_tuple_whole {t sl : Addr} {items : Array Value} {vl vu : Value} {lo hi : Option Int} {Q : Value → Shared → Prop} (ht : IsTup s.heap t items) (hs : s.heap.IsSliceOf sl vl vu .none) (pl : IsPart vl lo) (pu : IsPart vu hi)
    (hw : sIx items.size 0 lo = 0 ∧ sIx items.size items.size hi = items.size) (h : Q (.ref t) s) : wpAny (model prog w) A (getItem (.ref t) (.ref sl)) Q E s := by
  obtain ⟨os, hos, hcs, hds⟩ := id hs
  have hTs : s.TypeIs (.ref sl) "slice" := ⟨os, hos, hcs⟩
  unfold getItem
  try with_reducible refine wpAny_holding ?_
  first | refine wpAny_bind (wpAny_pure ?_) | skip
  refine wpAny_bind (wpAny_sequenceKey ht.typeIs (by decide) ?_)
  refine wpAny_bind (wpAny_callSpecial?_slot (name := Str.ofString "__getitem__") ht.typeIs PyProof.Rows.slot_tuple_getitem
    (wpAny_call_entry PyProof.Rows.slot_tuple_getitem ht.typeIs entry_tuple_getitem ?_ (args_tuple_getitem _ _)))
  show wpAny _ _ (Builtin.Tuple.tupleItemsOf (.ref t) >>= _) _ _ s
  refine wpAny_bind (tupleItemsOf_ ht ?_)
  refine wpAny_bind (wpAny_typeOf hTs ?_)
  rw [if_pos (by decide)]
  refine wpAny_bind (sliceApplied_gen hs pl pu ?_)
  have hyes : (((sIx items.size 0 lo : Nat) : Int) == 0 && (1 : Int) == 1 && (sIx items.size items.size hi - sIx items.size 0 lo) == items.size) = true := by
    rw [hw.1, hw.2]; simp
  show wpAny _ _ (if (((sIx items.size 0 lo : Nat) : Int) == 0 && (1 : Int) == 1 && (sIx items.size items.size hi - sIx items.size 0 lo) == items.size) = true then _ else _) _ _ s
  rw [if_pos hyes]
  refine wpAny_bind ?_
  unfold Builtin.Tuple.tupleIsExact
  refine wpAny_bind (wpAny_typeOf ht.typeIs (wpAny_pure ?_))
  rw [if_pos (by decide)]
  first
    | exact wpAny_bind (wpAny_rule (wpAny_bind (wpAny_pure (wpAny_pure ⟨_, rfl, wpAny_pure h⟩))))
    | exact wpAny_bind (wpAny_rule (wpAny_pure ⟨_, rfl, wpAny_pure h⟩))
end
end HT
namespace L2
open PySem PySem.Spec PyProof.Rows
section
variable {X : Cx}
theorem sl_tupW : SlR X (fun x lo hi H Q => ∃ a xs, x = .ref a ∧ SqT X.K H a xs ∧ (HT.sIx xs.length 0 lo = 0 ∧ HT.sIx xs.length xs.length hi = xs.length) ∧ Q (.ref a) H) := by
  intro pins s σ H x v vl vu lo hi sl Q I rx hs pl pu h
  obtain ⟨a, xs, rfl, hx, hw, q⟩ := h
  cases rx
  obtain ⟨its, r, ht, hz⟩ := I.tuple hx
  have hlen : its.toArray.size = xs.length := by rw [List.size_toArray]; exact r.length.symm
  refine ⟨"tuple", _, PyProof.Rows.slot_tuple_getitem.lookup, ht.typeIs, ?_⟩
  exact HT.getItem_tuple_whole ht hs pl pu (by rw [hlen]; exact hw) ⟨.ref a, H, I, rfl, q⟩
/-- t[lo:hi], the whole one or a new one -/
def rSlTA (K : PySem.W.Frag) : V → Option Int → Option Int → Hp → VK → Prop := fun x lo hi H Q => (∃ a xs, x = .ref a ∧ SqT K H a xs ∧ (HT.sIx xs.length 0 lo = 0 ∧ HT.sIx xs.length xs.length hi = xs.length) ∧ Q (.ref a) H) ∨ rSlT K x lo hi H Q
theorem sl_tupA : SlR X (rSlTA X.K) := sl_tupW.or sl_tup
end
end L2

set_option Elab.async false
set_option linter.all false
set_option maxRecDepth 100000
namespace HT
open PySem PySem.Spec PyProof.Rows
section
open PySem.SeqAt
open PySem.AutoSeq1 (wpAny_loadPart')
open PySem.MeetsSeq PySem.MeetsSeq2 PySem.MeetsSeq3
end

section
variable {prog : Program} {w : World} {A : Around} {E : Value → Shared → Prop} {s : Shared}

end
end HT
namespace L2
open PySem PySem.Spec PyProof.Rows
section
variable {X : Cx}
/-! ### texts -/
/-! ### a loop over a text's signs -/
end
end L2

set_option Elab.async false
set_option linter.all false
set_option maxRecDepth 100000
namespace L2
open PySem PySem.Spec PyProof.Rows
section
variable {X : Cx} {tg : Expr}
end
section
variable {X : Cx}
/-- all(list of truths) -/
theorem call_all_bools (hc : X.calm = true) : CallR X (.builtin "all") (fun xs H Q => ∃ (a : Addr) (bs : List Bool), xs = [.ref a] ∧ SqL X.K H a (bs.map V.bl) ∧ Q (.bl (bs.all id)) H) := by
  intro pins s σ H xs us Q I r h
  obtain ⟨a, bs, rfl, hq, q⟩ := h
  obtain ⟨u, rfl, ru⟩ := vals1 r
  cases ru
  have hh : X.A.in1.handled = none := I.ok.hd hc
  obtain ⟨its, r', pl, hz⟩ := I.list hq
  have hl := r'.length
  rw [List.length_map] at hl
  have hlt : a < s.heap.objs.size := by obtain ⟨_, e, _⟩ := pl.isList; exact Heap.lt_size e
  refine call_all_walk (wpAny_pyIter_list pl.isList ⟨_, _, _, _, _, _, fun i => bs.getD i false, rfl, Walks.list (A := X.A.in1) hh _ a (Nat.ne_of_lt hlt) its.toArray, ⟨⟨_, Heap.get?_push_size _ rfl, rfl, rfl⟩, pl.isList.push _⟩, ?_, fun h' tk hk => ?_⟩)
  · intro i v s' Q' E' hv hQ
    have hv' : its[i]? = some v := by simpa using hv
    have hi : i < bs.length := by have := (List.getElem?_eq_some_iff.mp hv').1; omega
    have hx : (bs.map V.bl)[i]? = some (V.bl (bs.getD i false)) := by simp [hi]
    obtain ⟨u, hu, ru⟩ := r'.get hx
    rw [hv'] at hu
    cases hu
    cases ru
    exact wpAny_truthy_bool hQ
  · have e : (List.range its.toArray.size).all (fun i => bs.getD i false) = bs.all id := by
      rw [List.size_toArray, ← hl, Bool.eq_iff_iff]
      simp only [List.all_eq_true, List.mem_range, id]
      constructor
      · intro h b hb
        obtain ⟨i, hi, rfl⟩ := List.mem_iff_getElem.mp hb
        have := h i hi
        simpa [hi] using this
      · intro h i hi
        have := h bs[i] (List.getElem_mem hi)
        simpa [hi] using this
    rw [e]
    exact ⟨.bl _, H, I.kept fun b o e => hk b o (by simpa using Nat.ne_of_lt (Heap.lt_size e)) (Heap.get?_push_of_some _ e), rfl, q⟩
end
end L2

set_option Elab.async false
set_option linter.all false
set_option maxRecDepth 100000
namespace L2
open PySem PySem.Spec PyProof.Rows PySem.NumText PySem.Calls
/-! ### numbers written -/
/-! ### joined and split by one sign -/
end L2

set_option Elab.async false
set_option linter.all false
set_option maxRecDepth 100000
namespace L2
open PySem PySem.Spec PyProof.Rows PySem.NumText
end L2

set_option Elab.async false
set_option linter.all false
set_option maxRecDepth 100000
namespace L2
open PySem PySem.Spec PyProof.Rows

/-! ### the stations of a flight, with the exception's own dict kept in sight -/
theorem mapF_dict (f : Array Value → Array Value) (o : Obj) : (Obj.mapFields f o).dict = o.dict := by
  obtain ⟨c, d, dat, sl⟩ := o
  cases dat <;> rfl
/-- noted: its record, where it flies -/
def TrD (h base : Heap) (e : Addr) (C : Value) (dd : Option Addr) (fl : Value) : Prop :=
  ∃ oe vs T oT ts, h.get? e = some oe ∧ (oe.cls = C ∧ oe.dict = dd) ∧ oe.data = .fields vs ∧ vs[1]? = some (.ref T) ∧
    base.get? T = none ∧ T ≠ e ∧ h.get? T = some oT ∧ oT.data = .fields ts ∧ ts[3]? = some fl
def FlyD (base : Heap) (l : List Env) (e : Addr) (C : Value) (dd : Option Addr) (h : Heap) : Prop := base.StaysIn h ∧ base.get? e = none ∧ h.FunFrames base l ∧ TrD h base e C dd .none
def HeldD (base : Heap) (l : List Env) (e : Addr) (C : Value) (dd : Option Addr) (L : Addr) (h : Heap) : Prop := base.StaysIn h ∧ base.get? e = none ∧ h.FunFrames base l ∧ TrD h base e C dd (rawInt L)
/-- what is no record stays but for its slots -/
def UpS (h h' : Heap) : Prop := ∀ b o, h.get? b = some o → (∀ vs, o.data ≠ .fields vs) → ∃ sl, h'.get? b = some { o with slots := sl }
theorem UpS.same (h : Heap) : UpS h h := fun _ o q _ => ⟨o.slots, q⟩
theorem UpS.trans {h1 h2 h3 : Heap} (x : UpS h1 h2) (y : UpS h2 h3) : UpS h1 h3 := fun b o q n => by
  obtain ⟨sl, q2⟩ := x b o q n
  obtain ⟨sl2, q3⟩ := y b { o with slots := sl } q2 n
  exact ⟨sl2, q3⟩
section
variable {M : Model} {A : Around} {E : Value → Shared → Prop} {s : Shared} {base : Heap} {env : Env} {outer : List Env} {L e : Addr} {C : Value} {dd : Option Addr} {Q : Unit → Shared → Prop}
/-- a record's field set: all else stays -/
theorem upd_away {h : Heap} {T : Addr} {oT : Obj} {ts : Array Value} (hT : h.get? T = some oT) (hd : oT.data = .fields ts) (f : Array Value → Array Value) :
    (∀ b, b ≠ T → (h.update T (Obj.mapFields f)).get? b = h.get? b) ∧ (∀ b o, h.get? b = some o → (∀ vs, o.data ≠ .fields vs) → (h.update T (Obj.mapFields f)).get? b = some o) ∧ (h.update T (Obj.mapFields f)).get? T = some (Obj.mapFields f oT) := by
  have far : ∀ b, b ≠ T → (h.update T (Obj.mapFields f)).get? b = h.get? b := fun b n => Heap.get?_update_other _ _ (Ne.symm n)
  refine ⟨far, fun b o q n => ?_, Heap.get?_update_self _ hT (Obj.isFreed_of_fields (Obj.data_mapFields hd _))⟩
  refine (far b fun z => ?_).trans q
  subst z
  rw [hT] at q
  cases q
  exact n ts hd
/-- flight set -/
theorem st_flight {l : List Env} {fl : Value} (f : Option Addr) (k1 : base.StaysIn s.heap) (k2 : s.heap.FunFrames base l) (k3 : TrD s.heap base e C dd fl)
    (q : ∀ h', base.StaysIn h' → h'.FunFrames base l → TrD h' base e C dd (f.elim Value.none fun f => rawInt f) → UpS s.heap h' → Q () { s with heap := h' }) : wpAny M A (setFlight (.ref e) f) Q E s := by
  obtain ⟨oe, vs, T, oT, ts, g1, g2, g3, g4, g5, g6, g7, g8, g9⟩ := k3
  have z3 : 3 < ts.size := (Array.getElem?_eq_some_iff.mp g9).1
  obtain ⟨far, non, own⟩ := upd_away g7 g8 (·.setIfInBounds 3 (f.elim Value.none fun f => rawInt f))
  unfold setFlight
  refine wpAny_bind (wpAny_field g1 g3 g4 ?_)
  rw [if_pos (by simp)]
  refine wpAny_setField g7 g8 z3 (q _ ?_ ?_ ?_ fun b o q n => ⟨o.slots, non b o q n⟩)
  · intro b o qb
    refine (far b fun z => ?_).trans (k1 b o qb)
    rw [z, g5] at qb
    cases qb
  · exact k2.of_keeps fun b o qb n => ⟨o, non b o qb n, rfl⟩
  · exact ⟨oe, vs, T, _, _, (far e (Ne.symm g6)).trans g1, g2, g3, g4, g5, g6, own, Obj.data_mapFields g8 _, by simp [z3]⟩
/-- a new record in front -/
theorem st_entry {oe : Obj} {vs : Array Value} {head : Value} {more : Bool} (fr : A.frames = some (env :: outer)) (k2 : s.heap.FunFrames base (env :: outer)) (hL : env.frame = some L) (g1 : s.heap.get? e = some oe) (k1 : base.StaysIn s.heap) (ne : base.get? e = none)
    (g3 : oe.data = .fields vs) (z1 : 1 < vs.size) (q : ∀ h', base.StaysIn h' → h'.FunFrames base (env :: outer) → TrD h' base e oe.cls oe.dict (rawInt L) → UpS s.heap h' → Q () { s with heap := h' }) :
    wpAny M A (do
      let a ← frameOf env
      let pl ← entryPlaceOf L more
      let b ← EntryCells.newEntry head a .none (rawInt L) .none pl
      setField (.ref e) 1 b) Q E s := by
  have nf : e ∉ (env :: outer).filterMap (·.frame) := fun z => by
    obtain ⟨_, o, ho, n⟩ := k2.mem z
    rw [g1] at ho
    cases ho
    exact n vs g3
  refine wpAny_bind (wpAny_frameOf_fun fr k2 hL fun h1 x1 => ?_)
  refine wpAny_bind (wpAny_entryPlaceOf fun pl hpl => ?_)
  unfold EntryCells.newEntry newFields
  refine wpAny_bind (wpAny_newObj_type ?_ (hpl.sizeOk5 _ _ _ _ _))
  have e1 : h1.get? e = some oe := by rw [x1.2.1 e nf]; exact g1
  have b1 : base.StaysIn h1 := fun b o qb => by
    rw [x1.2.1 b fun z => by rw [(k2.mem z).1] at qb; cases qb]
    exact k1 b o qb
  generalize hR : ({ cls := .type "traceback", dict := none, data := .fields ([head, .ref L, .none, rawInt L, .none] ++ (if pl.isEmpty then List.replicate 6 Value.none else pl)).toArray } : Obj) = R
  have dR : R.data = .fields ([head, .ref L, .none, rawInt L, .none] ++ (if pl.isEmpty then List.replicate 6 Value.none else pl)).toArray := by rw [← hR]
  have fR : R.isFreed = false := Obj.isFreed_of_fields dR
  have e2 : (h1.push R).get? e = some oe := Heap.get?_push_of_some _ e1
  refine wpAny_setField e2 g3 z1 ?_
  have nT : h1.objs.size ≠ e := Nat.ne_of_gt (Heap.lt_size e1)
  obtain ⟨far, non, own⟩ := upd_away e2 g3 (·.setIfInBounds 1 (Value.ref h1.objs.size))
  have keep : ∀ b o, b ≠ e → h1.get? b = some o → ((h1.push R).update e (Obj.mapFields (·.setIfInBounds 1 (Value.ref h1.objs.size)))).get? b = some o := fun b o n qb => by
    rw [far b n]
    exact Heap.get?_push_of_some _ qb
  have ne' : ∀ b o, s.heap.get? b = some o → (∀ vs, o.data ≠ .fields vs) → b ≠ e := fun b o qb n z => by
    rw [z, g1] at qb
    cases qb
    exact n vs g3
  refine q _ ?_ ?_ ?_ ?_
  · exact fun b o qb => keep b o (fun z => by rw [z, ne] at qb; cases qb) (b1 b o qb)
  · refine k2.of_keeps fun b o qb n => ?_
    obtain ⟨sl, y⟩ := x1.2.2 b o qb
    exact ⟨_, keep b _ (ne' b o qb n) y, rfl⟩
  · refine ⟨_, _, h1.objs.size, R, _, own, ⟨Obj.cls_mapFields _ _, mapF_dict _ _⟩, Obj.data_mapFields g3 _, by simp [z1], b1.fresh, nT, ?_, dR, ?_⟩
    · rw [far _ nT]
      exact Heap.get?_push_size h1 fR
    · simp
  · intro b o qb n
    obtain ⟨sl, y⟩ := x1.2.2 b o qb
    exact ⟨sl, keep b _ (ne' b o qb n) y⟩
/-- noted here: one that flies -/
theorem st_note (fr : A.frames = some (env :: outer)) (hL : env.frame = some L) (x : FlyD base (env :: outer) e C dd s.heap) (q : ∀ h', HeldD base (env :: outer) e C dd L h' → UpS s.heap h' → Q () { s with heap := h' }) : wpAny M A (noteFrame (.ref e) env) Q E s := by
  obtain ⟨k1, ne, k2, oe, vs, T, oT, ts, g1, ⟨rfl, rfl⟩, g3, g4, g5, g6, g7, g8, g9⟩ := x
  obtain ⟨far, non, own⟩ := upd_away g7 g8 (·.setIfInBounds 3 Value.none)
  unfold noteFrame
  simp only [hL]
  refine wpAny_bind (wpAny_field g1 g3 g4 ?_)
  rw [if_pos (by simp)]
  refine wpAny_bind (wpAny_field g7 g8 g9 ?_)
  rw [if_neg (by simp [rawInt])]
  refine wpAny_bind (wpAny_setField g7 g8 (Array.getElem?_eq_some_iff.mp g9).1 ?_)
  refine st_entry fr (k2.of_keeps fun b o qb n => ⟨o, non b o qb n, rfl⟩) hL ((far e (Ne.symm g6)).trans g1) (fun b o qb => ?_) ne g3 (Array.getElem?_eq_some_iff.mp g4).1 fun h' y1 y2 y3 y4 => q h' ⟨y1, ne, y2, y3⟩ fun b o qb n => y4 b o (non b o qb n) n
  refine (far b fun z => ?_).trans (k1 b o qb)
  rw [z, g5] at qb
  cases qb
/-- .. and one that is noted here already -/
theorem st_again {fl : Value} (hL : env.frame = some L) (x : TrD s.heap base e C dd (rawInt L)) (q : Q () s) : wpAny M A (noteFrame (.ref e) env) Q E s := by
  obtain ⟨oe, vs, T, oT, ts, g1, g2, g3, g4, g5, g6, g7, g8, g9⟩ := x
  unfold noteFrame
  simp only [hL]
  refine wpAny_bind (wpAny_field g1 g3 g4 ?_)
  rw [if_pos (by simp)]
  refine wpAny_bind (wpAny_field g7 g8 g9 ?_)
  rw [if_pos (by simp)]
  exact wpAny_pure q
/-- .. and one just made -/
theorem st_first {oe : Obj} {vs : Array Value} (fr : A.frames = some (env :: outer)) (k2 : s.heap.FunFrames base (env :: outer)) (hL : env.frame = some L) (g1 : s.heap.get? e = some oe) (k1 : base.StaysIn s.heap) (ne : base.get? e = none)
    (g3 : oe.data = .fields vs) (g4 : vs[1]? = some .none) (q : ∀ h', HeldD base (env :: outer) e oe.cls oe.dict L h' → UpS s.heap h' → Q () { s with heap := h' }) : wpAny M A (noteFrame (.ref e) env) Q E s := by
  unfold noteFrame
  simp only [hL]
  refine wpAny_bind (wpAny_field g1 g3 g4 ?_)
  rw [if_neg (by decide)]
  exact st_entry fr k2 hL g1 k1 ne g3 (Array.getElem?_eq_some_iff.mp g4).1 fun h' y1 y2 y3 y4 => q h' ⟨y1, ne, y2, y3⟩ y4
end
/-! ### exceptions: how one lies behind a call, and within a body -/
/-- B: all that stays as it is while the exception flies (all but the frames, the exception and its records) -/
structure Cov (s₀ : Heap) (H₀ : Hp) (fr ex : List Addr) (H' : Hp) (B : Heap) : Prop where
  trk : ∀ b u, H' b = some u → ∃ o, B.get? b = some o
  old : ∀ b o, s₀.get? b = some o → H₀ b = none → b ∉ fr → b ∉ ex → B.get? b = some o
  all : ∀ b o, s₀.get? b = some o → b ∉ fr → b ∉ ex → ∃ o', B.get? b = some o'
def CX1 (P : Program) (w : World) : CXT := fun outer H s E ev s' => ∃ (e : Addr) (C : Value) (dd : Option Addr) (H' : Hp), ev = .ref e ∧ E C dd H' ∧ s'.os = s.os ∧ AllBare s'.gens ∧ Un (frs outer) [] H H' s.heap s'.heap ∧ HOk P w H' s'.heap ∧ H' e = none ∧
  ∃ B, FlyD B outer e C dd s'.heap ∧ Cov s.heap H (frs outer) [] H' B
/-- within a body: just made, come from a callee, or noted here -/
inductive ExcSt (B : Heap) (l : List Env) (L e : Addr) (C : Value) (dd : Option Addr) (h : Heap) : Prop where
  | made (oe : Obj) (vs : Array Value) : B.StaysIn h → h.FunFrames B l → B.get? e = none → h.get? e = some oe → oe.cls = C → oe.dict = dd → oe.data = .fields vs → vs[1]? = some .none → ExcSt B l L e C dd h
  | fly : FlyD B l e C dd h → ExcSt B l L e C dd h
  | held : HeldD B l e C dd L h → ExcSt B l L e C dd h
theorem ExcSt.stays {B : Heap} {l : List Env} {L e : Addr} {C : Value} {dd : Option Addr} {h : Heap} (x : ExcSt B l L e C dd h) : B.StaysIn h := by
  cases x with
  | made oe vs a b c => exact a
  | fly a => exact a.1
  | held a => exact a.1
theorem ExcSt.frames {B : Heap} {l : List Env} {L e : Addr} {C : Value} {dd : Option Addr} {h : Heap} (x : ExcSt B l L e C dd h) : h.FunFrames B l := by
  cases x with
  | made oe vs a b c => exact b
  | fly a => exact a.2.2.1
  | held a => exact a.2.2.1
structure ExcAt (X : Cx) (H' : Hp) (e : Addr) (C : Value) (dd : Option Addr) (s' : Shared) : Prop where
  os : s'.os = X.s₀.os
  bare : AllBare s'.gens
  un : Un X.fs X.ex X.H₀ H' X.s₀.heap s'.heap
  hok : HOk X.prog X.w H' s'.heap
  fe : H' e = none
  st : ∃ B, Cov X.s₀.heap X.H₀ (frs X.stack) X.ex H' B ∧ ExcSt B X.stack X.env.locals e C dd s'.heap
/-- the heap turns while the exception flies -/
theorem Cov.turn {P : Program} {w : World} {s₀ h h' : Heap} {H₀ H' : Hp} {fr fs ex : List Addr} {B : Heap} (c : Cov s₀ H₀ fr ex H' B) (hs : ∀ b ∈ fs, b ∈ fr) (hnf : ∀ b ∈ fr, ∃ o, h.get? b = some o ∧ ∀ vs, o.data ≠ .fields vs) (b1 : B.StaysIn h) (b2 : B.StaysIn h')
    (up : ∀ b o, h.get? b = some o → (∀ vs, o.data ≠ .fields vs) → ∃ sl, h'.get? b = some { o with slots := sl }) (un : Un fs ex H₀ H' s₀ h) (hok : HOk P w H' h)
    (hfs : ∀ b o, s₀.get? b = some o → b ∈ fr → b ∈ fs) : Un fs ex H₀ H' s₀ h' ∧ HOk P w H' h' := by
  refine ⟨⟨fun b o q n hb hx => ?_, fun b o q n hb hx => ?_, un.free, fun b o q hx => ?_, un.tups, un.frzs, un.tbls⟩, fun b u e => ?_⟩
  · by_cases hf : b ∈ fr
    · exact absurd (hfs b o q hf) hb
    · exact b2 b o (c.old b o q n hf hx)
  · obtain ⟨sl, e1⟩ := un.slot b o q n hb hx
    obtain ⟨o1, e2, nf⟩ := hnf b (hs b hb)
    rw [e1] at e2
    cases e2
    obtain ⟨sl', e3⟩ := up b _ e1 nf
    exact ⟨sl', e3⟩
  · by_cases hf : b ∈ fr
    · obtain ⟨o1, e2, nf⟩ := hnf b hf
      obtain ⟨sl', e3⟩ := up b _ e2 nf
      exact ⟨_, e3⟩
    · obtain ⟨o', e⟩ := c.all b o q hf hx
      exact ⟨o', b2 b o' e⟩
  · refine (hok b u e).stay (fun d v hd q => ?_) (fun _ q => q) fun _ _ q => q
    have hd' : ∃ u', H' d = some u' := by
      rcases hd with rfl | hd
      · exact ⟨u, e⟩
      · exact ⟨_, hd⟩
    obtain ⟨u', hu'⟩ := hd'
    obtain ⟨o, ho⟩ := c.trk d u' hu'
    have := b1 d o ho
    rw [q] at this
    cases this
    exact b2 d v ho
theorem frames_nf {B h : Heap} {l : List Env} (x : h.FunFrames B l) : ∀ b ∈ frs l, ∃ o, h.get? b = some o ∧ ∀ vs, o.data ≠ .fields vs := fun b hb => by
  obtain ⟨_, o, ho, hnf⟩ := x.mem hb
  exact ⟨o, ho, hnf⟩
/-- what is wanted of an exception that leaves a body -/
def XE (X : Cx) (E : XK) : Value → Shared → Prop := fun ev s' => ∃ (e : Addr) (C : Value) (dd : Option Addr) (H' : Hp), ev = .ref e ∧ E C dd H' ∧ ExcAt X H' e C dd s'
section
variable {X : Cx} {outer : List Env}
/-- a body's own frame is the top one -/
structure Own (X : Cx) : Prop where
  ok : X.Ok
  top : X.stack = X.env :: X.outer
  fr : X.env.frame = some X.env.locals
theorem Own.sub (o : Own X) : ∀ b ∈ X.fs, b ∈ frs X.stack := fun b hb => by
  rw [o.top]; unfold frs; rw [List.filterMap_cons, o.fr]; exact List.mem_cons_of_mem _ hb
theorem Own.old (o : Own X) : ∀ b ob, X.s₀.heap.get? b = some ob → b ∈ frs X.stack → b ∈ X.fs := fun b ob q hb => by
  rw [o.top] at hb
  unfold frs at hb
  rw [List.filterMap_cons, o.fr] at hb
  rcases List.mem_cons.mp hb with rfl | hb
  · exact absurd (Nat.lt_of_lt_of_le (Heap.lt_size q) o.ok.above) (Nat.lt_irrefl _)
  · exact hb
/-- noted here -/
theorem ExcAt.note {M : Model} {E' : Value → Shared → Prop} {H' : Hp} {e : Addr} {C : Value} {dd : Option Addr} {s' : Shared} {Q : Unit → Shared → Prop} (o : Own X) (x : ExcAt X H' e C dd s')
    (h : ∀ s'', ExcAt X H' e C dd s'' → (∃ B, HeldD B X.stack e C dd X.env.locals s''.heap ∧ Cov X.s₀.heap X.H₀ (frs X.stack) X.ex H' B) → Q () s'') : wpAny M X.A (noteFrame (.ref e) X.env) Q E' s' := by
  obtain ⟨B, c, st⟩ := x.st
  have fin : ∀ {h' : Heap}, HeldD B X.stack e C dd X.env.locals h' → UpS s'.heap h' → Q () { s' with heap := h' } := fun {h'} hh up => by
    obtain ⟨u, k⟩ := c.turn o.sub (frames_nf st.frames) st.stays hh.1 up x.un x.hok o.old
    exact h _ ⟨x.os, x.bare, u, k, x.fe, B, c, .held hh⟩ ⟨B, hh, c⟩
  have hfr : X.A.frames = some (X.env :: X.outer) := by rw [← o.top]; exact o.ok.frames
  cases st with
  | made oe vs b1 b2 b3 he hc hdd hd h1 =>
    subst hc hdd
    rw [o.top] at b2
    exact st_first hfr b2 o.fr he b1 b3 hd h1 fun h' hh up => fin (by rw [o.top]; exact hh) up
  | fly hf =>
    rw [o.top] at hf
    exact st_note hfr o.fr hf fun h' hh up => fin (by rw [o.top]; exact hh) up
  | held hh =>
    exact st_again (fl := .none) o.fr hh.2.2.2 (fin hh (UpS.same _))
/-- flight set once more -/
theorem ExcAt.back {M : Model} {E' : Value → Shared → Prop} {H' : Hp} {e : Addr} {C : Value} {dd : Option Addr} {s' : Shared} {Q : Unit → Shared → Prop} (o : Own X) (x : ExcAt X H' e C dd s') (hx : ∃ B, HeldD B X.stack e C dd X.env.locals s'.heap ∧ Cov X.s₀.heap X.H₀ (frs X.stack) X.ex H' B)
    (h : ∀ s'', ExcAt X H' e C dd s'' → Q () s'') : wpAny M X.A (do
      if (← field (.ref e) 1) == .none then unsupported "frame.own-activation:exception-without-traceback"
      setFlight (.ref e) X.env.frame) Q E' s' := by
  obtain ⟨B, ⟨f1, f2, f3, f4⟩, c⟩ := hx
  obtain ⟨oe, vs, T, oT, ts, he, hcls, hd, h1, hnT, hTe, hT, hdT, h3⟩ := id f4
  refine wpAny_bind (wpAny_field he hd h1 ?_)
  rw [if_neg (show ¬ ((Value.ref T == Value.none) = true) from by simp)]
  rw [o.fr]
  refine st_flight (some X.env.locals) f1 f3 f4 fun h' k1 k2 k3 up => ?_
  obtain ⟨u, k⟩ := c.turn o.sub (frames_nf f3) f1 k1 up x.un x.hok o.old
  exact h _ ⟨x.os, x.bare, u, k, x.fe, B, c, .held ⟨k1, f2, k2, k3⟩⟩
theorem XE.passes {E : XK} (o : Own X) : PassesOwn (model X.prog X.w) X.A X.env (XE X E) := fun ev s' hx => by
  obtain ⟨e, C, dd, H', rfl, hE, x⟩ := hx
  exact x.note o fun s'' x'' hh => x''.back o hh fun s3 x3 => ⟨e, C, dd, H', rfl, hE, x3⟩
/-- the exception leaves the body -/
theorem ExcAt.leave {M : Model} {E' : Value → Shared → Prop} {H' : Hp} {e : Addr} {C : Value} {dd : Option Addr} {s' : Shared} {E : XK} (o : Own X) (hex : X.ex = []) (x : ExcAt X H' e C dd s') (hE : E C dd H') :
    wpAny M X.A (leaving X.env (.ref e)) (fun _ s'' => CX1 X.prog X.w X.outer X.H₀ X.s₀ E (.ref e) s'') E' s' := by
  unfold leaving
  refine wpAny_bind (x.note o fun s2 x2 ⟨B, ⟨f1, f2, f3, f4⟩, c⟩ => ?_)
  refine st_flight none f1 f3 f4 fun h' k1 k2 k3 up => ?_
  obtain ⟨u, k⟩ := c.turn o.sub (frames_nf f3) f1 k1 up x2.un x2.hok o.old
  rw [hex] at u c
  rw [o.top] at k2
  obtain ⟨_, _, k2⟩ := k2
  exact ⟨e, C, dd, H', rfl, hE, x2.os, x2.bare, u, k, x2.fe, B, ⟨k1, f2, k2, k3⟩, c.trk, fun b ob q n hb hx => c.old b ob q n (fun z => hb (o.old b ob q z)) hx, fun b ob q hb hx => c.all b ob q (fun z => hb (o.old b ob q z)) hx⟩
/-- an exception of a callee, in the caller's body -/
theorem ExcAt.come {pins : List (Addr × Obj)} {σ : St} {H : Hp} {s : Shared} {E : XK} {ev : Value} {s' : Shared} (o : Own X) (I : Inv X pins σ H s) (h : CX1 X.prog X.w X.stack H s E ev s') :
    ∃ (e : Addr) (C : Value) (dd : Option Addr) (H' : Hp), ev = .ref e ∧ E C dd H' ∧ ExcAt X H' e C dd s' := by
  obtain ⟨e, C, dd, H', rfl, hE, hos, hb, un, hok, fe, B, hf, c⟩ := h
  have neL : ∀ b ob, X.s₀.heap.get? b = some ob → b ≠ X.env.locals := fun b ob q => Nat.ne_of_lt (Nat.lt_of_lt_of_le (Heap.lt_size q) I.ok.above)
  refine ⟨e, C, dd, H', rfl, hE, hos.trans I.os, hb, ⟨fun b ob q n hb hx => ?_, fun b ob q n hb hx => ?_, fun b ob q n hx => ?_, fun b ob q hx => ?_, fun b xs q => un.tups b xs (I.base.tups b xs q), fun b ob u q => un.frzs b ob u (I.base.frzs b ob u q), fun b ps q => ?_⟩, hok, fe, B, ⟨c.trk, fun b ob q n hb hx => ?_, fun b ob q hb hx => ?_⟩, .fly hf⟩
  · refine un.keep b ob (I.base.keep b ob q n hb hx) (I.base.free b ob q n hx) (fun z => ?_) (by simp)
    exact hb (o.old b ob q z)
  · obtain ⟨sl, e1⟩ := I.base.slot b ob q n hb hx
    obtain ⟨sl', e2⟩ := un.any e1 (I.base.free b ob q n hx) (by simp)
    exact ⟨sl', e2⟩
  · obtain ⟨o', e1⟩ := I.base.there b ob q hx
    exact un.free b o' e1 (I.base.free b ob q n hx) (by simp)
  · obtain ⟨o', e1⟩ := I.base.there b ob q hx
    exact un.there b o' e1 (by simp)
  · obtain ⟨m1, e1⟩ := I.base.tbls b ps q
    obtain ⟨m2, e2⟩ := un.tbls b _ e1
    exact ⟨m1 ++ m2, by rw [e2, Array.append_assoc]⟩
  · exact c.old b ob (I.base.keep b ob q n (fun z => hb (o.sub b z)) hx) (I.base.free b ob q n hx) hb (by simp)
  · obtain ⟨o', e1⟩ := I.base.there b ob q hx
    exact c.all b o' e1 hb (by simp)
end
end L2

set_option Elab.async false
set_option linter.all false
set_option maxRecDepth 100000
namespace L2
open PySem PySem.Spec PyProof.Rows

theorem PSs.wished {X : Cx} {E : Value → Shared → Prop} {st : List Stmt} {t : TS} (h : PSs (X.wish E) st t) (hE : X.Ok → ∀ ev s', E ev s' → X.xe ev s') : PSs X st t := fun pins s σ H D I hw =>
  wpAny_mono (h pins s σ H D (I.wish E) hw) (fun f s' q => q.unwish) fun ev s' q => hE I.ok ev s' q
section
variable {P : Program} {w : World} {K : PySem.W.Frag} {mg : Str → Option Value} {base : Heap}
/-- a def's body and what may leave it: E of every exception's class and heap -/
theorem Fun.okE {x qual : Str} {st : Stmt} {f : Addr} {fd : FuncData} {N ps : List Str} {k : Nat} {sp : Sp} {cm : Bool} (F : Fun K x qual st f fd) (S : FnScope N ps (defScope st)) (len : ∀ vs H Q E, sp vs H Q E → vs.length = ps.length)
    (hbody : ∀ (cdv : Value) (A : Around) (outer : List Env) (s : Shared) (H : Hp) (vs : List V) (Q : VK) (E : XK), Room k (A.deeper (envOfC qual (defScope st) s.heap.objs.size f cdv)) cm → sp vs H Q E →
      ∃ t, PSs ((cxOf (CX1 P w) P w K mg base N qual (defScope st) f cdv A outer s H E cm).wish (XE (cxOf (CX1 P w) P w K mg base N qual (defScope st) f cdv A outer s H E cm) E)) (defBody st) t ∧ t { nx := fun _ H' => Q .non H', rt := Q } (start N vs) H) : FnOk P w K mg base (CX1 P w) (k + 1) f fd ps sp cm := by
  obtain ⟨oc, od, kV, doc, pm, an, cdv, ct, osl, rfl, lk, hcd⟩ := F.ex
  refine fn_of lk hcd S len fun A outer s H vs Q E hr hsp => ?_
  obtain ⟨t, h, q⟩ := hbody cdv A outer s H vs Q E hr hsp
  refine ⟨t, h.wished fun ok ev s' hx => ?_, q⟩
  obtain ⟨e, C, dd, H', rfl, hE, x⟩ := hx
  exact ExcAt.leave (X := cxOf (CX1 P w) P w K mg base N qual (defScope st) f cdv A outer s H E cm) ⟨ok, rfl, rfl⟩ rfl x hE
end
/-- the loops' condition -/
theorem own1 {X : Cx} {E : XK} (top : X.stack = X.env :: X.outer) (fr : X.env.frame = some X.env.locals) (ok : X.Ok) : PassesOwn (model (X.wish (XE X E)).prog (X.wish (XE X E)).w) (X.wish (XE X E)).A (X.wish (XE X E)).env (X.wish (XE X E)).xe := XE.passes (X := X) ⟨ok, top, fr⟩

/-! ### raise -/
theorem ObjOk.some {P : Program} {w : World} {H : Hp} {h : Heap} {a : Addr} {o : HO} (x : ObjOk P w H h a o) : ∃ ob, h.get? a = some ob := by
  induction o with
  | lst xs => obtain ⟨_, _, _, _, e⟩ := x; exact ⟨_, e⟩
  | tup xs => obtain ⟨_, _, _, ⟨ob, e, _⟩, _⟩ := x; exact ⟨_, e⟩
  | dK kvs => obtain ⟨_, _, _, _, o, _, _, e, _⟩ := x; exact ⟨_, e⟩
  | dT kvs => obtain ⟨_, _, _, _, o, _, _, e, _⟩ := x; exact ⟨_, e⟩
  | set S n => obtain ⟨ob, _, _, _, e, _⟩ := x; exact ⟨_, e⟩
  | ins C dx fs => obtain ⟨_, _, _, e, _⟩ := x; exact ⟨_, e⟩
  | own y => exact x
  | xd fs => obtain ⟨_, ⟨ob, _, _, e, _⟩, _⟩ := x; exact ⟨_, e⟩
  | rng lo hi => obtain ⟨_, _, _, e⟩ := x; exact ⟨_, e⟩
  | frz ob u _ => exact ⟨_, x.1⟩
  | tbl ps => exact ⟨_, x⟩
  | met f y => exact ⟨_, x⟩
  | ext φ => exact x.2.1
/-- an exception just made -/
theorem ExcAt.made {X : Cx} {pins : List (Addr × Obj)} {σ : St} {H : Hp} {s : Shared} {h' : Heap} {e : Addr} {C : Value} {args : List Value} (I : Inv X pins σ H s) (m : Heap.MadeExcOf s.heap h' e C args) : ExcAt X H e C none { s with heap := h' } := by
  obtain ⟨t, he, htn, ht⟩ := m.there
  have k : ∀ b ob, s.heap.get? b = some ob → h'.get? b = some ob := m.keeps
  have hnone : H e = none := by
    cases q : H e with
    | none => rfl
    | some u =>
      obtain ⟨ob, e1⟩ := (I.hok e u q).some
      rw [m.new] at e1
      cases e1
  have sub : ∀ b, b ∉ frs X.stack → b ∉ X.fs := fun b hb z => by
    rcases I.ok.stk with e | ⟨e, hf⟩
    · rw [e] at hb; exact hb z
    · rw [e] at hb
      unfold frs at hb
      rw [List.filterMap_cons, hf] at hb
      exact hb (List.mem_cons_of_mem _ z)
  refine ⟨I.os, I.bare, I.base.trans (Un.kept k), I.hok.kept k, hnone, PySem.W.hideAll s.heap (frs X.stack), ⟨fun b u q => ?_, fun b ob q n hb hx => ?_, fun b ob q hb hx => ?_⟩, ?_⟩
  · obtain ⟨ob, e1⟩ := (I.hok b u q).some
    exact ⟨ob, PySem.W.hideAll_get _ e1 fun z => by rw [I.stkFree b z] at q; cases q⟩
  · exact PySem.W.hideAll_get _ (I.base.keep b ob q n (sub b hb) hx) hb
  · obtain ⟨o', e1⟩ := I.base.there b ob q hx
    exact ⟨o', PySem.W.hideAll_get _ e1 hb⟩
  · refine .made _ _ (fun b ob q => k b ob (PySem.W.of_hideAll _ q)) ?_ ?_ he rfl rfl rfl rfl
    · refine (PySem.W.funFrames_hide I.stack fun env hm a ha => List.mem_filterMap.mpr ⟨env, hm, ha⟩).of_keeps fun b ob q _ => ⟨ob, k b ob q, rfl⟩
    · cases q : (PySem.W.hideAll s.heap (frs X.stack)).get? e with
      | none => rfl
      | some ob => have := PySem.W.of_hideAll _ q; rw [m.new] at this; cases this
/-- an own exception class beneath ValueError, without an __init__ along the way -/
def bmV : List Value := [.type "ValueError", .type "Exception", .type "BaseException", .type "object"]
structure ExcC (K : PySem.W.Frag) (C : Addr) : Prop where
  inn : PySem.W.excIn K C bmV "ValueError.__new__" = true
  kp : PySem.W.keepIn K (.ref C) = true
theorem ExcC.obj {K : PySem.W.Frag} {C : Addr} {h : Heap} (c : ExcC K C) (X : K.In h) : ∃ (bm : List Value) (N : Addr) (nm q : Str) (bs : List Value) (hdct : Bool) (sn : List Str) (sub : List Value) (ab : Bool) (col : Option Bool) (dd : Option Addr) (k0 k1 k2 k3 k5 : Option Value) (mN : Str → Option Value),
    h.get? C = some (excClassObj nm q C N bs bm hdct sn sub ab col dd k0 k1 k2 k3 k5 "ValueError.__new__") ∧ h.Ns N mN ∧ mN "__init__" = none ∧ OwnTail h bmV bm ∧ K.lookup C = some (excClassObj nm q C N bs bm hdct sn sub ab col dd k0 k1 k2 k3 k5 "ValueError.__new__") := by
  have q := c.inn
  unfold PySem.W.excIn at q
  split at q
  · rename_i dd cd sl ho
    split at q
    · rename_i C' bm k0 k1 k2 k3 n k5 hm hs
      simp only [Bool.and_eq_true, beq_iff_eq, Bool.not_eq_true'] at q
      obtain ⟨⟨⟨⟨⟨rfl, rfl⟩, hdel⟩, ht⟩, hok⟩, hni⟩ := q
      obtain ⟨nm, bs, mro, ns, qn, hd, sn, sub, ab, col, del⟩ := cd
      dsimp only at hm hdel hok hni
      subst hm hdel
      have hsl : sl = #[k0, k1, k2, k3, some (.builtin "ValueError.__new__"), k5] := by
        obtain ⟨l⟩ := sl
        simp only at hs
        rw [hs]
      subst hsl
      exact ⟨bm, ns, nm, qn, bs, hd, sn, sub, ab, col, dd, k0, k1, k2, k3, k5, _, X _ _ ho, .of_isNs (PySem.W.isNs_of_in X hok), PySem.W.nsMap_none_of_in X hok hni, PySem.W.tail_of_in X ht, ho⟩
    · cases q
  · cases q
/-- raise C(args) -/
def tRaise (C : Addr) (E : XK) (ta : TA) : TS := fun _ σ H => ta σ H fun vs H1 => vs.length ≤ sizeLine ∧ E (.ref C) none H1
theorem ps_raise {X : Cx} {E : XK} {C : Addr} {x : Str} {a : Expr} {args : List Expr} {np cpos pos : Pos} {ta : TA} (hc : X.calm = true) (c : ExcC X.K C) (hg : Gl (X.wish (XE X E)) x) (hm : X.mg x = some (.ref C)) (ha : PA (X.wish (XE X E)) (a :: args) ta)
    (hd : (x == ("__debug__" : Str)) = false := by decide) (he : starEach (a :: args) X.env = (false, eval a X.env) :: starEach args X.env := by rfl) (hplain : (backTo cpos (starEach args X.env)).any (·.1) = false := by rfl) :
    PS (X.wish (XE X E)) (.Raise (some (.Call (.Name x np) (a :: args) [] cpos)) none pos) (tRaise C E ta) := by
  intro pins s σ H D I hw
  obtain ⟨bm, N, nm, q, bs, hdct, sn, sub, ab, col, dd, k0, k1, k2, k3, k5, mN, hC, hn, hni, hT, hlk⟩ := c.obj I.ok.mod.kin
  have hpl : (backTo cpos (starEach (a :: args) X.env)).any (·.1) = false := by
    rw [he]
    show (false || (backTo cpos (starEach args X.env)).any (·.1)) = false
    rw [hplain]; rfl
  refine wpAny_Raise_call_subU (C := C) (mN := mN) (nm := nm) (q := q) (N := N) (bs := bs) (hdct := hdct) (sn := sn) (sub := sub) (ab := ab) (col := col) (dd := dd) (k0 := k0) (k1 := k1) (k2 := k2) (k3 := k3) (k5 := k5) (bmB := bmV) PySem.F.excBase_ValueError (by decide) PySem.F.excBase_ValueError (hT.hasType (by decide)) (I.ok.hd hc) hpl hni ?_
  refine ld_glob I hg hm ⟨rfl, ?_⟩ hd
  have hA := ha cpos pins s σ H _ I hw
  rw [show (X.wish (XE X E)).env = X.env from rfl, he] at hA
  rw [he]
  refine Calls.evalArgs_plain (thn hA fun us s1 ⟨vs, H1, I1, r, hl, hE⟩ => ?_)
  have kb : ∀ b ob, X.base.get? b = some ob → s1.heap.get? b = some ob := I1.bk
  exact ⟨rfl, by rw [← r.length]; exact hl, kb _ _ hC, hn.keeps kb, hT.keeps kb, fun h' e m => ⟨e, .ref C, none, H1, rfl, hE, ExcAt.made I1.unwish m⟩⟩
end L2

set_option Elab.async false
set_option linter.all false
set_option maxRecDepth 100000
namespace L2
open PySem PySem.Spec PyProof.Rows

/-! ### an exception that has landed: noted here, its flight ended -/
structure Lnd (X : Cx) (s : Shared) (H H' : Hp) (e : Addr) (C : Value) (dd : Option Addr) (s3 : Shared) : Prop where
  os : s3.os = s.os
  bare : AllBare s3.gens
  un : Un (frs X.stack) [] H H' s.heap s3.heap
  hok : HOk X.prog X.w H' s3.heap
  fe : H' e = none
  st : ∃ B, FlyD B X.stack e C dd s3.heap ∧ Cov s.heap H (frs X.stack) [] H' B
def IsExc (e : Addr) (C : Value) (h : Heap) : Prop := ∃ oe vs, h.get? e = some oe ∧ oe.cls = C ∧ oe.data = .fields vs
section
variable {X : Cx} {pins : List (Addr × Obj)} {σ : St} {H H' : Hp} {s s3 : Shared} {e : Addr} {C : Value} {dd : Option Addr}
theorem Lnd.inv (I : Inv X pins σ H s) (l : Lnd X s H H' e C dd s3) : Inv X pins σ H' s3 := I.call' l.os l.un l.hok l.bare (fun b z => nomatch z)
theorem CX1.lands {M : Model} {E : XK} {E' : Value → Shared → Prop} {ev : Value} {s' : Shared} {Q : Unit → Shared → Prop} (hfr : X.A.frames = some (X.env :: X.outer)) (top : X.stack = X.env :: X.outer) (fr : X.env.frame = some X.env.locals) (h : CX1 X.prog X.w X.stack H s E ev s')
    (hQ : ∀ e C dd H' s3, ev = .ref e → E C dd H' → Lnd X s H H' e C dd s3 → Q () s3) : wpAny M X.A (noteFrame ev X.env) (fun _ s2 => wpAny M X.A (setFlight ev none) Q E' s2) E' s' := by
  obtain ⟨e, C, dd, H', rfl, hE, hos, hb, un, hok, fe, B, hf, c⟩ := h
  have hf' := hf
  rw [top] at hf
  refine st_note hfr fr hf fun h2 hh up => ?_
  obtain ⟨f1, f2, f3, f4⟩ := hh
  refine st_flight none f1 f3 f4 fun h3 k1 k2 k3 up3 => ?_
  obtain ⟨u, k⟩ := c.turn (P := X.prog) (w := X.w) (fs := frs X.stack) (fun _ z => z) (frames_nf hf'.2.2.1) hf.1 k1 (up.trans up3) un hok (fun _ _ _ z => z)
  rw [← top] at k2
  exact hQ e C dd H' _ rfl hE ⟨hos, hb, u, k, fe, B, ⟨k1, f2, k2, k3⟩, c⟩
theorem Lnd.again {M : Model} {A : Around} {E' : Value → Shared → Prop} {Q : Unit → Shared → Prop} (l : Lnd X s H H' e C dd s3) (hQ : ∀ s4, Lnd X s H H' e C dd s4 → Q () s4) : wpAny M A (setFlight (.ref e) none) Q E' s3 := by
  obtain ⟨B, ⟨f1, f2, f3, f4⟩, c⟩ := l.st
  refine st_flight none f1 f3 f4 fun h' k1 k2 k3 k4 => ?_
  obtain ⟨u, k⟩ := c.turn (P := X.prog) (w := X.w) (fs := frs X.stack) (fun _ z => z) (frames_nf f3) f1 k1 k4 l.un l.hok (fun _ _ _ z => z)
  exact hQ _ ⟨l.os, l.bare, u, k, l.fe, B, ⟨k1, f2, k2, k3⟩, c⟩
theorem Lnd.obj (l : Lnd X s H H' e C dd s3) : IsExc e C s3.heap := by
  obtain ⟨B, ⟨f1, f2, f3, oe, vs, T, oT, ts, he, hc, hd, _⟩, c⟩ := l.st
  exact ⟨oe, vs, he, hc.1, hd⟩
theorem Lnd.new (l : Lnd X s H H' e C dd s3) : s.heap.get? e = none := by
  obtain ⟨oe, vs, he, hc, hd⟩ := l.obj
  obtain ⟨B, ⟨f1, f2, f3, f4⟩, c⟩ := l.st
  cases q : s.heap.get? e with
  | none => rfl
  | some o =>
    by_cases hm : e ∈ frs X.stack
    · obtain ⟨o1, e1, nf⟩ := frames_nf f3 e hm
      rw [he] at e1; cases e1
      exact absurd hd (nf vs)
    · obtain ⟨o', e'⟩ := c.all e o q hm (by simp)
      rw [f2] at e'; cases e'
/-- .. with its dict -/
def IsExcD (e : Addr) (C : Value) (dd : Option Addr) (h : Heap) : Prop := ∃ oe vs, h.get? e = some oe ∧ oe.cls = C ∧ oe.dict = dd ∧ oe.data = .fields vs
theorem Lnd.objD (l : Lnd X s H H' e C dd s3) : IsExcD e C dd s3.heap := by
  obtain ⟨B, ⟨f1, f2, f3, oe, vs, T, oT, ts, he, hc, hd, _⟩, c⟩ := l.st
  exact ⟨oe, vs, he, hc.1, hc.2, hd⟩
/-- .. and tracked -/
theorem Lnd.track (I : Inv X pins σ H s) (l : Lnd X s H H' e C dd s3) {φ : Heap → Prop} (hφ : φ s3.heap) (mono : ∀ h h', φ h → (∀ o, h.get? e = some o → h'.get? e = some o) → φ h') : Inv X pins σ (upd H' e (.ext φ)) s3 := by
  have hnew := l.new
  have ne : ∀ b u, H b = some u → b ≠ e := fun b u q z => by
    obtain ⟨o, ho⟩ := (I.hok b u q).some
    rw [z, hnew] at ho; cases ho
  have ne' : ∀ b o, s.heap.get? b = some o → b ≠ e := fun b o q z => by rw [z, hnew] at q; cases q
  have hn : ∀ b u, H' b = some u → b ≠ e := fun b u q z => by rw [z, l.fe] at q; cases q
  refine I.call' l.os ⟨l.un.keep, l.un.slot, fun b o q n hx => ?_, l.un.there, fun b xs q => ?_, fun b o u q => ?_, fun b ps q => ?_⟩ (fun b u q => ?_) l.bare (fun b z => nomatch z)
  · rw [upd_ne (ne' b o q)]; exact l.un.free b o q n hx
  · rw [upd_ne (ne b _ q)]; exact l.un.tups b xs q
  · rw [upd_ne (ne b _ q)]; exact l.un.frzs b o u q
  · rw [upd_ne (ne b _ q)]; exact l.un.tbls b ps q
  · by_cases hb : b = e
    · subst hb; rw [upd_same] at q; cases q
      obtain ⟨oe, vs, he, hc, hd⟩ := l.obj
      exact ⟨hφ, ⟨oe, he⟩, mono⟩
    · rw [upd_ne hb] at q
      exact (l.hok b u q).stay (fun _ _ _ q => q) (fun c q => by rw [upd_ne (hn c _ q)]; exact q) fun c xs q => by rw [upd_ne (hn c _ q)]; exact q
theorem Lnd.trackedD (I : Inv X pins σ H s) (l : Lnd X s H H' e C dd s3) : Inv X pins σ (upd H' e (.ext (IsExcD e C dd))) s3 := l.track I l.objD fun h h' ⟨oe, vs, he, hc, h1, hd⟩ k => ⟨oe, vs, k oe he, hc, h1, hd⟩
end

/-! ### within the suite: the exception is marked -/
abbrev Cx.inH (X : Cx) (e : Addr) : Cx := { X with A := X.A.mark (some (.ref e)), calm := false }
section
variable {X : Cx} {pins : List (Addr × Obj)} {σ : St} {H : Hp} {s : Shared} {e : Addr}
theorem Cx.Ok.inH (ok : X.Ok) (hfr : (X.A.mark (some (.ref e))).frames = X.A.frames := by rfl) : (X.inH e).Ok :=
  ⟨ok.mod, ok.kind, ok.glob, ok.blt, ok.above, ok.inj, ok.has, ok.cab, (fun z => nomatch z), hfr.trans ok.frames, ok.stk, ok.exf, ok.bs, ok.bsz, ok.noex, ok.exfs, ok.funs, ok.frf⟩
theorem Inv.inH (I : Inv X pins σ H s) : Inv (X.inH e) pins σ H s := ⟨I.ok.inH, I.os, I.bare, I.base, I.loc, I.cell, I.free, I.freeC, I.pin, I.hok, I.len⟩
theorem Inv.ofH (ok : X.Ok) (I : Inv (X.inH e) pins σ H s) : Inv X pins σ H s := ⟨ok, I.os, I.bare, I.base, I.loc, I.cell, I.free, I.freeC, I.pin, I.hok, I.len⟩
/-- behind the suite the name goes -/
theorem goes {M : Model} {A : Around} {E : Value → Shared → Prop} {i : Nat} {n : Str} {pos : Pos} {Q : Unit → Shared → Prop} (I : Inv X pins σ H s) (hN : X.N.Nodup) (hi : X.N[i]? = some n) (hk : X.env.scope.names.lookup n = some .local)
    (h : ∀ s', Inv X pins (σ.set i none) H s' → Q () s') : wpAny M A (do bindName X.env n .none; unbindBehindTheSuite X.env n pos) Q E s := by
  obtain ⟨m, hn, hl⟩ := id I.loc
  have hcls : (X.env.scope.kind == .class || (X.env.scope.kind == .module && X.env.locals != X.env.globals)) = false := by rw [I.ok.kind]; rfl
  have hiσ : i < σ.length := by rw [I.len]; exact (List.getElem?_eq_some_iff.mp hi).1
  have cne := I.cne
  refine wpAny_nameGoes_keeps hk hn hcls fun h' v hn' hs => ?_
  obtain ⟨oL, _, _, hoL, _⟩ := id hn
  refine h _ ⟨I.ok, I.os, I.bare, ⟨fun b o e n hb hx => ?_, fun b o e n hb hx => ?_, I.base.free, fun b o e hx => ?_, I.base.tups, I.base.frzs, I.base.tbls⟩, ⟨_, hn', fun j y v' e1 e2 e3 => ?_⟩, fun y c e => ?_, I.free, I.freeC, fun p hp => ?_, fun b ob e => ?_, by simpa using I.len⟩
  · exact (hs.2 b (Nat.ne_of_lt (Nat.lt_of_lt_of_le (Heap.lt_size e) I.ok.above))).trans (I.base.keep b o e n hb hx)
  · obtain ⟨sl, e1⟩ := I.base.slot b o e n hb hx
    exact ⟨sl, (hs.2 b (Nat.ne_of_lt (Nat.lt_of_lt_of_le (Heap.lt_size e) I.ok.above))).trans e1⟩
  · obtain ⟨o', e1⟩ := I.base.there b o e hx
    exact ⟨o', (hs.2 b (Nat.ne_of_lt (Nat.lt_of_lt_of_le (Heap.lt_size e) I.ok.above))).trans e1⟩
  · by_cases hj : j = i
    · subst hj
      rw [List.getElem?_set_self hiσ] at e2
      cases e2
    · rw [List.getElem?_set_ne (Ne.symm hj)] at e2
      obtain ⟨u', r', q⟩ := hl j y v' e1 e2 e3
      refine ⟨u', r', ?_⟩
      rcases q with ⟨k, e⟩ | ⟨k, c, e, z⟩
      · refine .inl ⟨k, ?_⟩
        have : y ≠ n := fun e => hj (nodup_ix hN e1 (e ▸ hi))
        simp [this, e]
      · exact .inr ⟨k, c, e, z.sameBut hs (cne y c e)⟩
  · obtain ⟨w', z⟩ := I.cell y c e
    exact ⟨w', z.sameBut hs (cne y c e)⟩
  · obtain ⟨e, n, ne, nf, d⟩ := I.pin p hp
    exact ⟨(hs.2 p.1 ne).trans e, n, ne, nf, d⟩
  · refine (I.hok b ob e).stay (fun c w' hc q => (hs.2 c ?_).trans q) (fun _ q => q) fun _ _ q => q
    rintro rfl
    rcases hc with rfl | hc
    · rw [I.free] at e; cases e
    · rw [I.free] at hc; cases hc
end
end L2

set_option Elab.async false
set_option linter.all false
set_option maxRecDepth 100000
namespace L2
open PySem PySem.Spec PyProof.Rows PySem.W PySem.Calls PySem.Builtin PySem.Builtin.ObjectAttr PySem.Builtin.Getset_descriptor

/-! ### isinstance of an exception: only its class is known -/
def ClsAt (e D : Addr) (h : Heap) : Prop := ∃ oe, h.get? e = some oe ∧ oe.cls = .ref D
theorem ClsAt.looks {M : Model} {e D : Addr} {h : Heap} (p : ClsAt e D h) : Looks M h (typeOf (.ref e)) (.ref D) := by
  obtain ⟨oe, a, b⟩ := p
  exact b ▸ (Looks.ld a).andThen .now
/-- what the fragment says of an own class whose instances have no dict yet -/
structure ClsE (K : Frag) (D : Addr) : Prop where
  ga : findIn K (.ref D) "__getattribute__" = some (some (.builtin "BaseException.__getattribute__"))
  gn : findIn K (.ref D) "__getattr__" = some none
  fd : findIn K (.ref D) "__class__" = some (some (.builtin "object.__class__"))
  sp : specialIn K (.builtin "object.__class__") "__get__" = some (some (.builtin "getset_descriptor.__get__"))
  tk : takesIn K (.builtin "object.__class__") = some true
  ob : mroIn K D (.type "object") = some true
  be : mroIn K D (.type "BaseException") = some true
theorem cls_of_mro {K : Frag} {D : Addr} {v : Value} {b : Bool} (h : mroIn K D v = some b) : (clsIn K D).isSome = true := by
  unfold mroIn at h
  obtain ⟨cd, e, _⟩ := Option.bind_eq_some_iff.mp h
  rw [e]; rfl
theorem ClsE.cl {K : Frag} {D : Addr} (c : ClsE K D) : (clsIn K D).isSome = true := cls_of_mro c.ob
theorem ClsE.find {K : Frag} {D e : Addr} {M : Model} {h : Heap} (c : ClsE K D) (X : K.In h) : Looks M h (find (.ref e) (.ref D) "__class__") (.bind (.builtin "getset_descriptor.__get__") (.builtin "object.__class__")) := by
  have a1 := looks_findIn (M := M) X c.fd
  have a2 : Looks M h (getOf (some (.builtin "object.__class__"))) (some (.builtin "getset_descriptor.__get__")) := looks_specialIn X c.sp
  have a3 := looks_takesIn (M := M) X c.tk
  have a4 : Looks M h (dataDescriptor? (some (.builtin "object.__class__")) (some (.builtin "getset_descriptor.__get__"))) (some (.builtin "getset_descriptor.__get__", .builtin "object.__class__")) := a3.andThen .now
  exact a1.andThen (a2.andThen (a4.andThen (Looks.tag .now)))
theorem ClsE.kit {K : Frag} {D e : Addr} (c : ClsE K D) : KitX K (.ref e) (.ref D) (ClsAt e D) where
  ty := fun _ _ _ p => p.looks
  it := fun _ _ X _ => by
    have z := c.cl
    unfold clsIn at z
    split at z
    · rename_i ho
      intro A' Q' E' s' k q
      unfold isType loadHead
      exact wpAny_bind (wpAny_loadPart (k _ _ (X _ _ ho)) (wpAny_pure q))
    · cases z
  ne := fun h tp dd its n sl X htp => by
    have z := c.cl
    refine Bool.eq_false_iff.mpr fun q => ?_
    obtain rfl : D = tp := Value.ref.inj (beq_iff_eq.mp q)
    unfold clsIn at z
    split at z
    · rename_i ho
      cases (X _ _ ho).symm.trans htp
    · cases z
  ca := fun {prog w A E Q s} X p hq => by
    obtain ⟨hh, g, d, t, os⟩ := s
    have T := p.looks (M := model prog w)
    have G := looks_findIn (M := model prog w) X c.ga
    have N := looks_findIn (M := model prog w) X c.gn
    have F1 := c.find (e := e) (M := model prog w) X
    have O := looks_mroIn (M := model prog w) X c.ob
    unfold getAttr? getAttrBy? getAttrBy
    refine wpAny_bind (wpAny_mkText (wpAny_bind (wpAny_attempt (wpAny_holding (wpAny_bind (T.at (wpAny_bind (G.at ?_))))))))
    have hx2 : (Value.builtin "BaseException.__getattribute__" == Value.builtin "object.__getattribute__") = false := by decide +kernel
    have hx1 : ¬ (onTheHeap (Value.ref D) && Value.builtin "BaseException.__getattribute__" == Value.builtin "object.__getattribute__") = true := by rw [hx2, Bool.and_false]; exact Bool.false_ne_true
    have Bx := looks_mroIn (M := model prog w) X c.be
    dsimp only
    rw [if_neg hx1]
    unfold getAttrByItsOwn hookBefore callGetattribute boundAndCalled
    refine wpAny_bind (N.at ?_)
    refine wpAny_bind (wpAny_attempt (wpAny_holding ?_))
    show wpAny _ _ (bindSpecial (.builtin "BaseException.__getattribute__") (.ref e) >>= _) _ _ _
    refine wpAny_bind (wpAny_of_eq (PySem.F.attrBase_ValueError.ga.bind _) ?_)
    refine wpAny_call (codeAny_call_builtin PySem.F.attrBase_ValueError.ga.plain PySem.F.entry_bexc_ga ?_)
    have hk : builtinKind "BaseException.__getattribute__" = some .slot := by decide +kernel
    have hsplit : splitId "BaseException.__getattribute__" = some ("BaseException", "__getattribute__") := by decide +kernel
    have hag := PySem.F.args_bexc_ga (.ref e) (.str "__class__" t)
    simp only [checkBuiltinCall, hk, hsplit]
    unfold isInstance
    repeat ((fail_if_success (with_reducible show wpAny _ _ (call _ _) _ _ _)); (first | lk | wp_step))
    refine wpAny_call ?_
    refine codeAny_call_builtin KF.slot_gs.plain KF.entry_gs (KF.slot_gs.check _ _ _ _ _ _ _ _ KF.type_class (KF.args_gs _ _ _) ?_)
    unfold Builtin.«getset_descriptor.__get__» descrGet
    rw [dga_obj]
    refine wpAny_bind (wpAny_pure ?_)
    unfold descrGetter descrCheckInstance descrNameAndClass isInstance
    simp only [KF.owner_class]
    repeat lk
    refine ⟨Code.quiet_builtin _ (by decide +kernel), codeAny_builtin KF.entry_class ?_⟩
    unfold Builtin.«object.__class__» shownTypeOf
    repeat lk
    exact hq
/-! ### which classes an except clause takes -/
theorem matches_own {M : Model} {A : Around} {E : Value → Shared → Prop} {nm q nm' q' : Str} {C N S N' : Addr} {bs bm bs' bm' : List Value} {hdct hdct' : Bool} {sn sn' : List Str} {sub sub' : List Value} {ab ab' : Bool} {col col' : Option Bool} {dd dd' : Option Addr} {k0 k1 k2 k3 k5 k0' k1' k2' k3' k5' : Option Value} {newId newId' : String}
    {h : Heap} {g : Array GenState} {d : Drawn} {t : Nat} {os : OsState} {e : Addr} {oe : Obj} {Q : Bool → Shared → Prop}
    (hC : h.get? C = some (excClassObj nm q C N bs bm hdct sn sub ab col dd k0 k1 k2 k3 k5 newId)) (hS : h.get? S = some (excClassObj nm' q' S N' bs' bm' hdct' sn' sub' ab' col' dd' k0' k1' k2' k3' k5' newId'))
    (he : h.get? e = some oe) (hcls : oe.cls = .ref C) (hb : bm'.contains (.type "BaseException") = true) (hm : (Value.ref C :: bm).contains (.ref S) = true)
    (hq : Q true ⟨h, g, d, t, os⟩) : wpAny M A (excMatches (.ref e) (.ref S)) Q E ⟨h, g, d, t, os⟩ := by
  have hB : (Value.ref S :: bm').contains (.type "BaseException") = true := by rw [List.contains_cons, hb, Bool.or_true]
  have f := tc_notTuple
  unfold excMatches
  repeat (first | (with_reducible refine wpAny_loadPart_at he ?_; rw [hcls]) | with_reducible refine wpAny_loadPart_at hS ?_ | (with_reducible refine wpAny_isSubtype_exc hS ?_; rw [hB]) | (with_reducible refine wpAny_isSubtype_exc hC ?_; rw [hm]) | wp_step)
  exact hq
end L2

set_option Elab.async false
set_option linter.all false
set_option maxRecDepth 100000
namespace L2
open PySem PySem.Spec PyProof.Rows PySem.W

/-! ### try: f(..) except S as n: suite -/
abbrev TX := St → Hp → VK → XK → Prop
/-- an expression that may raise: by a call, whose own entry is known -/
def PX (X : Cx) (e : Expr) (t : TX) : Prop := ∀ (pins : List (Addr × Obj)) (s : Shared) (σ : St) (H : Hp) (Q : VK) (E : XK), Inv X pins σ H s → t σ H Q E →
  wpAny (model X.prog X.w) X.A (eval e X.env) (EP X pins σ Q) (fun ev s' => ∃ H1 s1, Inv X pins σ H1 s1 ∧ CX1 X.prog X.w X.stack H1 s1 E ev s') s
def xCall (sp : Sp) (dvs : List V) (t : TA) : TX := fun σ H Q E => t σ H fun vs H1 => sp (vs ++ dvs) H1 Q E
section
variable {X : Cx} {k : Nat} {f : Addr} {fd : FuncData} {ps : List Str} {sp : Sp} {dvs : List V} {ds : List Value} {x : Str} {p pos : Pos} {e : Expr} {es : List Expr} {t : TA} {cm : Bool}
theorem px_call (F : FnOk X.prog X.w X.K X.mg X.base (CX1 X.prog X.w) k f fd ps sp cm) (hr : Room k X.A cm) (hg : Gl X x) (hm : X.mg x = some (.ref f)) (hk : keepIn X.K (.ref f) = true) (hb : Binds X.K fd ps ds) (hd : Vals dvs ds) (ha : PA X.nox (e :: es) t)
    (hdb : (x == ("__debug__" : Str)) = false := by decide) (he : starEach (e :: es) X.env = (false, eval e X.env) :: starEach es X.env := by rfl) (hpl : (backTo pos (starEach es X.env)).any (·.1) = false := by rfl) :
    PX X (.Call (.Name x p) (e :: es) [] pos) (xCall sp dvs t) := by
  intro pins s σ H Q E I h
  refine wpAny_Call_Name_kw (ld_glob I hg hm ?_ hdb)
  have hA := wpAny_mono (ha pos pins s σ H _ (I.wish _) h) (fun us s1 q => q) (E' := fun ev s' => ∃ H1 s1, Inv X pins σ H1 s1 ∧ CX1 X.prog X.w X.stack H1 s1 E ev s') fun _ _ z => False.elim z
  refine callWith_K (h₀ := X.base) I.ok.mod.kin hk (thn hA fun us s1 ⟨vs, H1, I1, r, q⟩ => ⟨I1.kIn, ?_⟩) he hpl
  have I1' := I1.unwish
  have r2 : Vals (vs ++ dvs) (us ++ ds) := r.append hd
  have hl : (us ++ ds).length = ps.length := by rw [← r2.length]; exact F.len _ _ _ _ q
  refine wpAny_call (codeAny_mono (F.run X.A X.stack s1 H1 ⟨us, []⟩ (us ++ ds) (vs ++ dvs) Q E hr I1'.env0 (hb s1 us I1'.kIn hl) r2 q) fun r s' hq => ?_)
  cases r with
  | error e => exact ⟨H1, s1, I1', hq⟩
  | ok fl => cases fl with
    | ret u => exact I1'.after hq
    | _ => exact False.elim hq
end
def IsXC (K : Frag) (c : Addr) (bm : List Value) : Prop := ∃ (nm q : Str) (N : Addr) (bs : List Value) (hdct : Bool) (sn : List Str) (sub : List Value) (ab : Bool) (col : Option Bool) (dd : Option Addr) (k0 k1 k2 k3 k5 : Option Value) (newId : String),
  K.lookup c = some (excClassObj nm q c N bs bm hdct sn sub ab col dd k0 k1 k2 k3 k5 newId)
/-- an except clause of S takes an instance of c -/
structure Takes (K : Frag) (c S : Addr) : Prop where
  ex : ∃ bm bm', IsXC K c bm ∧ IsXC K S bm' ∧ bm'.contains (.type "BaseException") = true ∧ (Value.ref c :: bm).contains (.ref S) = true
end L2

set_option Elab.async false
set_option linter.all false
set_option maxRecDepth 100000
namespace L2
open PySem PySem.Spec PyProof.Rows PySem.W
theorem boot_ValueError : bootBuiltins "ValueError" = some (.type "ValueError") := by first | rfl | decide +kernel | (unfold bootBuiltins; rfl)
/-- with the context's facts at hand -/
theorem ps_ok {X : Cx} {st : Stmt} {t : TS} (h : X.Ok → PS X st t) : PS X st t := fun pins s σ H D I hw => h I.ok pins s σ H D I hw
/-- a callee that may raise, called where it doesn't -/
theorem pass01 {X : Cx} {P : Program} {w : World} : Passes (CX1 P w) X E0 := fun _ _ _ _ _ _ _ ⟨_, _, _, _, _, h, _⟩ => h.elim
theorem ownE {X : Cx} {E : XK} (ok : (X.wish (XE X E)).Ok) (top : X.stack = X.env :: X.outer := by rfl) (fr : X.env.frame = some X.env.locals := by rfl) : PassesOwn (model (X.wish (XE X E)).prog (X.wish (XE X E)).w) (X.wish (XE X E)).A (X.wish (XE X E)).env (X.wish (XE X E)).xe := own1 top fr ok.unwish
/-- room within an except suite -/
theorem Room.inH {k : Nat} {A : Around} {cm : Bool} (r : Room k A cm) (e : Addr) : Room k (A.mark (some (.ref e))) false := ⟨(fun z => nomatch z), r.dp, r.un⟩
theorem FnOk.any {P : Program} {w : World} {K : Frag} {mg : Str → Option Value} {base : Heap} {CX : CXT} {k : Nat} {f : Addr} {fd : FuncData} {ps : List Str} {sp : Sp} (F : FnOk P w K mg base CX k f fd ps sp false) : FnOk P w K mg base CX k f fd ps sp :=
  ⟨F.len, fun A outer s H args us vs Q E hr => F.run A outer s H args us vs Q E ⟨(fun z => nomatch z), hr.dp, hr.un⟩⟩
theorem ExcC.isX {K : Frag} {C : Addr} {h : Heap} (c : ExcC K C) (X : K.In h) : ∃ bm, IsXC K C bm ∧ OwnTail h bmV bm := by
  obtain ⟨bm, N, nm, q, bs, hdct, sn, sub, ab, col, dd, k0, k1, k2, k3, k5, mN, hC, hn, hni, hT, hlk⟩ := c.obj X
  exact ⟨bm, ⟨nm, q, N, bs, hdct, sn, sub, ab, col, dd, k0, k1, k2, k3, k5, _, hlk⟩, hT⟩
end L2

set_option Elab.async false
set_option linter.all false
set_option maxRecDepth 100000
namespace L2
open PySem PySem.Spec PyProof.Rows

/-! ### zip(a, b) walked by a tuple target -/
def itName : Bool → String
  | true => "tuple_iterator"
  | false => "list_iterator"
/-- an iterator over a tuple (k = true) or a list -/
def IterAt (k : Bool) (h : Heap) (it l : Addr) (i : Nat) : Prop := ∃ o, h.get? it = some o ∧ o.cls = .type (itName k) ∧ o.data = .fields #[.ref l, .int i 0]
def SeqIs (k : Bool) (h : Heap) (l : Addr) (items : Array Value) : Prop :=
  match k with
  | true => h.IsTuple l items
  | false => h.IsList l items
theorem IterAt.kept {k : Bool} {h h' : Heap} {it l : Addr} {i : Nat} (x : IterAt k h it l i) (f : ∀ o, h.get? it = some o → h'.get? it = some o) : IterAt k h' it l i :=
  let ⟨o, e, r⟩ := x; ⟨o, f o e, r⟩
theorem IterAt.lt {k : Bool} {h : Heap} {it l : Addr} {i : Nat} (x : IterAt k h it l i) : it < h.objs.size := let ⟨_, e, _⟩ := x; Heap.lt_size e
theorem SeqIs.kept {k : Bool} {h h' : Heap} {l : Addr} {items : Array Value} (x : SeqIs k h l items) (f : ∀ o, h.get? l = some o → h'.get? l = some o) : SeqIs k h' l items := by
  cases k
  · obtain ⟨o, e, r⟩ := x; exact ⟨o, f o e, r⟩
  · obtain ⟨o, e, r⟩ := x; exact ⟨o, f o e, r⟩
theorem SeqIs.lt {k : Bool} {h : Heap} {l : Addr} {items : Array Value} (x : SeqIs k h l items) : l < h.objs.size := by
  cases k
  · obtain ⟨o, e, _⟩ := x; exact Heap.lt_size e
  · obtain ⟨o, e, _⟩ := x; exact Heap.lt_size e
section
variable {prog : Program} {w : World} {A : Around} {E : Value → Shared → Prop} {s : Shared}
theorem nextOf_tup {it l : Addr} {i : Nat} {items : Array Value} {Q : Value → Shared → Prop} (hit : s.heap.IsTupleIter it l i) (ht : s.heap.IsTuple l items)
    (h : match items[i]? with
      | some x => ∀ h', h'.IsTupleIter it l (i + 1) → Heap.SameBut it s.heap h' → Q x { s with heap := h' }
      | none => A.handled = none ∧ ∀ h' e, Heap.ExtBut it s.heap h' → (∃ o, h'.get? e = some o ∧ o.cls = .type "StopIteration") → E (.ref e) { s with heap := h' }) :
    wpAny (model prog w) A (Builtin.SmallTypes.nextOf (.ref it)) Q E s := by
  obtain ⟨oi, e1, c1, d1⟩ := id hit
  obtain ⟨ot, e2, _, m2, d2⟩ := ht
  unfold Builtin.SmallTypes.nextOf
  refine wpAny_bind (wpAny_callSpecial?_slot (name := Str.ofString "__next__") hit.typeIs F.slot_tuple_iterator_next (wpAny_call_entry F.slot_tuple_iterator_next hit.typeIs F.entry_tuple_iterator_next ?_ (F.args_tuple_iterator_next_1 _)))
  show wpAny _ _ (field (.ref it) 0 >>= _) _ _ s
  refine wpAny_bind (wpAny_field e1 d1 (x := .ref l) rfl ?_)
  show wpAny _ _ (if (Value.ref l == Value.none) = true then _ else _) _ _ s
  rw [if_neg (show ¬ ((Value.ref l == Value.none) = true) from Bool.false_ne_true)]
  show wpAny _ _ (field (.ref it) 1 >>= _) _ _ s
  refine wpAny_bind (wpAny_field e1 d1 (x := .int i 0) rfl ?_)
  show wpAny _ _ (seqItems? (.ref l) >>= _) _ _ s
  refine wpAny_bind (wpAny_seqItems e2 d2 ?_)
  cases hx : items[i]? with
  | some x =>
    rw [hx] at h
    simp only [Int.toNat_natCast, hx]
    refine wpAny_bind (wpAny_setField e1 d1 (by simp) (wpAny_pure ⟨x, rfl, wpAny_pure (h _ ?_ (Heap.SameBut.update ..))⟩))
    refine ⟨_, Heap.get?_update_self _ e1 (Obj.isFreed_of_fields (Obj.data_mapFields d1 _)), (Obj.cls_mapFields ..).trans c1, ?_⟩
    rw [Obj.data_mapFields d1]
    simp [rawInt]
  | none =>
    rw [hx] at h
    obtain ⟨hh, h⟩ := h
    simp only [Int.toNat_natCast, hx]
    refine wpAny_bind (wpAny_rule (wpAny_bind (wpAny_setField e1 d1 (by simp) ?_)))
    show wpAny _ _ (newExc (.type "StopIteration") [] >>= _) _ _ _
    refine wpAny_bind ?_
    simp only [newExc, newTuple]
    refine wpAny_bind (wpAny_newObj_type ?_ (by size_fits))
    refine wpAny_bind (m := firstArgMember _ _) (wpAny_of_eq (a := Value.none) (by first | rfl | (simp only [firstArgMember]; rfl)) ?_)
    refine wpAny_newObj_type ?_ (by size_fits)
    simp only [raiseNew]
    refine wpAny_bind (wpAny_handled ?_)
    first | rw [show A.in1.handled = none from hh] | rw [hh]
    exact wpAny_bind (wpAny_pure (wpAny_throw (h _ _ (((Heap.SameBut.update ..).extBut.push _).push _) ⟨_, Heap.get?_push_size _ rfl, rfl⟩)))
/-- the next one of a list's or tuple's iterator -/
theorem nextS {k : Bool} {it l : Addr} {i : Nat} {items : Array Value} {x : Value} {Q : Value → Shared → Prop} (hit : IterAt k s.heap it l i) (hl : SeqIs k s.heap l items) (hx : items[i]? = some x)
    (hQ : ∀ h', IterAt k h' it l (i + 1) → Heap.SameBut it s.heap h' → Q x { s with heap := h' }) : wpAny (model prog w) A (Builtin.SmallTypes.nextOf (.ref it)) Q E s := by
  cases k
  · exact wpAny_nextOf_list_item hit hl hx hQ
  · exact nextOf_tup hit hl (by rw [hx]; exact hQ)
theorem endS {k : Bool} {it l : Addr} {i : Nat} {items : Array Value} {Q : Value → Shared → Prop} (hh : A.handled = none) (hit : IterAt k s.heap it l i) (hl : SeqIs k s.heap l items) (hx : items[i]? = none)
    (hE : ∀ h' e, Heap.ExtBut it s.heap h' → (∃ o, h'.get? e = some o ∧ o.cls = .type "StopIteration") → E (.ref e) { s with heap := h' }) : wpAny (model prog w) A (Builtin.SmallTypes.nextOf (.ref it)) Q E s := by
  cases k
  · exact wpAny_nextOf_list_end hh hit hl hx hE
  · exact nextOf_tup hit hl (by rw [hx]; exact ⟨hh, hE⟩)
end
section
variable {prog : Program} {w : World} {A : Around} {E : Value → Shared → Prop} {s : Shared}
end
end L2

set_option Elab.async false
set_option linter.all false
set_option maxRecDepth 100000
namespace L2
open PySem PySem.Spec PyProof.Rows
section
variable {X : Cx} {pins : List (Addr × Obj)} {σ : St} {H : Hp} {s : Shared} {h' : Heap}
/-- untracked records of ours have turned -/
theorem Inv.turnedL {t' : Nat} {ch : List Addr} (I : Inv X pins σ H s) (hf : ∀ b ∈ ch, FpOk X pins H b) (k : ∀ b o, b ∉ ch → s.heap.get? b = some o → h'.get? b = some o) : Inv X pins σ H { s with heap := h', toks := t' } := by
  have nch : ∀ b u, H b = some u → b ∉ ch := fun b u e z => by rw [(hf b z).1] at e; cases e
  refine I.step (g' := s.gens) (d' := s.drawn) (ch := ch) (fun b hb => ⟨(hf b hb).2.2.2.1, (hf b hb).2.1, (hf b hb).2.2.2.2.1, (hf b hb).2.2.2.2.2⟩) (fun b o _ _ hc e _ => k b o hc e) (fun b o _ _ hc e _ => ⟨o.slots, k b o hc e⟩) (fun _ _ _ _ n => n)
    (fun b o hc e => ⟨o, k b o hc e⟩) (fun _ _ e => e) (fun _ _ _ e => e) (fun b ps e => ⟨#[], by rw [e]; simp⟩) (fun m hm => ?_) (fun b u e => ?_) I.bare
  · obtain ⟨o, es, ep, ho, r⟩ := hm
    exact ⟨o, es, ep, k _ o (fun z => (hf _ z).2.1 rfl) ho, r⟩
  · refine (I.hok b u e).stay (fun c v hc q => k c v ?_ q) (fun _ q => q) fun _ _ q => q
    rcases hc with z | z
    · rw [z]; exact nch b u e
    · exact nch c _ z
/-- .. and a new object is laid and tracked -/
theorem Inv.turnedN {t' : Nat} {ch : List Addr} {T : Addr} {o : HO} (I : Inv X pins σ H s) (hf : ∀ b ∈ ch, FpOk X pins H b) (k : ∀ b o, b ∉ ch → s.heap.get? b = some o → h'.get? b = some o) (hT : s.heap.objs.size ≤ T)
    (new : ObjOk X.prog X.w (upd H T o) h' T o) : Inv X pins σ (upd H T o) { s with heap := h', toks := t' } := by
  have nch : ∀ b u, H b = some u → b ∉ ch := fun b u e z => by rw [(hf b z).1] at e; cases e
  have hn : H T = none := I.hok.fresh hT
  refine I.step (g' := s.gens) (d' := s.drawn) (ch := ch) (fun b hb => ⟨(hf b hb).2.2.2.1, (hf b hb).2.1, (hf b hb).2.2.2.2.1, (hf b hb).2.2.2.2.2⟩) (fun b o _ _ hc e _ => k b o hc e) (fun b o _ _ hc e _ => ⟨o.slots, k b o hc e⟩)
    (fun b u _ e n => by rw [upd_ne (Nat.ne_of_lt (Nat.lt_of_lt_of_le (Heap.lt_size e) hT))]; exact n)
    (fun b o hc e => ⟨o, k b o hc e⟩) (fun b xs e => by rw [upd_ne (ne_of_none e hn)]; exact e) (fun b u xs e => by rw [upd_ne (ne_of_none e hn)]; exact e) (fun b ps e => ⟨#[], by rw [upd_ne (ne_of_none e hn), e]; simp⟩) (fun m hm => ?_) (fun b u e => ?_) I.bare
  · obtain ⟨o, es, ep, ho, r⟩ := hm
    exact ⟨o, es, ep, k _ o (fun z => (hf _ z).2.1 rfl) ho, r⟩
  · by_cases hb : b = T
    · subst hb; rw [upd_same] at e; cases e; exact new
    · rw [upd_ne hb] at e
      refine (I.hok b u e).stay (fun c v hc q => k c v ?_ q) (fun c q => by rw [upd_ne (ne_of_none q hn)]; exact q) fun c xs q => by rw [upd_ne (ne_of_none q hn)]; exact q
      rcases hc with z | z
      · rw [z]; exact nch b u e
      · exact nch c _ z
end
/-- a list or a tuple -/
def Sq (k : Bool) (K : PySem.W.Frag) (H : Hp) (a : Addr) (xs : List V) : Prop :=
  match k with
  | true => SqT K H a xs
  | false => SqL K H a xs
theorem Inv.sq {X : Cx} {pins : List (Addr × Obj)} {σ : St} {H : Hp} {s : Shared} {k : Bool} {a : Addr} {xs : List V} (I : Inv X pins σ H s) (h : Sq k X.K H a xs) : ∃ its : List Value, Vals xs its ∧ SeqIs k s.heap a its.toArray ∧ xs.length ≤ sizeLine := by
  cases k
  · obtain ⟨its, r, p, z⟩ := I.list h
    exact ⟨its, r, p.isList, z⟩
  · exact I.tuple h
theorem Inv.sq_inj {X : Cx} {pins : List (Addr × Obj)} {σ : St} {H : Hp} {s : Shared} {k : Bool} {a : Addr} {xs ys : List V} (I : Inv X pins σ H s) (h : Sq k X.K H a xs) (h' : Sq k X.K H a ys) : xs = ys := by
  cases k
  · exact I.list_inj h h'
  · exact I.tuple_inj h h'
theorem pair_ok {P : Program} {w : World} {H : Hp} {h : Heap} {T : Addr} {x y : V} {u v : Value} (r1 : RelV x u) (r2 : RelV y v) (e : IsPair h T u v) : ObjOk P w H h T (.tup [x, y]) := by
  refine ⟨by show 2 ≤ sizeLine; decide, [u, v], .cons r1 (.cons r2 .nil), ⟨_, e, rfl, _, rfl⟩, fun o q => ?_⟩
  rw [e] at q
  cases q
  rfl
section
variable {X : Cx} {elts : List Expr} {x1 : Nat} {tpos : Pos}
end
end L2

set_option Elab.async false
set_option linter.all false
set_option maxRecDepth 100000
namespace L2
open PySem PySem.Spec PyProof.Rows
/-! ### zip in a comprehension, in a loop -/
/-! ### max and min of ints, with a default or without -/
section
variable {prog : Program} {w : World} {A : Around} {E : Value → Shared → Prop} {s : Shared}
theorem call_tree_kw {id : String} {b : Builtin} {args : List Value} {kw : List (Str × Value)} {Q : Value → Shared → Prop} (hk : builtinKind id = none) (hp : plainId id = true) (hb : entryFor table id = some b) (ha : argsOk id ⟨args, kw⟩)
    (hc : wpAny (model prog w) A.in1 (b ⟨args, kw⟩) (fun fin s' => match fin with
      | .done f => (match (Except.ok f : Result) with | .ok (.ret v) => Q v s' | .ok _ => False | .error e => E e s')
      | .again c' => c'.quiet = true ∧ codeAny (model prog w) A c' (fun r s' => match r with | .ok (.ret v) => Q v s' | .ok _ => False | .error e => E e s') s') E s) : wpAny (model prog w) A (call (.builtin id) args kw) Q E s := by
  refine wpAny_call (codeAny_call_builtin hp hb ?_)
  simp only [checkBuiltinCall, hk]
  cases hsig : Manifest.signature? id with
  | none => exact wpAny_pure hc
  | some sig =>
    have ha' : Bind.checkArgs id sig ⟨args, kw⟩ = pure () := by simpa only [argsOk, hsig] using ha
    simp only [ha']
    exact wpAny_pure hc
end
theorem best_ge {val : Nat → Int} : ∀ n j : Nat, j ≤ n → val (argBest (fun i j => decide (val i < val j)) n) ≤ val j
  | 0, j, h => by
    have : j = 0 := by omega
    subst this
    exact Int.le_refl _
  | n + 1, j, h => by
    unfold argBest
    by_cases c : val (n + 1) < val (argBest (fun i j => decide (val i < val j)) n)
    · simp only [decide_eq_true c, if_true]
      by_cases e : j = n + 1
      · rw [e]; exact Int.le_refl _
      · have := best_ge (val := val) n j (by omega); omega
    · simp only [decide_eq_false c, Bool.false_eq_true, if_false]
      by_cases e : j = n + 1
      · rw [e]; omega
      · exact best_ge n j (by omega)
theorem best_lt (bt : Nat → Nat → Bool) : ∀ n : Nat, argBest bt n ≤ n
  | 0 => Nat.le_refl _
  | n + 1 => by
    unfold argBest
    split
    · exact Nat.le_refl _
    · exact Nat.le_trans (best_lt bt n) (Nat.le_succ n)

section
variable {prog : Program} {w : World} {A : Around} {R : Result → Shared → Prop} {I : Addr} {fp wr : List Addr} {n : Nat} {P : Nat → Value → Prop} {St : Nat → Heap → Prop}
end
section
variable {prog : Program} {w : World} {A : Around} {E : Value → Shared → Prop} {s : Shared}
end
section
variable {X : Cx}
end

section
variable {prog : Program} {w : World} {A : Around} {R : Result → Shared → Prop} {I : Addr} {fp wr : List Addr} {n : Nat} {P : Nat → Value → Prop} {St : Nat → Heap → Prop}
theorem args_min_default (a v : Value) : argsOk "min" ⟨[a], [(Str.ofString "default", v)]⟩ := by unfold argsOk; kernel_rfl
theorem min_loopK {kw : List (Str × Value)} (W : Walks prog w A.in1 I fp wr n P St) (bt : Nat → Nat → Bool) (hc : CmpOf prog w A.in1 .Lt P bt) (S : Addr) (hSf : S ∉ fp) : ∀ (k j : Nat) (s : Shared) (vb : Value) (c : Nat), n - (j + 1) = k → j + 1 ≤ n → St (j + 1) s.heap → P (argBest bt j) vb →
    s.heap.get? S = some { cls := .type "list", dict := none, data := .seq #[vb, vb] c, slots := #[] } →
    (∀ v h' tk, P (argBest bt (n - 1)) v → (∀ b o, b ∉ wr → b ≠ S → s.heap.get? b = some o → h'.get? b = some o) → R (.ok (.ret v)) { s with heap := h', toks := tk }) →
    codeAny (model prog w) A (.builtin "min.loop" ⟨[.ref I, .none, .ref S], kw⟩) R s := by
  have hSw : S ∉ wr := fun h => hSf (W.sub _ h)
  have nm : (toString "min" ++ toString ".loop" : String) = "min.loop" := by decide
  intro k
  induction k with
  | zero =>
    intro j s vb c hk hj st hP hS hR
    have hn : j + 1 = n := by omega
    refine codeAny_builtin F.entry_min_loop ?_
    rw [Around.under_plainId F.plain_min_loop _]
    show wpAny _ A.in1 (seqItems? (.ref S) >>= _) _ _ s
    refine wpAny_bind (wpAny_seqItems hS rfl ?_)
    show wpAny _ A.in1 (tryCatch (pyNext (.ref I)) _ >>= _) _ _ s
    refine wpAny_bind (wpAny_tryCatch (W.done s _ _ (hn ▸ st) fun h' tk kk => ?_))
    have hS' := kk S _ hSw hS
    show wpAny _ A.in1 (updateSeq S (fun _ => #[]) >>= _) _ _ _
    refine wpAny_bind (wpAny_updateSeq hS' rfl (wpAny_bind (wpAny_letGo (wpAny_pure ?_))))
    exact hR vb _ tk (by rw [← hn]; exact hP) fun b o n1 n2 e => (Heap.get?_update_other _ _ (Ne.symm n2)).trans (kk b o n1 e)
  | succ k ih =>
    intro j s vb c hk hj st hP hS hR
    have hlt : j + 1 < n := by omega
    refine codeAny_builtin F.entry_min_loop ?_
    rw [Around.under_plainId F.plain_min_loop _]
    show wpAny _ A.in1 (seqItems? (.ref S) >>= _) _ _ s
    refine wpAny_bind (wpAny_seqItems hS rfl ?_)
    show wpAny _ A.in1 (tryCatch (pyNext (.ref I)) _ >>= _) _ _ s
    refine wpAny_bind (wpAny_tryCatch (W.item (j + 1) s _ _ hlt st fun v h' tk hPv st' kk => ?_))
    have hS' := kk S _ hSw hS
    show wpAny _ A.in1 (tryCatch (holding [v, v] (richCompare .Lt v vb >>= _)) _ >>= _) _ _ _
    refine wpAny_bind (wpAny_tryCatch (wpAny_holding (wpAny_bind (hc (j + 1) (argBest bt j) v vb _ _ _ hPv hP ?_))))
    refine wpAny_bind (wpAny_holding (wpAny_truthy_bool ?_))
    refine wpAny_bind (wpAny_letGo (wpAny_pure ?_))
    cases hb : bt (j + 1) (argBest bt j) with
    | true =>
      simp only [if_true]
      refine wpAny_bind (wpAny_updateSeq hS' rfl (wpAny_bind (wpAny_letGo ?_)))
      rw [nm]
      refine wpAny_pure ⟨plainId_quiet F.plain_min_loop _, ih (j + 1) _ v _ (by omega) hlt (W.frame _ _ _ st' fun b q o e => ?_) (by simp only [argBest, hb, if_true]; exact hPv) (Heap.get?_update_self _ hS' rfl) fun v2 h2 t2 p2 k2 => ?_⟩
      · exact (Heap.get?_update_other _ _ (fun h : S = b => hSf (by rw [h]; exact q))).trans e
      · exact hR v2 h2 t2 p2 fun b o n1 n2 e => k2 b o n1 n2 ((Heap.get?_update_other _ _ (Ne.symm n2)).trans (kk b o n1 e))
    | false =>
      simp only [Bool.false_eq_true, if_false]
      refine wpAny_bind (wpAny_letGo ?_)
      rw [nm]
      refine wpAny_pure ⟨plainId_quiet F.plain_min_loop _, ih (j + 1) _ vb c (by omega) hlt st' (by simp only [argBest, hb, Bool.false_eq_true, if_false]; exact hP) hS' fun v2 h2 t2 p2 k2 => ?_⟩
      exact hR v2 h2 t2 p2 fun b o n1 n2 e => k2 b o n1 n2 (kk b o n1 e)
/-- from an empty list on -/
theorem min_loop0 {d : Value} {s : Shared} {c : Nat} (W : Walks prog w A.in1 I fp wr n P St) (bt : Nat → Nat → Bool) (hc : CmpOf prog w A.in1 .Lt P bt) (S : Addr) (hSf : S ∉ fp) (st : St 0 s.heap)
    (hS : s.heap.get? S = some { cls := .type "list", dict := none, data := .seq #[] c, slots := #[] })
    (hR : ∀ v h' tk, (0 < n → P (argBest bt (n - 1)) v) → (n = 0 → v = d) → (∀ b o, b ∉ wr → b ≠ S → s.heap.get? b = some o → h'.get? b = some o) → R (.ok (.ret v)) { s with heap := h', toks := tk }) :
    codeAny (model prog w) A (.builtin "min.loop" ⟨[.ref I, .none, .ref S], [(Str.ofString "default", d)]⟩) R s := by
  have hSw : S ∉ wr := fun h => hSf (W.sub _ h)
  have nm : (toString "min" ++ toString ".loop" : String) = "min.loop" := by decide
  refine codeAny_builtin F.entry_min_loop ?_
  rw [Around.under_plainId F.plain_min_loop _]
  show wpAny _ A.in1 (seqItems? (.ref S) >>= _) _ _ s
  refine wpAny_bind (wpAny_seqItems hS rfl ?_)
  show wpAny _ A.in1 (tryCatch (pyNext (.ref I)) _ >>= _) _ _ s
  by_cases h0 : n = 0
  · refine wpAny_bind (wpAny_tryCatch (W.done s _ _ (h0 ▸ st) fun h' tk kk => ?_))
    show wpAny _ A.in1 (rule _ >>= _) _ _ _
    refine wpAny_bind (wpAny_rule (wpAny_pure ?_))
    exact hR d h' tk (fun z => absurd h0 (Nat.ne_of_gt z)) (fun _ => rfl) fun b o n1 _ e => kk b o n1 e
  · have hn : 0 < n := Nat.pos_of_ne_zero h0
    refine wpAny_bind (wpAny_tryCatch (W.item 0 s _ _ hn st fun v h' tk hPv st' kk => ?_))
    have hS' := kk S _ hSw hS
    show wpAny _ A.in1 (updateSeq S (fun _ => #[v, v]) >>= _) _ _ _
    refine wpAny_bind (wpAny_updateSeq hS' rfl ?_)
    rw [nm]
    refine wpAny_pure ⟨plainId_quiet F.plain_min_loop _, min_loopK W bt hc S hSf _ 0 _ v _ rfl hn (W.frame _ _ _ st' fun b q o e => ?_) hPv (Heap.get?_update_self _ hS' rfl) fun v2 h2 t2 p2 k2 => ?_⟩
    · exact (Heap.get?_update_other _ _ (fun h : S = b => hSf (by rw [h]; exact q))).trans e
    · exact hR v2 h2 t2 (fun _ => p2) (fun z => absurd z h0) fun b o n1 n2 e => k2 b o n1 n2 ((Heap.get?_update_other _ _ (Ne.symm n2)).trans (kk b o n1 e))
end
section
variable {prog : Program} {w : World} {A : Around} {E : Value → Shared → Prop} {s : Shared}
theorem call_min_default {x d : Value} {Q : Value → Shared → Prop}
    (h : wpAny (model prog w) A.in1 (pyIter x) (fun it s2 => ∃ I fp wr n P St bt, it = .ref I ∧ Walks prog w A.in1 I fp wr n P St ∧ St 0 s2.heap ∧ (∀ b ∈ fp, b < s2.heap.objs.size) ∧ CmpOf prog w A.in1 .Lt P bt ∧
      ∀ v h' tk, (0 < n → P (argBest bt (n - 1)) v) → (n = 0 → v = d) → (∀ b o, b ∉ wr → s2.heap.get? b = some o → h'.get? b = some o) → Q v { s2 with heap := h', toks := tk }) E s) :
    wpAny (model prog w) A (call (.builtin "min") [x] [(Str.ofString "default", d)]) Q E s := by
  have nm : (toString "min" ++ toString ".loop" : String) = "min.loop" := by decide
  refine call_tree_kw F.kind_min F.plain_min F.entry_min (args_min_default _ _) ?_
  show wpAny _ A.in1 (Builtin.Builtins.bindParams "min" ["key", "default"] 0 ⟨[], [(Str.ofString "default", d)]⟩ >>= _) _ _ s
  refine wpAny_bind (wpAny_of_eq (show Builtin.Builtins.bindParams "min" ["key", "default"] 0 ⟨[], [(Str.ofString "default", d)]⟩ = pure [none, some d] from rfl) ?_)
  refine wpAny_bind (wpAny_pure ?_)
  refine wpAny_bind (wpAny_mono h (fun it s2 h2 => ?_) fun _ _ e => e)
  obtain ⟨I, fp, wr, n, P, St, bt, rfl, W, st, hfp, hc, hQ⟩ := h2
  refine wpAny_bind (wpAny_newObj_type ?_)
  have hSf : s2.heap.objs.size ∉ fp := fun hm => Nat.lt_irrefl _ (hfp _ hm)
  rw [nm]
  refine wpAny_pure ⟨plainId_quiet F.plain_min_loop _, min_loop0 W bt hc s2.heap.objs.size hSf (W.frame _ _ _ st fun b _ o e => Heap.get?_push_of_some _ e) (Heap.get?_push_size _ rfl) fun v h' tk p1 p2 kk => ?_⟩
  exact hQ v h' tk p1 p2 fun b o n1 e => kk b o n1 (Nat.ne_of_lt (Heap.lt_size e)) (Heap.get?_push_of_some _ e)
end
section
variable {X : Cx}
def Ismin (m : Int) (ns : List Int) : Prop := m ∈ ns ∧ ∀ x ∈ ns, m ≤ x
theorem ismin_of {ns : List Int} (hn : 0 < ns.length) : Ismin (ns.getD (argBest (fun i j => decide (ns.getD i 0 < ns.getD j 0)) (ns.length - 1)) 0) ns := by
  have hb := best_lt (fun i j => decide (ns.getD i 0 < ns.getD j 0)) (ns.length - 1)
  have at' : ∀ j, j < ns.length → ns.getD j 0 = ns[j]! := fun j h => by simp [h]
  refine ⟨?_, fun x hx => ?_⟩
  · have hl : argBest (fun i j => decide (ns.getD i 0 < ns.getD j 0)) (ns.length - 1) < ns.length := by omega
    generalize argBest (fun i j => decide (ns.getD i 0 < ns.getD j 0)) (ns.length - 1) = k at hl
    have : ns.getD k 0 = ns[k] := by simp [hl]
    rw [this]
    exact List.getElem_mem hl
  · obtain ⟨j, hj, rfl⟩ := List.mem_iff_getElem.mp hx
    have h1 := best_ge (val := fun i => ns.getD i 0) (ns.length - 1) j (by omega)
    have h2 : ns.getD j 0 = ns[j] := by simp [hj]
    rw [← h2]
    exact h1
/-- the iterator of a list or tuple of ints, walked -/
theorem min_walkI {pins : List (Addr × Obj)} {σ : St} {H : Hp} {s : Shared} {k : Bool} {a : Addr} {ns : List Int} {E : Value → Shared → Prop} {d : Value} {Q : Value → Shared → Prop} (hc : X.calm = true) (I : Inv X pins σ H s) (hq : Sq k X.K H a (ns.map V.int))
    (h : ∀ h' tk v, (∀ b o, s.heap.get? b = some o → h'.get? b = some o) → (0 < ns.length → ∃ m t, v = .int m t ∧ Ismin m ns) → (ns.length = 0 → v = d) → Q v { s with heap := h', toks := tk }) :
    wpAny (model X.prog X.w) X.A (call (.builtin "min") [.ref a] [(Str.ofString "default", d)]) Q E s := by
  have hh : X.A.in1.handled = none := I.ok.hd hc
  obtain ⟨its, rv, p, hz⟩ := I.sq hq
  have hl := rv.length
  rw [List.length_map] at hl
  have hlt := p.lt
  have fin : ∀ (h' : Heap) (tk : Nat) (v : Value), (∀ b o, s.heap.get? b = some o → h'.get? b = some o) → (0 < its.toArray.size → its.toArray[argBest (fun i j => decide (ns.getD i 0 < ns.getD j 0)) (its.toArray.size - 1)]? = some v) → (its.toArray.size = 0 → v = d) → Q v { s with heap := h', toks := tk } := fun h' tk v kk p1 p2 => by
    rw [List.size_toArray, ← hl] at p1 p2
    refine h h' tk v kk (fun hn => ?_) p2
    obtain ⟨t, e⟩ := vals_int_at rv _ v (p1 hn)
    exact ⟨_, t, e, ismin_of hn⟩
  have apart : ∀ b ∈ [s.heap.objs.size, a], b < s.heap.objs.size + 1 := fun b hb => by
    rcases List.mem_cons.mp hb with rfl | hb
    · exact Nat.lt_succ_self _
    · rcases List.mem_cons.mp hb with rfl | hb
      · exact Nat.lt_succ_of_lt hlt
      · cases hb
  cases k
  · refine call_min_default (wpAny_pyIter_list p ⟨_, _, _, _, _, _, _, rfl, Walks.list (A := X.A.in1) hh _ a (Nat.ne_of_lt hlt) its.toArray, ⟨⟨_, Heap.get?_push_size _ rfl, rfl, rfl⟩, Heap.IsList.push p _⟩, fun b hb => ?_, CmpOf.ints_lt (fun i => ns.getD i 0) (vals_int_at rv), fun v h' tk p1 p2 kk => ?_⟩)
    · show b < (s.heap.push _).objs.size
      rw [Heap.size_push]
      exact apart b hb
    · exact fin h' tk v (fun b o e => kk b o (by simpa using Nat.ne_of_lt (Heap.lt_size e)) (Heap.get?_push_of_some _ e)) p1 p2
  · refine call_min_default (wpAny_pyIter_tuple p ⟨_, _, _, _, _, _, _, rfl, Walks.tuple (A := X.A.in1) hh _ a (Nat.ne_of_lt hlt) its.toArray, ⟨⟨_, Heap.get?_push_size _ rfl, rfl, rfl⟩, Heap.IsTuple.push p _⟩, fun b hb => ?_, CmpOf.ints_lt (fun i => ns.getD i 0) (vals_int_at rv), fun v h' tk p1 p2 kk => ?_⟩)
    · show b < (s.heap.push _).objs.size
      rw [Heap.size_push]
      exact apart b hb
    · exact fin h' tk v (fun b o e => kk b o (by simpa using Nat.ne_of_lt (Heap.lt_size e)) (Heap.get?_push_of_some _ e)) p1 p2
/-- min(e, default=d), e a list or tuple of ints -/
def rminD (K : PySem.W.Frag) (k : Bool) (x d : V) (H : Hp) (Q : VK) : Prop := ∃ a ns, x = .ref a ∧ Sq k K H a (ns.map V.int) ∧ ∀ v, ((ns = [] ∧ v = d) ∨ ∃ m, v = .int m ∧ Ismin m ns) → Q v H
def tminD (K : PySem.W.Frag) (k : Bool) (te td : TE) : TE := fun σ H Q => te σ H fun x H1 => td σ H1 fun d H2 => rminD K k x d H2 Q
theorem pe_minD (k : Bool) {e dE : Expr} {te td : TE} {p kp pos : Pos} (hc : X.calm = true) (hg : Gl X "min") (hm : X.mg "min" = none) (he : PE X e te) (hd : PE X dE td)
    (hse : starEach [e] X.env = [(false, eval e X.env)] := by rfl) : PE X (.Call (.Name "min" p) [e] [⟨some "default", dE, kp⟩] pos) (tminD X.K k te td) := by
  intro pins s σ H Q I h
  refine wpAny_Call_Name_kw (ld_blt I hg hm boot_min ?_ (by decide) (by decide))
  refine callWith_kw (thn (pa_cons he pa_nil hse pos pins s σ H (fun vs H1 => match vs with | [x] => td σ H1 fun d H2 => rminD X.K k x d H2 Q | _ => False) I h) fun us s1 ⟨vs, H1, I1, r1, q1⟩ => ?_) (by rw [hse]; rfl) (by rw [hse]; rfl)
  match vs, r1, q1 with
  | [x], r1, q =>
    obtain ⟨u, rfl, ru⟩ := vals1 r1
    refine kws_cons (thn (hd pins s1 σ H1 _ I1 q) fun dv s2 ⟨d, H2, I2, r2, q2⟩ => kws_nil ?_)
    obtain ⟨a, ns, rfl, hq, q3⟩ := q2
    cases ru
    show wpAny _ _ (call (.builtin "min") [.ref a] [(Str.ofString "default", dv)]) _ _ _
    refine min_walkI hc I2 hq fun h' tk v kk p1 p2 => ?_
    by_cases hn : 0 < ns.length
    · obtain ⟨m, t, rfl, hm⟩ := p1 hn
      exact ⟨.int m, H2, I2.kept kk, ⟨t, rfl⟩, q3 _ (.inr ⟨m, rfl, hm⟩)⟩
    · have e0 : ns.length = 0 := by omega
      rw [p2 e0]
      exact ⟨d, H2, I2.kept kk, r2, q3 _ (.inl ⟨List.length_eq_zero_iff.mp e0, rfl⟩)⟩
end
end L2

set_option Elab.async false
set_option linter.all false
set_option maxRecDepth 100000
namespace L2
open PySem PySem.Spec PyProof.Rows
/-! ### a tuple times an int of two at least -/
/-- a tuple as a comprehension's target -/
theorem pg_tupC {X : Cx} {scope : Scope} {N : List Str} {C : Addr} {s : Shared} {H : Hp} {ex : List Addr} {es : List Expr} {k : Nat} {t : TGs} {pos : Pos} (n : Nat) (hc : X.calm = true) (h : PGs (cxC X scope N C s H ex) es t)
    (hn : (assignEach es (cxC X scope N C s H ex).env).length = n) (hst : (assignEach es (cxC X scope N C s H ex).env).findIdx? (·.1) = none) : PG (cxC X scope N C s H ex) (.Tuple es k pos) (gTup X.K n t) := pg_tup hc h hn hst
end L2

set_option Elab.async false
set_option linter.all false
set_option maxRecDepth 100000
namespace L2
open PySem PySem.Spec PyProof.Rows

/-! ### lists of pairs as tables -/
section
variable {κ : Type} [DecidableEq κ]
end


/-! ### a tracked dict, its keys ints and texts or tuples of these -/
section
variable {P : Program} {w : World} {H : Hp} {h : Heap} {a : Addr}
end

section
variable {X : Cx} {pins : List (Addr × Obj)} {σ : St} {H : Hp} {s : Shared} {a : Addr} {y v : V} {u r : Value} {o : Option V} {A : Around} {E : Value → Shared → Prop}

end

section
variable {X : Cx} {pins : List (Addr × Obj)} {σ : St} {H : Hp} {s : Shared} {a : Addr} {kvs : List (Key × V)} {k : Key} {u : Value} {A : Around} {E : Value → Shared → Prop}
end


/-! ### readings and rules -/
section
variable {X : Cx} {o i e value : Expr} {pos pos' tpos : Pos} {td ty tv : TE}
end


/-! ### displays -/
section
variable {X : Cx} {pos : Pos}
end

/-! ### methods -/
section
variable {X : Cx} {pins : List (Addr × Obj)} {σ : St} {H : Hp} {s : Shared} {a : Addr} {y d : V} {u r : Value} {o : Option V} {A : Around} {E : Value → Shared → Prop}
end

section
variable {X : Cx} {o e f : Expr} {apos cpos : Pos} {td ty tx : TE}
end

/-! ### dict(d): a copy -/
section
variable {X : Cx} {pins : List (Addr × Obj)} {σ : St} {H : Hp} {s : Shared} {a : Addr} {kvs : List (Key × V)} {A : Around} {E : Value → Shared → Prop}
end


section
variable {X : Cx} {pins : List (Addr × Obj)} {σ : St} {H : Hp} {s : Shared} {a : Addr} {y : V} {u : Value} {A : Around} {E : Value → Shared → Prop}
end
end L2
namespace L2
open PySem PySem.Spec PyProof.Rows
/-! ### a dict's pairs: keys that differ -/
section
variable {κ : Type} [DecidableEq κ]
end
end L2

set_option Elab.async false
set_option linter.all false
set_option maxRecDepth 100000
namespace L2
open PySem PySem.Spec PyProof.Rows
/-! ### sorted(d, reverse=b), d a dict whose keys are ints -/
section
variable {prog : Program} {w : World} {A : Around} {E : Value → Shared → Prop} {s : Shared}
end
section
variable {X : Cx}
end
end L2

set_option Elab.async false
set_option linter.all false
set_option maxRecDepth 100000
namespace L2
open PySem PySem.Spec PyProof.Rows
section
variable {X : Cx}
/-- t + u, whatever they hold -/
def rCatA (K : PySem.W.Frag) : R2 := fun x y H Q => ∃ a b xs ys, x = .ref a ∧ y = .ref b ∧ SqT K H a xs ∧ SqT K H b ys ∧ xs.length + ys.length ≤ sizeLine ∧
  (xs = [] → Q (.ref b) H) ∧ (xs ≠ [] → ys = [] → Q (.ref a) H) ∧ (xs ≠ [] → ys ≠ [] → ∀ p, H p = none → Q (.ref p) (upd H p (.tup (xs ++ ys))))
theorem op_catA : OpR X (binaryOp .Add) (rCatA X.K) := by
  intro pins s σ H x y v u Q I rx ry h
  obtain ⟨a, b, xs, ys, rfl, rfl, ha, hb, hz, q0, q1, q2⟩ := h
  by_cases hx : xs = []
  · cases rx
    cases ry
    obtain ⟨its, r1, p1, _⟩ := I.tuple ha
    obtain ⟨its2, r2, p2, _⟩ := I.tuple hb
    obtain ⟨⟨cls, dd, data, sl⟩, ho, hc, n, hd⟩ := id p1
    obtain ⟨⟨cls2, dd2, data2, sl2⟩, ho2, hc2, n2, hd2⟩ := id p2
    simp only at hc hd hc2 hd2
    subst hc hd hc2 hd2
    have e0 : its.toArray.isEmpty = true := by
      have := r1.nil_iff.mpr hx
      simp [this]
    exact concat_meets ⟨_, ho, rfl⟩ ⟨_, ho2, rfl⟩ noFill_tuple_add seq_tuple_add PySem.F.slot_tuple_add PySem.F.entry_tuple_add (PySem.F.args_tuple_add_2 _ _)
      (tuple_addW0 a b its.toArray its2.toArray n n2 dd dd2 sl sl2 e0) ⟨ho, ho2, ⟨.ref b, H, I, rfl, q0 hx⟩⟩
  · exact op_catT pins s σ H (.ref a) (.ref b) v u Q I rx ry ⟨a, b, xs, ys, rfl, rfl, ha, hb, hx, hz, q1 hx, q2 hx⟩
end
end L2

set_option Elab.async false
set_option linter.all false
namespace L2
/-! ### heaps turned about -/
def cntG (ns : List Int) (k : Int) : Nat := (ns.filter fun x => decide (k ≤ x)).length
def turn (ns : List Int) : List Int := (List.range (ns.headD 0).toNat).map fun (k : Nat) => ((cntG ns ((k : Int) + 1) : Nat) : Int)
end L2

set_option Elab.async false
set_option linter.all false
namespace L2
open PySem PySem.Spec PyProof.Rows
/-! ### tuples stay; lists of tuples of ints -/
def Tups (H H' : Hp) : Prop := ∀ b xs, H b = some (.tup xs) → H' b = some (.tup xs)
theorem Same.tups {H H' : Hp} (h : Same H H') : Tups H H' := fun b xs e => h b _ e
theorem Keep.tups {H H' : Hp} {st ga ca : Addr} {N : Nat} (K : Keep [st, ga] H H') (S : StAt H st ga ca N) : Tups H H' := fun b xs e => K b _ e (fun z => by
  obtain ⟨gs, cs, q, n, h1, h2, _⟩ := S.ex
  simp only [List.mem_cons, List.not_mem_nil, or_false] at z
  rcases z with rfl | rfl
  · rw [h1] at e; cases e
  · rw [h2] at e; cases e)
def Tup1 (hs : List Int) (v : V) (H : Hp) : Prop := ∃ q, v = .ref q ∧ H q = some (.tup (hs.map V.int))
theorem Tup1.mv {H H' : Hp} {hs : List Int} {v : V} (t : Tups H H') (h : Tup1 hs v H) : Tup1 hs v H' := let ⟨q, e, h⟩ := h; ⟨q, e, t _ _ h⟩
theorem All2.mv {H H' : Hp} {ls : List (List Int)} {xs : List V} (t : Tups H H') (h : All2 Tup1 H ls xs) : All2 Tup1 H' ls xs := h.imp fun _ _ z => z.mv t
theorem All2.rtup {K : PySem.W.Frag} {H : Hp} : ∀ {ls : List (List Int)} {xs : List V}, All2 Tup1 H ls xs → All2 (RTup K RInt) H ls xs
  | _, _, .nil => .nil
  | _, _, .cons ⟨q, e, h⟩ t => .cons (by rw [e]; exact RTup.ints (SqT.of h)) t.rtup
theorem All2.at {α : Type} {R : α → V → Hp → Prop} {H : Hp} : ∀ {l : List α} {xs : List V} {i : Nat} {a : α}, All2 R H l xs → l[i]? = some a → ∃ x, xs[i]? = some x ∧ R a x H
  | _, _, _, _, .nil, e => by simp at e
  | _, _, 0, _, .cons r _, e => by simp at e; subst e; exact ⟨_, rfl, r⟩
  | _, _, i + 1, a, .cons _ t, e => by
    obtain ⟨u, h1, h2⟩ := All2.at (i := i) (a := a) t (by simpa using e)
    exact ⟨u, by simpa using h1, h2⟩
theorem All2.snoc {α : Type} {R : α → V → Hp → Prop} {H : Hp} {l : List α} {xs : List V} {a : α} {x : V} (h : All2 R H l xs) (r : R a x H) : All2 R H (l ++ [a]) (xs ++ [x]) := h.append (.cons r .nil)
/-! ### joined heaps -/
def maxC : List (List Int) → Int → Nat
  | [], _ => 0
  | h :: r, x => max (h.count x) (maxC r x)
def IsJoin (ls : List (List Int)) (ms : List Int) : Prop := ms.Pairwise (· ≥ ·) ∧ ∀ x, ms.count x = maxC ls x
theorem maxC_append (a b : List (List Int)) (x : Int) : maxC (a ++ b) x = max (maxC a x) (maxC b x) := by
  induction a with
  | nil => simp [maxC]
  | cons h r ih => rw [List.cons_append, maxC, ih, maxC]; omega
/-! ### choices -/
end L2

set_option Elab.async false
set_option linter.all false
namespace L2
open PySem PySem.Spec PyProof.Rows
/-! ### rules within a comprehension: the fragment by its own name -/
section
variable {X : Cx}
theorem IxR.kk (K0 : PySem.W.Frag) (r : PySem.W.Frag → R2) (ho : IxR X (r X.K)) (h : X.K = K0) : IxR X (r K0) := by subst h; exact ho
theorem CallR.kk {f : Value} (K0 : PySem.W.Frag) (r : PySem.W.Frag → List V → Hp → VK → Prop) (ho : CallR X f (r X.K)) (h : X.K = K0) : CallR X f (r K0) := by subst h; exact ho
theorem MtR.kk {id : String} (K0 : PySem.W.Frag) (r : PySem.W.Frag → V → List V → Hp → VK → Prop) (ho : MtR X id (r X.K)) (h : X.K = K0) : MtR X id (r K0) := by subst h; exact ho
theorem PE.kk {e : Expr} (K0 : PySem.W.Frag) (t : PySem.W.Frag → TE) (ho : PE X e (t X.K)) (h : X.K = K0) : PE X e (t K0) := by subst h; exact ho
def rLenSq (K : PySem.W.Frag) : List V → Hp → VK → Prop := fun xs H Q => ∃ p ys, xs = [.ref p] ∧ (SqL K H p ys ∨ SqT K H p ys) ∧ Q (.int ys.length) H
theorem call_len_seqK (K0 : PySem.W.Frag) (h : X.K = K0) : CallR X (.builtin "len") (rLenSq K0) := CallR.kk K0 rLenSq call_len_seq h
theorem ix_tupK (K0 : PySem.W.Frag) (h : X.K = K0) : IxR X (rIxT K0) := IxR.kk K0 rIxT ix_tup h
theorem ix_listK (K0 : PySem.W.Frag) (h : X.K = K0) : IxR X (rIxL K0) := IxR.kk K0 rIxL ix_list h
theorem mt_countTK (K0 : PySem.W.Frag) (h : X.K = K0) : MtR X "tuple.count" (rCount K0 SqT) := MtR.kk K0 (fun K => rCount K SqT) mt_countT h
variable {o e : Expr} {es : List Expr} {to : TE} {t : TA} {name : Str} {apos cpos : Pos} {T id : String} {r : V → List V → Hp → VK → Prop}
theorem pe_bmK (K0 : PySem.W.Frag) (h : X.K = K0) (pa : PlainAttrs T) (slot : Slot T name id) (hty : typeOf (.builtin id) = pure (.type "method_descriptor")) (hm : MtR X id r) (ho : PE X o to) (ha : PA X (e :: es) t)
    (hbase : attributeBase o name X.env (eval o X.env) = eval o X.env := by rfl)
    (hfew : ((backTo cpos (starEach (e :: es) X.env)).all (fun x => !x.1) && (backToKw cpos (keywordEach [] X.env)).all (fun x => x.1.isSome) && decide ((e :: es).length + ([] : List Keyword).length + (if ([] : List Keyword).isEmpty then 0 else 1) < 30)) = true := by rfl)
    (hline : (apos.endLine == cpos.line) = true := by rfl) (hs : starEach (e :: es) X.env = (false, eval e X.env) :: starEach es X.env := by rfl) (hplain : (backTo cpos (starEach es X.env)).any (·.1) = false := by rfl) : PE X (.Call (.Attribute o name apos) (e :: es) [] cpos) (tBM K0 T r to t) := by
  subst h
  exact pe_bm pa slot hty hm ho ha hbase hfew hline hs hplain
theorem pt_truthK {a : Expr} {ta : TE} (K0 : PySem.W.Frag) (h : X.K = K0) (ha : PE X a ta) (he : ∀ whole, isTrue a X.env whole = (do let v ← whole; standAt a.pos; holding [v] (truthy v))) : PT X a (fun σ H Q => ta σ H fun x H' => ∃ k, TruV K0 x H' k ∧ Q k H') := by
  subst h
  exact pt_truth ha he
def rTupOf (K : PySem.W.Frag) : List V → Hp → VK → Prop := fun xs H Q => ∃ p ys, xs = [.ref p] ∧ ((SqL K H p ys ∧ ∀ l, H l = none → Q (.ref l) (upd H l (.tup ys))) ∨ (SqT K H p ys ∧ Q (.ref p) H))
theorem call_tuple_ofK (K0 : PySem.W.Frag) (h : X.K = K0) : CallR X (.type "tuple") (rTupOf K0) := CallR.kk K0 rTupOf call_tuple_of h
end
end L2

set_option Elab.async false
set_option linter.all false
namespace L2
open PySem PySem.Spec PyProof.Rows
/-- a filter, one by one -/
theorem filter_take {α : Type} (p : α → Bool) {l : List α} {i : Nat} {x : α} (h : l[i]? = some x) : (l.take (i + 1)).filter p = (l.take i).filter p ++ if p x = true then [x] else [] := by
  obtain ⟨hi, e⟩ := List.getElem?_eq_some_iff.mp h
  rw [List.take_succ_eq_append_getElem hi, List.filter_append, e]
  by_cases c : p x = true
  · rw [List.filter_cons, if_pos c, if_pos c]; rfl
  · rw [List.filter_cons, if_neg c, if_neg c]; rfl
theorem joinStep {M c t h : Nat} (hc : c = max M (min h (M + t))) (ht : t + 1 ≤ h) (hlt : c < h) : c + 1 = max M (min h (M + (t + 1))) := by omega
theorem joinStay {M c t h : Nat} (hc : c = max M (min h (M + t))) (ht : t + 1 ≤ h) (hlt : ¬ c < h) : c = max M (min h (M + (t + 1))) := by omega
end L2

set_option Elab.async false
set_option linter.all false
set_option maxRecDepth 100000
namespace L2
open PySem PySem.Spec PyProof.Rows
open AutoSeq1 (wpAny_loadPart')
/-! ### enumerate(a), a a list or a tuple, walked by a tuple target -/
theorem drawsS {prog : Program} {w : World} {A : Around} (hh : A.handled = none) (k : Bool) (it l : Addr) (hne : l ≠ it) (items : Array Value) :
    Draws prog w A it [it, l] items.size (fun i v => items[i]? = some v) (fun i h => IterAt k h it l i ∧ SeqIs k h l items) where
  live := fun _ _ st => let ⟨o, ho, _⟩ := st.1; ⟨o, ho⟩
  frame := fun _ _ _ st hk => ⟨st.1.kept fun o e => hk it (by simp) o e, st.2.kept fun o e => hk l (by simp) o e⟩
  item := fun i s Q E hi st hQ => nextS st.1 st.2 (x := items[i]) (by simp [hi]) fun h' a b => hQ _ h' s.toks (by simp [hi]) ⟨a, st.2.kept fun o e => b.extBut _ _ hne e⟩ b
  done := fun s Q E st hE => endS hh st.1 st.2 (by simp) hE
def eH1 (k : Bool) (h : Heap) (l : Addr) : Heap := h.push { cls := .type (itName k), data := .fields #[.ref l, .int 0 0] }
def eH2 (k : Bool) (h : Heap) (l : Addr) : Heap := (eH1 k h l).push { cls := .type "enumerate", data := .fields #[.none, .bool false, .ref h.objs.size, rawInt 0, .none, .none] }
set_option maxHeartbeats 1000000 in
theorem enum_tup_meets (l : Addr) (items : Array Value) (n : Nat) (dct : Option Addr) (sl : Array (Option Value)) :
    Meets (Builtin.«enumerate.__new__» ⟨[.type "enumerate", .ref l], []⟩) (fun _ R s => s.heap.get? l = some { cls := .type "tuple", dict := dct, data := .seq items n, slots := sl } ∧ R (.ok (.ret (.ref (eH1 true s.heap l).objs.size))) { s with heap := eH2 true s.heap l }) :=
  .of_wp fun prog w A R s h => by
    obtain ⟨hp, g, d, tk, os⟩ := s
    obtain ⟨hl, h⟩ := h
    have hsub := sub_enumerate
    have hL : Heap.IsTuple (Shared.heap ⟨hp, g, d, tk, os⟩) l items := ⟨_, hl, rfl, n, rfl⟩
    wp_walk using wpAny_loadPart' hl
    refine wpAny_stack_any fun st => wpAny_pure ?_
    split
    · rename_i c _ _ _ _ _
      cases (c == Value.type "enumerate")
      all_goals (wp_walk using wpAny_loadPart' hl, wpAny_pyIter_tuple hL; exact ⟨_, rfl, h⟩)
    · wp_walk using wpAny_loadPart' hl, wpAny_pyIter_tuple hL
      exact ⟨_, rfl, h⟩
section
variable {prog : Program} {w : World} {A : Around} {E : Value → Shared → Prop} {s : Shared}
theorem call_enumS {k : Bool} {l : Addr} {items : Array Value} {Q : Value → Shared → Prop} (hL : SeqIs k s.heap l items)
    (h : ∀ h', IsEnum h' (s.heap.objs.size + 1) s.heap.objs.size 0 .none → IterAt k h' s.heap.objs.size l 0 → (∀ b o, s.heap.get? b = some o → h'.get? b = some o) → Q (.ref (s.heap.objs.size + 1)) { s with heap := h' }) :
    wpAny (model prog w) A (call (.type "enumerate") [.ref l]) Q E s := by
  cases k
  · exact call_enumerate_list hL fun h' a b _ c => h h' a b c
  · obtain ⟨⟨c, dct, dt, sl⟩, hl, hc, n, hd⟩ := hL
    replace hc : c = .type "tuple" := hc
    replace hd : dt = .seq items n := hd
    subst hc hd
    refine callType_new F.called_enumerate (by decide) (F.typeCall_enumerate_1 _) (F.newCall_enumerate_1 _) (fun obj => F.args_object_init_2 obj _) F.entry_enumerate_new (enum_tup_meets l items n dct sl) ⟨hl, ?_⟩
    have n1 : (eH1 true s.heap l).objs.size = s.heap.objs.size + 1 := Heap.size_push ..
    have f2 : (eH2 true s.heap l).get? (eH1 true s.heap l).objs.size = some _ := Heap.get?_push_size _ rfl
    have f1 : (eH2 true s.heap l).get? s.heap.objs.size = some _ := Heap.get?_push_of_some _ (Heap.get?_push_size _ rfl)
    show _ ∧ _
    rw [n1] at f2 ⊢
    exact ⟨⟨_, f2, rfl⟩, h _ f2 ⟨_, f1, rfl, rfl⟩ fun b o e => Heap.get?_push_of_some _ (Heap.get?_push_of_some _ e)⟩
end
def Ite (K : PySem.W.Frag) (k : Bool) (a : Addr) : It :=
  ⟨fun i H => ∃ xs x, Sq k K H a xs ∧ xs[i]? = some x,
   fun i H v H' => ∃ T x, H T = none ∧ v = .ref T ∧ H' = upd H T (.tup [.int i, x]) ∧ ∀ xs, Sq k K H a xs → xs[i]? = some x,
   fun i H => ∃ xs, Sq k K H a xs ∧ xs.length = i⟩
theorem turn_enum {P : Program} {w : World} {K : PySem.W.Frag} {elts : List Expr} {x1 : Nat} {pos : Pos} (k : Bool) (a e it : Addr) (hei : e ≠ it) (hai : a ≠ it) (hae : a ≠ e) :
    Turn P w K (.Tuple elts x1 pos) (Ite K k a) [e, it] e (fun i h => (∃ old, IsEnum h e it i old) ∧ IterAt k h it a i) where
  mem := by simp
  obj := fun i h st c hc => by
    obtain ⟨⟨old, g0⟩, ⟨o1, e1, _, d1⟩⟩ := st
    simp only [List.mem_cons, List.not_mem_nil, or_false] at hc
    rcases hc with rfl | rfl
    · exact ⟨_, g0, fun v q => by cases q⟩
    · exact ⟨_, e1, fun v q => by rw [d1] at q; cases q⟩
  keep := fun i h h' st f => by
    obtain ⟨⟨old, g0⟩, g1⟩ := st
    exact ⟨⟨old, f e (by simp) _ g0⟩, g1.kept (f it (by simp))⟩
  item := by
    intro X hP hw hK hc i pins s σ H E I hf st hg
    subst hP hw hK
    obtain ⟨xs, x, hq, hx⟩ := hg
    obtain ⟨us, rv, p, _⟩ := I.sq hq
    obtain ⟨u, hu, ru⟩ := rv.get hx
    obtain ⟨⟨old, g0⟩, g1⟩ := st
    have hlt : i < us.toArray.size := by
      have := (List.getElem?_eq_some_iff.mp hu).1
      simpa using this
    have hh : X.A.in1.handled = none := I.ok.hd hc
    refine wpAny_pyNext_enum_itemD (drawsS hh k it a hai us.toArray) g0 ⟨g1, p⟩ hlt hei (by simp [hei, Ne.symm hae]) fun y h' tk hy ho hst hT _ kk => ⟨_, rfl, ?_⟩
    have ey : y = u := by
      have : us.toArray[i]? = some u := by simpa using hu
      rw [this] at hy
      exact (Option.some.inj hy).symm
    subst ey
    refine wpAny_letOwnedTupleGo_enum (s := { s with heap := h', toks := tk + 1 }) ho fun h2 he2 sb => ?_
    have up : ∀ c o, c ≠ e → h'.get? c = some o → h2.get? c = some o := fun c o n q => (sb.2 c n).trans q
    have lt : e < s.heap.objs.size := Heap.lt_size g0
    have tp : IsPair h2 s.heap.objs.size (.int i tk) y := up _ _ (Nat.ne_of_gt lt) hT
    have I1 : Inv X pins σ (upd H s.heap.objs.size (.tup [.int i, x])) { s with heap := h2, toks := tk + 1 } := I.turnedN (t' := tk + 1) (ch := [e, it]) hf (fun c o n q => up c o (fun z => n (by simp [z])) (kk c o (fun z => n (by simp [z])) (fun z => n (by simp [z])) q)) (Nat.le_refl _) (pair_ok ⟨tk, rfl⟩ ru tp)
    refine ⟨.ref s.heap.objs.size, _, I1, rfl, ⟨_, x, I.hok.fresh (Nat.le_refl _), rfl, rfl, fun xs' h => by rw [I.sq_inj h hq]; exact hx⟩, ⟨⟨y, by simpa using he2⟩, hst.1.kept fun o q => up _ _ (Ne.symm hei) q⟩, fun c hc => ?_⟩
    have hlt2 : c < s.heap.objs.size := by
      simp only [List.mem_cons, List.not_mem_nil, or_false] at hc
      rcases hc with rfl | rfl
      · exact lt
      · exact g1.lt
    rw [upd_ne (Nat.ne_of_lt hlt2)]
    exact (hf c hc).1
  done := by
    intro X hP hw hK hc i pins s σ H E I hf st hg
    subst hP hw hK
    obtain ⟨xs, hq, hl⟩ := hg
    obtain ⟨us, rv, p, _⟩ := I.sq hq
    obtain ⟨⟨old, g0⟩, g1⟩ := st
    have hh : X.A.in1.handled = none := I.ok.hd hc
    have e1 : i = us.toArray.size := by
      have := rv.length
      rw [← hl, this]; simp
    rw [e1] at g1
    exact wpAny_pyNext_enum_endD (drawsS hh k it a hai us.toArray) g0 ⟨g1, p⟩ fun h' kk => ⟨rfl, I.turnedL (t' := s.toks) (ch := [e, it]) hf fun c o n q => kk c o (fun z => n (by simp [z])) q⟩
  self := fun _ _ _ _ _ st h => by
    obtain ⟨⟨old, g0⟩, _⟩ := st
    exact wpAny_pyIter_enum g0 h
section
variable {X : Cx} {elts : List Expr} {x1 : Nat} {tpos : Pos}
def iEnum (K : PySem.W.Frag) (k : Bool) (ta : TA) : TI := fun σ H R => ta σ H fun vs H1 => ∃ a, vs = [.ref a] ∧ (∃ xs, Sq k K H1 a xs) ∧ R (Ite K k a) H1
theorem pi_enum (k : Bool) {a : Expr} {ta : TA} {p pos : Pos} (hg : Gl X "enumerate") (hm : X.mg "enumerate" = none) (ha : PA X [a] ta) (hs : starEach [a] X.env = [(false, eval a X.env)] := by rfl) : PI X (.Tuple elts x1 tpos) (.Call (.Name "enumerate" p) [a] [] pos) (iEnum X.K k ta) := by
  intro pins s σ H R I h
  refine Call_ (ld_blt I hg hm boot_enumerate (PyProof.Rows.callWith_type1 (thn (ha pos pins s σ H _ I h) fun us s1 ⟨vs, H1, I1, r1, q1⟩ => ?_) hs rfl))
  obtain ⟨a, e, ⟨xs, hq⟩, q⟩ := q1
  subst e
  cases r1 with
  | cons r rr =>
    cases rr
    cases r
    obtain ⟨us, rv, p, _⟩ := I1.sq hq
    have hlt := p.lt
    refine call_enumS p fun h' g0 g1 kk => ?_
    have I2 : Inv X pins σ H1 { s1 with heap := h' } := I1.kept (t' := s1.toks) kk
    refine wpAny_pyIter_enum (s := { s1 with heap := h' }) g0 ⟨_, [s1.heap.objs.size + 1, s1.heap.objs.size], _, _, H1, rfl, I2, turn_enum k a _ _ (Nat.succ_ne_self _) (Nat.ne_of_lt hlt) (Nat.ne_of_lt (Nat.lt_succ_of_lt hlt)), ⟨⟨_, g0⟩, g1⟩, fun c hc => ?_, q⟩
    have hle : s1.heap.objs.size ≤ c := by
      have hc' : c = s1.heap.objs.size + 1 ∨ c = s1.heap.objs.size := by simpa using hc
      rcases hc' with e | e <;> rw [e] <;> first | exact Nat.le_refl _ | exact Nat.le_add_right _ _
    exact I1.fpOk hle (I1.hok.fresh hle)
end
theorem comp_enum {K : PySem.W.Frag} {k : Bool} {a : Addr} {xs : List V} {g : TG} {tf : TT} {te : TE} {σ : St} {H : Hp} {Q : VK} (Pv : Nat → List V → St → Hp → Prop) (h0 : Pv 0 [] σ H)
    (hl : ∀ i zs σ H, i ≤ xs.length → Pv i zs σ H → Sq k K H a xs ∧ zs.length ≤ sizeLine)
    (hs : ∀ i x zs σ H T, xs[i]? = some x → Pv i zs σ H → H T = none → g (.ref T) σ (upd H T (.tup [.int i, x])) fun σ2 H2 => tf σ2 H2 fun b H3 => if b = true then te σ2 H3 fun v H4 => Pv (i + 1) (zs ++ [v]) σ2 H4 else Pv (i + 1) zs σ2 H3)
    (hd : ∀ zs σ H, Pv xs.length zs σ H → ∀ p, H p = none → Q (.ref p) (upd H p (.lst zs))) : tCompK g tf te σ (Ite K k a) H Q := by
  refine ⟨fun i m zs σ H => m = xs.length - i ∧ i ≤ xs.length ∧ Pv i zs σ H, ⟨_, (Nat.sub_zero _).symm, Nat.zero_le _, h0⟩, ?_⟩
  rintro i m zs σ H ⟨rfl, hi, p⟩
  obtain ⟨q1, hz⟩ := hl i zs σ H hi p
  by_cases hlt : i < xs.length
  · refine .inr ⟨⟨xs, xs[i], q1, by simp [hlt]⟩, hz, Pv (i + 1), fun ys' σ' H' p' => ⟨xs.length - (i + 1), by omega, rfl, hlt, p'⟩, fun x H' y => ?_⟩
    obtain ⟨T, u, hT, rfl, rfl, e1⟩ := y
    exact hs i u zs σ H T (e1 xs q1) p hT
  · have e : i = xs.length := by omega
    rw [e] at p
    exact .inl ⟨⟨xs, q1, e.symm⟩, hz, hd zs σ H p⟩
end L2

set_option Elab.async false
set_option linter.all false
set_option maxRecDepth 100000
namespace L2
open PySem PySem.Spec PyProof.Rows PySem.W
/-! ### try: f(..) except S: suite, without a name -/
/-! ### f'text{e}', e an int -/
end L2

set_option Elab.async false
set_option linter.all false
set_option maxRecDepth 100000
namespace L2
open PySem PySem.Spec PyProof.Rows
/-! ### range(n, 0, -1) -/
section
variable {X : Cx} {tg : Expr}
end
end L2

set_option Elab.async false
set_option linter.all false
namespace L2
open PySem PySem.Spec PyProof.Rows
/-! ### partings, what lies in a heap -/
def idxP (rule : List (List Int)) (hs : List Int) (i : Nat) : List Int := ((List.range i).filter fun i => lies (rule.getD i []) hs).map fun (k : Nat) => (k : Int)
def idxG (rule : List (List Int)) (hs : List Int) : List Int := idxP rule hs rule.length
theorem idxP_succ (rule : List (List Int)) (hs : List Int) (i : Nat) : idxP rule hs (i + 1) = idxP rule hs i ++ if lies (rule.getD i []) hs = true then [(i : Int)] else [] := by
  unfold idxP
  rw [List.range_succ, List.filter_append, List.map_append]
  by_cases h : lies (rule.getD i []) hs = true
  · rw [List.filter_cons, if_pos h, if_pos h]; rfl
  · rw [List.filter_cons, if_neg h, if_neg h]; rfl
theorem idxP_len (rule : List (List Int)) (hs : List Int) (i : Nat) : (idxP rule hs i).length ≤ i := by
  unfold idxP
  rw [List.length_map]
  exact Nat.le_trans (List.length_filter_le _ _) (by simp)
theorem idxP_lt {rule : List (List Int)} {hs : List Int} {i : Nat} {x : Int} (h : x ∈ idxP rule hs i) : 0 ≤ x ∧ x < i ∧ lies (rule.getD x.toNat []) hs = true := by
  unfold idxP at h
  obtain ⟨k, hk, rfl⟩ := List.mem_map.mp h
  obtain ⟨h1, h2⟩ := List.mem_filter.mp hk
  rw [List.mem_range] at h1
  refine ⟨by omega, by omega, ?_⟩
  simpa using h2
/-- the least number of a heap that lies in it -/
def firstG (rule : List (List Int)) (hs : List Int) : Option Int := (idxG rule hs).head?
def optV : Option Int → V
  | none => .non
  | some i => .int i
theorem idxP_head (rule : List (List Int)) (hs : List Int) : ∀ i m, Ismin m (idxP rule hs i) → (idxP rule hs i).head? = some m
  | 0, m, h => nomatch h.1
  | i + 1, m, h => by
    rw [idxP_succ] at h ⊢
    cases e : idxP rule hs i with
    | nil =>
      rw [e] at h
      by_cases c : lies (rule.getD i []) hs = true
      · rw [if_pos c] at h ⊢
        have : m = (i : Int) := by simpa using h.1
        rw [this]; rfl
      · rw [if_neg c] at h
        exact nomatch h.1
    | cons y ys =>
      have ih := idxP_head rule hs i
      rw [e] at ih h
      show some y = some m
      have hy : y ∈ idxP rule hs i := by rw [e]; simp
      have hmem : m ∈ y :: ys := by
        rcases List.mem_append.mp h.1 with z | z
        · exact z
        · by_cases c : lies (rule.getD i []) hs = true
          · rw [if_pos c] at z
            have e1 : m = (i : Int) := by simpa using z
            have := h.2 y (by simp)
            have := (idxP_lt hy).2.1
            omega
          · rw [if_neg c] at z
            exact nomatch z
      exact ih m ⟨hmem, fun x hx => h.2 x (by rcases List.mem_cons.mp hx with z | z <;> simp [z])⟩
theorem first_none {rule : List (List Int)} {hs : List Int} (h : idxP rule hs rule.length = []) : firstG rule hs = none := by unfold firstG idxG; rw [h]; rfl
theorem optV_none (o : Option Int) : decide (optV o = V.non) = o.isNone := by
  cases o with
  | none => rfl
  | some i => exact decide_eq_false (by intro z; cases z)
end L2

set_option Elab.async false
set_option linter.all false
namespace L2
open PySem PySem.Spec PyProof.Rows
/-! ### pairs of a heap and a choice -/
end L2

set_option Elab.async false
set_option linter.all false
namespace L2
open PySem PySem.Spec PyProof.Rows
/-! ### coins -/
end L2

set_option Elab.async false
set_option linter.all false
set_option maxRecDepth 100000
namespace L2
open PySem PySem.Spec PyProof.Rows
/-! ### xs.insert(i, e), i a place there or behind the last one -/
/-! ### slices of tuples of ints from 1 on -/
end L2

set_option Elab.async false
set_option linter.all false
set_option maxRecDepth 100000
namespace L2
open PySem PySem.Spec PyProof.Rows
/-! ### ways by the rule of the left over ones: the last one first -/
/-! ### coins, once more -/
end L2

set_option Elab.async false
set_option linter.all false
namespace L2
open PySem PySem.Spec PyProof.Rows
/-! ### pairs and partners -/
/-! ### a heap in which all heaps of a rule lie -/
end L2

set_option Elab.async false
set_option linter.all false
namespace L2
open PySem PySem.Spec PyProof.Rows
/-! ### sorted(t), t a tuple of ints -/
section
variable {prog : Program} {w : World} {A : Around} {E : Value → Shared → Prop} {s : Shared}
end
end L2

set_option Elab.async false
set_option linter.all false
namespace L2
open PySem PySem.Spec PyProof.Rows
end L2

set_option Elab.async false
set_option linter.all false
namespace L2
open PySem PySem.Spec PyProof.Rows PySem.W
end L2

set_option Elab.async false
set_option linter.all false
set_option maxRecDepth 100000
namespace L2
open PySem PySem.Spec PyProof.Rows
/-! ### range(hi, hi - n, -1) -/
section
variable {X : Cx} {tg : Expr}
end
end L2

set_option Elab.async false
set_option linter.all false
set_option maxRecDepth 100000
namespace L2
end L2

set_option Elab.async false
set_option linter.all false
set_option maxRecDepth 100000
namespace L2
open PySem PySem.Spec PyProof.Rows PySem.W
/-! ### try: f(..) except S as n: suite else: other -/
end L2

set_option Elab.async false
set_option linter.all false
set_option maxRecDepth 100000
namespace L2
def sumN : Nat → (Nat → Int) → Int
  | 0, _ => 0
  | n + 1, f => sumN n f + f n
end L2

set_option Elab.async false
set_option linter.all false
set_option maxRecDepth 100000
namespace L2
open PySem PySem.Spec PyProof.Rows
/-! ### set(t) of ints, and its length -/
section
variable {X : Cx}
end
end L2

set_option Elab.async false
set_option linter.all false
set_option maxRecDepth 100000
namespace L2
open PySem PySem.Spec PyProof.Rows
/-! ### products of great ints -/
section
variable {X : Cx}
end
/-! ### for k, x in enumerate(xs) -/
/-! ### xs[::-1] -/
section
variable {X : Cx} {e st : Expr} {te : TE} {ts : TO} {p2 pos : Pos}
end
/-! ### trailing noughts dropped -/
/-! ### products of polynomials -/
def cv (a b : List Int) (k : Nat) : Int := sumN a.length fun i => sumN b.length fun j => if i + j = k then a.getD i 0 * b.getD j 0 else 0
end L2

set_option Elab.async false
set_option linter.all false
set_option maxRecDepth 100000
namespace L2
open PySem PySem.Spec PyProof.Rows
section
variable {X : Cx} {tg l : Expr} {t1 t2 : TI}
/-- either a list or a tuple -/
def iOr (t1 t2 : TI) : TI := fun σ H R => t1 σ H R ∨ t2 σ H R
theorem pi_or (h1 : PI X tg l t1) (h2 : PI X tg l t2) : PI X tg l (iOr t1 t2) := by
  intro pins s σ H R I h
  rcases h with h | h
  · exact h1 pins s σ H R I h
  · exact h2 pins s σ H R I h
end
/-! ### how many unlike ones -/
/-! ### tuples within tuples, the same -/
end L2

set_option Elab.async false
set_option linter.all false
set_option maxRecDepth 100000
namespace L2
open PySem PySem.Spec PyProof.Rows
/-! ### tuple(range(hi, lo, -1)) -/
section
variable {prog : Program} {w : World} {A : Around} {E : Value → Shared → Prop} {s : Shared}
end
section
variable {X : Cx}
end
end L2

set_option Elab.async false
set_option linter.all false
set_option maxRecDepth 100000
namespace L2
open PySem PySem.Spec PyProof.Rows
/-! ### hi, hi - 1, .. -/
/-! ### the left one of a number -/
end L2

set_option Elab.async false
set_option linter.all false
set_option maxRecDepth 100000
namespace L2
open PySem PySem.Spec PyProof.Rows
/-! ### strict heaps with a slope of run -/
/-! ### the slope, known by its parts -/
/-! ### shifted -/
end L2

set_option Elab.async false
set_option linter.all false
set_option maxRecDepth 100000
namespace L2
open PySem PySem.Spec PyProof.Rows
/-! ### slices -/
theorem sl_any {K : PySem.W.Frag} {lo hi : Option Int} {H : Hp} {Q : VK} {a : Addr} {xs : List V} (ha : H a = some (.tup xs)) (k : ∀ (q : Addr) (H' : Hp), Same H H' → H' q = some (.tup (cutV xs lo hi)) → Q (.ref q) H') : rSlTA K (.ref a) lo hi H Q := by
  by_cases c : HT.sIx xs.length 0 lo = 0 ∧ HT.sIx xs.length xs.length hi = xs.length
  · refine .inl ⟨a, xs, rfl, SqT.of ha, c, k a H (fun _ _ z => z) ?_⟩
    unfold cutV
    rw [c.1, c.2, List.drop_zero, Nat.sub_zero, List.take_length]
    exact ha
  · exact .inr ⟨a, xs, rfl, SqT.of ha, c, fun p hp => k p _ (Same.new hp) upd_same⟩
section
variable {X : Cx}
end
end L2

set_option Elab.async false
set_option linter.all false
set_option maxRecDepth 100000
set_option exponentiation.threshold 200000
namespace L2
open PySem PySem.Spec PyProof.Rows
/-! ### products of ints of up to 100000 bits -/
section
variable {X : Cx}
end
/-! ### heads of a fraction -/
def hdL (T B : Nat → Int) : Nat → List Int
  | 0 => []
  | n + 1 => hdL T B n ++ [T n - sumN n fun i => B (i + 1) * (hdL T B n).getD (n - (i + 1)) 0]
def hd (T B : Nat → Int) (n : Nat) : Int := (hdL T B (n + 1)).getD n 0
end L2

set_option Elab.async false
set_option linter.all false
set_option maxRecDepth 100000
namespace L2
open PySem PySem.Spec PyProof.Rows PySem.W
/-! ### two except clauses, both with the name -/
end L2

set_option Elab.async false
set_option linter.all false
set_option maxRecDepth 100000
namespace L2
open PySem PySem.Spec PyProof.Rows
/-! ### a tuple times one -/
/-! ### stores -/
end L2

set_option Elab.async false
set_option linter.all false
set_option maxRecDepth 100000
namespace L2
open PySem PySem.Spec PyProof.Rows
end L2

set_option Elab.async false
set_option linter.all false
set_option maxRecDepth 100000
namespace L2
open PySem PySem.Spec PyProof.Rows
/-! ### x not in a list of tuples of ints -/
section
variable {X : Cx}
end
/-! ### partings into unlike parts -/
end L2

set_option Elab.async false
set_option linter.all false
set_option maxRecDepth 100000
namespace L2
open PySem PySem.Spec PyProof.Rows
/-! ### dict(t) of a tuple of pairs -/
section
variable {prog : Program} {w : World} {A : Around} {R : Result → Shared → Prop} {I : Addr} {fp wr : List Addr} {G : Array GenState → Array GenState → Prop} {n : Nat} {P : Nat → Value → Prop} {St : Nat → Shared → Prop} {K : Type} [DecidableEq K] {knd : KeyKind prog w K}
end
section
variable {X : Cx}
end
end L2

set_option Elab.async false
set_option linter.all false
set_option maxRecDepth 100000
namespace L2
open PySem PySem.Spec PyProof.Rows
section
variable {X : Cx}
end
/-! ### a store as a table -/
/-! ### products without trimming -/
end L2

set_option Elab.async false
set_option linter.all false
set_option maxRecDepth 100000
namespace L2
/-! ### the order of the rows does not count -/
end L2

set_option Elab.async false
set_option linter.all false
set_option maxRecDepth 100000
namespace L2
/-! ### how many partings a store makes -/
end L2

set_option Elab.async false
set_option linter.all false
set_option maxRecDepth 100000
namespace L2
/-! ### partings in which a heap lies -/
/-! ### signs over all choices -/
end L2

set_option Elab.async false
set_option linter.all false
set_option maxRecDepth 100000
namespace L2
/-! ### parts that may stand less often -/
end L2

set_option Elab.async false
set_option linter.all false
set_option maxRecDepth 100000
namespace L2
open PySem PySem.Spec PyProof.Rows
/-! ### a dict of unlike parts -/
section
variable {X : Cx}
end
/-! ### the limited coins, step by step -/
end L2

set_option Elab.async false
set_option linter.all false
set_option maxRecDepth 100000
namespace L2
open PySem PySem.Spec PyProof.Rows
open PySem.Builtin.Str (occurrences subAt)
/-! ### texts of one sign -/
section
variable {X : Cx}
end
/-! ### rows of dots -/
end L2

set_option Elab.async false
set_option linter.all false
set_option maxRecDepth 100000
namespace L2
open PySem PySem.Spec PyProof.Rows
/-! ### a comprehension that an exception may leave -/
def postC (M : Model) (A : Around) (E : Value → Shared → Prop) (use : Option (Value → Sem Unit)) (Q : Value → Shared → Prop) (acc : Value) (ce : Env) (r : Result) (s' : Shared) : Prop :=
  match r with
  | .ok f => compPost M A E use Q acc ce.locals (.ok f) s'
  | .error x => ∃ m, s'.heap.Ns ce.locals m ∧ ∀ h', Heap.SameBut ce.locals s'.heap h' → wpAny M A (PySem.passOn "comprehension.variables-let-go" x ce : Sem Value) (fun _ _ => False) E { s' with heap := h' }
abbrev outNames (scope : Scope) : List (Str × NameKind) := (scope.names.filter fun z => (z.2 == .local || z.2 == .cell) && z.1 != (".0" : Str)).reverse
theorem comp_leaves {M : Model} {A : Around} {E : Value → Shared → Prop} {s : Shared} {env : Env} {e : Expr} {scope : Scope} {pos : Pos} {acc0 one : Sem Value} {c : Comprehension} {cs : List Comprehension} {cl : List (Str × Addr)} {use : Option (Value → Sem Unit)} {Q : Value → Shared → Prop}
    (h1 : clausesOf e = c :: cs) (h2 : ∀ x, foldedSetIterable c.iter env x = pure x) (h3 : closureFor scope env = pure cl) (h4 : scope.kind = .function) (h5 : ∀ x ∈ scope.names, x.2 = .local → scope.names.lookup x.1 = some .local)
    (h : wpAny M A one (fun x a1 => wpAny M A (pyIter x) (fun it a2 => wpAny M A acc0 (fun acc a3 => wpAny M A (newFunctionEnv scope env.globals cl [] env.qual none .none (some env)) (fun ce a4 =>
      codeAny M A (.compStart e 0 it acc { ce with scope := relabel scope env }) (postC M A E use Q acc { ce with scope := relabel scope env }) a4) E a3) E a2) E a1) E s) :
    wpAny M A (comprehension e scope env pos acc0 false one use) Q E s := by
  unfold comprehension
  rw [h3, h1]
  refine wpAny_bind (wpAny_mono h (fun x a1 k1 => ?_) fun _ _ z => z)
  refine wpAny_bind (wpAny_standAt (wpAny_bind (wpAny_of_eq (h2 x) (wpAny_bind (wpAny_holding (wpAny_mono k1 (fun it a2 k2 => ?_) fun _ _ z => z))))))
  refine wpAny_standIf (wpAny_bind (wpAny_mono k2 (fun acc a3 k3 => ?_) fun _ _ z => z))
  refine wpAny_bind (wpAny_pure (wpAny_bind (wpAny_mono k3 (fun ce a4 k4 => ?_) fun _ _ z => z)))
  dsimp only
  have v1 : ∀ y ∈ outNames scope, y.2 = .local → Env.kindOf { ce with scope := relabel scope env } y.1 = some .local :=
    fun y hy hl => lookup_relabel_local (h5 y (List.mem_filter.mp (List.mem_reverse.mp hy)).1 hl)
  have v2 : ∀ y ∈ (outNames scope).drop 1 ++ (outNames scope).take 1, y.2 = .local → Env.kindOf { ce with scope := relabel scope env } y.1 = some .local :=
    fun y hy hl => (List.mem_append.mp hy).elim (fun z => v1 y (List.mem_of_mem_drop z) hl) fun z => v1 y (List.mem_of_mem_take z) hl
  refine wpAny_holding (wpAny_bind (wpAny_attempt (wpAny_holding (wpAny_run (codeAny_mono k4 fun r s' k5 => ?_)))))
  cases r with
  | error x =>
    obtain ⟨m, hn, k6⟩ := k5
    refine wpAny_bind (wpAny_holding (wpAny_comp_letGo h4 _ s' m v1 hn fun h' _ _ sb => ?_))
    exact wpAny_mono (k6 h' sb) (fun _ _ z => z.elim) fun _ _ z => z
  | ok f =>
    cases use with
    | some u =>
      refine wpAny_bind (wpAny_rule (wpAny_bind (wpAny_holding (wpAny_mono k5 (fun _ s2 k6 => ?_) fun _ _ z => z))))
      obtain ⟨m, hn, k7⟩ := k6
      exact wpAny_bind (wpAny_comp_letGo h4 _ s2 m v2 hn fun h' _ _ sb => wpAny_pure (k7 h' sb))
    | none =>
      obtain ⟨m, hn, k6⟩ := k5
      exact wpAny_bind (wpAny_holding (wpAny_comp_letGo h4 _ s' m v1 hn fun h' _ _ sb => wpAny_pure (k6 h' sb)))
/-- a frame's note asks for the frame alone -/
theorem note_eq {v : Value} {a b : Env} (h : a.frame = b.frame) : noteFrame v a = noteFrame v b := by
  unfold noteFrame PySem.frameOf
  rw [h]
/-- an exception within a comprehension's block; C: the block's own names -/
def XEc (X : Cx) (E : XK) (C : Addr) : Value → Shared → Prop := fun ev s' => ∃ (e : Addr) (c : Value) (dd : Option Addr) (H' : Hp), ev = .ref e ∧ E c dd H' ∧ ExcAt X H' e c dd s' ∧ H' C = none ∧ ∃ m, s'.heap.Ns C m
abbrev cxE (X : Cx) (E : XK) (scope : Scope) (N : List Str) (C : Addr) (s : Shared) (H : Hp) (ex : List Addr) : Cx := (cxC X scope N C s H ex).wish (XEc X E C)
def CompAt (X : Cx) (C : Addr) (s : Shared) (H : Hp) (ex : List Addr) : Prop := ∃ pins σ, Inv X pins σ H s ∧ s.heap.objs.size ≤ C ∧ ∀ b ∈ ex, FpOk X pins H b ∧ b < s.heap.objs.size
theorem Inv.noFr {X : Cx} {pins : List (Addr × Obj)} {σ : St} {H : Hp} {s : Shared} {C : Addr} (I : Inv X pins σ H s) (h : s.heap.objs.size ≤ C) : C ∉ frs X.stack := fun hb =>
  I.nofs h ((List.mem_cons.mp (I.stkSub _ hb)).resolve_left fun z => absurd I.lt (by rw [← z]; exact Nat.not_lt.mpr h))
/-- what a callee raises reaches the block's wish -/
theorem passC {X : Cx} {E E' : XK} {scope : Scope} {N : List Str} {C : Addr} {s : Shared} {H : Hp} {ex : List Addr} (hC : CompAt X C s H ex) (top : X.stack = X.env :: X.outer := by rfl) (fr : X.env.frame = some X.env.locals := by rfl) (h : ∀ c dd H', E' c dd H' → E c dd H' := by exact fun _ _ _ h => h) :
    Passes (CX1 X.prog X.w) (cxE X E scope N C s H ex) E' := fun pins1 σ1 H1 s1 ev s' I1 hx => by
  obtain ⟨pins, σ, I, hCs, hex⟩ := hC
  have J1 : Inv (cxC X scope N C s H ex) pins1 σ1 H1 s1 := I1.unwish
  have J : Inv X pins σ H1 s1 := I.call' J1.os J1.base J1.hok J1.bare fun b hb => by
    obtain ⟨⟨_, f1, _, f3, f4, f5⟩, _⟩ := hex b hb
    exact ⟨f3, f1, f4, f5⟩
  obtain ⟨m, hn, _⟩ := id J1.loc
  have hn : s1.heap.Ns C m := hn
  have hfree : H1 C = none := J1.free
  obtain ⟨e2, c2, d2, H2, he2, hE2, hos, hb, un, hok, fe, B, hf, cv⟩ := (hx : CX1 X.prog X.w X.stack H1 s1 E' ev s')
  obtain ⟨e, c, dd, H', he, ⟨rfl, rfl, rfl⟩, x⟩ := ExcAt.come (E := fun c dd H' => c = c2 ∧ dd = d2 ∧ H' = H2) ⟨J.ok, top, fr⟩ J ⟨e2, c2, d2, H2, he2, ⟨rfl, rfl, rfl⟩, hos, hb, un, hok, fe, B, hf, cv⟩
  obtain ⟨o, es, ep, g, r⟩ := hn
  exact ⟨e, c, dd, H', he, h _ _ _ hE2, x, un.free C _ g hfree (by simp), m, ⟨o, es, ep, un.keep C o g hfree (I.noFr hCs) (by simp), r⟩⟩
theorem ns_slots {h h' : Heap} {C : Addr} {m : Str → Option Value} (hn : h.Ns C m) (up : ∀ b o, h.get? b = some o → (∀ vs, o.data ≠ .fields vs) → ∃ sl, h'.get? b = some { o with slots := sl }) : h'.Ns C m := by
  obtain ⟨o, es, ep, g, hd, r⟩ := hn
  obtain ⟨sl, g'⟩ := up C o g fun vs z => by rw [hd] at z; cases z
  exact ⟨_, es, ep, g', hd, r⟩
section
variable {X : Cx}
/-- noted here, the block's names as they were -/
theorem ExcAt.noteC {M : Model} {E' : Value → Shared → Prop} {H' : Hp} {e C : Addr} {c : Value} {dd : Option Addr} {m : Str → Option Value} {s' : Shared} {Q : Unit → Shared → Prop} (o : Own X) (x : ExcAt X H' e c dd s') (hn : s'.heap.Ns C m)
    (h : ∀ s'', ExcAt X H' e c dd s'' → (∃ B, HeldD B X.stack e c dd X.env.locals s''.heap ∧ Cov X.s₀.heap X.H₀ (frs X.stack) X.ex H' B) → s''.heap.Ns C m → Q () s'') : wpAny M X.A (noteFrame (.ref e) X.env) Q E' s' := by
  obtain ⟨B, cv, st⟩ := x.st
  have fin : ∀ {h' : Heap}, HeldD B X.stack e c dd X.env.locals h' → UpS s'.heap h' → Q () { s' with heap := h' } := fun {h'} hh up => by
    obtain ⟨u, k⟩ := cv.turn o.sub (frames_nf st.frames) st.stays hh.1 up x.un x.hok o.old
    exact h _ ⟨x.os, x.bare, u, k, x.fe, B, cv, .held hh⟩ ⟨B, hh, cv⟩ (ns_slots hn up)
  have hfr : X.A.frames = some (X.env :: X.outer) := by rw [← o.top]; exact o.ok.frames
  cases st with
  | made oe vs b1 b2 b3 he hc hdd hd h1 =>
    subst hc hdd
    rw [o.top] at b2
    exact st_first hfr b2 o.fr he b1 b3 hd h1 fun h' hh up => fin (by rw [o.top]; exact hh) up
  | fly hf =>
    rw [o.top] at hf
    exact st_note hfr o.fr hf fun h' hh up => fin (by rw [o.top]; exact hh) up
  | held hh =>
    exact st_again (fl := .none) o.fr hh.2.2.2 (fin hh (UpS.same _))
/-- the block's names go -/
theorem ExcAt.but {H' : Hp} {e C : Addr} {c : Value} {dd : Option Addr} {m : Str → Option Value} {s' : Shared} {h' : Heap} (o : Own X) (x : ExcAt X H' e c dd s') (hx : ∃ B, HeldD B X.stack e c dd X.env.locals s'.heap ∧ Cov X.s₀.heap X.H₀ (frs X.stack) X.ex H' B) (hn : s'.heap.Ns C m) (hC : X.s₀.heap.objs.size ≤ C) (hfr : C ∉ frs X.stack) (hf : H' C = none)
    (sb : Heap.SameBut C s'.heap h') : ExcAt X H' e c dd { s' with heap := h' } ∧ ∃ B, HeldD B X.stack e c dd X.env.locals h' ∧ Cov X.s₀.heap X.H₀ (frs X.stack) X.ex H' B := by
  obtain ⟨B, ⟨f1, f2, f3, f4⟩, cv⟩ := hx
  have neC : ∀ b ob, X.s₀.heap.get? b = some ob → b ≠ C := fun b ob q => Nat.ne_of_lt (Nat.lt_of_lt_of_le (Heap.lt_size q) hC)
  have neF : ∀ b ob vs, s'.heap.get? b = some ob → ob.data = .fields vs → b ≠ C := fun b ob vs q hd z => by
    obtain ⟨o1, es, ep, g, hd1, _⟩ := hn
    rw [z, g] at q
    cases q
    rw [hd1] at hd
    cases hd
  have get : ∀ b ob, b ≠ C → s'.heap.get? b = some ob → h'.get? b = some ob := fun b ob hb q => (sb.2 b hb).trans q
  have inB : ∀ b ob, (PySem.W.hideAll B [C]).get? b = some ob → B.get? b = some ob ∧ b ≠ C := fun b ob q => ⟨PySem.W.of_hideAll _ q, fun z => by
    rw [z, PySem.W.hideAll_none [C] (by simp)] at q
    cases q⟩
  have toB : ∀ b ob, b ≠ C → B.get? b = some ob → (PySem.W.hideAll B [C]).get? b = some ob := fun b ob hb q => PySem.W.hideAll_get _ q (by simpa using hb)
  have cv' : Cov X.s₀.heap X.H₀ (frs X.stack) X.ex H' (PySem.W.hideAll B [C]) := ⟨fun b u q => by
      obtain ⟨ob, g⟩ := cv.trk b u q
      exact ⟨ob, toB b ob (fun z => by rw [z, hf] at q; cases q) g⟩, fun b ob q n h1 h2 => toB b ob (neC b ob q) (cv.old b ob q n h1 h2), fun b ob q h1 h2 => by
      obtain ⟨ob', g⟩ := cv.all b ob q h1 h2
      exact ⟨ob', toB b ob' (neC b ob q) g⟩⟩
  have ff : ∀ {l : List Env}, s'.heap.FunFrames B l → (∀ b ∈ frs l, b ≠ C) → h'.FunFrames (PySem.W.hideAll B [C]) l := fun {l} => by
    induction l with
    | nil => exact fun _ _ => trivial
    | cons env r ih =>
      rintro ⟨k1, ⟨L, ob, k2, k3, k4, k5⟩, k6⟩ hl
      have hL : L ≠ C := hl L (by unfold frs; rw [List.filterMap_cons, k2]; exact List.mem_cons_self)
      refine ⟨k1, ⟨L, ob, k2, ?_, get L ob hL k4, k5⟩, ih k6 fun b hb => hl b (by unfold frs; rw [List.filterMap_cons, k2]; exact List.mem_cons_of_mem _ hb)⟩
      cases q : (PySem.W.hideAll B [C]).get? L with
      | none => rfl
      | some ob' => have := (inB L ob' q).1; rw [k3] at this; cases this
  have hh : HeldD (PySem.W.hideAll B [C]) X.stack e c dd X.env.locals h' := by
    obtain ⟨oe, vs, T, oT, ts, he, hcl, hd, h1, hnT, hTe, hT, hdT, h3⟩ := f4
    have no : ∀ b, B.get? b = none → (PySem.W.hideAll B [C]).get? b = none := fun b q => by
      cases z : (PySem.W.hideAll B [C]).get? b with
      | none => rfl
      | some ob' => have := (inB b ob' z).1; rw [q] at this; cases this
    exact ⟨fun b ob q => get b ob (inB b ob q).2 (f1 b ob (inB b ob q).1), no e f2, ff f3 fun b hb z => hfr (z ▸ hb), oe, vs, T, oT, ts, get e oe (neF e oe vs he hd) he, hcl, hd, h1, no T hnT, hTe, get T oT (neF T oT ts hT hdT) hT, hdT, h3⟩
  refine ⟨⟨x.os, x.bare, ⟨fun b ob q n h1 h2 => get b ob (neC b ob q) (x.un.keep b ob q n h1 h2), fun b ob q n h1 h2 => ?_, x.un.free, fun b ob q h2 => ?_, x.un.tups, x.un.frzs, x.un.tbls⟩, fun b u q => ?_, x.fe, _, cv', .held hh⟩, _, hh, cv'⟩
  · obtain ⟨sl, g⟩ := x.un.slot b ob q n h1 h2
    exact ⟨sl, get b _ (neC b ob q) g⟩
  · obtain ⟨ob', g⟩ := x.un.there b ob q h2
    exact ⟨ob', get b _ (neC b ob q) g⟩
  · refine (x.hok b u q).stay (fun d v hd g => get d v (fun z => ?_) g) (fun _ g => g) fun _ _ g => g
    rcases hd with rfl | hd
    · rw [z, hf] at q; cases q
    · rw [z, hf] at hd; cases hd
/-- .. and the exception flies on -/
theorem ExcAt.on {M : Model} {E : XK} {H' : Hp} {e : Addr} {c : Value} {dd : Option Addr} {s' : Shared} {what : String} {ce : Env} (o : Own X) (hce : ce.frame = X.env.frame) (hE : E c dd H') (x : ExcAt X H' e c dd s') (hx : ∃ B, HeldD B X.stack e c dd X.env.locals s'.heap ∧ Cov X.s₀.heap X.H₀ (frs X.stack) X.ex H' B) :
    wpAny M X.A (PySem.passOn what (.ref e) ce : Sem Value) (fun _ _ => False) (XE X E) s' := by
  obtain ⟨B, ⟨f1, f2, f3, f4⟩, cv⟩ := hx
  obtain ⟨oe, vs, T, oT, ts, he, hcls, hd, h1, hnT, hTe, hT, hdT, h3⟩ := id f4
  unfold PySem.passOn
  refine wpAny_bind (wpAny_field he hd h1 ?_)
  rw [if_neg (show ¬ ((Value.ref T == Value.none) = true) from by simp), hce, o.fr]
  refine wpAny_bind ?_
  refine st_flight (some X.env.locals) f1 f3 f4 fun h' k1 k2 k3 up => ?_
  obtain ⟨u, k⟩ := cv.turn o.sub (frames_nf f3) f1 k1 up x.un x.hok o.old
  exact wpAny_throw ⟨e, c, dd, H', rfl, hE, x.os, x.bare, u, k, x.fe, B, cv, .held ⟨k1, f2, k2, k3⟩⟩
end
section
variable {X : Cx} {scope : Scope} {ls : List Str} {fr : List (Str × Nat)}
/-- the block, from the iterator on, where an exception may leave it -/
theorem comp_blockE {EX : XK} {pins : List (Addr × Obj)} {σ : St} {H : Hp} {s : Shared} {it : Addr} {fp : List Addr} {tn : Nat → Heap → Prop} {J : It} {tg elt iter : Expr} {ifs : List Expr} {pos : Pos} {g : TG} {tf : TT} {te : TE} {Q : VK} {E : Value → Shared → Prop} {RR : Value → Env → Result → Shared → Prop} (own : Own X)
    (S : CScope X scope ls fr) (hc : X.calm = true) (I : Inv X pins σ H s) (T : Turn X.prog X.w X.K tg J fp it tn) (st : tn 0 s.heap) (hf : ∀ b ∈ fp, FpOk X pins H b) (hq : tCompK g tf te (startC ls fr σ) J H Q)
    (hg : ∀ C s H ex, CompAt X C s H ex → PG (cxE X EX scope (ls ++ fr.map (·.1)) C s H ex) tg g) (ht : ∀ C s H ex, CompAt X C s H ex → PF (cxE X EX scope (ls ++ fr.map (·.1)) C s H ex) ifs tf) (he : ∀ C s H ex, CompAt X C s H ex → PE (cxE X EX scope (ls ++ fr.map (·.1)) C s H ex) elt te)
    (hRR : ∀ (D C : Addr) (ce : Env) (s' : Shared) (H' : Hp) (m : Str → Option Value), ce.locals = C → Inv X pins σ H' s' → s'.heap.Ns C m → s.heap.objs.size ≤ C → H' C = none → Q (.ref D) H' → RR (.ref D) ce (.ok .next) s')
    (hRE : ∀ (D C e : Addr) (ce : Env) (c : Value) (dd : Option Addr) (H' : Hp) (s' : Shared) (m : Str → Option Value), ce.locals = C → ce.frame = X.env.frame → s.heap.objs.size ≤ C → EX c dd H' → ExcAt X H' e c dd s' → (∃ B, HeldD B X.stack e c dd X.env.locals s'.heap ∧ Cov X.s₀.heap X.H₀ (frs X.stack) X.ex H' B) → s'.heap.Ns C m → H' C = none → RR (.ref D) ce (.error (.ref e)) s') :
    wpAny (model X.prog X.w) X.A (newList []) (fun acc s₃ => wpAny (model X.prog X.w) X.A (newFunctionEnv scope X.env.globals (clos scope X.env) [] X.env.qual none .none (some X.env)) (fun cenv s₄ =>
      codeAny (model X.prog X.w) X.A (.compStart (.ListComp elt [⟨tg, iter, ifs, 0⟩] scope pos) 0 (.ref it) acc { cenv with scope := relabel scope X.env }) (RR acc { cenv with scope := relabel scope X.env }) s₄) E s₃) E s := by
  refine wpAny_newObj_type (wpAny_newFunctionEnv S.nocell (by intro y hy; simp at hy) (fun h₁ hns₁ hsb₁ => ?_) S.kind)
  dsimp only at hns₁ hsb₁ ⊢
  generalize hH2 : s.heap.push { cls := .type "list", dict := none, data := .seq ([] : List Value).toArray } = H2 at hns₁ hsb₁ ⊢
  have hC : H2.objs.size = s.heap.objs.size + 1 := by rw [← hH2, Heap.size_push]
  have hDC : s.heap.objs.size ≠ H2.objs.size := by rw [hC]; exact Nat.ne_of_lt (Nat.lt_succ_self _)
  have hCle : s.heap.objs.size ≤ H2.objs.size := by rw [hC]; exact Nat.le_succ _
  have below : ∀ b, b < s.heap.objs.size → b ≠ H2.objs.size ∧ b ≠ s.heap.objs.size := fun b hb => ⟨by rw [hC]; exact Nat.ne_of_lt (Nat.lt_succ_of_lt hb), Nat.ne_of_lt hb⟩
  have old : ∀ b o, s.heap.get? b = some o → h₁.get? b = some o := fun b o e => hsb₁.extBut b o (below b (Heap.lt_size e)).1 (Heap.get?_push_of_some _ (hH2 ▸ Heap.get?_push_of_some _ e))
  have hacc : h₁.PlainList s.heap.objs.size #[] := ⟨_, hsb₁.extBut _ _ hDC (Heap.get?_push_of_some _ (hH2 ▸ Heap.get?_push_size _ rfl))⟩
  have hfl : ∀ b ∈ fp, b < s.heap.objs.size := fun b hb => by
    obtain ⟨o, e, _⟩ := T.obj _ _ st b hb
    exact Heap.lt_size e
  have hex : ∀ b ∈ fp, FpOk X pins H b ∧ b < s.heap.objs.size := fun b hb => ⟨hf b hb, hfl b hb⟩
  generalize hs4 : ({ s with heap := h₁, toks := s.toks + ([] : List (Str × Value)).length } : Shared) = s4
  generalize hX : cxE X EX scope (ls ++ fr.map (·.1)) H2.objs.size s H fp = Y
  have I4 : Inv Y [] (startC ls fr σ) H s4 := by
    have I4' : Inv (cxC X scope (ls ++ fr.map (·.1)) H2.objs.size s H fp) [] (startC ls fr σ) H s4 := by
      rw [← hs4]
      exact comp_inv S I hCle hex rfl I.bare old hns₁
    rw [← hX]
    exact I4'.wish _
  have YP : Y.prog = X.prog := by rw [← hX]; rfl
  have Yw : Y.w = X.w := by rw [← hX]; rfl
  have YK : Y.K = X.K := by rw [← hX]; rfl
  have YA : Y.A = X.A := by rw [← hX]; rfl
  have Yc : Y.calm = true := by rw [← hX]; exact hc
  have Yx : Y.xe = XEc X EX H2.objs.size := by rw [← hX]
  have Yf : Y.env.frame = X.env.frame := by rw [← hX]; rfl
  have cat : CompAt X H2.objs.size s H fp := ⟨pins, σ, I, hCle, hex⟩
  have Yl : Y.env.locals = H2.objs.size := by rw [← hX]; rfl
  have Yok : (cxC X scope (ls ++ fr.map (·.1)) H2.objs.size s H fp).Ok := comp_ok S I hCle hex
  have fpY : ∀ {H' : Hp} {o : Obj}, (∀ b ∈ fp, H' b = none) → ∀ b ∈ fp, FpOk Y [(s.heap.objs.size, o)] H' b := fun {H' o} hn b hb => by
    rw [← hX]
    obtain ⟨f0, f1, f2, f3, f4, f5⟩ := hf b hb
    refine ⟨hn b hb, (below b (hfl b hb)).1, fun z => Yok.exfs b hb z, .inl hb, fun x c e => f4 x c (S.look I e), fun p hp => ?_⟩
    have e : p = (s.heap.objs.size, o) := by simpa [cxC] using hp
    subst e
    exact Ne.symm (below b (hfl b hb)).2
  have pinD : ∀ {σ' : St} {H' : Hp} {s' : Shared} {its : Array Value} {n : Nat}, Inv Y [] σ' H' s' → H' s.heap.objs.size = none → s'.heap.get? s.heap.objs.size = some { cls := .type "list", data := .seq its n } →
      Inv Y [(s.heap.objs.size, { cls := .type "list", data := .seq its n })] σ' H' s' := fun {σ' H' s' its n} I' hn e => I'.pins_of fun p hp => by
    have ep : p = (s.heap.objs.size, { cls := .type "list", data := .seq its n }) := by simpa using hp
    subst ep
    refine ⟨e, hn, by rw [Yl]; exact hDC, ?_, fun v z => nomatch z⟩
    rw [← hX]
    exact fun hb => I.nofs (Nat.le_refl _) ((List.mem_cons.mp (I.stkSub _ hb)).resolve_left fun z => absurd I.lt (by rw [← z]; exact Nat.lt_irrefl _))
  obtain ⟨W, ⟨m0, w0⟩, turn⟩ := hq
  have E1 : ∀ {α : Type} {t : Sem α} {Q1 : α → Shared → Prop} {s1 : Shared}, wpAny (model X.prog X.w) X.A t Q1 Y.xe s1 → wpAny (model X.prog X.w) X.A t Q1 (notedBy (model X.prog X.w) X.A Y.env fun e s' => RR (Value.ref s.heap.objs.size) Y.env (Except.error e) s') s1 := fun h => wpAny_mono h (fun _ _ z => z) fun ev s' z => by
    rw [Yx] at z
    obtain ⟨e, c, dd, H', rfl, hE, x, hCn, m, hn⟩ := z
    show wpAny _ X.A (noteFrame (.ref e) Y.env) _ _ s'
    rw [note_eq Yf]
    exact x.noteC own hn fun s'' x'' hh hn'' => hRE _ _ e Y.env c dd H' s'' m Yl Yf hCle hE x'' hh hn'' hCn
  have endC : ∀ {σ' : St} {H' : Hp} {s' : Shared} {its : List Value} {ys : List V}, Inv Y [] σ' H' s' → H' s.heap.objs.size = none → s'.heap.PlainList s.heap.objs.size its.toArray → Vals ys its → ys.length ≤ sizeLine →
      (∀ p, H' p = none → Q (.ref p) (upd H' p (.lst ys))) → RR (.ref s.heap.objs.size) Y.env (.ok .next) s' := fun {σ' H' s' its ys} I' hn ⟨n, e⟩ rv hz q => by
    subst hX
    obtain ⟨m, hm, _⟩ := id I'.loc
    have hCn : H' H2.objs.size = none := I'.free
    refine hRR _ _ _ s' (upd H' s.heap.objs.size (.lst ys)) m rfl (I.call' I'.os (Un.add I'.base (Nat.le_refl _) hn) (I'.hok.add hn ⟨hz, its, n, rv, e⟩) I'.bare fun b hb => ?_) hm hCle (by show upd H' s.heap.objs.size (.lst ys) H2.objs.size = none; rw [upd_ne (Ne.symm hDC)]; exact hCn) (q _ hn)
    obtain ⟨f0, f1, f2, f3, f4, f5⟩ := hf b hb
    exact ⟨f3, f1, f4, f5⟩
  have loop : codeAny (model X.prog X.w) X.A (.compLoop (.ListComp elt [⟨tg, iter, ifs, 0⟩] scope pos) 0 (.ref it) (.ref s.heap.objs.size) Y.env) (RR (.ref s.heap.objs.size) Y.env) s4 := by
    refine comp_loop_any (fun n s' => ∃ (i : Nat) (σ' : St) (H' : Hp) (ys : List V) (its : List Value), Inv Y [] σ' H' s' ∧ tn i s'.heap ∧ (∀ b ∈ fp, H' b = none) ∧ H' s.heap.objs.size = none ∧ s'.heap.PlainList s.heap.objs.size its.toArray ∧ Vals ys its ∧ W i n ys σ' H') ?_ m0
      ⟨0, startC ls fr σ, H, [], [], I4, T.keep _ _ _ st fun b _ o e => by rw [← hs4]; exact old b o e, fun b hb => (hf b hb).1, I.hok.fresh (Nat.le_refl _), by rw [← hs4]; exact hacc, .nil, w0⟩
    rintro n s5 ⟨i, σ5, H5, ys, its, I5, st5, fr5, hn5, ⟨nn, e5⟩, rv, w5⟩
    have I5p := pinD I5 hn5 e5
    rcases turn i n ys σ5 H5 w5 with ⟨stop, hz, qn⟩ | ⟨go, hz, NN, hNN, step⟩
    · rw [← YA]
      refine thn (T.done Y YP Yw YK Yc i _ s5 σ5 H5 _ I5p (fpY fr5) st5 stop) fun r s6 ⟨hr, I6⟩ => ?_
      subst hr
      exact endC (I6.pins_of fun p hp => nomatch hp) hn5 ⟨nn, (I6.pin _ (List.mem_append_right _ List.mem_cons_self)).1⟩ rv hz qn
    · have hit := T.item Y YP Yw YK Yc i _ s5 σ5 H5 (notedBy (model X.prog X.w) X.A Y.env fun e s' => RR (Value.ref s.heap.objs.size) Y.env (Except.error e) s') I5p (fpY fr5) st5 go
      rw [YA] at hit
      refine thn hit fun r s6 ⟨u, hr, h6⟩ => ?_
      subst hr
      refine thn h6 fun _ s7 ⟨x, H7, I7, r7, y7, st7, fr7⟩ => ?_
      have I7' := I7.pinned (fpY fr7) (T.obj _ _ st7)
      have h8 := hg H2.objs.size s H fp cat
      have h9 := ht H2.objs.size s H fp cat
      have h10 := he H2.objs.size s H fp cat
      rw [hX] at h8 h9 h10
      have a8 := h8 _ s7 σ5 H7 x u _ I7' r7 (step x H7 y7)
      rw [YP, Yw, YA] at a8
      refine thn (E1 a8) fun _ s8 ⟨σ8, H8, I8, q8⟩ => ?_
      have a9 := h9 _ s8 σ8 H8 _ I8 q8
      rw [YP, Yw, YA] at a9
      refine thn (E1 a9) fun b s9 ⟨H9, I9, q9⟩ => ?_
      have back : ∀ {σ' : St} {H' : Hp} {s' : Shared}, Inv Y ([(s.heap.objs.size, { cls := .type "list", data := .seq its.toArray nn })] ++ pinsAt fp s7.heap) σ' H' s' →
          tn (i + 1) s'.heap ∧ (∀ b ∈ fp, H' b = none) ∧ H' s.heap.objs.size = none ∧ s'.heap.PlainList s.heap.objs.size its.toArray := fun {σ' H' s'} I' => by
        have hp := I'.pin (s.heap.objs.size, { cls := .type "list", data := .seq its.toArray nn }) (List.mem_append_right _ (List.mem_append_left _ List.mem_cons_self))
        refine ⟨T.keep _ _ _ st7 fun b hb o e => (I'.pin (b, o) (List.mem_append_right _ (List.mem_append_right _ (mem_pinsAt hb e)))).1, fun b hb => ?_, hp.2.1, ⟨nn, hp.1⟩⟩
        obtain ⟨o, e, d⟩ := T.obj _ _ st7 b hb
        exact (I'.pin (b, o) (List.mem_append_right _ (List.mem_append_right _ (mem_pinsAt hb e)))).2.1
      cases b with
      | false =>
        rw [if_neg Bool.false_ne_true] at q9 ⊢
        obtain ⟨m', hm, w9⟩ := hNN _ _ _ q9
        obtain ⟨z1, z2, z3, z4⟩ := back I9
        exact ⟨m', hm, i + 1, σ8, H9, ys, its, I9.pins_of (fun p hp => nomatch hp), z1, z2, z3, z4, rv, w9⟩
      | true =>
        rw [if_pos rfl] at q9 ⊢
        have a10 := h10 _ s9 σ8 H9 _ I9 q9
        rw [YP, Yw, YA] at a10
        refine thn (E1 a10) fun xv s10 ⟨v, H10, I10, rx, q10⟩ => ?_
        obtain ⟨m', hm, w10⟩ := hNN _ _ _ q10
        obtain ⟨z1, z2, z3, z4⟩ := back I10
        have hlen : its.length = ys.length := (rv.length).symm
        refine wpAny_list_append_plain z4 (fun h' pl sb => ?_) (by rw [List.size_toArray, hlen]; exact hz)
        refine ⟨m', hm, i + 1, σ8, H10, ys ++ [v], its ++ [xv], ?_, ?_, z2, z3, ?_, rv.append (.cons rx .nil), w10⟩
        · have I10' : Inv Y [] σ8 H10 s10 := I10.pins_of fun p hp => nomatch hp
          refine I10'.turned (t' := s10.toks) (it := s.heap.objs.size) (fun b o hb e => (sb.2 b hb).trans e) z3 (by rw [Yl]; exact hDC) (.inr ?_) (fun x c e => ?_) fun p hp => ?_
          · rw [← hX]; exact Nat.le_refl _
          · rw [← hX] at e
            intro z
            obtain ⟨v0, q0⟩ := I.cell x c (S.look I e)
            exact absurd q0.lt (by rw [z]; exact Nat.lt_irrefl _)
          · rw [← hX] at hp; exact nomatch hp
        · refine T.keep _ _ _ z1 fun b hb o e => (sb.2 b (below b (hfl b hb)).2).trans e
        · have : (its ++ [xv]).toArray = its.toArray.push xv := by simp
          rw [this]; exact pl
  have hYe : Y.env = { newEnv scope H2.objs.size X.env.globals (clos scope X.env) X.env.qual none .none (some X.env) builtinsNs with scope := relabel scope X.env } := by rw [← hX]; rfl
  rw [← hYe]
  rw [hYe] at loop ⊢
  refine codeAny_compStart_list loop ?_
  exact T.self _ 0 _ _ _ (T.keep _ _ _ st fun b _ o e => by rw [← hs4]; exact old b o e) loop

/-- a comprehension as a value, where an exception may leave it -/
theorem pe_compE {EX : XK} {wi : TI} {tg elt iter : Expr} {ifs : List Expr} {pos : Pos} {g : TG} {tf : TT} {te : TE} (S : CScope (X.wish (XE X EX)) scope ls fr) (hc : X.calm = true) (hi : PI (X.wish (XE X EX)) tg iter wi)
    (hg : ∀ C s H ex, CompAt X C s H ex → PG (cxE X EX scope (ls ++ fr.map (·.1)) C s H ex) tg g) (ht : ∀ C s H ex, CompAt X C s H ex → PF (cxE X EX scope (ls ++ fr.map (·.1)) C s H ex) ifs tf) (he : ∀ C s H ex, CompAt X C s H ex → PE (cxE X EX scope (ls ++ fr.map (·.1)) C s H ex) elt te)
    (top : X.stack = X.env :: X.outer := by rfl) (frm : X.env.frame = some X.env.locals := by rfl)
    (hs : ∀ x, foldedSetIterable iter X.env x = pure x := by intro _; rfl) : PE (X.wish (XE X EX)) (.ListComp elt [⟨tg, iter, ifs, 0⟩] scope pos) (tComp wi ls fr g tf te) := by
  intro pins s σ H Q I h
  rw [eval_ListComp]
  have S' : CScope X scope ls fr := ⟨S.kind, S.nocell, S.names, S.free, S.slots⟩
  refine comp_leaves (use := none) rfl hs (closureFor_eq (S.cells I)) S.kind S.names (thn (hi pins s σ H _ I h) fun xv s₁ h₁ => thn h₁ fun itv s₂ h₂ => ?_)
  obtain ⟨it, fp, tn, J, H2, rfl, I2w, T, st, hf, q⟩ := h₂
  have I2 : Inv X pins σ H2 s₂ := I2w.unwish
  have own : Own X := ⟨I2.ok, top, frm⟩
  refine comp_blockE (X := X) (EX := EX) (RR := fun acc ce => postC (model X.prog X.w) X.A (XE X EX) none (EP (X.wish (XE X EX)) pins σ Q) acc ce) own S' hc I2 T st hf q hg ht he ?_ ?_
  · intro D C ce s' H' m hce I' hn hC hCn hq
    subst hce
    refine ⟨m, hn, fun h' sb => ?_⟩
    have nC : ∀ {b : Addr}, b < s₂.heap.objs.size → b ≠ ce.locals := fun hb => Nat.ne_of_lt (Nat.lt_of_lt_of_le hb hC)
    refine ⟨.ref D, H', (I'.turned (t' := s'.toks) (it := ce.locals) (fun b o hb e => (sb.2 b hb).trans e) hCn (Ne.symm (nC I2.lt)) (.inr (Nat.le_trans I2.sz hC)) (fun x c e => ?_) fun p hp => ?_).wish _, rfl, hq⟩
    · obtain ⟨v0, q0⟩ := I2.cell x c e
      exact nC q0.lt
    · exact nC (Heap.lt_size (I2.pin p hp).1)
  · intro D C e ce c dd H' s' m hce hcf hC hE x hh hn hCn
    subst hce
    refine ⟨m, hn, fun h' sb => ?_⟩
    obtain ⟨x2, hh2⟩ := x.but own hh hn (Nat.le_trans I2.sz hC) (I2.noFr hC) hCn sb
    exact x2.on own hcf hE hh2
end
/-! ### names within such a block -/
theorem pgcE {X : Cx} {E : XK} {scope : Scope} {ls : List Str} {fr : List (Str × Nat)} {C : Addr} {s : Shared} {H : Hp} {ex : List Addr} {x : Str} {pos : Pos} (i : Nat) (hN : (ls ++ fr.map (·.1)).Nodup) (hi : (ls ++ fr.map (·.1))[i]? = some x) (hx : scope.names.lookup x = some .local) :
    PG (cxE X E scope (ls ++ fr.map (·.1)) C s H ex) (.Name x pos) (gName i) :=
  pg_name hN hi (.inl (lookup_relabel_local hx)) (.inr (lookup_relabel_local hx))
theorem pvcE (sc : Scope) (i : Nat) {X : Cx} {E : XK} {scope : Scope} {N : List Str} {C : Addr} {s : Shared} {H : Hp} {ex : List Addr} {x : Str} {pos : Pos} (hN : N[i]? = some x := by rfl) (hs : X.env.scope = sc := by rfl) (hv : visB scope sc x = true := by decide +kernel)
    (hd : (x == ("__debug__" : Str)) = false := by decide +kernel) (hcd : (x == ("__classdict__" : Str)) = false := by decide +kernel) : PE (cxE X E scope N C s H ex) (.Name x pos) (tVar i) := by
  subst hs
  refine pe_var hN ?_ hd hcd
  have hv' : visB scope X.env.scope x = true := hv
  unfold visB at hv'
  show (relN scope X.env.scope).lookup x = some .local ∨ (relN scope X.env.scope).lookup x = some .cell ∨ (relN scope X.env.scope).lookup x = some .free
  split at hv'
  · rename_i e; exact .inl e
  · rename_i e; exact .inr (.inl e)
  · rename_i e; exact .inr (.inr e)
  · cases hv'
theorem glcE (sc : Scope) {X : Cx} {E : XK} {scope : Scope} {N : List Str} {C : Addr} {s : Shared} {H : Hp} {ex : List Addr} {x : Str} (hs : X.env.scope = sc := by rfl) (h : ((relN scope sc).lookup x == some .globalImplicit) = true := by decide +kernel) : Gl (cxE X E scope N C s H ex) x := by
  subst hs
  exact eq_of_beq h
end L2

set_option Elab.async false
set_option linter.all false
set_option maxRecDepth 100000
namespace L2
open PySem PySem.Spec PyProof.Rows
/-! ### lanes and rows of levels -/
/-! ### a comprehension that makes one thing of each -/
theorem comp_map1L {K : PySem.W.Frag} {i : Nat} {a : Addr} {xs : List V} {nm : Str} {fr : List (Str × Nat)} {te : TE} {σ : St} {H : Hp} {Q : VK} {β : Type} (R : β → V → Hp → Prop) (bs : List β) (tl : St) (hb : bs.length = xs.length) (hle : xs.length ≤ sizeLine) (mono : ∀ b v H H', Same H H' → R b v H → R b v H') (htl : startC [nm] fr σ = none :: tl) (hs : σ[i]? = some (some (.ref a))) (h : H a = some (.lst xs))
    (step : ∀ (j : Nat) (x : V) (b : β) (H' : Hp) (P : VK), xs[j]? = some x → bs[j]? = some b → Same H H' → (∀ v H'', Same H' H'' → R b v H'' → P v H'') → te (some x :: tl) H' P)
    (hd : ∀ zs H' p, Same H H' → All2 R H' bs zs → H' p = none → Q (.ref p) (upd H' p (.lst zs))) : tComp (iList K (tVar i)) [nm] fr (gName 0) tYes te σ H Q := by
  refine ⟨_, hs, a, rfl, ⟨_, SqL.of h⟩, comp_list (xs := xs) (fun j zs σ' H' => Same H H' ∧ (∃ v, σ' = v :: tl) ∧ All2 R H' (bs.take j) zs ∧ j ≤ bs.length) ⟨Same.refl _, ⟨_, htl⟩, .nil, Nat.zero_le _⟩ ?_ ?_ ?_⟩
  · rintro j zs σ' H' hj ⟨s', _, a2, hj'⟩
    refine ⟨SqL.of (s' _ _ h), ?_⟩
    rw [← a2.length, List.length_take]
    exact Nat.le_trans (Nat.min_le_right _ _) (by rw [hb]; exact hle)
  · rintro j x zs σ' H' hx ⟨s', ⟨v, rfl⟩, a2, hj'⟩
    have hj : j < bs.length := by rw [hb]; exact (List.getElem?_eq_some_iff.mp hx).1
    have hbj : bs[j]? = some bs[j] := List.getElem?_eq_getElem hj
    refine step j x bs[j] H' _ hx hbj s' fun v2 H2 s2 r2 => ⟨s'.trans s2, ⟨_, rfl⟩, ?_, hj⟩
    rw [List.take_succ, hbj]
    exact (a2.imp fun _ _ z => mono _ _ _ _ s2 z).snoc r2
  · rintro zs σ' H' ⟨s', _, a2, _⟩ p hp
    rw [← hb, List.take_length] at a2
    exact hd zs H' p s' a2 hp
theorem comp_map1T {K : PySem.W.Frag} {i : Nat} {a : Addr} {xs : List V} {nm : Str} {fr : List (Str × Nat)} {te : TE} {σ : St} {H : Hp} {Q : VK} {β : Type} (R : β → V → Hp → Prop) (bs : List β) (tl : St) (hb : bs.length = xs.length) (hle : xs.length ≤ sizeLine) (mono : ∀ b v H H', Same H H' → R b v H → R b v H') (htl : startC [nm] fr σ = none :: tl) (hs : σ[i]? = some (some (.ref a))) (h : H a = some (.tup xs))
    (step : ∀ (j : Nat) (x : V) (b : β) (H' : Hp) (P : VK), xs[j]? = some x → bs[j]? = some b → Same H H' → (∀ v H'', Same H' H'' → R b v H'' → P v H'') → te (some x :: tl) H' P)
    (hd : ∀ zs H' p, Same H H' → All2 R H' bs zs → H' p = none → Q (.ref p) (upd H' p (.lst zs))) : tComp (iTup K (tVar i)) [nm] fr (gName 0) tYes te σ H Q := by
  refine ⟨_, hs, a, rfl, ⟨_, SqT.of h⟩, comp_tup (xs := xs) (fun j zs σ' H' => Same H H' ∧ (∃ v, σ' = v :: tl) ∧ All2 R H' (bs.take j) zs ∧ j ≤ bs.length) ⟨Same.refl _, ⟨_, htl⟩, .nil, Nat.zero_le _⟩ ?_ ?_ ?_⟩
  · rintro j zs σ' H' hj ⟨s', _, a2, hj'⟩
    refine ⟨SqT.of (s' _ _ h), ?_⟩
    rw [← a2.length, List.length_take]
    exact Nat.le_trans (Nat.min_le_right _ _) (by rw [hb]; exact hle)
  · rintro j x zs σ' H' hx ⟨s', ⟨v, rfl⟩, a2, hj'⟩
    have hj : j < bs.length := by rw [hb]; exact (List.getElem?_eq_some_iff.mp hx).1
    have hbj : bs[j]? = some bs[j] := List.getElem?_eq_getElem hj
    refine step j x bs[j] H' _ hx hbj s' fun v2 H2 s2 r2 => ⟨s'.trans s2, ⟨_, rfl⟩, ?_, hj⟩
    rw [List.take_succ, hbj]
    exact (a2.imp fun _ _ z => mono _ _ _ _ s2 z).snoc r2
  · rintro zs σ' H' ⟨s', _, a2, _⟩ p hp
    rw [← hb, List.take_length] at a2
    exact hd zs H' p s' a2 hp
theorem comp_map1 {K : PySem.W.Frag} {i : Nat} {a : Addr} {xs : List V} {nm : Str} {fr : List (Str × Nat)} {te : TE} {σ : St} {H : Hp} {Q : VK} {β : Type} (R : β → V → Hp → Prop) (bs : List β) (tl : St) (hb : bs.length = xs.length) (hle : xs.length ≤ sizeLine) (mono : ∀ b v H H', Same H H' → R b v H → R b v H') (htl : startC [nm] fr σ = none :: tl) (hs : σ[i]? = some (some (.ref a))) (h : H a = some (.lst xs) ∨ H a = some (.tup xs))
    (step : ∀ (j : Nat) (x : V) (b : β) (H' : Hp) (P : VK), xs[j]? = some x → bs[j]? = some b → Same H H' → (∀ v H'', Same H' H'' → R b v H'' → P v H'') → te (some x :: tl) H' P)
    (hd : ∀ zs H' p, Same H H' → All2 R H' bs zs → H' p = none → Q (.ref p) (upd H' p (.lst zs))) : tComp (iOr (iList K (tVar i)) (iTup K (tVar i))) [nm] fr (gName 0) tYes te σ H Q := by
  rcases h with h | h
  · exact .inl (comp_map1L R bs tl hb hle mono htl hs h step hd)
  · exact .inr (comp_map1T R bs tl hb hle mono htl hs h step hd)
theorem cut_some (xs : List V) (s : Nat) : cutV xs none (some (s : Int)) = xs.take (min s xs.length) := by
  unfold cutV
  rw [HT.sIx_none, HT.sIx_nat, List.drop_zero, Nat.sub_zero]
end L2

set_option Elab.async false
set_option linter.all false
set_option maxRecDepth 100000
namespace L2
open PySem PySem.Spec PyProof.Rows PySem.NumText
/-! ### a text read as a heap -/
/-! ### the ten figures -/
section
variable {X : Cx}
end
/-! ### words, weighed -/
def weight (ys : List Str) : Nat := (ys.map (·.length)).sum + ys.length
/-! ### long displays: a wrapped PA, whose type is no arrow -/
section
variable {X : Cx} {e : Expr} {es : List Expr} {te : TE} {t : TA}
end
end L2

set_option Elab.async false
set_option linter.all false
set_option maxRecDepth 100000
namespace L2
open PySem PySem.Spec PyProof.Rows
open PySem.StrLaws (At ChainG partsFrom)
open PySem.Builtin.Str (occurrences subAt)
/-! ### a text of heaps, by strokes -/
/-! ### replace, of two written signs -/
section
variable {X : Cx} {e a b : Expr} {es : List Expr} {te ta tb : TE} {t : TA} {pos : Pos}
end
/-! ### a text read as a rule -/
/-! ### texts of which the length alone is asked -/
end L2

set_option Elab.async false
set_option linter.all false
set_option maxRecDepth 100000
namespace L2
open PySem PySem.Spec PyProof.Rows
/-! ### for k, v in d.items(): the dict stands still from then on -/
section
variable {X : Cx} {elts : List Expr} {x1 : Nat} {tpos : Pos}
end
end L2

set_option Elab.async false
set_option linter.all false
set_option maxRecDepth 100000
namespace L2
open PySem PySem.Spec PyProof.Rows
/-! ### rules that match -/
/-! ### the rules of lanes -/
end L2

set_option Elab.async false
set_option linter.all false
set_option maxRecDepth 100000
namespace L2
open PySem PySem.Spec PyProof.Rows
/-! ### a comprehension within a comprehension -/
section
variable {X : Cx} {scope1 scope : Scope} {N1 N : List Str} {C1 C : Addr} {s1 s : Shared} {H1 H : Hp} {ex1 ex : List Addr}
end
end L2

set_option Elab.async false
set_option linter.all false
set_option maxRecDepth 100000
namespace L2
open PySem PySem.Spec PyProof.Rows
/-! ### a dict that counts -/
/-! ### heaps that change by freezing alone -/
end L2

set_option Elab.async false
set_option linter.all false
set_option maxRecDepth 100000
namespace L2
open PySem PySem.Spec PyProof.Rows
/-! ### lanes of which all but the first two are of one number -/
theorem cut_head (xs : List V) (s : Nat) : cutV xs none (some (s : Int)) = xs.take s := by
  rw [cut_some]
  rcases Nat.le_total s xs.length with h | h
  · rw [Nat.min_eq_left h]
  · rw [Nat.min_eq_right h, List.take_length, List.take_of_length_le h]
end L2

set_option Elab.async false
set_option linter.all false
set_option maxRecDepth 100000
namespace L2
open PySem PySem.Spec PyProof.Rows

/-! ### sorting long lists: galloping -/
def gallop' : Bool → Keyed → Array Keyed → Nat → Nat → Nat → StateT SortSt Sem (Option Nat) := sortPriv% PySem.Builtin.gallop
/-- the number of a keyed thing -/
def kn (p : Keyed) : Int := numOf p.1
def IntK (p : Keyed) : Prop := ∃ n t, p.1 = .int n t

section
variable {prog : Program} {w : World} {A : Around} {E : Value → Shared → Prop} {s : Shared}

theorem wpS_lt {st : SortSt} {x y : Keyed} {Q : Option Bool → SortSt → Prop} (hk : kindOf st = oneType') (hx : IntK x) (hy : IntK y) (h : Q (some (decide (kn x < kn y))) st) :
    wpS (model prog w) A E s (lt' x y) Q st := by
  obtain ⟨a, t, ha⟩ := hx
  obtain ⟨b, u, hb⟩ := hy
  have e1 : kn x = a := by unfold kn; rw [ha]; rfl
  have e2 : kn y = b := by unfold kn; rw [hb]; rfl
  rw [e1, e2] at h
  rw [lt'_eq]
  refine wpS_bind (wpS_get ?_)
  rw [hk, keyLt'_oneType, ha, hb]
  refine wpS_bind (wpS_lift (wpAny_attempt (oneLt_int ⟨rfl, ?_⟩)))
  exact wpS_pure h
theorem wpS_elem {st : SortSt} {arr : Array Keyed} {i : Nat} {p : Keyed} {Q : Keyed → SortSt → Prop} (hi : arr[i]? = some p) (h : Q p st) : wpS (model prog w) A E s (elem' arr i) Q st := by
  rw [elem'_eq, hi]
  exact wpS_pure h

/-- what the gallop asks of the element at i -/
def bey (left : Bool) (key : Keyed) (arr : Array Keyed) (base i : Nat) : Bool :=
  match arr[base + i]? with
  | some x => if left then decide (kn x < kn key) else decide (kn x ≤ kn key)
  | none => false
theorem bey_at {left : Bool} {key : Keyed} {arr : Array Keyed} {base i : Nat} {x : Keyed} (e : arr[base + i]? = some x) : bey left key arr base i = if left then decide (kn x < kn key) else decide (kn x ≤ kn key) := by
  unfold bey; rw [e]
theorem wpS_beyond {st : SortSt} {left : Bool} {key : Keyed} {arr : Array Keyed} {base i : Nat} {f : Option Bool → Option Bool} (hf : ∀ b, f (some b) = some (!b)) {Q : Option Bool → SortSt → Prop} (hk : kindOf st = oneType') (hy : IntK key)
    (ha : ∀ p ∈ arr.toList, IntK p) (hi : base + i < arr.size) (h : Q (some (bey left key arr base i)) st) :
    wpS (model prog w) A E s (elem' arr (base + i) >>= fun x => if left = true then lt' x key else lt' key x >>= fun r => pure (f r)) Q st := by
  have e : arr[base + i]? = some arr[base + i] := getElem?_pos arr (base + i) hi
  have hx : IntK arr[base + i] := ha _ (by simp)
  rw [bey_at e] at h
  refine wpS_bind (wpS_elem e ?_)
  cases left with
  | true =>
    rw [if_pos rfl] at h ⊢
    exact wpS_lt hk hx hy h
  | false =>
    rw [if_neg Bool.false_ne_true] at h ⊢
    refine wpS_bind (wpS_lt hk hy hx (wpS_pure ?_))
    have : f (some (decide (kn key < kn arr[base + i]))) = some (decide (kn arr[base + i] ≤ kn key)) := by
      rw [hf]
      congr 1
      by_cases z : kn key < kn arr[base + i]
      · rw [decide_eq_true z, decide_eq_false (by omega)]; rfl
      · rw [decide_eq_false z, decide_eq_true (by omega)]; rfl
    rw [this]
    exact h

theorem wpS_gallop {st : SortSt} {left : Bool} {key : Keyed} {arr : Array Keyed} {base n hint : Nat} {Q : Option Nat → SortSt → Prop} (hk : kindOf st = oneType') (hy : IntK key)
    (ha : ∀ p ∈ arr.toList, IntK p) (hn : base + n ≤ arr.size) (hh : hint < n) (mono : ∀ i j, i ≤ j → j < n → bey left key arr base j = true → bey left key arr base i = true)
    (h : ∀ k, k ≤ n → (∀ i, i < k → bey left key arr base i = true) → (∀ i, k ≤ i → i < n → bey left key arr base i = false) → Q (some k) st) :
    wpS (model prog w) A E s (gallop' left key arr base n hint) Q st := by
  have fin : ∀ (f : Nat → Option (Option Nat) × Nat × Nat → StateT SortSt Sem (ForInStep (Option (Option Nat) × Nat × Nat)))
      (hf : ∀ x lo hi (Q' : ForInStep (Option (Option Nat) × Nat × Nat) → SortSt → Prop), hi ≤ n → (lo ≥ hi → Q' (.done (none, lo, hi)) st) → (lo < hi → Q' (if bey left key arr base (lo + (hi - lo) / 2) = true then .yield (none, lo + (hi - lo) / 2 + 1, hi) else .yield (none, lo, lo + (hi - lo) / 2)) st) → wpS (model prog w) A E s (f x (none, lo, hi)) Q' st)
      lo hi, lo ≤ hi → hi ≤ n → (∀ i, i < lo → bey left key arr base i = true) → (∀ i, hi ≤ i → i < n → bey left key arr base i = false) →
      wpS (model prog w) A E s (forIn [0:n] ((none : Option (Option Nat)), lo, hi) f) (fun c st' => st' = st ∧ ∃ hi, c = (none, hi, hi) ∧ hi ≤ n ∧ (∀ i, i < hi → bey left key arr base i = true) ∧ (∀ i, hi ≤ i → i < n → bey left key arr base i = false)) st := by
    intro f hf lo hi h1 h2 h3 h4
    refine wpS_forRange (I := fun x c st' => st' = st ∧ ∃ lo hi, c = (none, lo, hi) ∧ lo ≤ hi ∧ hi ≤ n ∧ hi - lo ≤ n - x ∧ (∀ i, i < lo → bey left key arr base i = true) ∧ (∀ i, hi ≤ i → i < n → bey left key arr base i = false)) ?istep ?ifin ⟨rfl, lo, hi, rfl, h1, h2, by omega, h3, h4⟩
    case ifin =>
      rintro c st' ⟨rfl, lo, hi, rfl, a1, a2, a3, a4, a5⟩
      have : lo = hi := by omega
      subst this
      exact ⟨rfl, lo, rfl, a2, a4, a5⟩
    case istep =>
      rintro x c st' _ hx ⟨rfl, lo, hi, rfl, a1, a2, a3, a4, a5⟩
      refine hf x lo hi _ a2 (fun z => ?_) fun z => ?_
      · have : lo = hi := by omega
        subst this
        exact ⟨rfl, lo, rfl, a2, a4, a5⟩
      · cases hb : bey left key arr base (lo + (hi - lo) / 2) with
        | true =>
          rw [if_pos rfl]
          exact ⟨rfl, _, hi, rfl, by omega, a2, by omega, fun i hi' => mono i _ (by omega) (by omega) hb, a5⟩
        | false =>
          rw [if_neg Bool.false_ne_true]
          refine ⟨rfl, lo, _, rfl, by omega, by omega, by omega, a4, fun i h1 h2 => ?_⟩
          cases hb' : bey left key arr base i with
          | false => rfl
          | true => rw [mono _ i h1 h2 hb'] at hb; cases hb
  refine wpS_bind (wpS_beyond (fun _ => rfl) hk hy ha (by omega) ?_)
  dsimp only
  cases hb : bey left key arr base hint with
  | true =>
    rw [if_pos rfl]
    refine wpS_bind (wpS_mono (wpS_forRange (I := fun x c st' => st' = st ∧ ∃ lastofs ofs, c = (none, lastofs, ofs) ∧ lastofs < ofs ∧ x + 1 ≤ ofs ∧ hint + lastofs < n ∧ bey left key arr base (hint + lastofs) = true)
      (Q := fun c st' => st' = st ∧ ∃ lastofs ofs, c = (none, lastofs, ofs) ∧ lastofs < ofs ∧ hint + lastofs < n ∧ bey left key arr base (hint + lastofs) = true ∧ (hint + ofs < n → bey left key arr base (hint + ofs) = false)) ?istep ?ifin ⟨rfl, 0, 1, rfl, by omega, by omega, by omega, hb⟩) ?post)
    case ifin =>
      rintro c st' ⟨rfl, la, of, rfl, a1, a2, a3, a4⟩
      exact ⟨rfl, la, of, rfl, a1, a3, a4, fun z => by omega⟩
    case istep =>
      rintro x c st' _ hx ⟨rfl, la, of, rfl, a1, a2, a3, a4⟩
      dsimp only
      by_cases hge : of ≥ n - hint
      · rw [if_pos hge]
        exact wpS_pure ⟨rfl, la, of, rfl, a1, a3, a4, fun z => by omega⟩
      · rw [if_neg hge]
        refine wpS_bind (wpS_beyond (fun _ => rfl) hk hy ha (by omega) ?_)
        dsimp only
        cases hb' : bey left key arr base (hint + of) with
        | true =>
          exact wpS_pure ⟨rfl, of, 2 * of + 1, rfl, by omega, by omega, by omega, hb'⟩
        | false =>
          exact wpS_pure ⟨rfl, la, of, rfl, a1, a3, a4, fun _ => hb'⟩
    case post =>
      rintro c st' ⟨rfl, la, of, rfl, a1, a3, a4, a5⟩
      have nf : ∀ i, hint + min of (n - hint) ≤ i → i < n → bey left key arr base i = false := fun i h1 h2 => by
        have : of < n - hint := by omega
        cases hb' : bey left key arr base i with
        | false => rfl
        | true =>
          have := mono (hint + of) i (by omega) h2 hb'
          rw [a5 (by omega)] at this; cases this
      dsimp only
      refine wpS_bind (wpS_mono (fin _ (fun x lo hi Q' z1 z2 z3 => ?_) (hint + la + 1) (hint + min of (n - hint)) (by omega) (by omega) (fun i hi => mono i _ (by omega) a3 a4) nf) ?_)
      · dsimp only
        by_cases hge : lo ≥ hi
        · rw [if_pos hge]; exact wpS_pure (z2 hge)
        · rw [if_neg hge]
          refine wpS_bind (wpS_beyond (fun _ => rfl) hk hy ha (by omega) ?_)
          have z3 := z3 (by omega)
          dsimp only
          cases hb' : bey left key arr base (lo + (hi - lo) / 2) with
          | true => rw [hb', if_pos rfl] at z3; exact wpS_pure z3
          | false => rw [hb', if_neg Bool.false_ne_true] at z3; exact wpS_pure z3
      · rintro c st'' ⟨rfl, hi, rfl, b2, b4, b5⟩
        exact wpS_pure (h hi b2 b4 b5)
  | false =>
    rw [if_neg Bool.false_ne_true]
    refine wpS_bind (wpS_mono (wpS_forRange (I := fun x c st' => st' = st ∧ ∃ lastofs ofs, c = (none, lastofs, ofs) ∧ lastofs < ofs ∧ x + 1 ≤ ofs ∧ lastofs ≤ hint ∧ bey left key arr base (hint - lastofs) = false)
      (Q := fun c st' => st' = st ∧ ∃ lastofs ofs, c = (none, lastofs, ofs) ∧ lastofs < ofs ∧ lastofs ≤ hint ∧ bey left key arr base (hint - lastofs) = false ∧ (ofs ≤ hint → bey left key arr base (hint - ofs) = true)) ?istep ?ifin ⟨rfl, 0, 1, rfl, by omega, by omega, by omega, hb⟩) ?post)
    case ifin =>
      rintro c st' ⟨rfl, la, of, rfl, a1, a2, a3, a4⟩
      exact ⟨rfl, la, of, rfl, a1, a3, a4, fun z => by omega⟩
    case istep =>
      rintro x c st' _ hx ⟨rfl, la, of, rfl, a1, a2, a3, a4⟩
      dsimp only
      by_cases hge : of ≥ hint + 1
      · rw [if_pos hge]
        exact wpS_pure ⟨rfl, la, of, rfl, a1, a3, a4, fun z => by omega⟩
      · rw [if_neg hge]
        refine wpS_bind (wpS_beyond (fun _ => rfl) hk hy ha (by omega) ?_)
        dsimp only
        cases hb' : bey left key arr base (hint - of) with
        | true =>
          exact wpS_pure ⟨rfl, la, of, rfl, a1, a3, a4, fun _ => hb'⟩
        | false =>
          exact wpS_pure ⟨rfl, of, 2 * of + 1, rfl, by omega, by omega, by omega, hb'⟩
    case post =>
      rintro c st' ⟨rfl, la, of, rfl, a1, a3, a4, a5⟩
      have nf : ∀ i, hint - la ≤ i → i < n → bey left key arr base i = false := fun i h1 h2 => by
        cases hb' : bey left key arr base i with
        | false => rfl
        | true =>
          have := mono (hint - la) i h1 h2 hb'
          rw [a4] at this; cases this
      dsimp only
      refine wpS_bind (wpS_mono (fin _ (fun x lo hi Q' z1 z2 z3 => ?_) (hint + 1 - min of (hint + 1)) (hint - la) (by omega) (by omega) (fun i hi => mono i (hint - of) (by omega) (by omega) (a5 (by omega))) nf) ?_)
      · dsimp only
        by_cases hge : lo ≥ hi
        · rw [if_pos hge]; exact wpS_pure (z2 hge)
        · rw [if_neg hge]
          refine wpS_bind (wpS_beyond (fun _ => rfl) hk hy ha (by omega) ?_)
          have z3 := z3 (by omega)
          dsimp only
          cases hb' : bey left key arr base (lo + (hi - lo) / 2) with
          | true => rw [hb', if_pos rfl] at z3; exact wpS_pure z3
          | false => rw [hb', if_neg Bool.false_ne_true] at z3; exact wpS_pure z3
      · rintro c st'' ⟨rfl, hi, rfl, b2, b4, b5⟩
        exact wpS_pure (h hi b2 b4 b5)
end
end L2

set_option Elab.async false
set_option linter.all false
set_option maxRecDepth 100000
namespace L2
open PySem PySem.Spec PyProof.Rows

/-! ### merging -/
structure Mg (R : Keyed → Keyed → Prop) (a b out : List Keyed) (ia ib : Nat) : Prop where
  perm : out.Perm (a.take ia ++ b.take ib)
  srt : out.Pairwise R
  ra : ∀ x ∈ out, ∀ y ∈ a.drop ia, R x y
  rb : ∀ x ∈ out, ∀ y ∈ b.drop ib, R x y
theorem Mg.swap {R : Keyed → Keyed → Prop} {a b out : List Keyed} {ia ib : Nat} (h : Mg R a b out ia ib) : Mg R b a out ib ia :=
  ⟨h.perm.trans List.perm_append_comm, h.srt, h.rb, h.ra⟩
theorem Mg.nil {R : Keyed → Keyed → Prop} {a b : List Keyed} : Mg R a b [] 0 0 := ⟨by simp, .nil, (fun _ h => by cases h), (fun _ h => by cases h)⟩
theorem drop_cons {a : List Keyed} {i : Nat} {x : Keyed} (e : a[i]? = some x) : a.drop i = x :: a.drop (i + 1) := by
  obtain ⟨hi, e'⟩ := List.getElem?_eq_some_iff.mp e
  rw [List.drop_eq_getElem_cons hi, e']
theorem Mg.pushA {R : Keyed → Keyed → Prop} {a b out : List Keyed} {ia ib : Nat} {x : Keyed} (h : Mg R a b out ia ib) (sa : a.Pairwise R) (e : a[ia]? = some x) (hx : ∀ y ∈ b.drop ib, R x y) :
    Mg R a b (out ++ [x]) (ia + 1) ib := by
  have hd := drop_cons e
  have hs : (a.drop ia).Pairwise R := sa.sublist (List.drop_sublist _ _)
  rw [hd, List.pairwise_cons] at hs
  refine ⟨?_, ?_, ?_, ?_⟩
  · obtain ⟨hi, e'⟩ := List.getElem?_eq_some_iff.mp e
    rw [List.take_succ_eq_append_getElem hi, e', List.append_assoc]
    refine (h.perm.append_right [x]).trans ?_
    rw [List.append_assoc]
    exact List.Perm.append_left _ List.perm_append_comm
  · rw [List.pairwise_append]
    refine ⟨h.srt, List.pairwise_singleton _ _, fun u hu v hv => ?_⟩
    rw [List.mem_singleton] at hv
    subst hv
    exact h.ra u hu _ (by rw [hd]; exact List.mem_cons_self)
  · intro u hu y hy
    rcases List.mem_append.mp hu with hu | hu
    · exact h.ra u hu y (by rw [hd]; exact List.mem_cons_of_mem _ hy)
    · rw [List.mem_singleton] at hu
      subst hu
      exact hs.1 y hy
  · intro u hu y hy
    rcases List.mem_append.mp hu with hu | hu
    · exact h.rb u hu y hy
    · rw [List.mem_singleton] at hu
      subst hu
      exact hx y hy
theorem Mg.pushB {R : Keyed → Keyed → Prop} {a b out : List Keyed} {ia ib : Nat} {x : Keyed} (h : Mg R a b out ia ib) (sb : b.Pairwise R) (e : b[ib]? = some x) (hx : ∀ y ∈ a.drop ia, R x y) :
    Mg R a b (out ++ [x]) ia (ib + 1) := (h.swap.pushA sb e hx).swap
theorem Mg.blockA {R : Keyed → Keyed → Prop} {a b : List Keyed} {ib : Nat} (sa : a.Pairwise R) : ∀ (k : Nat) {out : List Keyed} {ia : Nat}, Mg R a b out ia ib → ia + k ≤ a.length → (∀ i, ia ≤ i → i < ia + k → ∀ x, a[i]? = some x → ∀ y ∈ b.drop ib, R x y) →
    Mg R a b (out ++ (a.drop ia).take k) (ia + k) ib
  | 0, out, ia, h, _, _ => by simpa using h
  | k + 1, out, ia, h, hl, hx => by
    have e : a[ia]? = some a[ia] := List.getElem?_eq_getElem (by omega)
    rw [drop_cons e, List.take_succ_cons, show ia + (k + 1) = ia + 1 + k by omega]
    have h1 := Mg.blockA sa k (h.pushA sa e (hx ia (Nat.le_refl _) (by omega) _ e)) (by omega) (fun i h1 h2 => hx i (by omega) (by omega))
    rwa [List.append_assoc] at h1
theorem Mg.blockB {R : Keyed → Keyed → Prop} {a b : List Keyed} {ia : Nat} (sb : b.Pairwise R) (k : Nat) {out : List Keyed} {ib : Nat} (h : Mg R a b out ia ib) (hl : ib + k ≤ b.length) (hx : ∀ i, ib ≤ i → i < ib + k → ∀ x, b[i]? = some x → ∀ y ∈ a.drop ia, R x y) :
    Mg R a b (out ++ (b.drop ib).take k) ia (ib + k) := (Mg.blockA sb k h.swap hl hx).swap
/-- merged -/
def Mgd (R : Keyed → Keyed → Prop) (a b r : List Keyed) : Prop := r.Perm (a ++ b) ∧ r.Pairwise R
theorem Mg.done {R : Keyed → Keyed → Prop} {a b out : List Keyed} {ia ib : Nat} (h : Mg R a b out ia ib) (sa : a.Pairwise R) (sb : b.Pairwise R) (hx : ∀ x ∈ a.drop ia, ∀ y ∈ b.drop ib, R x y) :
    Mgd R a b (out ++ a.drop ia ++ b.drop ib) := by
  refine ⟨?_, ?_⟩
  · have h1 : (a ++ b) = (a.take ia ++ a.drop ia) ++ (b.take ib ++ b.drop ib) := by rw [List.take_append_drop, List.take_append_drop]
    rw [h1]
    refine ((h.perm.append_right _).append_right _).trans ?_
    rw [List.append_assoc, List.append_assoc, List.append_assoc]
    refine List.Perm.append_left _ ?_
    rw [← List.append_assoc, ← List.append_assoc]
    exact List.perm_append_comm.append_right _
  · rw [List.pairwise_append, List.pairwise_append]
    refine ⟨⟨h.srt, sa.sublist (List.drop_sublist _ _), h.ra⟩, sb.sublist (List.drop_sublist _ _), fun u hu y hy => ?_⟩
    rcases List.mem_append.mp hu with hu | hu
    · exact h.rb u hu y hy
    · exact hx u hu y hy
theorem Mgd.comm {R : Keyed → Keyed → Prop} {a b r : List Keyed} (h : Mgd R a b r) : Mgd R b a r := ⟨h.1.trans List.perm_append_comm, h.2⟩

def mergeLo' : Array Keyed → Array Keyed → StateT SortSt Sem (Array Keyed) := sortPriv% PySem.Builtin.mergeLo
def mergeHi' : Array Keyed → Array Keyed → StateT SortSt Sem (Array Keyed) := sortPriv% PySem.Builtin.mergeHi
abbrev setGal (st : SortSt) (g : Nat) : SortSt := SortSt.mk' (kindOf st) (arrOf st) (pendingOf st) g (failedOf st)
/-- numbers do not fall -/
def Le (x y : Keyed) : Prop := kn x ≤ kn y
/-- all but the gallop's measure is as it was -/
structure SameS (st st' : SortSt) : Prop where
  kind : kindOf st' = kindOf st
  arr : arrOf st' = arrOf st
  pend : pendingOf st' = pendingOf st
  failed : failedOf st' = failedOf st
theorem SameS.refl (st : SortSt) : SameS st st := ⟨rfl, rfl, rfl, rfl⟩
theorem SameS.gal {st st' : SortSt} (h : SameS st st') (g : Nat) : SameS st (setGal st' g) := ⟨h.kind, h.arr, h.pend, h.failed⟩
theorem ext_end (a : Array Keyed) (i : Nat) : (a.extract i a.size).toList = a.toList.drop i := by
  rw [Array.toList_extract, List.extract_eq_take_drop, List.take_of_length_le (by simp)]
theorem ext_mid (a : Array Keyed) (i k : Nat) : (a.extract i (i + k)).toList = (a.toList.drop i).take k := by
  rw [Array.toList_extract, List.extract_eq_take_drop]
  congr 1; omega
theorem le_drop {a : List Keyed} (sa : a.Pairwise Le) {i : Nat} {x z : Keyed} (e : a[i]? = some z) (hz : Le x z) : ∀ y ∈ a.drop i, Le x y := fun y hy => by
  have hs : (a.drop i).Pairwise Le := sa.sublist (List.drop_sublist _ _)
  rw [drop_cons e] at hs hy
  rw [List.pairwise_cons] at hs
  rcases List.mem_cons.mp hy with rfl | hy
  · exact hz
  · have := hs.1 y hy
    unfold Le at *; omega
theorem lo_done {a b out : Array Keyed} {ia ib : Nat} (sa : a.toList.Pairwise Le) (sb : b.toList.Pairwise Le) (m : Mg Le a.toList b.toList out.toList ia ib) (hz : ia = a.size ∨ ib = b.size) :
    Mgd Le a.toList b.toList (out ++ a.extract ia a.size ++ b.extract ib b.size).toList := by
  rw [Array.toList_append, Array.toList_append, ext_end, ext_end]
  refine m.done sa sb fun x hx y hy => ?_
  rcases hz with rfl | rfl
  · rw [List.drop_of_length_le (by simp)] at hx; cases hx
  · rw [List.drop_of_length_le (by simp)] at hy; cases hy
theorem lo_last {a b out : Array Keyed} {ia ib : Nat} (sa : a.toList.Pairwise Le) (sb : b.toList.Pairwise Le) (m : Mg Le a.toList b.toList out.toList ia ib) (hz : ia + 1 = a.size)
    (h2 : ∀ x, a[a.size - 1]? = some x → ∀ y ∈ b.toList, Le y x) : Mgd Le a.toList b.toList (out ++ b.extract ib b.size ++ a.extract ia a.size).toList := by
  rw [Array.toList_append, Array.toList_append, ext_end, ext_end]
  refine (m.swap.done sb sa fun x hx y hy => ?_).comm
  have e : a.toList[ia]? = some (a[ia]'(by omega)) := by rw [Array.getElem?_toList]; exact getElem?_pos a ia (by omega)
  rw [drop_cons e, List.drop_of_length_le (by simp; omega)] at hy
  rw [List.mem_singleton] at hy
  subst hy
  refine h2 _ ?_ x (List.mem_of_mem_drop hx)
  rw [show a.size - 1 = ia by omega]
  exact getElem?_pos a ia (by omega)
/-- where the merge from below stands -/
structure LoI (a b : Array Keyed) (st0 st : SortSt) (n : Nat) (out : Array Keyed) (ia ib : Nat) : Prop where
  same : SameS st0 st
  mg : Mg Le a.toList b.toList out.toList ia ib
  la : ia + 1 < a.size
  lb : ib < b.size
  far : n ≤ ia + ib
theorem bey_mono {left : Bool} {key : Keyed} {arr : Array Keyed} {base n : Nat} (hn : base + n ≤ arr.size) (hs : arr.toList.Pairwise Le) : ∀ i j, i ≤ j → j < n → bey left key arr base j = true → bey left key arr base i = true := by
  intro i j hij hj hb
  by_cases e : i = j
  · subst e; exact hb
  have e1 : arr[base + i]? = some (arr[base + i]'(by omega)) := getElem?_pos arr (base + i) (by omega)
  have e2 : arr[base + j]? = some (arr[base + j]'(by omega)) := getElem?_pos arr (base + j) (by omega)
  have hl : Le (arr[base + i]'(by omega)) (arr[base + j]'(by omega)) := by
    have := List.pairwise_iff_getElem.mp hs (base + i) (base + j) (by simp; omega) (by simp; omega) (by omega)
    simpa using this
  rw [bey_at e2] at hb
  rw [bey_at e1]
  unfold Le at hl
  cases left <;> simp at hb ⊢ <;> omega
theorem bey_true {left : Bool} {key : Keyed} {arr : Array Keyed} {base i : Nat} (h : bey left key arr base i = true) {x : Keyed} (e : arr[base + i]? = some x) : Le x key := by
  rw [bey_at e] at h
  unfold Le
  cases left <;> simp at h <;> omega
theorem bey_false {left : Bool} {key : Keyed} {arr : Array Keyed} {base i : Nat} (h : bey left key arr base i = false) {x : Keyed} (e : arr[base + i]? = some x) : Le key x := by
  rw [bey_at e] at h
  unfold Le
  cases left <;> simp at h <;> omega
section
variable {prog : Program} {w : World} {A : Around} {E : Value → Shared → Prop} {s : Shared}
theorem wpS_mergeLo {st : SortSt} {a b : Array Keyed} {Q : Array Keyed → SortSt → Prop} (hk : kindOf st = oneType') (ka : ∀ p ∈ a.toList, IntK p) (kb : ∀ p ∈ b.toList, IntK p)
    (sa : a.toList.Pairwise Le) (sb : b.toList.Pairwise Le) (za : 1 ≤ a.size) (zb : 1 ≤ b.size) (h1 : ∀ x, b[0]? = some x → ∀ y ∈ a.toList, Le x y) (h2 : ∀ x, a[a.size - 1]? = some x → ∀ y ∈ b.toList, Le y x)
    (h : ∀ r st', Mgd Le a.toList b.toList r.toList → SameS st st' → Q r st') : wpS (model prog w) A E s (mergeLo' a b) Q st := by
  have ga : ∀ i (z : i < a.size), a[i]? = some a[i] ∧ a.toList[i]? = some a[i] ∧ IntK a[i] := fun i z => ⟨getElem?_pos a i z, by rw [Array.getElem?_toList]; exact getElem?_pos a i z, ka _ (by simp)⟩
  have gb : ∀ i (z : i < b.size), b[i]? = some b[i] ∧ b.toList[i]? = some b[i] ∧ IntK b[i] := fun i z => ⟨getElem?_pos b i z, by rw [Array.getElem?_toList]; exact getElem?_pos b i z, kb _ (by simp)⟩
  refine wpS_bind (wpS_lift (wpAny_rule ⟨rfl, ?_⟩))
  refine wpS_bind (wpS_elem (gb 0 (by omega)).1 ?_)
  dsimp only
  have m0 : Mg Le a.toList b.toList #[b[0]].toList 0 1 := Mg.nil.pushB sb (gb 0 (by omega)).2.1 (fun y hy => h1 _ (gb 0 (by omega)).1 y (List.mem_of_mem_drop hy))
  by_cases c1 : 1 = b.size
  · rw [if_pos (beq_iff_eq.mpr c1)]
    exact wpS_pure (h _ _ (lo_done sa sb m0 (.inr c1)) (.refl _))
  rw [if_neg (fun z => c1 (beq_iff_eq.mp z))]
  by_cases c2 : 0 + 1 = a.size
  · rw [if_pos (beq_iff_eq.mpr c2)]
    exact wpS_pure (h _ _ (lo_last sa sb m0 c2 h2) (.refl _))
  rw [if_neg (fun z => c2 (beq_iff_eq.mp z))]
  refine wpS_bind (wpS_get ?_)
  refine wpS_bind (wpS_mono (wpS_forRange (I := fun x c st' => ∃ out ia ib g, c = (none, out, ia, ib, g) ∧ LoI a b st st' x out ia ib)
    (Q := fun c st' => ∃ r u, c = (some r, u) ∧ Mgd Le a.toList b.toList r.toList ∧ SameS st st') ?step ?fin ⟨_, _, _, _, rfl, .refl _, m0, by omega, by omega, by omega⟩) ?post)
  case post =>
    rintro c st' ⟨r, u, rfl, hr, hs⟩
    exact wpS_pure (h r st' hr hs)
  case fin =>
    rintro c st' ⟨out, ia, ib, g, rfl, L⟩
    have := L.la; have := L.lb; have := L.far
    omega
  case step =>
    rintro x c st' _ hx ⟨out, ia, ib, g, rfl, L⟩
    dsimp only
    refine wpS_bind (wpS_mono (wpS_forRange (I := fun y c st' => ∃ out ia ib ac bc, c = (none, out, ia, ib, ac, bc) ∧ LoI a b st st' (x + y) out ia ib)
      (Q := fun c st' => (∃ out ia ib ac bc, c = (none, out, ia, ib, ac, bc) ∧ LoI a b st st' (x + 1) out ia ib) ∨ (∃ r u, c = (some r, u) ∧ Mgd Le a.toList b.toList r.toList ∧ SameS st st')) ?istep ?ifin ⟨_, _, _, _, _, rfl, L⟩) ?ipost)
    case ifin =>
      rintro c st' ⟨out, ia, ib, ac, bc, rfl, L⟩
      have := L.la; have := L.lb; have := L.far
      omega
    case istep =>
      rintro y c st' _ hy ⟨out, ia, ib, ac, bc, rfl, L⟩
      have la := L.la; have lb := L.lb; have far := L.far
      have za0 : ia < a.size := Nat.lt_of_succ_lt la
      dsimp only
      refine wpS_bind (wpS_elem (gb ib lb).1 (wpS_bind (wpS_elem (ga ia za0).1 (wpS_bind (wpS_lt (L.same.kind.trans hk) (gb ib lb).2.2 (ga ia za0).2.2 ?_)))))
      dsimp only
      by_cases hw : kn b[ib] < kn (a[ia]'za0)
      · rw [if_pos (decide_eq_true hw)]
        refine wpS_bind (wpS_elem (gb ib lb).1 ?_)
        have m1 : Mg Le a.toList b.toList (out.push b[ib]).toList ia (ib + 1) := by
          rw [Array.toList_push]
          exact L.mg.pushB sb (gb ib lb).2.1 (le_drop sa (ga ia za0).2.1 (Int.le_of_lt hw))
        by_cases c1 : ib + 1 = b.size
        · rw [if_pos (beq_iff_eq.mpr c1)]
          exact wpS_pure (.inr ⟨_, _, rfl, lo_done sa sb m1 (.inr c1), L.same⟩)
        rw [if_neg (fun z => c1 (beq_iff_eq.mp z))]
        have o1 : ib + 1 < b.size := Nat.lt_of_le_of_ne lb c1
        split
        · exact wpS_pure (.inl ⟨_, _, _, _, _, rfl, L.same, m1, la, o1, by omega⟩)
        · exact wpS_pure ⟨_, _, _, _, _, rfl, L.same, m1, la, o1, by omega⟩
      · rw [if_neg (fun z => hw (of_decide_eq_true z))]
        refine wpS_bind (wpS_elem (ga ia za0).1 ?_)
        have m1 : Mg Le a.toList b.toList (out.push (a[ia]'za0)).toList (ia + 1) ib := by
          rw [Array.toList_push]
          exact L.mg.pushA sa (ga ia za0).2.1 (le_drop sb (gb ib lb).2.1 (Int.not_lt.mp hw))
        by_cases c1 : ia + 1 + 1 = a.size
        · rw [if_pos (beq_iff_eq.mpr c1)]
          exact wpS_pure (.inr ⟨_, _, rfl, lo_last sa sb m1 c1 h2, L.same⟩)
        rw [if_neg (fun z => c1 (beq_iff_eq.mp z))]
        have o1 : ia + 1 + 1 < a.size := Nat.lt_of_le_of_ne la c1
        split
        · exact wpS_pure (.inl ⟨_, _, _, _, _, rfl, L.same, m1, o1, lb, by omega⟩)
        · exact wpS_pure ⟨_, _, _, _, _, rfl, L.same, m1, o1, lb, by omega⟩
    case ipost =>
      rintro c st1 (⟨out, ia, ib, ac, bc, rfl, L⟩ | ⟨r, u, rfl, hr, hs⟩)
      case inr => exact wpS_pure ⟨_, _, rfl, hr, hs⟩
      dsimp only
      refine wpS_bind (wpS_lift (wpAny_rule ⟨rfl, ?_⟩))
      refine wpS_bind (wpS_mono (wpS_forRange (I := fun y c st' => ∃ out ia ib g ac bc, c = (none, out, ia, ib, g, ac, bc) ∧ LoI a b st st' (x + 1 + y) out ia ib)
        (Q := fun c st' => (∃ out ia ib g ac bc, c = (none, out, ia, ib, g, ac, bc) ∧ LoI a b st st' (x + 1) out ia ib) ∨ (∃ r u, c = (some r, u) ∧ Mgd Le a.toList b.toList r.toList ∧ SameS st st')) ?jstep ?jfin ⟨_, _, _, _, _, _, rfl, L⟩) ?jpost)
      case jfin =>
        rintro c st' ⟨out, ia, ib, g, ac, bc, rfl, L⟩
        have := L.la; have := L.lb; have := L.far
        omega
      case jpost =>
        rintro c st1 (⟨out, ia, ib, g, ac, bc, rfl, L⟩ | ⟨r, u, rfl, hr, hs⟩)
        · dsimp only
          refine wpS_bind (wpS_modify ?_)
          exact wpS_pure ⟨_, _, _, _, rfl, L.same.gal _, L.mg, L.la, L.lb, L.far⟩
        · exact wpS_pure ⟨_, _, rfl, hr, hs⟩
      case jstep =>
        rintro y c st' _ hy ⟨out, ia, ib, g, ac, bc, rfl, L⟩
        have la := L.la; have lb := L.lb; have far := L.far
        dsimp only
        refine (fun (J1 : ∀ g2 : Nat, (?B1 : Nat → Prop) g2) => ?main1) ?pf1
        case main1 =>
          by_cases hg : g > 1
          · rw [if_pos hg]
            generalize g - 1 = g2
            exact J1 g2
          · rw [if_neg hg]
            exact J1 g
        intro g2
        refine wpS_bind (wpS_modify ?_)
        have la0 : ia < a.size := by omega
        refine wpS_bind (wpS_elem (gb ib lb).1 (wpS_bind (wpS_gallop (L.same.kind.trans hk) (gb ib lb).2.2 ka (by omega) (by omega) (bey_mono (by omega) sa) fun k lk b1 b2 => ?_)))
        have S2 := L.same.gal g2
        dsimp only
        refine (fun (J2 : ∀ (out1 : Array Keyed) (ia1 : Nat), Mg Le a.toList b.toList out1.toList ia1 ib → ia1 + 1 < a.size → (∀ z, a[ia1]? = some z → Le b[ib] z) → x + 1 + y ≤ ia1 + ib → (?B2 : Array Keyed → Nat → Prop) out1 ia1) => ?main2) ?pf2
        case main2 =>
          have m1 : Mg Le a.toList b.toList (out ++ a.extract ia (ia + k)).toList (ia + k) ib := by
            rw [Array.toList_append, ext_mid]
            refine Mg.blockA sa k L.mg (by simp; omega) fun i i1 i2 z ez => le_drop sb (gb ib lb).2.1 ?_
            refine bey_true (b1 (i - ia) (by omega)) ?_
            rw [show ia + (i - ia) = i by omega, ← Array.getElem?_toList]
            exact ez
          have hb1 : ∀ z, a[ia + k]? = some z → Le b[ib] z := fun z ez => by
            by_cases hz : ia + k < a.size
            · exact bey_false (b2 k (Nat.le_refl _) (by omega)) ez
            · rw [getElem?_neg a (ia + k) hz] at ez; cases ez
          have far1 : x + 1 + y ≤ ia + k + ib := by omega
          by_cases hk0 : k > 0
          · rw [if_pos hk0]
            by_cases c1 : ia + k + 1 = a.size
            · rw [if_pos (beq_iff_eq.mpr c1)]
              exact wpS_pure (.inr ⟨_, _, rfl, lo_last sa sb m1 c1 h2, S2.kind, S2.arr, S2.pend, S2.failed⟩)
            rw [if_neg (fun z => c1 (beq_iff_eq.mp z))]
            by_cases c2 : ia + k = a.size
            · rw [if_pos (beq_iff_eq.mpr c2)]
              exact wpS_pure (.inr ⟨_, _, rfl, lo_done sa sb m1 (.inl c2), S2.kind, S2.arr, S2.pend, S2.failed⟩)
            rw [if_neg (fun z => c2 (beq_iff_eq.mp z))]
            have la1 : ia + k + 1 < a.size := by omega
            generalize ho : out ++ a.extract ia (ia + k) = out1 at m1 ⊢
            generalize hi : ia + k = ia1 at m1 la1 hb1 far1 ⊢
            exact J2 out1 ia1 m1 la1 hb1 far1
          · rw [if_neg hk0]
            have ek : k = 0 := by omega
            rw [ek, show out ++ a.extract ia (ia + 0) = out by simp; exact Nat.min_le_left _ _] at m1
            rw [ek] at hb1 far1
            exact J2 out ia m1 la hb1 far1
        intro out1 ia1 m1 la1 hb1 far1
        clear far b1 b2 lk
        have za1 : ia1 < a.size := Nat.lt_of_succ_lt la1
        refine wpS_bind (wpS_elem (gb ib lb).1 ?_)
        have m2 : Mg Le a.toList b.toList (out1.push b[ib]).toList ia1 (ib + 1) := by
          rw [Array.toList_push]
          exact m1.pushB sb (gb ib lb).2.1 (le_drop sa (ga ia1 za1).2.1 (hb1 _ (ga ia1 za1).1))
        by_cases c3 : ib + 1 = b.size
        · rw [if_pos (beq_iff_eq.mpr c3)]
          exact wpS_pure (.inr ⟨_, _, rfl, lo_done sa sb m2 (.inr c3), S2.kind, S2.arr, S2.pend, S2.failed⟩)
        rw [if_neg (fun z => c3 (beq_iff_eq.mp z))]
        refine wpS_bind (wpS_elem (ga ia1 za1).1 (wpS_bind (wpS_gallop (L.same.kind.trans hk) (ga ia1 za1).2.2 kb (by omega) (by omega) (bey_mono (by omega) sb) fun k2 lk2 d1 d2 => ?_)))
        generalize hp : out1.push b[ib] = outp at m2 ⊢
        dsimp only
        refine (fun (J3 : ∀ (out2 : Array Keyed) (ib1 : Nat), Mg Le a.toList b.toList out2.toList ia1 ib1 → ib1 < b.size → (∀ z, b[ib1]? = some z → Le (a[ia1]'za1) z) → x + 1 + y ≤ ia1 + ib1 → (?B3 : Array Keyed → Nat → Prop) out2 ib1) => ?main3) ?pf3
        case main3 =>
          have m3 : Mg Le a.toList b.toList (outp ++ b.extract (ib + 1) (ib + 1 + k2)).toList ia1 (ib + 1 + k2) := by
            rw [Array.toList_append, ext_mid]
            refine Mg.blockB sb k2 m2 (by simp; omega) fun i i1 i2 z ez => le_drop sa (ga ia1 za1).2.1 ?_
            refine bey_true (d1 (i - (ib + 1)) (by omega)) ?_
            rw [show ib + 1 + (i - (ib + 1)) = i by omega, ← Array.getElem?_toList]
            exact ez
          have hb2 : ∀ z, b[ib + 1 + k2]? = some z → Le (a[ia1]'za1) z := fun z ez => by
            by_cases hz : ib + 1 + k2 < b.size
            · exact bey_false (d2 k2 (Nat.le_refl _) (by omega)) ez
            · rw [getElem?_neg b (ib + 1 + k2) hz] at ez; cases ez
          have far2 : x + 1 + y ≤ ia1 + (ib + 1 + k2) := by omega
          by_cases hk1 : k2 > 0
          · rw [if_pos hk1]
            by_cases c1 : ib + 1 + k2 = b.size
            · rw [if_pos (beq_iff_eq.mpr c1)]
              exact wpS_pure (.inr ⟨_, _, rfl, lo_done sa sb m3 (.inr c1), S2.kind, S2.arr, S2.pend, S2.failed⟩)
            rw [if_neg (fun z => c1 (beq_iff_eq.mp z))]
            have lb1 : ib + 1 + k2 < b.size := by omega
            generalize ho2 : outp ++ b.extract (ib + 1) (ib + 1 + k2) = out2 at m3 ⊢
            generalize hi2 : ib + 1 + k2 = ib1 at m3 lb1 hb2 far2 ⊢
            exact J3 out2 ib1 m3 lb1 hb2 far2
          · rw [if_neg hk1]
            have ek : k2 = 0 := by omega
            rw [ek, show outp ++ b.extract (ib + 1) (ib + 1 + 0) = outp by simp; exact Nat.min_le_left _ _] at m3
            rw [ek] at hb2 far2
            exact J3 outp (ib + 1) m3 (by omega) hb2 far2
        intro out2 ib1 m3 lb1 hb2 far2
        refine wpS_bind (wpS_elem (ga ia1 za1).1 ?_)
        have m4 : Mg Le a.toList b.toList (out2.push (a[ia1]'za1)).toList (ia1 + 1) ib1 := by
          rw [Array.toList_push]
          exact m3.pushA sa (ga ia1 za1).2.1 (le_drop sb (gb ib1 lb1).2.1 (hb2 _ (gb ib1 lb1).1))
        by_cases c4 : ia1 + 1 + 1 = a.size
        · rw [if_pos (beq_iff_eq.mpr c4)]
          exact wpS_pure (.inr ⟨_, _, rfl, lo_last sa sb m4 c4 h2, S2.kind, S2.arr, S2.pend, S2.failed⟩)
        rw [if_neg (fun z => c4 (beq_iff_eq.mp z))]
        have o1 : ia1 + 1 + 1 < a.size := by omega
        split
        · exact wpS_pure (.inl ⟨_, _, _, _, _, _, rfl, ⟨S2.kind, S2.arr, S2.pend, S2.failed⟩, m4, o1, lb1, by omega⟩)
        · exact wpS_pure ⟨_, _, _, _, _, _, rfl, ⟨S2.kind, S2.arr, S2.pend, S2.failed⟩, m4, o1, lb1, by omega⟩
end
end L2

set_option Elab.async false
set_option linter.all false
set_option maxRecDepth 100000
namespace L2
open PySem PySem.Spec PyProof.Rows

/-! ### merging from above -/
def Ge (x y : Keyed) : Prop := kn y ≤ kn x
theorem ge_drop {a : List Keyed} (sa : a.Pairwise Ge) {i : Nat} {x z : Keyed} (e : a[i]? = some z) (hz : Ge x z) : ∀ y ∈ a.drop i, Ge x y := fun y hy => by
  have hs : (a.drop i).Pairwise Ge := sa.sublist (List.drop_sublist _ _)
  rw [drop_cons e] at hs hy
  rw [List.pairwise_cons] at hs
  rcases List.mem_cons.mp hy with rfl | hy
  · exact hz
  · have := hs.1 y hy
    unfold Ge at *; omega
theorem rev_srt {a : List Keyed} (s : a.Pairwise Le) : a.reverse.Pairwise Ge := by
  rw [List.pairwise_reverse]; exact s
theorem rvs_at {a : Array Keyed} {n : Nat} (h1 : 1 ≤ n) (h2 : n ≤ a.size) : a.toList.reverse[a.size - n]? = some (a[n - 1]'(by omega)) := by
  rw [List.getElem?_reverse (by simp; omega), Array.getElem?_toList, Array.length_toList, show a.size - 1 - (a.size - n) = n - 1 by omega]
  exact getElem?_pos a (n - 1) (by omega)
theorem rev_drop {a : Array Keyed} {n : Nat} (h2 : n ≤ a.size) : a.toList.reverse.drop (a.size - n) = (a.toList.take n).reverse := by
  rw [List.drop_reverse, Array.length_toList, show a.size - (a.size - n) = n by omega]
theorem ext_start (a : Array Keyed) (n : Nat) : (a.extract 0 n).toList = a.toList.take n := by
  rw [Array.toList_extract, List.extract_eq_take_drop]; simp
theorem ext_rev {a : Array Keyed} {k n : Nat} (h1 : k ≤ n) (h2 : n ≤ a.size) : (a.extract k n).reverse.toList = (a.toList.reverse.drop (a.size - n)).take (n - k) := by
  rw [rev_drop h2, Array.toList_reverse, Array.toList_extract, List.extract_eq_take_drop, List.take_reverse]
  congr 1
  rw [List.length_take, Array.length_toList, show min n a.size - (n - k) = k by omega, List.drop_take]
theorem Mgd.rev {a b r : List Keyed} (h : Mgd Ge a.reverse b.reverse r) : Mgd Le a b r.reverse := by
  refine ⟨(List.reverse_perm r).trans (h.1.trans ?_), ?_⟩
  · exact (List.reverse_perm a).append (List.reverse_perm b)
  · rw [List.pairwise_reverse]; exact h.2
theorem hi_done {a b out : Array Keyed} {na nb : Nat} (sa : a.toList.Pairwise Le) (sb : b.toList.Pairwise Le) (la : na ≤ a.size) (lb : nb ≤ b.size) (m : Mg Ge a.toList.reverse b.toList.reverse out.toList (a.size - na) (b.size - nb)) (hz : na = 0 ∨ nb = 0) :
    Mgd Le a.toList b.toList (a.extract 0 na ++ b.extract 0 nb ++ out.reverse).toList := by
  have := (m.swap.done (rev_srt sb) (rev_srt sa) (fun x hx y hy => by
    rw [rev_drop lb] at hx
    rw [rev_drop la] at hy
    rcases hz with rfl | rfl
    · cases hy
    · cases hx)).comm.rev
  rw [rev_drop la, rev_drop lb, List.reverse_append, List.reverse_append, List.reverse_reverse, List.reverse_reverse, ← List.append_assoc] at this
  rw [Array.toList_append, Array.toList_append, ext_start, ext_start, Array.toList_reverse]
  exact this
theorem hi_first {a b out : Array Keyed} {na nb : Nat} (sa : a.toList.Pairwise Le) (sb : b.toList.Pairwise Le) (la : na ≤ a.size) (lb : nb ≤ b.size) (m : Mg Ge a.toList.reverse b.toList.reverse out.toList (a.size - na) (b.size - nb)) (hz : nb = 1)
    (h1 : ∀ x, b[0]? = some x → ∀ y ∈ a.toList, Le x y) : Mgd Le a.toList b.toList (b.extract 0 nb ++ a.extract 0 na ++ out.reverse).toList := by
  have := (m.done (rev_srt sa) (rev_srt sb) (fun x hx y hy => by
    rw [rev_drop la, List.mem_reverse] at hx
    rw [rev_drop lb, List.mem_reverse] at hy
    subst hz
    have e : b.toList.take 1 = [b[0]'(by omega)] := by
      have e0 : b.toList[0]? = some (b[0]'(by omega)) := by rw [Array.getElem?_toList]; exact getElem?_pos b 0 (by omega)
      have e1 := drop_cons e0
      rw [List.drop_zero] at e1
      rw [e1]; rfl
    rw [e, List.mem_singleton] at hy
    subst hy
    exact h1 _ (getElem?_pos b 0 (by omega)) x (List.mem_of_mem_take hx))).rev
  rw [rev_drop la, rev_drop lb, List.reverse_append, List.reverse_append, List.reverse_reverse, List.reverse_reverse, ← List.append_assoc] at this
  rw [Array.toList_append, Array.toList_append, ext_start, ext_start, Array.toList_reverse]
  exact this
structure HiI (a b : Array Keyed) (st0 st : SortSt) (n : Nat) (na nb : Nat) (out : Array Keyed) : Prop where
  same : SameS st0 st
  mg : Mg Ge a.toList.reverse b.toList.reverse out.toList (a.size - na) (b.size - nb)
  la : na ≤ a.size
  lb : nb ≤ b.size
  pa : 1 ≤ na
  pb : 2 ≤ nb
  far : n + na + nb ≤ a.size + b.size
section
variable {prog : Program} {w : World} {A : Around} {E : Value → Shared → Prop} {s : Shared}
theorem wpS_mergeHi {st : SortSt} {a b : Array Keyed} {Q : Array Keyed → SortSt → Prop} (hk : kindOf st = oneType') (ka : ∀ p ∈ a.toList, IntK p) (kb : ∀ p ∈ b.toList, IntK p)
    (sa : a.toList.Pairwise Le) (sb : b.toList.Pairwise Le) (za : 1 ≤ a.size) (zb : 1 ≤ b.size) (h1 : ∀ x, b[0]? = some x → ∀ y ∈ a.toList, Le x y) (h2 : ∀ x, a[a.size - 1]? = some x → ∀ y ∈ b.toList, Le y x)
    (h : ∀ r st', Mgd Le a.toList b.toList r.toList → SameS st st' → Q r st') : wpS (model prog w) A E s (mergeHi' a b) Q st := by
  have ga : ∀ i (z : i < a.size), a[i]? = some a[i] ∧ IntK a[i] := fun i z => ⟨getElem?_pos a i z, ka _ (by simp)⟩
  have gb : ∀ i (z : i < b.size), b[i]? = some b[i] ∧ IntK b[i] := fun i z => ⟨getElem?_pos b i z, kb _ (by simp)⟩
  have sra := rev_srt sa
  have srb := rev_srt sb
  refine wpS_bind (wpS_lift (wpAny_rule ⟨rfl, ?_⟩))
  refine wpS_bind (wpS_elem (ga (a.size - 1) (by omega)).1 ?_)
  dsimp only
  have m0 : Mg Ge a.toList.reverse b.toList.reverse #[a[a.size - 1]'(by omega)].toList (a.size - (a.size - 1)) (b.size - b.size) := by
    have e : a.toList.reverse[0]? = some (a[a.size - 1]'(by omega)) := by
      have := rvs_at (a := a) (n := a.size) (by omega) (Nat.le_refl _)
      rwa [Nat.sub_self] at this
    have := (Mg.nil (b := b.toList.reverse)).pushA sra e (fun y hy => h2 _ (ga (a.size - 1) (by omega)).1 y (List.mem_reverse.mp (List.mem_of_mem_drop hy)))
    rw [show a.size - (a.size - 1) = 0 + 1 by omega, Nat.sub_self]
    exact this
  by_cases c1 : a.size - 1 = 0
  · rw [if_pos (beq_iff_eq.mpr c1)]
    exact wpS_pure (h _ _ (hi_done sa sb (by omega) (Nat.le_refl _) m0 (.inl c1)) (.refl _))
  rw [if_neg (fun z => c1 (beq_iff_eq.mp z))]
  by_cases c2 : b.size = 1
  · rw [if_pos (beq_iff_eq.mpr c2)]
    exact wpS_pure (h _ _ (hi_first sa sb (by omega) (Nat.le_refl _) m0 c2 h1) (.refl _))
  rw [if_neg (fun z => c2 (beq_iff_eq.mp z))]
  refine wpS_bind (wpS_get ?_)
  refine wpS_bind (wpS_mono (wpS_forRange (I := fun x c st' => ∃ na nb out g, c = (none, na, nb, out, g) ∧ HiI a b st st' x na nb out)
    (Q := fun c st' => ∃ r u, c = (some r, u) ∧ Mgd Le a.toList b.toList r.toList ∧ SameS st st') ?step ?fin ⟨_, _, _, _, rfl, .refl _, m0, by omega, by omega, by omega, by omega, by omega⟩) ?post)
  case post =>
    rintro c st' ⟨r, u, rfl, hr, hs⟩
    exact wpS_pure (h r st' hr hs)
  case fin =>
    rintro c st' ⟨na, nb, out, g, rfl, L⟩
    have := L.pa; have := L.far
    omega
  case step =>
    rintro x c st' _ hx ⟨na, nb, out, g, rfl, L⟩
    dsimp only
    refine wpS_bind (wpS_mono (wpS_forRange (I := fun y c st' => ∃ na nb out ac bc, c = (none, na, nb, out, ac, bc) ∧ HiI a b st st' (x + y) na nb out)
      (Q := fun c st' => (∃ na nb out ac bc, c = (none, na, nb, out, ac, bc) ∧ HiI a b st st' (x + 1) na nb out) ∨ (∃ r u, c = (some r, u) ∧ Mgd Le a.toList b.toList r.toList ∧ SameS st st')) ?istep ?ifin ⟨_, _, _, _, _, rfl, L⟩) ?ipost)
    case ifin =>
      rintro c st' ⟨na, nb, out, ac, bc, rfl, L⟩
      have := L.pa; have := L.far
      omega
    case istep =>
      rintro y c st' _ hy ⟨na, nb, out, ac, bc, rfl, L⟩
      have la := L.la; have lb := L.lb; have pa := L.pa; have pb := L.pb; have far := L.far
      have zb0 : nb - 1 < b.size := by omega
      have za0 : na - 1 < a.size := by omega
      have pb1 : 1 ≤ nb := Nat.le_of_succ_le pb
      dsimp only
      refine wpS_bind (wpS_elem (gb (nb - 1) zb0).1 (wpS_bind (wpS_elem (ga (na - 1) za0).1 (wpS_bind (wpS_lt (L.same.kind.trans hk) (gb (nb - 1) zb0).2 (ga (na - 1) za0).2 ?_)))))
      dsimp only
      by_cases hw : kn (b[nb - 1]'zb0) < kn (a[na - 1]'za0)
      · rw [if_pos (decide_eq_true hw)]
        refine wpS_bind (wpS_elem (ga (na - 1) za0).1 ?_)
        have m1 : Mg Ge a.toList.reverse b.toList.reverse (out.push (a[na - 1]'za0)).toList (a.size - (na - 1)) (b.size - nb) := by
          rw [Array.toList_push, show a.size - (na - 1) = a.size - na + 1 by omega]
          exact L.mg.pushA sra (rvs_at pa la) (ge_drop srb (rvs_at pb1 lb) (Int.le_of_lt hw))
        by_cases c1 : na - 1 = 0
        · rw [if_pos (beq_iff_eq.mpr c1)]
          exact wpS_pure (.inr ⟨_, _, rfl, hi_done sa sb (Nat.le_of_lt za0) lb m1 (.inl c1), L.same⟩)
        rw [if_neg (fun z => c1 (beq_iff_eq.mp z))]
        split
        · exact wpS_pure (.inl ⟨_, _, _, _, _, rfl, L.same, m1, Nat.le_of_lt za0, lb, Nat.one_le_iff_ne_zero.mpr c1, pb, by omega⟩)
        · exact wpS_pure ⟨_, _, _, _, _, rfl, L.same, m1, Nat.le_of_lt za0, lb, Nat.one_le_iff_ne_zero.mpr c1, pb, by omega⟩
      · rw [if_neg (fun z => hw (of_decide_eq_true z))]
        refine wpS_bind (wpS_elem (gb (nb - 1) zb0).1 ?_)
        have m1 : Mg Ge a.toList.reverse b.toList.reverse (out.push (b[nb - 1]'zb0)).toList (a.size - na) (b.size - (nb - 1)) := by
          rw [Array.toList_push, show b.size - (nb - 1) = b.size - nb + 1 by omega]
          exact L.mg.pushB srb (rvs_at pb1 lb) (ge_drop sra (rvs_at pa la) (Int.not_lt.mp hw))
        by_cases c1 : nb - 1 = 1
        · rw [if_pos (beq_iff_eq.mpr c1)]
          exact wpS_pure (.inr ⟨_, _, rfl, hi_first sa sb la (Nat.le_of_lt zb0) m1 c1 h1, L.same⟩)
        rw [if_neg (fun z => c1 (beq_iff_eq.mp z))]
        have o1 : 2 ≤ nb - 1 := by omega
        split
        · exact wpS_pure (.inl ⟨_, _, _, _, _, rfl, L.same, m1, la, Nat.le_of_lt zb0, pa, o1, by omega⟩)
        · exact wpS_pure ⟨_, _, _, _, _, rfl, L.same, m1, la, Nat.le_of_lt zb0, pa, o1, by omega⟩
    case ipost =>
      rintro c st1 (⟨na, nb, out, ac, bc, rfl, L⟩ | ⟨r, u, rfl, hr, hs⟩)
      case inr => exact wpS_pure ⟨_, _, rfl, hr, hs⟩
      dsimp only
      refine wpS_bind (wpS_lift (wpAny_rule ⟨rfl, ?_⟩))
      refine wpS_bind (wpS_mono (wpS_forRange (I := fun y c st' => ∃ na nb out g ac bc, c = (none, na, nb, out, g, ac, bc) ∧ HiI a b st st' (x + 1 + y) na nb out)
        (Q := fun c st' => (∃ na nb out g ac bc, c = (none, na, nb, out, g, ac, bc) ∧ HiI a b st st' (x + 1) na nb out) ∨ (∃ r u, c = (some r, u) ∧ Mgd Le a.toList b.toList r.toList ∧ SameS st st')) ?jstep ?jfin ⟨_, _, _, _, _, _, rfl, L⟩) ?jpost)
      case jfin =>
        rintro c st' ⟨na, nb, out, g, ac, bc, rfl, L⟩
        have := L.pa; have := L.far
        omega
      case jpost =>
        rintro c st1 (⟨na, nb, out, g, ac, bc, rfl, L⟩ | ⟨r, u, rfl, hr, hs⟩)
        · dsimp only
          refine wpS_bind (wpS_modify ?_)
          exact wpS_pure ⟨_, _, _, _, rfl, L.same.gal _, L.mg, L.la, L.lb, L.pa, L.pb, L.far⟩
        · exact wpS_pure ⟨_, _, rfl, hr, hs⟩
      case jstep =>
        rintro y c st' _ hy ⟨na, nb, out, g, ac, bc, rfl, L⟩
        have la := L.la; have lb := L.lb; have pa := L.pa; have pb := L.pb; have far := L.far
        dsimp only
        refine (fun (J1 : ∀ g2 : Nat, (?B1 : Nat → Prop) g2) => ?main1) ?pf1
        case main1 =>
          by_cases hg : g > 1
          · rw [if_pos hg]
            generalize g - 1 = g2
            exact J1 g2
          · rw [if_neg hg]
            exact J1 g
        intro g2
        refine wpS_bind (wpS_modify ?_)
        have zb0 : nb - 1 < b.size := by omega
        refine wpS_bind (wpS_elem (gb (nb - 1) zb0).1 (wpS_bind (wpS_gallop (L.same.kind.trans hk) (gb (nb - 1) zb0).2 ka (by omega) (by omega) (bey_mono (by omega) sa) fun k lk b1 b2 => ?_)))
        have S2 := L.same.gal g2
        dsimp only
        refine (fun (J2 : ∀ (out1 : Array Keyed) (na1 : Nat), Mg Ge a.toList.reverse b.toList.reverse out1.toList (a.size - na1) (b.size - nb) → (∀ z, 1 ≤ na1 → a[na1 - 1]? = some z → Ge (b[nb - 1]'zb0) z) → na1 ≤ na → ¬ na1 = 0 → (?B2 : Array Keyed → Nat → Prop) out1 na1) => ?main2) ?pf2
        case main2 =>
          have m1 : Mg Ge a.toList.reverse b.toList.reverse (out ++ (a.extract k na).reverse).toList (a.size - k) (b.size - nb) := by
            rw [Array.toList_append, ext_rev lk la, show a.size - k = a.size - na + (na - k) by omega]
            refine Mg.blockA sra (na - k) L.mg (by simp; omega) fun i i1 i2 z ez => ge_drop srb (rvs_at (Nat.le_of_succ_le pb) lb) ?_
            have e2 := rvs_at (a := a) (n := a.size - i) (by omega) (by omega)
            rw [show a.size - (a.size - i) = i by omega, ez] at e2
            have e3 := Option.some.inj e2
            subst e3
            refine bey_false (b2 (a.size - i - 1) (by omega) (by omega)) ?_
            rw [Nat.zero_add]
            exact (ga (a.size - i - 1) (by omega)).1
          have hb1 : ∀ z, 1 ≤ k → a[k - 1]? = some z → Ge (b[nb - 1]'zb0) z := fun z hz ez => by
            refine bey_true (b1 (k - 1) (by omega)) ?_
            rw [Nat.zero_add]; exact ez
          by_cases hk0 : na - k > 0
          · rw [if_pos hk0]
            by_cases c1 : k = 0
            · rw [if_pos (beq_iff_eq.mpr c1)]
              exact wpS_pure (.inr ⟨_, _, rfl, hi_done sa sb (Nat.le_trans lk la) lb m1 (.inl c1), S2.kind, S2.arr, S2.pend, S2.failed⟩)
            rw [if_neg (fun z => c1 (beq_iff_eq.mp z))]
            have hlt : k ≤ na := lk
            generalize hko : na - k = k0
            generalize ho : out ++ (a.extract k na).reverse = out1 at m1 ⊢
            generalize hi : k = na1 at m1 hb1 hlt c1 ⊢
            subst hko
            exact J2 out1 na1 m1 hb1 hlt c1
          · rw [if_neg hk0]
            have ek : k = na := by omega
            have ee : out ++ (a.extract na na).reverse = out := by simp; exact Nat.min_le_left _ _
            rw [ek, ee] at m1
            rw [ek] at hb1
            exact J2 out na m1 hb1 (Nat.le_refl _) (by omega)
        intro out1 na1 m1 hb1 hlt c1
        clear b1 b2 lk
        have la1 : na1 ≤ a.size := Nat.le_trans hlt la
        have pa1 : 1 ≤ na1 := Nat.one_le_iff_ne_zero.mpr c1
        have za1 : na1 - 1 < a.size := by omega
        refine wpS_bind (wpS_elem (gb (nb - 1) zb0).1 ?_)
        have m2 : Mg Ge a.toList.reverse b.toList.reverse (out1.push (b[nb - 1]'zb0)).toList (a.size - na1) (b.size - (nb - 1)) := by
          rw [Array.toList_push, show b.size - (nb - 1) = b.size - nb + 1 by omega]
          exact m1.pushB srb (rvs_at (Nat.le_of_succ_le pb) lb) (ge_drop sra (rvs_at pa1 la1) (hb1 _ pa1 (ga (na1 - 1) za1).1))
        by_cases c3 : nb - 1 = 1
        · rw [if_pos (beq_iff_eq.mpr c3)]
          exact wpS_pure (.inr ⟨_, _, rfl, hi_first sa sb la1 (Nat.le_of_lt zb0) m2 c3 h1, S2.kind, S2.arr, S2.pend, S2.failed⟩)
        rw [if_neg (fun z => c3 (beq_iff_eq.mp z))]
        refine wpS_bind (wpS_elem (ga (na1 - 1) za1).1 (wpS_bind (wpS_gallop (L.same.kind.trans hk) (ga (na1 - 1) za1).2 kb (by omega) (by omega) (bey_mono (by omega) sb) fun k2 lk2 d1 d2 => ?_)))
        generalize hp : out1.push (b[nb - 1]'zb0) = outp at m2 ⊢
        dsimp only
        refine (fun (J3 : ∀ (out2 : Array Keyed) (nb1 : Nat), Mg Ge a.toList.reverse b.toList.reverse out2.toList (a.size - na1) (b.size - nb1) → (∀ z, 1 ≤ nb1 → b[nb1 - 1]? = some z → Ge (a[na1 - 1]'za1) z) → nb1 ≤ nb - 1 → 2 ≤ nb1 → (?B3 : Array Keyed → Nat → Prop) out2 nb1) => ?main3) ?pf3
        case main3 =>
          have m3 : Mg Ge a.toList.reverse b.toList.reverse (outp ++ (b.extract k2 (nb - 1)).reverse).toList (a.size - na1) (b.size - k2) := by
            rw [Array.toList_append, ext_rev lk2 (Nat.le_of_lt zb0), show b.size - k2 = b.size - (nb - 1) + (nb - 1 - k2) by omega]
            refine Mg.blockB srb (nb - 1 - k2) m2 (by simp; omega) fun i i1 i2 z ez => ge_drop sra (rvs_at pa1 la1) ?_
            have e2 := rvs_at (a := b) (n := b.size - i) (by omega) (by omega)
            rw [show b.size - (b.size - i) = i by omega, ez] at e2
            have e3 := Option.some.inj e2
            subst e3
            refine bey_false (d2 (b.size - i - 1) (by omega) (by omega)) ?_
            rw [Nat.zero_add]
            exact (gb (b.size - i - 1) (by omega)).1
          have hb2 : ∀ z, 1 ≤ k2 → b[k2 - 1]? = some z → Ge (a[na1 - 1]'za1) z := fun z hz ez => by
            refine bey_true (d1 (k2 - 1) (by omega)) ?_
            rw [Nat.zero_add]; exact ez
          by_cases hk1 : nb - 1 - k2 > 0
          · rw [if_pos hk1]
            by_cases c4 : k2 = 1
            · rw [if_pos (beq_iff_eq.mpr c4)]
              exact wpS_pure (.inr ⟨_, _, rfl, hi_first sa sb la1 (by omega) m3 c4 h1, S2.kind, S2.arr, S2.pend, S2.failed⟩)
            rw [if_neg (fun z => c4 (beq_iff_eq.mp z))]
            by_cases c5 : k2 = 0
            · rw [if_pos (beq_iff_eq.mpr c5)]
              exact wpS_pure (.inr ⟨_, _, rfl, hi_done sa sb la1 (by omega) m3 (.inr c5), S2.kind, S2.arr, S2.pend, S2.failed⟩)
            rw [if_neg (fun z => c5 (beq_iff_eq.mp z))]
            have hlt2 : k2 ≤ nb - 1 := lk2
            have c6 : 2 ≤ k2 := by omega
            generalize hko : nb - 1 - k2 = k0
            generalize ho2 : outp ++ (b.extract k2 (nb - 1)).reverse = out2 at m3 ⊢
            generalize hi2 : k2 = nb1 at m3 hb2 hlt2 c6 ⊢
            subst hko
            exact J3 out2 nb1 m3 hb2 hlt2 c6
          · rw [if_neg hk1]
            have ek : k2 = nb - 1 := by omega
            rw [ek] at m3 hb2
            have ee : outp ++ (b.extract (nb - 1) (nb - 1)).reverse = outp := by simp; exact Nat.min_le_left _ _
            rw [ee] at m3
            exact J3 outp (nb - 1) m3 hb2 (Nat.le_refl _) (by omega)
        intro out2 nb1 m3 hb2 hlt2 c6
        clear d1 d2 lk2
        have lb1 : nb1 ≤ b.size := by omega
        have pb1 : 1 ≤ nb1 := Nat.le_of_succ_le c6
        refine wpS_bind (wpS_elem (ga (na1 - 1) za1).1 ?_)
        have m4 : Mg Ge a.toList.reverse b.toList.reverse (out2.push (a[na1 - 1]'za1)).toList (a.size - (na1 - 1)) (b.size - nb1) := by
          rw [Array.toList_push, show a.size - (na1 - 1) = a.size - na1 + 1 by omega]
          exact m3.pushA sra (rvs_at pa1 la1) (ge_drop srb (rvs_at pb1 lb1) (hb2 _ pb1 (gb (nb1 - 1) (by omega)).1))
        by_cases c7 : na1 - 1 = 0
        · rw [if_pos (beq_iff_eq.mpr c7)]
          exact wpS_pure (.inr ⟨_, _, rfl, hi_done sa sb (Nat.le_of_lt za1) lb1 m4 (.inl c7), S2.kind, S2.arr, S2.pend, S2.failed⟩)
        rw [if_neg (fun z => c7 (beq_iff_eq.mp z))]
        have o1 : 1 ≤ na1 - 1 := Nat.one_le_iff_ne_zero.mpr c7
        split
        · exact wpS_pure (.inl ⟨_, _, _, _, _, _, rfl, ⟨S2.kind, S2.arr, S2.pend, S2.failed⟩, m4, Nat.le_of_lt za1, lb1, o1, c6, by omega⟩)
        · exact wpS_pure ⟨_, _, _, _, _, _, rfl, ⟨S2.kind, S2.arr, S2.pend, S2.failed⟩, m4, Nat.le_of_lt za1, lb1, o1, c6, by omega⟩
end
end L2

set_option Elab.async false
set_option linter.all false
set_option maxRecDepth 100000
namespace L2
open PySem PySem.Spec PyProof.Rows

/-! ### one merge of two runs -/
def SortedOn (xs : Array Keyed) (i j : Nat) : Prop := ∀ u v, i ≤ u → u ≤ v → v < j → K xs u ≤ K xs v
structure SB (a₀ : Array Keyed) (st : SortSt) : Prop where
  perm : (arrOf st).Perm a₀
  kind : kindOf st = oneType'
  failed : failedOf st = none
theorem SB.size {a₀ : Array Keyed} {st : SortSt} (h : SB a₀ st) : (arrOf st).size = a₀.size := h.perm.size_eq
theorem SB.ints {a₀ : Array Keyed} {st : SortSt} (h : SB a₀ st) (h0 : IntKeys a₀) : ∀ p ∈ (arrOf st).toList, IntK p := fun p hp =>
  h0 p ((Array.perm_iff_toList_perm.mp h.perm).mem_iff.mp hp)
theorem K_at {xs : Array Keyed} {i : Nat} {p : Keyed} (e : xs[i]? = some p) : K xs i = kn p := by unfold K kn; rw [e]
theorem ext_at {a : Array Keyed} {i j k : Nat} (hj : j ≤ a.size) (hk : i + k < j) : (a.extract i j)[k]? = a[i + k]? := by
  rw [Array.getElem?_extract, if_pos (by omega)]
theorem ext_size {a : Array Keyed} {i j : Nat} (hj : j ≤ a.size) : (a.extract i j).size = j - i := by
  rw [Array.size_extract]; omega
theorem ext_srt {a : Array Keyed} {i j : Nat} (hj : j ≤ a.size) (s : SortedOn a i j) : (a.extract i j).toList.Pairwise Le := by
  rw [List.pairwise_iff_getElem]
  intro u v hu hv huv
  rw [Array.length_toList, ext_size hj] at hu hv
  have e1 : (a.extract i j).toList[u]? = a[i + u]? := by rw [Array.getElem?_toList]; exact ext_at hj (by omega)
  have e2 : (a.extract i j).toList[v]? = a[i + v]? := by rw [Array.getElem?_toList]; exact ext_at hj (by omega)
  rw [List.getElem?_eq_getElem (by rw [Array.length_toList, ext_size hj]; exact hu)] at e1
  rw [List.getElem?_eq_getElem (by rw [Array.length_toList, ext_size hj]; exact hv)] at e2
  have := s (i + u) (i + v) (by omega) (by omega) (by omega)
  rw [K_at e1.symm, K_at e2.symm] at this
  exact this
theorem ext_mem {a : Array Keyed} {i j : Nat} (hj : j ≤ a.size) {z : Keyed} (h : z ∈ (a.extract i j).toList) : ∃ k, i ≤ k ∧ k < j ∧ a[k]? = some z := by
  obtain ⟨k, hk, e⟩ := List.getElem_of_mem h
  have hk' := hk
  rw [Array.length_toList, ext_size hj] at hk'
  refine ⟨i + k, by omega, by omega, ?_⟩
  rw [← ext_at hj (by omega), ← Array.getElem?_toList, List.getElem?_eq_getElem hk, e]
/-- laying a list into an array -/
def layIn (a : Array Keyed) (s : Nat) (l : List (Keyed × Nat)) : Array Keyed := l.foldl (fun a (p, j) => a.setIfInBounds (s + j) p) a
theorem layIn_at (s : Nat) : ∀ (l : List Keyed) (o : Nat) (a : Array Keyed), s + o + l.length ≤ a.size → ∀ u, (layIn a s (l.zipIdx o))[u]? = if s + o ≤ u ∧ u < s + o + l.length then l[u - (s + o)]? else a[u]?
  | [], o, a, h, u => by
    show a[u]? = _
    rw [if_neg (by rw [List.length_nil]; omega)]
  | p :: l, o, a, h, u => by
    rw [List.length_cons] at h
    show (layIn (a.setIfInBounds (s + o) p) s (l.zipIdx (o + 1)))[u]? = _
    rw [layIn_at s l (o + 1) _ (by rw [Array.size_setIfInBounds]; omega) u, List.length_cons]
    by_cases c1 : u = s + o
    · subst c1
      rw [if_neg (by omega), if_pos (by omega), Nat.sub_self, Array.getElem?_setIfInBounds, if_pos rfl, if_pos (by omega)]
      rfl
    · by_cases c2 : s + o ≤ u ∧ u < s + o + (l.length + 1)
      · rw [if_pos (by omega), if_pos c2, show u - (s + o) = u - (s + (o + 1)) + 1 by omega, List.getElem?_cons_succ]
      · rw [if_neg (by omega), if_neg c2, Array.getElem?_setIfInBounds, if_neg (by omega)]
theorem layIn_perm {a : Array Keyed} {s : Nat} {l : List Keyed} (h : s + l.length ≤ a.size) (hp : l.Perm ((a.toList.drop s).take l.length)) : (layIn a s (l.zipIdx 0)).Perm a := by
  rw [Array.perm_iff_toList_perm]
  have e : (layIn a s (l.zipIdx 0)).toList = a.toList.take s ++ (l ++ a.toList.drop (s + l.length)) := by
    refine List.ext_getElem? fun u => ?_
    rw [Array.getElem?_toList, layIn_at s l 0 a (by omega) u, Nat.add_zero]
    by_cases c1 : u < s
    · rw [if_neg (by omega), List.getElem?_append_left (by simp; omega), List.getElem?_take_of_lt c1, Array.getElem?_toList]
    · rw [List.getElem?_append_right (by simp; omega)]
      have el : (a.toList.take s).length = s := by simp; omega
      rw [el]
      by_cases c2 : u < s + l.length
      · rw [if_pos ⟨by omega, c2⟩, List.getElem?_append_left (by omega)]
      · rw [if_neg (by omega), List.getElem?_append_right (by omega), List.getElem?_drop, ← Array.getElem?_toList]
        congr 1; omega
  have e2 : a.toList = a.toList.take s ++ ((a.toList.drop s).take l.length ++ a.toList.drop (s + l.length)) := by
    rw [← List.drop_drop, List.take_append_drop, List.take_append_drop]
  rw [e]
  exact (List.Perm.append_left _ (hp.append_right _)).trans (by rw [← e2])
theorem bey_monoS {left : Bool} {key : Keyed} {arr : Array Keyed} {base n : Nat} (hn : base + n ≤ arr.size) (hs : SortedOn arr base (base + n)) : ∀ i j, i ≤ j → j < n → bey left key arr base j = true → bey left key arr base i = true := by
  intro i j hij hj hb
  have e1 : arr[base + i]? = some (arr[base + i]'(by omega)) := getElem?_pos arr (base + i) (by omega)
  have e2 : arr[base + j]? = some (arr[base + j]'(by omega)) := getElem?_pos arr (base + j) (by omega)
  have hl := hs (base + i) (base + j) (by omega) (by omega) (by omega)
  rw [K_at e1, K_at e2] at hl
  rw [bey_at e2] at hb
  rw [bey_at e1]
  cases left <;> simp at hb ⊢ <;> omega
/-- two neighbours merged in the middle -/
theorem mid_sorted {x z : Array Keyed} {sa sb k m : Nat} {r : List Keyed} {e : Nat} (hx : e ≤ x.size) (hk : sa + k < sb) (hm : sb + m ≤ e) (hm1 : 1 ≤ m)
    (s1 : SortedOn x sa sb) (s2 : SortedOn x sb e) (b1 : ∀ j, sa ≤ j → j < sa + k → K x j ≤ K x sb) (b2 : ∀ j, sb + m ≤ j → j < e → K x (sb - 1) ≤ K x j)
    (hr : Mgd Le (x.extract (sa + k) sb).toList (x.extract sb (sb + m)).toList r) (hz : ∀ u, z[u]? = if sa + k ≤ u ∧ u < sa + k + r.length then r[u - (sa + k)]? else x[u]?) : SortedOn z sa e := by
  have lr : r.length = sb - (sa + k) + m := by
    rw [hr.1.length_eq, List.length_append, Array.length_toList, Array.length_toList, ext_size (by omega), ext_size (by omega)]; omega
  have out : ∀ u, u < sa + k ∨ sb + m ≤ u → K z u = K x u := fun u hu => K_congr (by rw [hz, if_neg (by omega)])
  have mid : ∀ u, sa + k ≤ u → u < sb + m → ∃ p, p ∈ r ∧ r[u - (sa + k)]? = some p ∧ K z u = kn p ∧ ((∃ j, sa + k ≤ j ∧ j < sb ∧ K x j = kn p) ∨ (∃ j, sb ≤ j ∧ j < sb + m ∧ K x j = kn p)) := fun u h1 h2 => by
    have e1 : r[u - (sa + k)]? = some (r[u - (sa + k)]'(by omega)) := List.getElem?_eq_getElem (by omega)
    have hmem : (r[u - (sa + k)]'(by omega)) ∈ r := List.getElem_mem _
    refine ⟨_, hmem, e1, K_at (by rw [hz, if_pos (by omega), e1]), ?_⟩
    rcases List.mem_append.mp (hr.1.mem_iff.mp hmem) with q | q
    · obtain ⟨j, j1, j2, ej⟩ := ext_mem (by omega) q
      exact .inl ⟨j, j1, j2, K_at ej⟩
    · obtain ⟨j, j1, j2, ej⟩ := ext_mem (by omega) q
      exact .inr ⟨j, j1, j2, K_at ej⟩
  intro u v hu huv hv
  by_cases cu : u < sa + k
  · rw [out u (.inl cu)]
    by_cases cv : v < sa + k
    · rw [out v (.inl cv)]; exact s1 u v hu huv (by omega)
    · by_cases cv2 : sb + m ≤ v
      · rw [out v (.inr cv2)]
        exact Int.le_trans (b1 u hu cu) (s2 sb v (Nat.le_refl _) (by omega) hv)
      · obtain ⟨p, _, _, ep, q⟩ := mid v (by omega) (by omega)
        rw [ep]
        rcases q with ⟨j, j1, j2, ej⟩ | ⟨j, j1, j2, ej⟩
        · rw [← ej]; exact s1 u j hu (by omega) j2
        · rw [← ej]; exact Int.le_trans (b1 u hu cu) (s2 sb j (Nat.le_refl _) j1 (by omega))
  · by_cases cu2 : sb + m ≤ u
    · rw [out u (.inr cu2), out v (.inr (by omega))]
      exact s2 u v (by omega) huv hv
    · obtain ⟨p, _, gp, ep, q⟩ := mid u (by omega) (by omega)
      rw [ep]
      by_cases cv2 : sb + m ≤ v
      · rw [out v (.inr cv2)]
        rcases q with ⟨j, j1, j2, ej⟩ | ⟨j, j1, j2, ej⟩
        · rw [← ej]; exact Int.le_trans (s1 j (sb - 1) (by omega) (by omega) (by omega)) (b2 v cv2 hv)
        · rw [← ej]; exact s2 j v j1 (by omega) hv
      · obtain ⟨p', _, gp', ep', _⟩ := mid v (by omega) (by omega)
        rw [ep']
        by_cases ceq : u = v
        · subst ceq
          rw [gp] at gp'
          cases gp'
          exact Int.le_refl _
        · obtain ⟨q1, q2⟩ := List.getElem?_eq_some_iff.mp gp
          obtain ⟨q3, q4⟩ := List.getElem?_eq_some_iff.mp gp'
          have := List.pairwise_iff_getElem.mp hr.2 _ _ q1 q3 (by omega)
          rw [q2, q4] at this
          exact this
section
variable {prog : Program} {w : World} {A : Around} {E : Value → Shared → Prop} {s : Shared} {a₀ : Array Keyed}
theorem wpS_set {st st' : SortSt} {Q : PUnit → SortSt → Prop} (h : Q ⟨⟩ st') : wpS (model prog w) A E s (set st' : StateT SortSt Sem PUnit) Q st := by
  unfold wpS; rw [StateT.run_set]; exact wpAny_pure ⟨rfl, h⟩
/-- what a merge leaves -/
def Merged (a₀ : Array Keyed) (st : SortSt) (i sa na pw sb nb : Nat) (st' : SortSt) : Prop :=
  SB a₀ st' ∧ pendingOf st' = ((pendingOf st).setIfInBounds i (sa, na + nb, pw)).eraseIdxIfInBounds (i + 1) ∧ SortedOn (arrOf st') sa (sb + nb) ∧ ∀ j, (j < sa ∨ sb + nb ≤ j) → K (arrOf st') j = K (arrOf st) j
theorem wpS_mergeAt {st : SortSt} {Q : Bool → SortSt → Prop} {i sa na pw sb nb pw2 : Nat} (h0 : IntKeys a₀) (hB : SB a₀ st) (e1 : (pendingOf st)[i]? = some (sa, na, pw)) (e2 : (pendingOf st)[i + 1]? = some (sb, nb, pw2))
    (hsb : sb = sa + na) (hna : 1 ≤ na) (hnb : 1 ≤ nb) (hz : sb + nb ≤ a₀.size) (s1 : SortedOn (arrOf st) sa sb) (s2 : SortedOn (arrOf st) sb (sb + nb))
    (h : ∀ st', Merged a₀ st i sa na pw sb nb st' → Q true st') : wpS (model prog w) A E s (mergeAt' i) Q st := by
  refine wpS_bind (wpS_get ?_)
  have hsz := hB.size
  have ka := hB.ints h0
  rw [e1, e2]
  refine wpS_bind (wpS_set ?_)
  have ga : ∀ i (z : i < (arrOf st).size), (arrOf st)[i]? = some (arrOf st)[i] ∧ IntK (arrOf st)[i] := fun i z => ⟨getElem?_pos (arrOf st) i z, ka _ (by simp)⟩
  have l1 : sb < (arrOf st).size := by omega
  have q1 : sa + na ≤ (arrOf st).size := by omega
  have q2 : sb + nb ≤ (arrOf st).size := by omega
  refine wpS_bind (wpS_elem (ga sb l1).1 (wpS_bind (wpS_gallop hB.kind (ga sb l1).2 ka q1 (by omega) (bey_monoS q1 (by rw [← hsb]; exact s1)) fun k lk b1 b2 => ?_)))
  dsimp only
  have c1 : ∀ j, sa ≤ j → j < sa + k → K (arrOf st) j ≤ K (arrOf st) sb := fun j j1 j2 => by
    have hj : j < (arrOf st).size := by omega
    rw [K_at (ga j hj).1, K_at (ga sb l1).1]
    exact bey_true (b1 (j - sa) (by omega)) (by rw [show sa + (j - sa) = j by omega]; exact (ga j hj).1)
  by_cases hn : na - k = 0
  · rw [if_pos (beq_iff_eq.mpr hn)]
    refine wpS_pure (h _ ⟨⟨hB.perm, hB.kind, hB.failed⟩, rfl, ?_, fun _ _ => rfl⟩)
    intro u v hu huv hv
    by_cases cv : v < sb
    · exact s1 u v hu huv cv
    · by_cases cu : u < sb
      · exact Int.le_trans (c1 u hu (by omega)) (s2 sb v (Nat.le_refl _) (by omega) hv)
      · exact s2 u v (by omega) huv hv
  rw [if_neg (fun z => hn (beq_iff_eq.mp z))]
  have l2 : sa + k + (na - k) - 1 < (arrOf st).size := by omega
  have el : sa + k + (na - k) - 1 = sb - 1 := by omega
  refine wpS_bind (wpS_elem (ga _ l2).1 (wpS_bind (wpS_gallop hB.kind (ga _ l2).2 ka q2 (by omega) (bey_monoS q2 s2) fun m lm d1 d2 => ?_)))
  dsimp only
  have c2 : ∀ j, sb + m ≤ j → j < sb + nb → K (arrOf st) (sb - 1) ≤ K (arrOf st) j := fun j j1 j2 => by
    have hj : j < (arrOf st).size := by omega
    rw [← el, K_at (ga _ l2).1, K_at (ga j hj).1]
    exact bey_false (d2 (j - sb) (by omega) (by omega)) (by rw [show sb + (j - sb) = j by omega]; exact (ga j hj).1)
  by_cases hm : m = 0
  · rw [if_pos (beq_iff_eq.mpr hm)]
    refine wpS_pure (h _ ⟨⟨hB.perm, hB.kind, hB.failed⟩, rfl, ?_, fun _ _ => rfl⟩)
    intro u v hu huv hv
    by_cases cv : v < sb
    · exact s1 u v hu huv cv
    · by_cases cu : u < sb
      · exact Int.le_trans (s1 u (sb - 1) hu (by omega) (by omega)) (c2 v (by omega) hv)
      · exact s2 u v (by omega) huv hv
  rw [if_neg (fun z => hm (beq_iff_eq.mp z))]
  have kx : ∀ p ∈ ((arrOf st).extract (sa + k) sb).toList, IntK p := fun p hp => by
    obtain ⟨j, _, _, ej⟩ := ext_mem (by omega) hp
    obtain ⟨q1, q2⟩ := Array.getElem?_eq_some_iff.mp ej
    rw [← q2]; exact (ga j q1).2
  have ky : ∀ p ∈ ((arrOf st).extract sb (sb + m)).toList, IntK p := fun p hp => by
    obtain ⟨j, _, _, ej⟩ := ext_mem (by omega) hp
    obtain ⟨q1, q2⟩ := Array.getElem?_eq_some_iff.mp ej
    rw [← q2]; exact (ga j q1).2
  have sx := ext_srt (a := arrOf st) (i := sa + k) (j := sb) (by omega) (fun u v h1 h2 h3 => s1 u v (by omega) h2 h3)
  have sy := ext_srt (a := arrOf st) (i := sb) (j := sb + m) (by omega) (fun u v h1 h2 h3 => s2 u v h1 h2 (by omega))
  have zx : ((arrOf st).extract (sa + k) sb).size = sb - (sa + k) := ext_size (by omega)
  have zy : ((arrOf st).extract sb (sb + m)).size = m := by rw [ext_size (by omega)]; omega
  have p1 : ∀ x, ((arrOf st).extract sb (sb + m))[0]? = some x → ∀ y ∈ ((arrOf st).extract (sa + k) sb).toList, Le x y := fun x ex y hy => by
    rw [ext_at (by omega) (by omega), Nat.add_zero, (ga sb l1).1] at ex
    cases ex
    obtain ⟨j, j1, j2, ej⟩ := ext_mem (by omega) hy
    exact bey_false (b2 (j - sa) (by omega) (by omega)) (by rw [show sa + (j - sa) = j by omega]; exact ej)
  have p2 : ∀ x, ((arrOf st).extract (sa + k) sb)[((arrOf st).extract (sa + k) sb).size - 1]? = some x → ∀ y ∈ ((arrOf st).extract sb (sb + m)).toList, Le y x := fun x ex y hy => by
    rw [zx, ext_at (by omega) (by omega), show sa + k + (sb - (sa + k) - 1) = sa + k + (na - k) - 1 by omega, (ga _ l2).1] at ex
    cases ex
    obtain ⟨j, j1, j2, ej⟩ := ext_mem (by omega) hy
    exact bey_true (d1 (j - sb) (by omega)) (by rw [show sb + (j - sb) = j by omega]; exact ej)
  have fin : ∀ (r : Array Keyed) (st' : SortSt), Mgd Le ((arrOf st).extract (sa + k) sb).toList ((arrOf st).extract sb (sb + m)).toList r.toList →
      SameS (SortSt.mk' (kindOf st) (arrOf st) (((pendingOf st).setIfInBounds i (sa, na + nb, pw)).eraseIdxIfInBounds (i + 1)) (gallopOf st) (failedOf st)) st' →
      Merged a₀ st i sa na pw sb nb (SortSt.mk' (kindOf st') (layIn (arrOf st') (sa + k) (r.toList.zipIdx 0)) (pendingOf st') (gallopOf st') (failedOf st')) := fun r st' hr S => by
    have lr : r.toList.length = sb + m - (sa + k) := by
      rw [hr.1.length_eq, List.length_append, Array.length_toList, Array.length_toList, zx, zy]; omega
    have ea : arrOf st' = arrOf st := S.arr
    have hz2 := layIn_at (sa + k) r.toList 0 (arrOf st) (by omega)
    refine ⟨⟨?_, S.kind.trans hB.kind, S.failed.trans hB.failed⟩, S.pend, ?_, fun j hj => ?_⟩
    · show (layIn (arrOf st') (sa + k) (r.toList.zipIdx 0)).Perm a₀
      rw [ea]
      refine (layIn_perm (by omega) (hr.1.trans ?_)).trans hB.perm
      rw [lr, ← ext_mid, show sa + k + (sb + m - (sa + k)) = sb + m by omega]
      have : ((arrOf st).extract (sa + k) sb).toList ++ ((arrOf st).extract sb (sb + m)).toList = ((arrOf st).extract (sa + k) (sb + m)).toList := by
        rw [← Array.toList_append, Array.extract_append_extract]
        congr 2 <;> omega
      rw [this]
    · show SortedOn (layIn (arrOf st') (sa + k) (r.toList.zipIdx 0)) sa (sb + nb)
      rw [ea]
      refine mid_sorted (r := r.toList) (by omega) (by omega) (by omega) (by omega) s1 s2 c1 c2 hr fun u => ?_
      have := hz2 u
      rw [Nat.add_zero] at this
      exact this
    · show K (layIn (arrOf st') (sa + k) (r.toList.zipIdx 0)) j = _
      rw [ea]
      refine K_congr ?_
      rw [hz2 j, if_neg (by omega)]
  have z1 : 1 ≤ ((arrOf st).extract (sa + k) sb).size := by omega
  have z2 : 1 ≤ ((arrOf st).extract sb (sb + m)).size := by omega
  by_cases hle : na - k ≤ m
  · rw [if_pos hle]
    refine wpS_bind (wpS_mergeLo hB.kind kx ky sx sy z1 z2 p1 p2 fun r st' hr S => ?_)
    refine wpS_bind (wpS_modify (wpS_bind (wpS_get ?_)))
    have hM := fin r st' hr S
    have hQ := h _ hM
    have ht : (failedOf st').isNone = true := by rw [S.failed.trans hB.failed]; rfl
    rw [← ht] at hQ
    exact wpS_pure hQ
  · rw [if_neg hle]
    refine wpS_bind (wpS_mergeHi hB.kind kx ky sx sy z1 z2 p1 p2 fun r st' hr S => ?_)
    refine wpS_bind (wpS_modify (wpS_bind (wpS_get ?_)))
    have hM := fin r st' hr S
    have hQ := h _ hM
    have ht : (failedOf st').isNone = true := by rw [S.failed.trans hB.failed]; rfl
    rw [← ht] at hQ
    exact wpS_pure hQ
end
end L2

set_option Elab.async false
set_option linter.all false
set_option maxRecDepth 100000
namespace L2
open PySem PySem.Spec PyProof.Rows

/-! ### runs counted and made -/
structure Went (a₀ : Array Keyed) (st : SortSt) (lo hi : Nat) (st' : SortSt) : Prop where
  base : SB a₀ st'
  pend : pendingOf st' = pendingOf st
  out : ∀ j, (j < lo ∨ hi ≤ j) → K (arrOf st') j = K (arrOf st) j
theorem Went.refl {a₀ : Array Keyed} {st : SortSt} {lo hi : Nat} (h : SB a₀ st) : Went a₀ st lo hi st := ⟨h, rfl, fun _ _ => rfl⟩
theorem Went.trans {a₀ : Array Keyed} {st st1 st2 : SortSt} {lo hi : Nat} (h : Went a₀ st lo hi st1) (h' : Went a₀ st1 lo hi st2) : Went a₀ st lo hi st2 :=
  ⟨h'.base, h'.pend.trans h.pend, fun j hj => (h'.out j hj).trans (h.out j hj)⟩
def FallOn (xs : Array Keyed) (i j : Nat) : Prop := ∀ u v, i ≤ u → u ≤ v → v < j → K xs v ≤ K xs u
theorem FallOn.eq {xs ys : Array Keyed} {i j : Nat} (h : FallOn xs i j) (e : ∀ k, K ys k = K xs k) : FallOn ys i j := fun u v a b c => by rw [e, e]; exact h u v a b c
theorem FallOn.snoc {xs : Array Keyed} {i j : Nat} (h : FallOn xs i j) (hij : i < j) (e : K xs j ≤ K xs (j - 1)) : FallOn xs i (j + 1) := fun u v a b c => by
  by_cases cv : v < j
  · exact h u v a b cv
  · obtain rfl : v = j := by omega
    by_cases cu : u = v
    · subst cu; exact Int.le_refl _
    · exact Int.le_trans e (h u (v - 1) a (by omega) (by omega))
section
variable {prog : Program} {w : World} {A : Around} {E : Value → Shared → Prop} {s : Shared} {a₀ : Array Keyed}
theorem wpS_ltB {st : SortSt} {i j : Nat} {Q : Option Bool → SortSt → Prop} (hB : SB a₀ st) (h0 : PyProof.Rows.IntKeys a₀) (hi : i < a₀.size) (hj : j < a₀.size)
    (h : Q (some (decide (K (arrOf st) i < K (arrOf st) j))) st) : wpS (model prog w) A E s (ltAt' i j) Q st := by
  have hz := hB.size
  have e1 : (arrOf st)[i]? = some ((arrOf st)[i]'(by omega)) := getElem?_pos (arrOf st) i (by omega)
  have e2 : (arrOf st)[j]? = some ((arrOf st)[j]'(by omega)) := getElem?_pos (arrOf st) j (by omega)
  rw [K_at e1, K_at e2] at h
  refine wpS_bind (wpS_get ?_)
  exact wpS_bind (wpS_elem e1 (wpS_bind (wpS_elem e2 (wpS_lt hB.kind (hB.ints h0 _ (by simp)) (hB.ints h0 _ (by simp)) h))))
theorem wpS_rev {st : SortSt} {i j : Nat} {Q : Unit → SortSt → Prop} (hB : SB a₀ st) (hj : j ≤ a₀.size)
    (h : ∀ st', SB a₀ st' → pendingOf st' = pendingOf st → (∀ k, K (arrOf st') k = if i ≤ k ∧ k < j then K (arrOf st) (i + j - 1 - k) else K (arrOf st) k) → Q () st') :
    wpS (model prog w) A E s (reverseSlice' i j) Q st := by
  refine wpS_modify (h _ ⟨(mirror_perm _ _ _ _).trans hB.perm, hB.kind, hB.failed⟩ rfl fun k => ?_)
  exact (K_mirror (by rw [hB.size]; exact hj) k)
theorem wpS_count {st : SortSt} {lo nrem : Nat} {Q : Option Nat → SortSt → Prop} (h0 : PyProof.Rows.IntKeys a₀) (hn : lo + nrem ≤ a₀.size) (h1 : 1 ≤ nrem) (hB : SB a₀ st)
    (h : ∀ m st', Went a₀ st lo (lo + nrem) st' → 1 ≤ m → m ≤ nrem → SortedOn (arrOf st') lo (lo + m) → Q (some m) st') :
    wpS (model prog w) A E s (countRun' lo nrem) Q st := by
  have asc : ∀ (f : Nat → Option (Option Nat) × Nat → StateT SortSt Sem (ForInStep (Option (Option Nat) × Nat))) (st1 : SortSt) (n : Nat), 1 ≤ n → n ≤ nrem → SB a₀ st1 → SortedOn (arrOf st1) lo (lo + n) →
      (∀ x m, 1 ≤ m → m < nrem → ∀ Q', Q' (if K (arrOf st1) (lo + m) < K (arrOf st1) (lo + m - 1) then ForInStep.done (none, m) else ForInStep.yield (none, m + 1)) st1 → wpS (model prog w) A E s (f x (none, m)) Q' st1) →
      wpS (model prog w) A E s (forIn [n:nrem] (none, n) f) (fun c st' => st' = st1 ∧ ∃ m, c = (none, m) ∧ n ≤ m ∧ m ≤ nrem ∧ SortedOn (arrOf st1) lo (lo + m) ∧ (m = nrem ∨ K (arrOf st1) (lo + m) < K (arrOf st1) (lo + m - 1))) st1 := by
    intro f st1 n n1 n2 B1 hs hf
    refine wpS_forRange (I := fun x c st' => st' = st1 ∧ c = (none, x) ∧ SortedOn (arrOf st1) lo (lo + x)) ?_ ?_ ⟨rfl, rfl, hs⟩
    · rintro x c st' x1 x2 ⟨rfl, rfl, hs'⟩
      refine hf x x (by omega) x2 _ ?_
      by_cases hl : K (arrOf st') (lo + x) < K (arrOf st') (lo + x - 1)
      · rw [if_pos hl]
        exact ⟨rfl, x, rfl, x1, by omega, hs', .inr hl⟩
      · rw [if_neg hl]
        refine ⟨rfl, rfl, fun u v u1 uv v1 => ?_⟩
        by_cases c : v < lo + x
        · exact hs' u v u1 uv c
        · obtain rfl : v = lo + x := by omega
          by_cases e : u = lo + x
          · subst e; exact Int.le_refl _
          · exact Int.le_trans (hs' u (lo + x - 1) u1 (by omega) (by omega)) (Int.not_lt.mp hl)
    · rintro c st' ⟨rfl, rfl, hs'⟩
      rw [show max n nrem = nrem by omega] at hs' ⊢
      exact ⟨rfl, nrem, rfl, n2, Nat.le_refl _, hs', .inl rfl⟩
  refine wpS_bind (wpS_mono (asc _ st 1 (Nat.le_refl _) h1 hB ?_ ?_) ?_)
  · intro u v u1 uv v1
    obtain rfl : u = v := by omega
    exact Int.le_refl _
  · intro x m m1 m2 Q' q
    refine wpS_bind (wpS_ltB hB h0 (by omega) (by omega) ?_)
    dsimp only
    by_cases hl : K (arrOf st) (lo + m) < K (arrOf st) (lo + m - 1)
    · rw [if_pos hl] at q
      rw [if_pos (decide_eq_true hl)]
      exact wpS_pure q
    · rw [if_neg hl] at q
      rw [if_neg (fun z => hl (of_decide_eq_true z))]
      exact wpS_pure q
  · rintro c st' ⟨rfl, n, rfl, n1, n2, hs, hor⟩
    dsimp only
    by_cases hnn : n = nrem
    · rw [if_pos (beq_iff_eq.mpr hnn)]
      exact wpS_pure (h n _ (.refl hB) n1 n2 hs)
    rw [if_neg (fun z => hnn (beq_iff_eq.mp z))]
    have hlt := hor.resolve_left hnn
    refine (fun (J1 : ∀ st1 : SortSt, Went a₀ st' lo (lo + nrem) st1 → FallOn (arrOf st1) lo (lo + (n + 1)) → (?B1 : SortSt → Prop) st1) => ?main1) ?pf1
    case main1 =>
      by_cases hgt : n > 1
      · rw [if_pos hgt]
        refine wpS_bind (wpS_ltB hB h0 (by omega) (by omega) ?_)
        dsimp only
        by_cases hrose : K (arrOf st') lo < K (arrOf st') (lo + n - 1)
        · rw [if_pos (decide_eq_true hrose)]
          exact wpS_pure (h n _ (.refl hB) n1 n2 hs)
        rw [if_neg (fun z => hrose (of_decide_eq_true z))]
        refine wpS_bind (wpS_rev hB (by omega) fun st1 B1 P1 k1 => ?_)
        have all : ∀ k, lo ≤ k → k < lo + n → K (arrOf st') k = K (arrOf st') lo := fun k q1 q2 => by
          have a1 := hs lo k (Nat.le_refl _) q1 q2
          have a2 := hs k (lo + n - 1) q1 (by omega) (by omega)
          omega
        have kk : ∀ k, K (arrOf st1) k = K (arrOf st') k := fun k => by
          rw [k1 k]
          by_cases c : lo ≤ k ∧ k < lo + n
          · rw [if_pos c, all _ (by omega) (by omega), all k c.1 c.2]
          · rw [if_neg c]
        have W1 : Went a₀ st' lo (lo + nrem) st1 := ⟨B1, P1, fun j _ => kk j⟩
        have N1 : FallOn (arrOf st1) lo (lo + (n + 1)) := by
          refine FallOn.eq ?_ kk
          exact FallOn.snoc (j := lo + n) (fun u v a b c => by rw [all u a (by omega), all v (by omega) c]; exact Int.le_refl _) (by omega) (Int.le_of_lt hlt)
        exact J1 st1 W1 N1
      · rw [if_neg hgt]
        have W1 : Went a₀ st' lo (lo + nrem) st' := .refl hB
        have N1 : FallOn (arrOf st') lo (lo + (n + 1)) := by
          exact FallOn.snoc (j := lo + n) (fun u v a b c => by
            obtain rfl : u = v := by omega
            exact Int.le_refl _) (by omega) (Int.le_of_lt hlt)
        exact J1 st' W1 N1
    intro st1 W1 N1
    refine wpS_bind (wpS_lift (wpAny_rule ⟨rfl, ?_⟩))
    refine wpS_bind (wpS_mono (wpS_forRange (I := fun x c st2 => ∃ neq, c = (none, x, neq) ∧ Went a₀ st' lo (lo + nrem) st2 ∧ FallOn (arrOf st2) lo (lo + x) ∧ neq + 1 ≤ x ∧ ∀ i, lo + x - (neq + 1) ≤ i → i < lo + x → K (arrOf st2) i = K (arrOf st2) (lo + x - 1))
      (Q := fun c st2 => ∃ x neq, c = (none, x, neq) ∧ 1 ≤ x ∧ x ≤ nrem ∧ Went a₀ st' lo (lo + nrem) st2 ∧ FallOn (arrOf st2) lo (lo + x) ∧ neq + 1 ≤ x ∧ ∀ i, lo + x - (neq + 1) ≤ i → i < lo + x → K (arrOf st2) i = K (arrOf st2) (lo + x - 1)) ?dstep ?dfin ⟨0, rfl, W1, N1, by omega, fun i q1 q2 => by congr 1; omega⟩) ?dpost)
    case dfin =>
      rintro c st2 ⟨neq, rfl, W2, N2, q1, q2⟩
      rw [show max (n + 1) nrem = nrem by omega] at N2 q1 q2 ⊢
      exact ⟨nrem, neq, rfl, h1, Nat.le_refl _, W2, N2, q1, q2⟩
    case dstep =>
      rintro x c st2 x1 x2 ⟨neq, rfl, W2, N2, q1, q2⟩
      dsimp only
      refine wpS_bind (wpS_ltB W2.base h0 (by omega) (by omega) ?_)
      dsimp only
      by_cases hl : K (arrOf st2) (lo + x) < K (arrOf st2) (lo + x - 1)
      · rw [if_pos (decide_eq_true hl)]
        have N3 := N2.snoc (by omega) (Int.le_of_lt hl)
        by_cases hq : neq > 0
        · rw [if_pos hq]
          refine wpS_bind (wpS_rev W2.base (by omega) fun st3 B3 P3 k3 => ?_)
          have kk : ∀ k, K (arrOf st3) k = K (arrOf st2) k := fun k => by
            rw [k3 k]
            by_cases c : lo + x - (neq + 1) ≤ k ∧ k < lo + x
            · rw [if_pos c, q2 _ (by omega) (by omega), q2 k c.1 c.2]
            · rw [if_neg c]
          exact wpS_pure ⟨0, rfl, W2.trans ⟨B3, P3, fun j _ => kk j⟩, N3.eq kk, by omega, fun i z1 z2 => by congr 1; omega⟩
        · rw [if_neg hq]
          exact wpS_pure ⟨0, rfl, W2, N3, by omega, fun i z1 z2 => by congr 1; omega⟩
      · rw [if_neg (fun z => hl (of_decide_eq_true z))]
        refine wpS_bind (wpS_ltB W2.base h0 (by omega) (by omega) ?_)
        dsimp only
        by_cases hg : K (arrOf st2) (lo + x - 1) < K (arrOf st2) (lo + x)
        · rw [if_pos (decide_eq_true hg)]
          exact wpS_pure ⟨x, neq, rfl, by omega, by omega, W2, N2, q1, q2⟩
        · rw [if_neg (fun z => hg (of_decide_eq_true z))]
          have he : K (arrOf st2) (lo + x) = K (arrOf st2) (lo + x - 1) := by omega
          refine wpS_pure ⟨neq + 1, rfl, W2, N2.snoc (by omega) (by omega), by omega, fun i z1 z2 => ?_⟩
          rw [show lo + (x + 1) - 1 = lo + x by omega]
          by_cases c : i = lo + x
          · rw [c]
          · rw [he]; exact q2 i (by omega) (by omega)
    case dpost =>
      rintro c st2 ⟨x, neq, rfl, x1, x2, W2, N2, q1, q2⟩
      dsimp only
      refine (fun (J2 : ∀ st3 : SortSt, Went a₀ st' lo (lo + nrem) st3 → FallOn (arrOf st3) lo (lo + x) → (?B2 : SortSt → Prop) st3) => ?main2) ?pf2
      case main2 =>
        by_cases hq : neq > 0
        · rw [if_pos hq]
          refine wpS_bind (wpS_rev W2.base (by omega) fun st3 B3 P3 k3 => ?_)
          have kk : ∀ k, K (arrOf st3) k = K (arrOf st2) k := fun k => by
            rw [k3 k]
            by_cases c : lo + x - (neq + 1) ≤ k ∧ k < lo + x
            · rw [if_pos c, q2 _ (by omega) (by omega), q2 k c.1 c.2]
            · rw [if_neg c]
          have W3 := W2.trans ⟨B3, P3, fun j _ => kk j⟩
          have N3 := N2.eq kk
          exact J2 st3 W3 N3
        · rw [if_neg hq]
          have W3 := W2
          have N3 := N2
          exact J2 st2 W3 N3
      intro st3 W3 N3
      refine wpS_bind (wpS_rev W3.base (by omega) fun st4 B4 P4 k4 => ?_)
      have W4 := W3.trans ⟨B4, P4, fun j hj => by rw [k4 j, if_neg (by omega)]⟩
      refine wpS_bind (wpS_mono (asc _ st4 x x1 x2 B4 ?_ ?_) ?_)
      · intro u v u1 uv v1
        rw [k4, k4, if_pos (by omega), if_pos (by omega)]
        exact N3 _ _ (by omega) (by omega) (by omega)
      · intro y m m1 m2 Q' q
        refine wpS_bind (wpS_ltB B4 h0 (by omega) (by omega) ?_)
        dsimp only
        by_cases hl : K (arrOf st4) (lo + m) < K (arrOf st4) (lo + m - 1)
        · rw [if_pos hl] at q
          rw [if_pos (decide_eq_true hl)]
          exact wpS_pure q
        · rw [if_neg hl] at q
          rw [if_neg (fun z => hl (of_decide_eq_true z))]
          exact wpS_pure q
      · rintro c st5 ⟨rfl, m, rfl, m1, m2, hs5, _⟩
        exact wpS_pure (h m _ W4 (by omega) m2 hs5)
theorem wpS_binary {st : SortSt} {lo n ok : Nat} {Q : Bool → SortSt → Prop} (h0 : PyProof.Rows.IntKeys a₀) (hn : lo + n ≤ a₀.size) (hok : ok ≤ n) (hok1 : 1 ≤ ok) (hB : SB a₀ st) (hs : SortedOn (arrOf st) lo (lo + ok))
    (h : ∀ st', Went a₀ st lo (lo + n) st' → SortedOn (arrOf st') lo (lo + n) → Q true st') : wpS (model prog w) A E s (binarySort' lo n ok) Q st := by
  refine wpS_bind (wpS_mono (wpS_forRange (I := fun k c st' => c = (none, ()) ∧ Went a₀ st lo (lo + n) st' ∧ SortedOn (arrOf st') lo (lo + k))
    (Q := fun c st' => c = (none, ()) ∧ Went a₀ st lo (lo + n) st' ∧ SortedOn (arrOf st') lo (lo + n)) ?step ?fin ⟨rfl, .refl hB, by rw [show max ok 1 = ok by omega]; exact hs⟩) ?post)
  case post =>
    rintro c st' ⟨rfl, W, hs'⟩
    exact wpS_pure (h st' W hs')
  case fin =>
    rintro c st' ⟨hc, W, hs'⟩
    refine ⟨hc, W, ?_⟩
    rwa [show max (max ok 1) n = n by omega] at hs'
  case step =>
    rintro k c st' hak hkn ⟨rfl, W, hs'⟩
    dsimp only
    refine wpS_bind (wpS_mono (wpS_forRange (I := fun x c st'' => st'' = st' ∧ ∃ l r, c = (none, l, r) ∧ l ≤ r ∧ r ≤ k ∧ r - l ≤ k - x ∧
        (∀ i, i < l → K (arrOf st') (lo + i) ≤ K (arrOf st') (lo + k)) ∧ (∀ i, r ≤ i → i < k → K (arrOf st') (lo + k) < K (arrOf st') (lo + i)))
      (Q := fun c st'' => st'' = st' ∧ ∃ l, c = (none, l, l) ∧ l ≤ k ∧
        (∀ i, i < l → K (arrOf st') (lo + i) ≤ K (arrOf st') (lo + k)) ∧ (∀ i, l ≤ i → i < k → K (arrOf st') (lo + k) < K (arrOf st') (lo + i))) ?istep ?ifin
        ⟨rfl, 0, k, rfl, by omega, by omega, by omega, fun i hi => by omega, fun i h1 h2 => by omega⟩) ?ipost)
    case ifin =>
      rintro c st'' ⟨rfl, l, r, rfl, a1, a2, a3, a4, a5⟩
      obtain rfl : l = r := by omega
      exact ⟨rfl, l, rfl, a2, a4, a5⟩
    case istep =>
      rintro x c st'' _ hx ⟨rfl, l, r, rfl, a1, a2, a3, a4, a5⟩
      dsimp only
      by_cases hge : l ≥ r
      · rw [if_pos hge]
        obtain rfl : l = r := by omega
        exact wpS_pure ⟨rfl, l, rfl, a2, a4, a5⟩
      rw [if_neg hge]
      refine wpS_bind (wpS_ltB W.base h0 (by omega) (by omega) ?_)
      dsimp only
      by_cases hl : K (arrOf st'') (lo + k) < K (arrOf st'') (lo + (l + r) / 2)
      · rw [if_pos (decide_eq_true hl)]
        exact wpS_pure ⟨rfl, l, (l + r) / 2, rfl, by omega, by omega, by omega, a4, fun i h1 h2 => Int.lt_of_lt_of_le hl (hs' _ _ (by omega) (by omega) (by omega))⟩
      · rw [if_neg (fun z => hl (of_decide_eq_true z))]
        exact wpS_pure ⟨rfl, (l + r) / 2 + 1, r, rfl, by omega, by omega, by omega, fun i h1 => Int.le_trans (hs' _ (lo + (l + r) / 2) (by omega) (by omega) (by omega)) (Int.not_lt.mp hl), a5⟩
    case ipost =>
      rintro c st'' ⟨rfl, l, rfl, a2, a4, a5⟩
      dsimp only
      have hks : lo + k < (arrOf st'').size := by rw [W.base.size]; omega
      have kb := fun j => K_bubble (xs := arrOf st'') (src := lo + k) (d := lo + k - (lo + l)) hks (by omega) j
      rw [show lo + k - (lo + k - (lo + l)) = lo + l by omega] at kb
      refine wpS_bind (wpS_modify (wpS_pure ⟨rfl, W.trans ⟨⟨(bubble_perm _ _ _).trans W.base.perm, W.base.kind, W.base.failed⟩, rfl, fun j hj => ?_⟩, ?_⟩))
      · refine (kb j).trans ?_
        rw [if_neg (by omega), if_neg (by omega)]
      · intro u v u1 uv v1
        show K (bubble (arrOf st'') (lo + k) (lo + k - (lo + l))) u ≤ K (bubble (arrOf st'') (lo + k) (lo + k - (lo + l))) v
        have lo1 : ∀ j, lo ≤ j → j < lo + l → K (arrOf st'') j ≤ K (arrOf st'') (lo + k) := fun j j1 j2 => by
          have := a4 (j - lo) (by omega)
          rwa [show lo + (j - lo) = j by omega] at this
        have hi1 : ∀ j, lo + l ≤ j → j < lo + k → K (arrOf st'') (lo + k) < K (arrOf st'') j := fun j j1 j2 => by
          have := a5 (j - lo) (by omega) (by omega)
          rwa [show lo + (j - lo) = j by omega] at this
        rw [kb, kb]
        repeat' split
        all_goals first
          | (exfalso; omega)
          | exact Int.le_refl _
          | exact lo1 _ (by omega) (by omega)
          | exact Int.le_of_lt (hi1 _ (by omega) (by omega))
          | exact hs' _ _ (by omega) (by omega) (by omega)
end
end L2

set_option Elab.async false
set_option linter.all false
set_option maxRecDepth 100000
namespace L2
open PySem PySem.Spec PyProof.Rows

/-! ### all runs -/
def Cvr (xs : Array Keyed) : Nat → List (Nat × Nat × Nat) → Nat → Prop
  | s, [], e => s = e
  | s, t :: p, e => t.1 = s ∧ 1 ≤ t.2.1 ∧ SortedOn xs s (s + t.2.1) ∧ Cvr xs (s + t.2.1) p e
theorem Cvr.append {xs : Array Keyed} : ∀ {l r : List (Nat × Nat × Nat)} {s e : Nat}, Cvr xs s (l ++ r) e → ∃ m, Cvr xs s l m ∧ Cvr xs m r e
  | [], r, s, e, h => ⟨s, rfl, h⟩
  | t :: l, r, s, e, ⟨h1, h2, h3, h4⟩ => by
    obtain ⟨m, a, b⟩ := Cvr.append h4
    exact ⟨m, ⟨h1, h2, h3, a⟩, b⟩
theorem Cvr.join {xs : Array Keyed} : ∀ {l r : List (Nat × Nat × Nat)} {s m e : Nat}, Cvr xs s l m → Cvr xs m r e → Cvr xs s (l ++ r) e
  | [], r, s, m, e, h, h' => by
    have : s = m := h
    subst this; exact h'
  | t :: l, r, s, m, e, ⟨h1, h2, h3, h4⟩, h' => ⟨h1, h2, h3, Cvr.join h4 h'⟩
theorem Cvr.le {xs : Array Keyed} : ∀ {l : List (Nat × Nat × Nat)} {s e : Nat}, Cvr xs s l e → s + l.length ≤ e
  | [], s, e, h => by
    have : s = e := h
    subst this; simp
  | t :: l, s, e, ⟨h1, h2, h3, h4⟩ => by
    have := Cvr.le h4
    rw [List.length_cons]; omega
theorem Cvr.congr {xs ys : Array Keyed} : ∀ {l : List (Nat × Nat × Nat)} {s e : Nat}, (∀ j, s ≤ j → j < e → K ys j = K xs j) → Cvr xs s l e → Cvr ys s l e
  | [], s, e, _, h => h
  | t :: l, s, e, hk, ⟨h1, h2, h3, h4⟩ => by
    have := Cvr.le h4
    refine ⟨h1, h2, fun u v a b c => ?_, Cvr.congr (fun j j1 j2 => hk j (by omega) j2) h4⟩
    rw [hk u a (by omega), hk v (by omega) (by omega)]
    exact h3 u v a b c
theorem Cvr.same {xs : Array Keyed} : ∀ {l r : List (Nat × Nat × Nat)} {s e : Nat}, l.map (fun t => (t.1, t.2.1)) = r.map (fun t => (t.1, t.2.1)) → Cvr xs s l e → Cvr xs s r e
  | [], [], s, e, _, h => h
  | [], _ :: _, s, e, q, h => by cases q
  | _ :: _, [], s, e, q, h => by cases q
  | t :: l, t' :: r, s, e, q, ⟨h1, h2, h3, h4⟩ => by
    simp only [List.map_cons, List.cons.injEq, Prod.mk.injEq] at q
    obtain ⟨⟨q1, q2⟩, q3⟩ := q
    refine ⟨by rw [← q1]; exact h1, by rw [← q2]; exact h2, by rw [← q2]; exact h3, ?_⟩
    rw [← q2]
    exact Cvr.same q3 h4
theorem modify_same {α β : Type} {g : α → β} (f : α → α) (h : ∀ x, g (f x) = g x) : ∀ (l : List α) (i : Nat), (l.modify i f).map g = l.map g
  | [], _ => by simp
  | x :: l, 0 => by simp [h]
  | x :: l, i + 1 => by simp [modify_same f h l i]
theorem ite_less (c : Prop) [Decidable c] (n : Nat) : (if c then n - 2 - 1 else n - 2) ≤ n - 2 := by split <;> omega
theorem set_erase (l r : List (Nat × Nat × Nat)) (a b c : Nat × Nat × Nat) : ((l ++ a :: b :: r).set l.length c).eraseIdx (l.length + 1) = l ++ c :: r := by
  induction l with
  | nil => rfl
  | cons x l ih => simpa using ih
theorem two_of {p : List (Nat × Nat × Nat)} {i : Nat} (h : i + 1 < p.length) : ∃ l a b r, p = l ++ a :: b :: r ∧ l.length = i := by
  refine ⟨p.take i, p[i], p[i + 1], p.drop (i + 2), ?_, by simp; omega⟩
  rw [← List.drop_eq_getElem_cons (i := i + 1) h, ← List.drop_eq_getElem_cons (i := i) (by omega), List.take_append_drop]
section
variable {prog : Program} {w : World} {A : Around} {E : Value → Shared → Prop} {s : Shared} {a₀ : Array Keyed}
theorem wpS_mergeC {st : SortSt} {Q : Bool → SortSt → Prop} {i e : Nat} (h0 : PyProof.Rows.IntKeys a₀) (hB : SB a₀ st) (hc : Cvr (arrOf st) 0 (pendingOf st).toList e) (he : e ≤ a₀.size) (hi : i + 1 < (pendingOf st).size)
    (h : ∀ st', SB a₀ st' → Cvr (arrOf st') 0 (pendingOf st').toList e → (pendingOf st').size + 1 = (pendingOf st).size → (∀ j, e ≤ j → K (arrOf st') j = K (arrOf st) j) → Q true st') : wpS (model prog w) A E s (mergeAt' i) Q st := by
  obtain ⟨l, ta, tb, r, ep, hl⟩ := two_of (p := (pendingOf st).toList) (i := i) (by simpa using hi)
  obtain ⟨sa, na, pw⟩ := ta
  obtain ⟨sb, nb, pw2⟩ := tb
  have hc0 := hc
  rw [ep] at hc
  obtain ⟨m, c1, c2⟩ := hc.append
  obtain ⟨d1, d2, d3, d4, d5, d6, d7⟩ := c2
  simp only at d1 d2 d3 d4 d5 d6 d7
  have z := d7.le
  have e1 : (pendingOf st)[i]? = some (sa, na, pw) := by
    rw [← Array.getElem?_toList, ep, List.getElem?_append_right (by omega), hl, Nat.sub_self]; rfl
  have e2 : (pendingOf st)[i + 1]? = some (sb, nb, pw2) := by
    rw [← Array.getElem?_toList, ep, List.getElem?_append_right (by omega), hl, show i + 1 - i = 1 by omega]; rfl
  subst d1
  refine wpS_mergeAt h0 hB e1 e2 d4 d2 d5 (by omega) (by rw [d4]; exact d3) (by rw [d4]; exact d6) fun st' ⟨B', P', S', K'⟩ => h st' B' ?_ ?_ (fun j hj => K' j (.inr (by omega)))
  · rw [P', Array.toList_eraseIdxIfInBounds, Array.toList_setIfInBounds, ep, ← hl, set_erase]
    refine Cvr.join (m := sa) (c1.congr fun j j1 j2 => K' j (.inl j2)) ⟨rfl, Nat.le_trans d2 (Nat.le_add_right _ _), ?_, ?_⟩
    · show SortedOn (arrOf st') sa (sa + (na + nb))
      rw [show sa + (na + nb) = sb + nb by omega]
      exact S'
    · show Cvr (arrOf st') (sa + (na + nb)) r e
      rw [show sa + (na + nb) = sa + na + nb by omega]
      exact d7.congr fun j j1 j2 => K' j (.inr (by omega))
  · rw [← Array.length_toList, P', Array.toList_eraseIdxIfInBounds, Array.toList_setIfInBounds, ← Array.length_toList (xs := pendingOf st), ep, ← hl, set_erase]
    simp only [List.length_append, List.length_cons]; omega
theorem wpS_runs {st : SortSt} {Q : Unit → SortSt → Prop} (h0 : PyProof.Rows.IntKeys a₀) (hB : SBase a₀ st) (h2 : 2 ≤ a₀.size)
    (h : ∀ st', (arrOf st').Perm a₀ → failedOf st' = none → SortedTo (arrOf st') a₀.size → Q () st') : wpS (model prog w) A E s sortRuns' Q st := by
  have B0 : SB a₀ st := ⟨hB.perm, hB.kind, hB.failed⟩
  refine wpS_bind (wpS_get ?_)
  have hsz : (arrOf st).size = a₀.size := B0.size
  dsimp only
  rw [hsz]
  generalize hmr : (sortPriv% PySem.Builtin.minRun) a₀.size a₀.size 0 = mr
  refine wpS_bind (wpS_mono (wpS_forRange (I := fun x c st' => ∃ lo, c = (none, lo) ∧ SB a₀ st' ∧ Cvr (arrOf st') 0 (pendingOf st').toList lo ∧ lo ≤ a₀.size ∧ (x ≤ lo ∨ lo = a₀.size))
    (Q := fun c st' => ∃ lo, c = (none, lo) ∧ SB a₀ st' ∧ Cvr (arrOf st') 0 (pendingOf st').toList a₀.size) ?step ?fin ⟨0, rfl, B0, ?_, by omega, .inl (Nat.le_refl _)⟩) ?post)
  case step =>
    rintro x c st' _ hx ⟨lo, rfl, B, C, l1, l2⟩
    dsimp only
    by_cases hge : lo ≥ a₀.size
    · rw [if_pos hge]
      obtain rfl : lo = a₀.size := by omega
      exact wpS_pure ⟨_, rfl, B, C⟩
    rw [if_neg hge]
    refine wpS_bind (wpS_count h0 (by omega) (by omega) B fun m st1 W1 m1 m2 S1 => ?_)
    dsimp only
    have C1 : Cvr (arrOf st1) 0 (pendingOf st1).toList lo := by
      rw [W1.pend]
      exact C.congr fun j _ j2 => W1.out j (.inl j2)
    by_cases hmm : m < mr
    case' pos =>
      rw [if_pos hmm]
      refine wpS_bind (wpS_lift (wpAny_rule ⟨rfl, ?_⟩))
      refine wpS_bind (wpS_binary h0 (n := min (a₀.size - lo) mr) (by omega) (by omega) m1 W1.base S1 fun st2 W2 S2 => ?_)
      rw [if_neg (by decide)]
      have C2 : Cvr (arrOf st2) 0 (pendingOf st2).toList lo := by
        rw [W2.pend]
        exact C1.congr fun j _ j2 => W2.out j (.inl j2)
      have B2 := W2.base
      have n1 : 1 ≤ min (a₀.size - lo) mr := by omega
      have n2 : min (a₀.size - lo) mr ≤ a₀.size - lo := by omega
      generalize min (a₀.size - lo) mr = n at S2 n1 n2 ⊢
    case' neg =>
      rw [if_neg hmm]
      have S2 := S1
      have C2 := C1
      have B2 := W1.base
      have n1 := m1
      have n2 := m2
      generalize m = n at S2 n1 n2 ⊢
    all_goals
      refine wpS_bind (wpS_get ?_)
      have last : ∀ st3 : SortSt, SB a₀ st3 → Cvr (arrOf st3) 0 (pendingOf st3).toList lo → SortedOn (arrOf st3) lo (lo + n) → Cvr (arrOf st3) 0 ((pendingOf st3).push (lo, n, 0)).toList (lo + n) := fun st3 B3 C3 S3 => by
        rw [Array.toList_push]
        exact C3.join ⟨rfl, n1, S3, rfl⟩
      have fin : ∀ st3 : SortSt, SB a₀ st3 → Cvr (arrOf st3) 0 (pendingOf st3).toList lo → SortedOn (arrOf st3) lo (lo + n) →
          ∃ lo', (none, lo + n) = ((none : Option Unit), lo') ∧ SB a₀ (SortSt.mk' (kindOf st3) (arrOf st3) ((pendingOf st3).push (lo, n, 0)) (gallopOf st3) (failedOf st3)) ∧ Cvr (arrOf st3) 0 ((pendingOf st3).push (lo, n, 0)).toList lo' ∧ lo' ≤ a₀.size ∧ (x + 1 ≤ lo' ∨ lo' = a₀.size) := fun st3 B3 C3 S3 =>
        ⟨lo + n, rfl, ⟨B3.perm, B3.kind, B3.failed⟩, last st3 B3 C3 S3, by omega, by omega⟩
      cases hb : (pendingOf _).back? with
      | none =>
        exact wpS_bind (wpS_modify (wpS_pure (fin _ B2 C2 S2)))
      | some t =>
        obtain ⟨s1, k1, g1⟩ := t
        dsimp only
        refine wpS_bind (wpS_mono (wpS_forRange (I := fun _ c st3 => c = ((none : Option Unit), ()) ∧ SB a₀ st3 ∧ Cvr (arrOf st3) 0 (pendingOf st3).toList lo ∧ SortedOn (arrOf st3) lo (lo + n))
          (Q := fun c st3 => c = ((none : Option Unit), ()) ∧ SB a₀ st3 ∧ Cvr (arrOf st3) 0 (pendingOf st3).toList lo ∧ SortedOn (arrOf st3) lo (lo + n)) ?_ (fun _ _ q => q) ⟨rfl, B2, C2, S2⟩) ?_)
        · rintro y c st3 _ _ ⟨rfl, B3, C3, S3⟩
          refine wpS_bind (wpS_get ?_)
          by_cases hp : (pendingOf st3).size > 1
          · rw [if_pos hp]
            have ep : (pendingOf st3)[(pendingOf st3).size - 2]? = some ((pendingOf st3)[(pendingOf st3).size - 2]'(by omega)) := getElem?_pos (pendingOf st3) _ (by omega)
            rw [ep]
            generalize (pendingOf st3)[(pendingOf st3).size - 2]'(by omega) = t3
            obtain ⟨t31, t32, t33⟩ := t3
            dsimp only
            by_cases ho : t33 ≤ (sortPriv% PySem.Builtin.power) a₀.size (2 * s1 + k1) (2 * s1 + k1 + k1 + n) a₀.size
            · rw [if_pos ho]
              exact wpS_pure ⟨rfl, B3, C3, S3⟩
            · rw [if_neg ho]
              have hp2 : (pendingOf st3).size - 2 + 1 < (pendingOf st3).size := by omega
              refine wpS_bind (wpS_mergeC h0 B3 C3 l1 hp2 fun st4 B4 C4 _ K4 => ?_)
              rw [if_neg (by decide)]
              refine wpS_pure ⟨rfl, B4, C4, fun u v a b c => ?_⟩
              rw [K4 u (by omega), K4 v (by omega)]
              exact S3 u v a b c
          · rw [if_neg hp]
            exact wpS_pure ⟨rfl, B3, C3, S3⟩
        · rintro c st3 ⟨rfl, B3, C3, S3⟩
          dsimp only
          refine wpS_bind (wpS_modify ?_)
          have B4 : SB a₀ (SortSt.mk' (kindOf st3) (arrOf st3) ((pendingOf st3).modify ((pendingOf st3).size - 1) fun x => (x.1, x.2.1, (sortPriv% PySem.Builtin.power) a₀.size (2 * s1 + k1) (2 * s1 + k1 + k1 + n) a₀.size)) (gallopOf st3) (failedOf st3)) := ⟨B3.perm, B3.kind, B3.failed⟩
          refine wpS_bind (wpS_modify (wpS_pure (fin _ B4 ?_ S3)))
          refine Cvr.same ?_ C3
          show _ = ((pendingOf st3).modify _ _).toList.map _
          rw [Array.toList_modify]
          refine (modify_same (g := fun t : Nat × Nat × Nat => (t.1, t.2.1)) _ ?_ _ _).symm
          exact fun _ => rfl
  case fin =>
    rintro c st' ⟨lo, rfl, B, C, l1, l2⟩
    obtain rfl : lo = a₀.size := by omega
    exact ⟨_, rfl, B, C⟩
  case post =>
    rintro c st' ⟨lo, rfl, B, C⟩
    dsimp only
    have pz := C.le
    rw [Array.length_toList] at pz
    refine wpS_bind (wpS_mono (wpS_forRange (I := fun x c st2 => c = ((none : Option Unit), ()) ∧ SB a₀ st2 ∧ Cvr (arrOf st2) 0 (pendingOf st2).toList a₀.size ∧ ((pendingOf st2).size ≤ 1 ∨ (pendingOf st2).size + x ≤ a₀.size))
      (Q := fun c st2 => c = ((none : Option Unit), ()) ∧ SB a₀ st2 ∧ Cvr (arrOf st2) 0 (pendingOf st2).toList a₀.size ∧ (pendingOf st2).size ≤ 1) ?_ ?_ ⟨rfl, B, C, .inr (by omega)⟩) ?_)
    · rintro x c st2 _ hx ⟨rfl, B2, C2, q⟩
      refine wpS_bind (wpS_get ?_)
      by_cases hp : (pendingOf st2).size ≤ 1
      · rw [if_pos hp]
        exact wpS_pure ⟨rfl, B2, C2, hp⟩
      rw [if_neg hp]
      refine wpS_bind (wpS_mergeC h0 B2 C2 (Nat.le_refl _) ?_ fun st4 B4 C4 z4 K4 => ?_)
      · refine Nat.lt_of_le_of_lt (Nat.add_le_add_right (ite_less _ _) 1) ?_
        show (pendingOf st2).size - 2 + 1 < (pendingOf st2).size
        omega
      · rw [if_neg (by decide)]
        exact wpS_pure ⟨rfl, B4, C4, by omega⟩
    · rintro c st2 ⟨rfl, B2, C2, q⟩
      exact ⟨rfl, B2, C2, by omega⟩
    · rintro c st2 ⟨rfl, B2, C2, q⟩
      refine wpS_pure (h _ B2.perm B2.failed ?_)
      cases ep : (pendingOf st2).toList with
      | nil =>
        rw [ep] at C2
        have : 0 = a₀.size := C2
        omega
      | cons t r =>
        cases r with
        | cons _ _ =>
          have := congrArg List.length ep
          rw [Array.length_toList, List.length_cons, List.length_cons] at this
          omega
        | nil =>
          rw [ep] at C2
          obtain ⟨_, _, S2, e2⟩ := C2
          have e2 : 0 + t.2.1 = a₀.size := e2
          rw [e2] at S2
          exact fun i j a b => S2 i j (Nat.zero_le _) a b
  · show Cvr (arrOf st) 0 (pendingOf st).toList 0
    rw [hB.pend]
    rfl
end
end L2

set_option Elab.async false
set_option linter.all false
set_option maxRecDepth 100000
namespace L2
open PySem PySem.Spec PyProof.Rows

/-! ### sorted(..) of ints, however many -/
section
variable {prog : Program} {w : World} {A : Around} {E : Value → Shared → Prop} {s : Shared}
theorem sort_treeR {a : Addr} {vs : List Value} {ns : List Int} {n : Nat} {b : Bool} {P : Fin → Shared → Prop} (ho : s.heap.get? a = some (seqObj "list" vs.toArray n))
    (hI : IntsAre vs ns) (hz : vs.length ≤ sizeLine)
    (h : ∀ (out : Array Value) (ns' : List Int), IntsAre out.toList ns' → ns'.Perm ns → Ordered b ns' → P (.done (.ret .none)) { s with heap := sortedHeap s.heap a vs out }) :
    wpAny (model prog w) A (Builtin.«list.sort» ⟨[.ref a], [(Str.ofString "reverse", .bool b)]⟩) P E s := by
  by_cases h64 : vs.length < 64
  · exact list_sort_tree_rev ho hI h64 h
  have lv : vs.toArray.size = vs.length := by simp
  have zz : (vs.toArray.zip vs.toArray).size = vs.length := by rw [Array.size_zip, lv, Nat.min_self]
  have n2 : ¬ vs.toArray.size < 2 := by omega
  have ha : a < s.heap.objs.size := Heap.lt_size ho
  have big : vs.length ≤ sizeLine + 1 := Nat.le_succ_of_le hz
  obtain ⟨e1, ho1⟩ : ∃ e1, (s.heap.update a (Obj.mapSeq fun _ => #[])).get? a = some (seqObj "list" #[] e1) := ⟨_, get?_update_seq ho (fun _ => #[])⟩
  have ho6 : (((s.heap.update a (Obj.mapSeq fun _ => #[])).push (seqObj "tuple" vs.toArray 0)).push (seqObj "list" #[] 0)).get? a = some (seqObj "list" #[] e1) := by
    have q1 : a < (s.heap.update a (Obj.mapSeq fun _ => #[])).objs.size := by rw [Heap.size_update]; exact ha
    have q2 : a < ((s.heap.update a (Obj.mapSeq fun _ => #[])).push (seqObj "tuple" vs.toArray 0)).objs.size := by rw [size_push']; exact Nat.lt_succ_of_lt q1
    rw [Heap.get?_push_ne _ _ _ (Nat.ne_of_lt q2), Heap.get?_push_ne _ _ _ (Nat.ne_of_lt q1)]
    exact ho1
  have start : (if b = true then (vs.toArray.zip vs.toArray).reverse else vs.toArray.zip vs.toArray).Perm (pairsOf vs) := by
    cases b with
    | false => exact .refl _
    | true => exact Array.perm_iff_toList_perm.mpr (by rw [if_pos rfl, Array.toList_reverse]; exact List.reverse_perm _)
  rw [list_sort_rev]
  refine wpAny_bind (listItems_at ho rfl (wpAny_bind (listUpdate_at ho rfl (wpAny_bind (seqEpoch_at ho1 rfl (wpAny_bind (wpAny_newTuple (wpAny_bind (wpAny_newList (wpAny_holding ?_))))))))))
  have after : ∀ u : Sem Fin, wpAny (model prog w) A u P E { s with heap := ((s.heap.update a (Obj.mapSeq fun _ => #[])).push (seqObj "tuple" vs.toArray 0)).push (seqObj "list" #[] 0) } →
      wpAny (model prog w) A (if b = true then rule "list.sort.reverse" >>= fun _ => u else u) P E { s with heap := ((s.heap.update a (Obj.mapSeq fun _ => #[])).push (seqObj "tuple" vs.toArray 0)).push (seqObj "list" #[] 0) } := fun u hu => by
    cases b with
    | true => rw [if_pos rfl]; exact wpAny_bind (wpAny_rule hu)
    | false => rw [if_neg Bool.false_ne_true]; exact hu
  dsimp only
  refine after _ ?_
  rw [if_neg n2, if_neg n2]
  obtain ⟨v1, v2, r, rfl⟩ : ∃ v1 v2 r, vs = v1 :: v2 :: r := by
    match vs, h64 with
    | [], q => exact absurd (by decide) q
    | [_], q => exact absurd (by simp) q
    | v1 :: v2 :: r, _ => exact ⟨v1, v2, r, rfl⟩
  rw [keyKind_ints hI]
  refine wpAny_bind (wpAny_pure (wpAny_bind (wpAny_mono (wpS_runs (Q := fun _ st' => (arrOf st').Perm (pairsOf (v1 :: v2 :: r)) ∧ failedOf st' = none ∧ SortedTo (arrOf st') (pairsOf (v1 :: v2 :: r)).size)
    hI.intKeys ⟨start, rfl, rfl, rfl⟩ (by rw [pairsOf_size]; simp) fun st' a1 a2 a3 => ⟨a1, a2, a3⟩) (fun q s' hq => ?_) fun _ _ e => e)))
  obtain ⟨⟨⟩, st'⟩ := q
  obtain ⟨rfl, hp, hf, hs⟩ := hq
  dsimp only
  have sz : ((arrOf st').map (·.2)).size ≤ sizeLine + 1 := by
    rw [Array.size_map, hp.size_eq, pairsOf_size]; exact big
  refine wpAny_bind (seqEpoch_at ho6 rfl (wpAny_bind (listUpdate_at ho6 rfl ?_ (hsz2 := by
    cases b with
    | true => rw [if_pos rfl, Array.size_reverse]; exact sz
    | false => rw [if_neg Bool.false_ne_true]; exact sz))))
  rw [hf]
  simp only [bne_self_eq_false, Bool.false_eq_true, if_false]
  obtain ⟨ns', q1, q2, q3⟩ := sorted_out_rev hI hp hs b
  exact wpAny_pure (h _ ns' q1 q2 q3)
theorem sorted_collB {x : Value} {ns : List Int} {b : Bool} {Q : Value → Shared → Prop} (hz : ns.length ≤ sizeLine)
    (hc : ∀ (R : List Value → Shared → Prop), (∀ h' tk (vs : List Value), (∀ b o, s.heap.get? b = some o → h'.get? b = some o) → IntsAre vs ns → R vs { s with heap := h', toks := tk }) → wpAny (model prog w) A.in1 (collect x) R E s)
    (h : ∀ (out : List Value) (n : Nat) (h1 h' : Heap) (tk : Nat) (ns' : List Int), (∀ b o, s.heap.get? b = some o → h1.get? b = some o) → (∀ b o, h1.get? b = some o → h'.get? b = some o) → h'.get? h1.objs.size = some (seqObj "list" out.toArray n) → IntsAre out ns' → ns'.Perm ns → Ordered b ns' → Q (.ref h1.objs.size) { s with heap := h', toks := tk }) :
    wpAny (model prog w) A (call (.builtin "sorted") [x] [(Str.ofString "reverse", .bool b)]) Q E s := by
  refine call_function_entry_kw kind_sorted plain_sorted entry_sorted (args_sorted_rev _ _) ?_
  unfold Builtin.«sorted»
  refine wpAny_bind (m := checkCount "sorted" 1 1 _) (wpAny_pure ?_)
  refine wpAny_bind (hc _ fun h1 tk vs hk1 hI => ?_)
  have hlv : vs.length ≤ sizeLine := by rw [← hI.length] at hz; exact hz
  refine wpAny_bind (wpAny_newList ?_ hlv)
  have hoL : (h1.push (seqObj "list" vs.toArray 0)).get? h1.objs.size = some (seqObj "list" vs.toArray 0) := Heap.get?_push_size _ rfl
  refine wpAny_bind (wpAny_holding (wpAny_call_entry_kw slot_list_sort ⟨_, hoL, rfl⟩ entry_list_sort (sort_treeR hoL hI hlv fun out ns' a1 a2 a3 => ⟨_, rfl, ?_⟩) (args_list_sort_rev _ _)))
  obtain ⟨e, he⟩ := sortedHeap_at (vs := vs) (out := out) hoL
  refine wpAny_pure ⟨_, rfl, h out.toList e h1 _ tk ns' hk1 (fun b o hb => ?_) he a1 a2 a3⟩
  have hlt := Heap.lt_size hb
  rw [sortedHeap_old (Nat.ne_of_lt hlt) (by rw [Heap.size_push]; exact Nat.lt_succ_of_lt hlt)]
  exact Heap.get?_push_of_some _ hb
end
section
variable {X : Cx}
def rSortRB (K : PySem.W.Frag) (b : Bool) : V → Hp → VK → Prop := fun x H Q => ∃ a ns, x = .ref a ∧ (SqL K H a (ns.map V.int) ∨ SqT K H a (ns.map V.int)) ∧ ns.length ≤ sizeLine ∧ ∀ ns' p, ns'.Perm ns → Ordered b ns' → H p = none → Q (.ref p) (upd H p (.lst (ns'.map V.int)))
def tSortRB (K : PySem.W.Frag) (b : Bool) (te : TE) : TE := fun σ H Q => te σ H fun x H1 => rSortRB K b x H1 Q
theorem pe_sortRB {e : Expr} {te : TE} {b : Bool} {p kp cp pos : Pos} {j : Nat} (hg : Gl X "sorted") (hm : X.mg "sorted" = none) (he : PE X e te)
    (hse : starEach [e] X.env = [(false, eval e X.env)] := by rfl) : PE X (.Call (.Name "sorted" p) [e] [⟨some "reverse", .Constant (.bool b) j cp, kp⟩] pos) (tSortRB X.K b te) := by
  intro pins s σ H Q I h
  refine wpAny_Call_Name_kw (ld_blt I hg hm boot_sorted ?_ (by decide) (by decide))
  refine callWith_kw (thn (pa_cons he pa_nil hse pos pins s σ H (fun vs H1 => match vs with | [x] => rSortRB X.K b x H1 Q | _ => False) I h) fun us s1 ⟨vs, H1, I1, r1, q1⟩ => ?_) (by rw [hse]; rfl) (by rw [hse]; rfl)
  match vs, r1, q1 with
  | [x], r1, q =>
    obtain ⟨u, rfl, ru⟩ := vals1 r1
    refine kws_cons (Constant_bool (kws_nil ?_))
    obtain ⟨a, ns, rfl, hq, hl, q⟩ := q
    cases ru
    show wpAny _ _ (call (.builtin "sorted") [.ref a] [(Str.ofString "reverse", .bool b)]) _ _ _
    have fin : ∀ (out : List Value) (n : Nat) (h1 h' : Heap) (tk : Nat) (ns' : List Int), (∀ b o, s1.heap.get? b = some o → h1.get? b = some o) → (∀ b o, h1.get? b = some o → h'.get? b = some o) → h'.get? h1.objs.size = some (seqObj "list" out.toArray n) → IntsAre out ns' → ns'.Perm ns → Ordered b ns' → ∃ v H', Inv X pins σ H' { s1 with heap := h', toks := tk } ∧ RelV v (.ref h1.objs.size) ∧ Q v H' := fun out n h1 h' tk ns' k1 k2 e a1 a2 a3 => by
      have hz' : (ns'.map V.int).length ≤ sizeLine := by rw [List.length_map, a2.length_eq]; exact hl
      have I2 : Inv X pins σ H1 { s1 with heap := h1, toks := tk } := I1.kept (t' := tk) k1
      exact ⟨.ref _, _, I2.laid (t' := tk) k2 (Nat.le_refl _) (show ObjOk X.prog X.w _ _ _ (.lst (ns'.map V.int)) from ⟨hz', out, n, vals_ints a1, by simpa [seqObj] using e⟩), rfl, q ns' _ a2 a3 (I2.hok.fresh (Nat.le_refl _))⟩
    rcases hq with hq | hq
    · obtain ⟨its, r', pl, hz⟩ := I1.list hq
      obtain ⟨o, ho, hc, n, hd⟩ := pl.isList
      have hlen := r'.length
      rw [List.length_map] at hlen
      exact sorted_collB hl (fun R hR => wpAny_collect_seq a (.inl rfl) ho hc hd (fun h1 hk1 => hR h1 s1.toks its hk1 (intsAre_of r')) (by rw [List.size_toArray]; omega)) fin
    · obtain ⟨its, r', pl, hz⟩ := I1.tuple hq
      obtain ⟨o, ho, hc, n, hd⟩ := pl
      have hlen := r'.length
      rw [List.length_map] at hlen
      exact sorted_collB hl (fun R hR => wpAny_collect_seq a (.inr rfl) ho hc hd (fun h1 hk1 => hR h1 s1.toks its hk1 (intsAre_of r')) (by rw [List.size_toArray]; omega)) fin
end
end L2

set_option Elab.async false
set_option linter.all false
set_option maxRecDepth 100000
namespace L2
open PySem PySem.Spec PyProof.Rows
/-! ### `for`, comprehensions over a list or a tuple alike -/
/-! ### told and due, the same -/
/-! ### tuples: slices, sums -/
end L2

set_option Elab.async false
set_option linter.all false
set_option maxRecDepth 100000
namespace L2
open PySem PySem.Spec PyProof.Rows
/-! ### the least counts -/
/-! ### sorted(x), x a list of ints -/
section
variable {prog : Program} {w : World} {A : Around} {E : Value → Shared → Prop} {s : Shared}
end
end L2

set_option Elab.async false
set_option linter.all false
set_option maxRecDepth 100000
namespace L2
open PySem PySem.Spec PyProof.Rows
/-! ### rules made of columns -/
/-! ### a lane, with its second level in other parts or not -/
structure LD where
  L : Nat
  R : Nat
  m : Nat
  k : Nat
  sp : Bool
  lev : List Nat
structure LD.Ok (d : LD) : Prop where
  l1 : 1 ≤ d.L
  l8 : d.L ≤ 8
  r1 : 1 ≤ d.R
  r8 : d.R ≤ 8
  m8 : d.m ≤ 8
  k8 : d.k ≤ 8
  eq : d.L * d.m = d.R * d.k
  dv : d.sp = true → d.R * (d.L / d.R) = d.L ∧ d.R < d.L
  lv : ∀ v ∈ d.lev, v ≤ 2
def LD.at (d : LD) (j : Nat) : Nat := d.lev.getD j 0
/-- a list of ints -/
def Lst1 (row : List Int) (v : V) (H : Hp) : Prop := ∃ q, v = .ref q ∧ H q = some (.lst (row.map V.int))
theorem Lst1.mv {H H' : Hp} {row : List Int} {v : V} (s : Same H H') : Lst1 row v H → Lst1 row v H'
  | ⟨q, e, h⟩ => ⟨q, e, s _ _ h⟩
theorem All2.mvI {H H' : Hp} {rows : List (List Int)} {xs : List V} (s : Same H H') (h : All2 Lst1 H rows xs) : All2 Lst1 H' rows xs := h.imp fun _ _ z => z.mv s
theorem cut_take (xs : List V) (n : Nat) : cutV xs none (some (n : Int)) = xs.take n := cut_head xs n
/-- a list of ints apart from S -/
def LstN (S : List Addr) (row : List Int) (v : V) (H : Hp) : Prop := ∃ q, v = .ref q ∧ q ∉ S ∧ H q = some (.lst (row.map V.int))
theorem LstN.mv {S : List Addr} {H H' : Hp} {row : List Int} {v : V} (k : Keep S H H') : LstN S row v H → LstN S row v H'
  | ⟨q, e, n, h⟩ => ⟨q, e, n, k _ _ h n⟩
theorem All2.mvN {S : List Addr} {H H' : Hp} {rows : List (List Int)} {xs : List V} (k : Keep S H H') (h : All2 (LstN S) H rows xs) : All2 (LstN S) H' rows xs := h.imp fun _ _ z => z.mv k
theorem All2.toL {S : List Addr} {H : Hp} {rows : List (List Int)} {xs : List V} (h : All2 (LstN S) H rows xs) : All2 Lst1 H rows xs := by
  induction h with
  | nil => exact .nil
  | cons r _ ih => obtain ⟨q, e, _, h⟩ := r; exact .cons ⟨q, e, h⟩ ih
theorem Keep.wide {S S' : List Addr} {H H' : Hp} (k : Keep S H H') (h : ∀ a ∈ S, a ∈ S') : Keep S' H H' := fun b o e n => k b o e fun z => n (h b z)
/-! ### the first choice of which something is true -/
/-! ### lists of truths -/
end L2

set_option Elab.async false
set_option linter.all false
set_option maxRecDepth 100000
namespace L2
open PySem PySem.Spec PyProof.Rows
/-! ### list.remove, list.index of ints -/
/-! ### one heap taken out of another -/
end L2

set_option Elab.async false
set_option linter.all false
set_option maxRecDepth 100000
namespace L2
open PySem PySem.Spec PyProof.Rows
/-! ### places, two rules side by side -/
/-! ### the object that holds both -/
end L2

set_option Elab.async false
set_option linter.all false
set_option maxRecDepth 100000
namespace HT
open PySem PySem.Spec PyProof.Rows
section
variable {prog : Program} {w : World} {A : Around} {E : Value → Shared → Prop} {s : Shared}
end
end HT
namespace L2
open PySem PySem.Spec PyProof.Rows
section
variable {X : Cx} {e st : Expr} {te : TE} {ts : TO} {p2 pos : Pos}
end
end L2

set_option Elab.async false
set_option linter.all false
set_option maxRecDepth 100000
namespace L2
open PySem PySem.Spec PyProof.Rows
/-! ### list.index of a tuple of ints -/
/-! ### falling lists of heaps -/
/-! ### a comprehension that is true all along -/
theorem bls_of {H : Hp} : ∀ {bs : List Bool} {zs : List V}, All2 (fun (b : Bool) v _ => v = V.bl b) H bs zs → zs = bs.map V.bl
  | _, _, .nil => rfl
  | _, _, .cons h t => by rw [h, bls_of t]; rfl
theorem comp_trueL {K : PySem.W.Frag} {i : Nat} {a : Addr} {xs : List V} {nm : Str} {fr : List (Str × Nat)} {te : TE} {σ : St} {H : Hp} {Q : VK} (tl : St) (hle : xs.length ≤ sizeLine) (htl : startC [nm] fr σ = none :: tl) (hs : σ[i]? = some (some (.ref a))) (h : H a = some (.lst xs))
    (step : ∀ (j : Nat) (x : V) (H' : Hp) (P : VK), xs[j]? = some x → Same H H' → (∀ H'', Same H' H'' → P (.bl true) H'') → te (some x :: tl) H' P)
    (hd : ∀ H' p, Same H H' → H' p = none → Q (.ref p) (upd H' p (.lst ((List.replicate xs.length true).map V.bl)))) : tComp (iList K (tVar i)) [nm] fr (gName 0) tYes te σ H Q := by
  refine comp_map1L (fun (b : Bool) v _ => v = V.bl b) (List.replicate xs.length true) tl (by rw [List.length_replicate]) hle (fun _ _ _ _ _ h => h) htl hs h (fun j x b H' P hx hb s' hP => ?_) (fun zs H' p s' a2 hp => ?_)
  · have e : b = true := by
      obtain ⟨_, e⟩ := List.getElem?_eq_some_iff.mp hb
      rw [← e]; simp
    exact step j x H' P hx s' fun H'' s'' => hP _ _ s'' (by rw [e])
  · rw [bls_of a2]
    exact hd H' p s' hp
/-! ### partings of any number that keep a rule -/
end L2

set_option Elab.async false
set_option linter.all false
set_option maxRecDepth 100000
namespace L2
open PySem PySem.Spec PyProof.Rows PySem.W
/-! ### try: y = f(..) except S as n: suite -/
/-! ### lanes and levels as rows of ints; how many parts -/
end L2

set_option Elab.async false
set_option linter.all false
set_option maxRecDepth 100000
namespace L2
open PySem PySem.Spec PyProof.Rows PySem.W
/-! ### exceptions with attributes: read and set -/
section
variable {prog : Program} {w : World} {A : Around} {E : Value → Shared → Prop} {s : Shared} {K : Frag} {e dx C : Addr} {oe : Obj} {vs : Array Value} {mA : Str → Option Value} {name : Str} {v : Value}
theorem noCls {o : Obj} {vs : Array Value} (h : o.data = .fields vs) : notCls o = true := by
  unfold notCls
  rw [h]
/-- own classes first, then those of ValueError -/
def onlyVE : List Value → Bool
  | .ref _ :: r => onlyVE r
  | l => l == bmV
theorem refuse_VE (self : Value) : ∀ {l : List Value}, onlyVE l = true → refuseLoop self "__setattr__" l = pure ()
  | .ref c :: r, z => by
    rw [refuseLoop_ref]
    exact refuse_VE self z
  | [], z => by cases z
  | .type n :: r, z => by
    have e : Value.type n :: r = bmV := beq_iff_eq.mp z
    rw [e]
    exact PySem.F.store_ValueError.passes self
  | .none :: r, z => by cases z
  | .bool _ :: r, z => by cases z
  | .int _ _ :: r, z => by cases z
  | .float _ _ :: r, z => by cases z
  | .str _ _ :: r, z => by cases z
  | .bytes _ _ :: r, z => by cases z
  | .ellipsis :: r, z => by cases z
  | .notImplemented :: r, z => by cases z
  | .builtin _ :: r, z => by cases z
def overX (K : Frag) (C : Addr) : Bool := (clsIn K C).any fun cd => onlyVE cd.mro
/-- what the fragment says of an own exception class whose instances have attributes -/
structure ClsX (K : Frag) (C : Addr) : Prop where
  ga : findIn K (.ref C) "__getattribute__" = some (some (.builtin "BaseException.__getattribute__"))
  gn : findIn K (.ref C) "__getattr__" = some none
  be : mroIn K C (.type "BaseException") = some true
  hd : hasDictIn K C = true
  ob : mroIn K C (.type "object") = some true
  po : overX K C = true
  sa : findIn K (.ref C) "__setattr__" = some (some (.builtin "object.__setattr__"))
theorem getX {b : Bool} {Q : Value → Shared → Prop} (X : K.In s.heap) (g : s.heap.get? e = some oe) (hc : oe.cls = .ref C) (hda : oe.data = .fields vs) (hdd : oe.dict = some dx) (n : s.heap.Ns1 dx mA) (c : ClsX K C) (hn : NoAttr K C name)
    (hv : mA name = some v) (hv' : handedIn v = true) (h : Q v { s with toks := s.toks + 1 }) : wpAny (model prog w) A (getAttr (.ref e) name b) Q E s := by
  obtain ⟨od, ho, hl⟩ := lookIn_ns n
  have J : InstAt s.heap e oe C (some od) := ⟨g, hc, noCls hda, by rw [hdd]; exact ho⟩
  have hf : findObj K C (some od) name = some (.value v) := findObj_own c.hd hn rfl (by rw [hl, hv])
  obtain ⟨hh, gg, d, t, os⟩ := s
  have T := J.type (M := model prog w)
  have G := looks_findIn (M := model prog w) X c.ga
  have N := looks_findIn (M := model prog w) X c.gn
  have F1 := looks_find (M := model prog w) X J hf
  have Bx := looks_mroIn (M := model prog w) X c.be
  unfold getAttr getAttrBy
  refine wpAny_bind (wpAny_mkText (wpAny_holding (wpAny_bind (T.at (wpAny_bind (G.at ?_))))))
  have hx2 : (Value.builtin "BaseException.__getattribute__" == Value.builtin "object.__getattribute__") = false := by decide +kernel
  have hx1 : ¬ (onTheHeap (Value.ref C) && Value.builtin "BaseException.__getattribute__" == Value.builtin "object.__getattribute__") = true := by rw [hx2, Bool.and_false]; exact Bool.false_ne_true
  dsimp only at G N F1 Bx T ⊢
  rw [if_neg hx1]
  unfold getAttrByItsOwn hookBefore callGetattribute boundAndCalled
  refine wpAny_bind (N.at ?_)
  have hx0 : ¬ (b && onTheHeap (Value.builtin "BaseException.__getattribute__")) = true := by cases b <;> exact Bool.false_ne_true
  rw [if_neg hx0]
  refine wpAny_bind (wpAny_attempt (wpAny_holding ?_))
  refine wpAny_bind (wpAny_of_eq (PySem.F.attrBase_ValueError.ga.bind _) ?_)
  refine wpAny_call (codeAny_call_builtin PySem.F.attrBase_ValueError.ga.plain PySem.F.entry_bexc_ga ?_)
  have hk : builtinKind "BaseException.__getattribute__" = some .slot := by decide +kernel
  have hsplit : splitId "BaseException.__getattribute__" = some ("BaseException", "__getattribute__") := by decide +kernel
  have hag := PySem.F.args_bexc_ga (.ref e) (.str name t)
  simp only [checkBuiltinCall, hk, hsplit]
  unfold isInstance
  repeat (first | lk | wp_step)
  show wpAny _ _ (handedOut v) _ _ _
  rw [handedOut_of hv']
  exact wpAny_pure h
theorem osaX {od : Option Obj} {tk : Tok} {R : Result → Shared → Prop} (X : K.In s.heap) (J : InstAt s.heap e oe C od) (c : ClsX K C) (hn : NoAttr K C name)
    (h : ∀ b, wpAny (model prog w) A.in1 (Builtin.ObjectAttr.storeInOwnDict (.ref e) (.ref C) (.str name tk) name v b)
      (fun fin s' => match fin with | .done f => R (.ok f) s' | .again c' => c'.quiet = true ∧ codeAny (model prog w) A c' R s') (fun e s' => R (.error e) s') s) :
    codeAny (model prog w) A (.call (.builtin "object.__setattr__") ⟨[.ref e, .str name tk, v], []⟩) R s := by
  have SF := PySem.F.store_object
  obtain ⟨cd, hc, ho⟩ := any_some c.po
  have sub : Looks (model prog w) s.heap (isInstance (.ref e) (.type "object")) true := J.type.andThen (looks_mroIn X c.ob)
  have hm : Looks (model prog w) s.heap (mroOf (.ref C)) cd.mro := (looks_clsIn X hc).andThen .now
  refine codeAny_call_builtin SF.slot.plain SF.entry
    (@check_slot (model prog w) _ _ s "object.__setattr__" "object" "__setattr__" (.ref e) [.str name tk, v] [] _ SF.kind SF.split sub
      (SF.args (.ref e) (.str name tk) v) ?_)
  rw [osa_eq, refuse_eq]
  refine wpAny_bind (wpAny_bind (J.type.here (wpAny_bind (hm.here ?_))))
  rw [refuse_VE _ ho]
  refine wpAny_pure (wpAny_bind (J.type.here (wpAny_bind ((looks_findIn X hn).here ?_))))
  have L3 : Looks (model prog w) s.heap (Builtin.ObjectAttr.storeTaker? none) none := .now
  refine wpAny_bind (L3.here ?_)
  exact h _
theorem setX {Q : Unit → Shared → Prop} (X : K.In s.heap) (g : s.heap.get? e = some oe) (hc : oe.cls = .ref C) (hda : oe.data = .fields vs) (hdd : oe.dict = none) (c : ClsX K C) (hn : NoAttr K C name)
    (h : ∀ h' tk, h'.get? e = some { oe with dict := some s.heap.objs.size } → h'.Ns1 s.heap.objs.size (fun y => if y = name then some v else none) → (∀ b o, b ≠ e → s.heap.get? b = some o → h'.get? b = some o) → s.heap.objs.size < h'.objs.size → Q () { s with heap := h', toks := tk }) :
    wpAny (model prog w) A (setAttr (.ref e) name v) Q E s := by
  obtain ⟨oc, od, odt, osl⟩ := oe
  dsimp only at hc hda hdd
  subst hc hda hdd
  have J : InstAt s.heap e ⟨.ref C, none, .fields vs, osl⟩ C none := ⟨g, rfl, rfl, trivial⟩
  refine set_plain X J c.sa (osaX (s := { s with toks := s.toks + 1 }) X J c hn fun b => ?_)
  obtain ⟨cd, hcd, hd'⟩ := any_some c.hd
  refine wpAny_bind (wpAny_pure (wpAny_bind (wpAny_bind (wpAny_loadPart g (wpAny_bind (Looks.here (s := { s with toks := s.toks + 1 }) (looks_clsIn X hcd) ?_))))))
  rw [hd']
  rw [if_neg (by simp)]
  dsimp only
  rw [if_neg (by simp [typeHasDict])]
  refine wpAny_bind (wpAny_alloc' ?_)
  have g1 : (s.heap.push { cls := .type "dict", data := .dict #[] }).get? e = some ⟨.ref C, none, .fields vs, osl⟩ := Heap.get?_push_of_some _ g
  have ne : e ≠ s.heap.objs.size := Nat.ne_of_lt (Heap.lt_size g)
  refine wpAny_bind (wpAny_update' g1 ?_)
  refine wpAny_pure ?_
  have gd : ((s.heap.push { cls := .type "dict", data := .dict #[] }).update e fun o => { cls := o.cls, dict := some s.heap.objs.size, data := o.data, slots := o.slots }).get? s.heap.objs.size = some { cls := .type "dict", data := .dict #[] } := (Heap.get?_update_ne _ _ _ _ ne.symm).trans (Heap.get?_push_at rfl rfl)
  have ge := Heap.get?_update_self (fun o => { cls := o.cls, dict := some s.heap.objs.size, data := o.data, slots := o.slots }) g1 rfl
  have far : ∀ b o, b ≠ e → s.heap.get? b = some o → ((s.heap.push { cls := .type "dict", data := .dict #[] }).update e fun o => { cls := o.cls, dict := some s.heap.objs.size, data := o.data, slots := o.slots }).get? b = some o := fun b o hb q => (Heap.get?_update_ne _ _ _ _ hb).trans (Heap.get?_push_of_some _ q)
  generalize ((s.heap.push { cls := .type "dict", data := .dict #[] }).update e fun o => { cls := o.cls, dict := some s.heap.objs.size, data := o.data, slots := o.slots }) = h2 at gd ge far
  have n0 : h2.Ns s.heap.objs.size (fun _ => none) := ⟨_, #[], _, gd, rfl, fun e he => absurd he (by simp), fun _ => rfl⟩
  show wpAny _ _ (Builtin.ObjectAttr.storeInDict s.heap.objs.size (.str name s.toks) name v) _ _ _
  unfold Builtin.ObjectAttr.storeInDict Builtin.ObjectAttr.newKeyGuard
  refine wpAny_bind (wpAny_pure (wpAny_bind (wpAny_nsSet1 (Heap.Ns1.of_empty n0) fun h' n1 sb => ?_)))
  obtain ⟨oD, esD, epD, hoD, hdD, hcD⟩ := n1.count (Within.cons name v Within.nil)
  refine wpAny_bind (wpAny_lookBehind hoD (by rw [hdD]; exact pastItsLine_dict (Nat.le_trans hcD (by rw [List.length_cons, List.length_nil, sizeLine_eq]; omega))) ?_)
  exact wpAny_pure (h h' _ ((sb.2 e ne).trans ge) n1 (fun b o hb q => (sb.2 b (Nat.ne_of_lt (Heap.lt_size q))).trans (far b o hb q)) (Heap.lt_size hoD))
end
/-! ### .. in the layer -/
/-- an exception just made, not yet noted -/
def ExcM (e C : Addr) (dd : Option Addr) (h : Heap) : Prop := ∃ t sl, h.get? e = some ⟨.ref C, dd, .fields #[.ref t, .none, .none, .none, .bool false, .none], sl⟩
theorem ExcM.ext {e C : Addr} {dd : Option Addr} : ∀ h1 h2 : Heap, ExcM e C dd h1 → (∀ o, h1.get? e = some o → h2.get? e = some o) → ExcM e C dd h2 := fun _ _ ⟨t, sl, g⟩ k => ⟨t, sl, k _ g⟩
section
variable {X : Cx} {pins : List (Addr × Obj)} {σ : St} {H : Hp} {s : Shared} {e C : Addr} {f : Str} {A : Around} {E : Value → Shared → Prop}
/-- a tracked one is written, another is new -/
theorem HOk.addX {P : Program} {w : World} {H : Hp} {h : Heap} {a : Addr} {o : HO} (ok : HOk P w H h) (hn : H a = none) (new : ObjOk P w (upd H a o) h a o) : HOk P w (upd H a o) h := fun b u q => by
  by_cases hb : b = a
  · subst hb; rw [upd_same] at q; cases q; exact new
  · rw [upd_ne hb] at q
    have ne : ∀ c y, H c = some y → c ≠ a := fun c y r z => by rw [z, hn] at r; cases r
    exact (ok b u q).stay (fun _ _ _ r => r) (fun c r => by rw [upd_ne (ne c _ r)]; exact r) fun c xs r => by rw [upd_ne (ne c _ r)]; exact r
theorem setattrX_ok {y : V} {u : Value} {Q : Unit → Shared → Prop} (I : Inv X pins σ H s) (he : H e = some (.ext (ExcM e C none))) (c : ClsX X.K C) (n : NoAttr X.K C f) (ry : RelV y u)
    (h : ∀ dx s', H dx = none → Inv X pins σ (upd (upd H e (.ext (ExcM e C (some dx)))) dx (.xd [(f, y)])) s' → Q () s') : wpAny (model X.prog X.w) A (setAttr (.ref e) f u) Q E s := by
  obtain ⟨t, sl, g⟩ := (show ObjOk X.prog X.w H s.heap e (.ext (ExcM e C none)) from I.hok e _ he).1
  refine setX I.kIn g rfl rfl rfl c n fun h' tk ge n1 far lt => ?_
  have hfr : H s.heap.objs.size = none := I.hok.fresh (Nat.le_refl _)
  have ne : s.heap.objs.size ≠ e := fun z => by rw [z, he] at hfr; cases hfr
  refine h s.heap.objs.size _ hfr (I.un ⟨fun b o q n hb hx => ?_, fun b o q n hb hx => ?_, fun b o q n hx => ?_, fun b o q hx => ?_, fun b xs q => ?_, fun b o w q => ?_, fun b ps q => ?_⟩ ?_)
  · exact far b o (fun z => by rw [z, he] at n; cases n) q
  · exact ⟨o.slots, far b o (fun z => by rw [z, he] at n; cases n) q⟩
  · rw [upd_ne (Nat.ne_of_lt (Heap.lt_size q)), upd_ne (fun z => by rw [z, he] at n; cases n)]
    exact n
  · by_cases hb : b = e
    · subst hb; exact ⟨_, ge⟩
    · exact ⟨o, far b o hb q⟩
  · rw [upd_ne (fun z => by rw [z, hfr] at q; cases q), upd_ne (fun z => by rw [z, he] at q; cases q)]
    exact q
  · rw [upd_ne (fun z => by rw [z, hfr] at q; cases q), upd_ne (fun z => by rw [z, he] at q; cases q)]
    exact q
  · rw [upd_ne (fun z => by rw [z, hfr] at q; cases q), upd_ne (fun z => by rw [z, he] at q; cases q)]
    exact ⟨#[], by rw [Array.append_empty]; exact q⟩
  · have w1 : HOk X.prog X.w (upd H e (.ext (ExcM e C (some s.heap.objs.size)))) h' := I.hok.write (by rw [he]; trivial) (.inl rfl) (fun b o hb q => far b o hb q) ⟨_, ge⟩ ⟨⟨t, sl, ge⟩, ⟨_, ge⟩, ExcM.ext⟩
    refine w1.addX (by rw [upd_ne ne]; exact hfr) ⟨_, n1, fun g => ?_⟩
    by_cases hg : g = f
    · subst hg
      rw [if_pos rfl]
      simp only [List.lookup, beq_self_eq_true]
      exact ry
    · rw [if_neg hg]
      simp [List.lookup, beq_eq_false_iff_ne.mpr hg]
      trivial
end
end L2

set_option Elab.async false
set_option linter.all false
set_option maxRecDepth 100000
namespace L2
open PySem PySem.Spec PyProof.Rows PySem.W
/-! ### C(..) of an own exception class that has an __init__ -/
abbrev newExcO (C t : Addr) : Obj := { cls := .ref C, data := .fields #[.ref t, .none, .none, .none, .bool false, .none] }
abbrev newExcH (h : Heap) (C : Addr) (args : List Value) : Heap := (h.push { cls := .type "tuple", data := .seq args.toArray }).push (newExcO C h.objs.size)
section
variable {prog : Program} {w : World} {A : Around} {E : Value → Shared → Prop} {h : Heap} {g : Array GenState} {d : Drawn} {t : Nat} {os : OsState}
variable {nm q : Str} {C N : Addr} {bs bm bmB bmN : List Value} {hdct : Bool} {sn : List Str} {sub : List Value} {ab : Bool} {col : Option Bool} {dd : Option Addr} {k0 k1 k2 k3 k5 : Option Value} {B Bn newId nid initId inN : String}
theorem typecall_init (Fn : ExcBaseFacts Bn newId inN bmN) (hBn : bmB.contains (.type Bn) = true) (F : ExcBaseFacts B nid initId bmB) (T : OwnTail h bmB bm) {mN : Str → Option Value} {rest : List Value} {fI : Addr} {oI : Obj} {Q : Fin → Shared → Prop}
    (hC : h.get? C = some (excClassObj nm q C N bs bm hdct sn sub ab col dd k0 k1 k2 k3 k5 newId)) (hn : h.Ns N mN) (hi : mN "__init__" = some (.ref fI)) (gI : h.get? fI = some oI) (cI : oI.cls = .type "function")
    (hq : wpAny (model prog w) A (call (.ref fI) (.ref (h.objs.size + 1) :: rest)) (fun r s' => r = .none ∧ Q (.done (.ret (.ref (h.objs.size + 1)))) s') E ⟨newExcH h C rest, g, d, t, os⟩) (hl : rest.length ≤ sizeLine) :
    wpAny (model prog w) A (Builtin.«type.__call__» ⟨.ref C :: rest, []⟩) Q E ⟨h, g, d, t, os⟩ := by
  repeat
    first
    | with_reducible refine wpAny_loadPart_at hC ?_
    | with_reducible refine wpAny_madeBy_exc hC ?_
    | wp_step
  refine codeAny_call_builtin_code (Code.quiet_builtin _ Fn.quiet)
    (wpAny_check_new_subU Fn hBn T hC ?_)
  refine codeAny_exc_new_subU Fn hBn F T hC ?_ hl
  show wpAny _ _ _ _ _ _
  have kp : ∀ b o, h.get? b = some o → (newExcH h C rest).get? b = some o := fun b o z => Heap.get?_push_of_some _ (Heap.get?_push_of_some _ z)
  have hC1 := kp _ _ hC
  have hn1 : (newExcH h C rest).Ns N mN := let ⟨o, es, ep, z, r⟩ := hn; ⟨o, es, ep, kp _ _ z, r⟩
  have ge : (newExcH h C rest).get? (h.objs.size + 1) = some (newExcO C h.objs.size) := by heap_get
  have T1 := T.keeps kp
  have own : (Value.ref C :: bm).contains (.ref C) = true := by simp
  unfold isInstance
  repeat
    first
    | with_reducible refine wpAny_loadPart_at ge ?_
    | (with_reducible refine wpAny_isSubtype_exc hC1 ?_
       rw [own])
    | wp_step
  show wpAny _ _ (typeLookup (.ref C) _) _ _ _
  refine wpAny_typeLookup_tail hC1 hn1 T1 F.mroIs F.init.lookup ?_
  rw [hi]
  refine wpAny_holding (wpAny_bind ?_)
  unfold bindSpecial
  refine wpAny_bind (wpAny_typeOf (T := "function") ⟨_, kp _ _ gI, cI⟩ ?_)
  rw [if_pos (by decide)]
  refine wpAny_pure (wpAny_bind (wpAny_mono hq (fun r s' hr => ?_) fun _ _ z => z))
  obtain ⟨rfl, y⟩ := hr
  wp_walk
  exact y
theorem call_init (Fn : ExcBaseFacts Bn newId inN bmN) (hBn : bmB.contains (.type Bn) = true) (F : ExcBaseFacts B nid initId bmB) (T : OwnTail h bmB bm) {mN : Str → Option Value} {rest : List Value} {fI : Addr} {oI : Obj} {Q : Value → Shared → Prop}
    (hC : h.get? C = some (excClassObj nm q C N bs bm hdct sn sub ab col dd k0 k1 k2 k3 k5 newId)) (hn : h.Ns N mN) (hi : mN "__init__" = some (.ref fI)) (gI : h.get? fI = some oI) (cI : oI.cls = .type "function")
    (hq : wpAny (model prog w) (A.under (.builtin "type.__call__" ⟨.ref C :: rest, []⟩)) (call (.ref fI) (.ref (h.objs.size + 1) :: rest)) (fun r s' => r = .none ∧ Q (.ref (h.objs.size + 1)) s') E ⟨newExcH h C rest, g, d, t, os⟩) (hl : rest.length ≤ sizeLine) :
    wpAny (model prog w) A (call (.ref C) rest) Q E ⟨h, g, d, t, os⟩ := by
  have f1 := tc_lookup
  have f2 := tc_bind (.ref C)
  have hT : (⟨h, g, d, t, os⟩ : Shared).TypeIs (.ref C) "type" := ⟨_, hC, rfl⟩
  refine wpAny_call (codeAny_of_tree ?_)
  show wpAny _ _ (callAny (.ref C) _) _ _ _
  repeat
    any_goals
      first
      | assumption
      | with_reducible refine wpAny_loadPart_at hC ?_
      | wp_step
  refine ⟨rfl, ?_⟩
  exact codeAny_call_builtin_at (Code.quiet_builtin _ (by decide +kernel)) entry_typeCall
    (wpAny_check_type_call_sub hC (typecall_init Fn hBn F T hC hn hi gI cI hq hl))
end
/-! ### raise of an instance -/
section
variable {M : Model} {A : Around} {E : Value → Shared → Prop} {s : Shared} {env : Env} {nm q : Str} {C N : Addr} {bs bm : List Value} {hdct : Bool} {sn : List Str} {sub : List Value} {ab : Bool} {col : Option Bool} {dd : Option Addr} {k0 k1 k2 k3 k5 : Option Value} {newId : String}
theorem raise_ref {x : Sem Value} {Q : Flow → Shared → Prop} (hb : bm.contains (.type "BaseException") = true) (hh : A.handled = none)
    (h : wpAny M A x (fun v s1 => ∃ e dx t sl, v = .ref e ∧ s1.heap.get? C = some (excClassObj nm q C N bs bm hdct sn sub ab col dd k0 k1 k2 k3 k5 newId) ∧
      s1.heap.get? e = some ⟨.ref C, dx, .fields #[.ref t, .none, .none, .none, .bool false, .none], sl⟩ ∧ E (.ref e) s1) E s) : wpAny M A (raiseStmt env (some x) none) Q E s := by
  have hcB : (Value.ref C :: bm).contains (.type "BaseException") = true := by rw [List.contains_cons, hb, Bool.or_true]
  unfold raiseStmt
  refine wpAny_bind (wpAny_mono h (fun v s1 ⟨e, dx, t, sl, ev, hC, ge, hE⟩ => ?_) fun _ _ z => z)
  subst ev
  obtain ⟨hp, g, d, tk, os⟩ := s1
  repeat
    first
    | with_reducible refine wpAny_loadPart_at ge ?_
    | with_reducible refine wpAny_loadPart_at hC ?_
    | (with_reducible refine wpAny_isSubtype_exc hC ?_
       rw [hcB])
    | wp_step
  exact wpAny_raiseNew_none hh hE
end
end L2

set_option Elab.async false
set_option linter.all false
set_option maxRecDepth 100000
namespace L2
open PySem PySem.Spec PyProof.Rows PySem.W
/-! ### own exception classes with an __init__ of their own: raise, catch, read -/
def excInI (K : Frag) (C f : Addr) : Bool :=
  match K.lookup C with
  | some ⟨.type "type", _, .cls cd, sl⟩ =>
    (match cd.mro, sl.toList with
    | .ref D :: bm, [_, _, _, _, some (.builtin n), _] =>
      (D == C && n == "ValueError.__new__" && !cd.hasDel) && (tailIn K bmV bm && nsOkIn K cd.ns && nsIn K cd.ns "__init__" == some (some (.ref f)))
    | _, _ => false)
  | _ => false
theorem nsSome_of {K : Frag} {h : Heap} {N : Addr} {m : Str → Option Value} {x : Str} {v : Value} (X : K.In h) (G : h.Ns N m) (q : nsIn K N x = some (some v)) : m x = some v := by
  obtain ⟨o, es, ep, ho, hd, _, hf⟩ := G
  unfold nsIn at q
  split at q
  · rename_i es' _ _ lk
    have z := X _ _ lk
    rw [ho] at z
    cases z
    cases hd
    split at q
    · rename_i y hy
      cases q
      have := hf x
      unfold nsFind findBy at this
      rw [← Array.find?_toList, hy] at this
      exact this.symm
    · split at q <;> cases q
  · cases q
structure ExcI (K : Frag) (C f : Addr) : Prop where
  inn : excInI K C f = true
  kp : keepIn K (.ref C) = true
  fn : isFn K (.ref f) = true
theorem ExcI.obj {K : Frag} {C f : Addr} {h : Heap} (c : ExcI K C f) (X : K.In h) : ∃ (bm : List Value) (N : Addr) (nm q : Str) (bs : List Value) (hdct : Bool) (sn : List Str) (sub : List Value) (ab : Bool) (col : Option Bool) (dd : Option Addr) (k0 k1 k2 k3 k5 : Option Value) (mN : Str → Option Value),
    h.get? C = some (excClassObj nm q C N bs bm hdct sn sub ab col dd k0 k1 k2 k3 k5 "ValueError.__new__") ∧ h.Ns N mN ∧ mN "__init__" = some (.ref f) ∧ OwnTail h bmV bm ∧ K.lookup C = some (excClassObj nm q C N bs bm hdct sn sub ab col dd k0 k1 k2 k3 k5 "ValueError.__new__") := by
  have q := c.inn
  unfold excInI at q
  split at q
  · rename_i dd cd sl ho
    split at q
    · rename_i D bm k0 k1 k2 k3 n k5 hm hs
      simp only [Bool.and_eq_true, beq_iff_eq, Bool.not_eq_true'] at q
      obtain ⟨⟨⟨rfl, rfl⟩, hdel⟩, ⟨ht, hok⟩, hni⟩ := q
      obtain ⟨nm, bs, mro, ns, qn, hd, sn, sub, ab, col, del⟩ := cd
      dsimp only at hm hdel hok hni
      subst hm hdel
      have hsl : sl = #[k0, k1, k2, k3, some (.builtin "ValueError.__new__"), k5] := by
        obtain ⟨l⟩ := sl
        simp only at hs
        rw [hs]
      subst hsl
      have hN : h.Ns ns (h.nsMap ns) := .of_isNs (isNs_of_in X hok)
      exact ⟨bm, ns, nm, qn, bs, hd, sn, sub, ab, col, dd, k0, k1, k2, k3, k5, _, X _ _ ho, hN, nsSome_of X hN hni, tail_of_in X ht, ho⟩
    · cases q
  · cases q
theorem ExcI.isX {K : Frag} {C f : Addr} {h : Heap} (c : ExcI K C f) (X : K.In h) : ∃ bm, IsXC K C bm ∧ OwnTail h bmV bm := by
  obtain ⟨bm, N, nm, q, bs, hdct, sn, sub, ab, col, dd, k0, k1, k2, k3, k5, mN, hC, hn, hni, hT, hlk⟩ := c.obj X
  exact ⟨bm, ⟨nm, q, N, bs, hdct, sn, sub, ab, col, dd, k0, k1, k2, k3, k5, _, hlk⟩, hT⟩
theorem Takes.mkI {K : Frag} {c f S : Addr} {h : Heap} (X : K.In h) (hc : ExcI K c f) (hS : ∃ bm, IsXC K S bm ∧ OwnTail h bmV bm) (hm : mroIn K c (.ref S) = some true) : Takes K c S := by
  obtain ⟨bm, x, _⟩ := hc.isX X
  obtain ⟨bm', x', t'⟩ := hS
  refine ⟨bm, bm', x, x', t'.hasType (by decide), ?_⟩
  obtain ⟨nm, q, N, bs, hdct, sn, sub, ab, col, dd, k0, k1, k2, k3, k5, nid, lc⟩ := x
  unfold mroIn clsIn at hm
  rw [lc] at hm
  simpa using hm
/-- forgotten -/
def delH (H : Hp) (a : Addr) : Hp := fun b => if b = a then none else H b
theorem del_same {H : Hp} {a : Addr} : delH H a a = none := by unfold delH; rw [if_pos rfl]
theorem del_ne {H : Hp} {a b : Addr} (h : b ≠ a) : delH H a b = H b := by unfold delH; rw [if_neg h]
theorem del_some {H : Hp} {a b : Addr} {o : HO} (h : delH H a b = some o) : b ≠ a ∧ H b = some o := by
  by_cases z : b = a
  · subst z; rw [del_same] at h; cases h
  · rw [del_ne z] at h; exact ⟨z, h⟩
/-- an exception that was made, its __init__ done -/
theorem ExcAt.init {X : Cx} {pins : List (Addr × Obj)} {σ : St} {H : Hp} {s : Shared} {e C : Addr} {dd : Option Addr} (I : Inv X pins σ H s) (he : H e = some (.ext (ExcM e C dd))) (hnew : X.s₀.heap.get? e = none) : ExcAt X (delH H e) e (.ref C) dd s := by
  obtain ⟨t, sl, g⟩ := (show ObjOk X.prog X.w H s.heap e (.ext (ExcM e C dd)) from I.hok e _ he).1
  have nf : e ∉ frs X.stack := fun z => by rw [I.stkFree e z] at he; cases he
  have ne : ∀ b ob, X.s₀.heap.get? b = some ob → b ≠ e := fun b ob q z => by rw [z, hnew] at q; cases q
  have sub : ∀ b, b ∉ frs X.stack → b ∉ X.fs := fun b hb z => by
    rcases I.ok.stk with e | ⟨e, hf⟩
    · rw [e] at hb; exact hb z
    · rw [e] at hb
      unfold frs at hb
      rw [List.filterMap_cons, hf] at hb
      exact hb (List.mem_cons_of_mem _ z)
  have out : ∀ b, b ≠ e → b ∉ frs X.stack → b ∉ e :: frs X.stack := fun b h1 h2 z => (List.mem_cons.mp z).elim h1 h2
  have tr : ∀ b u, X.H₀ b = some u → (∀ φ, u ≠ .ext φ) → H b = some u → delH H e b = some u := fun b u _ hu q => by
    rw [del_ne (fun z => by rw [z, he] at q; cases q; exact hu _ rfl)]
    exact q
  refine ⟨I.os, I.bare, ⟨I.base.keep, I.base.slot, fun b ob q n hx => ?_, I.base.there, fun b xs q => ?_, fun b ob u q => ?_, fun b ps q => ?_⟩, fun b u q => ?_, del_same, hideAll s.heap (e :: frs X.stack), ⟨fun b u q => ?_, fun b ob q n hb hx => ?_, fun b ob q hb hx => ?_⟩, ?_⟩
  · rw [del_ne (ne b ob q)]; exact I.base.free b ob q n hx
  · exact tr b _ q (fun φ z => by cases z) (I.base.tups b xs q)
  · exact tr b _ q (fun φ z => by cases z) (I.base.frzs b ob u q)
  · obtain ⟨more, z⟩ := I.base.tbls b ps q
    refine ⟨more, ?_⟩
    rw [del_ne (fun y => by rw [y, he] at z; cases z)]
    exact z
  · obtain ⟨hb, q'⟩ := del_some q
    refine (I.hok b u q').stay (fun _ _ _ r => r) (fun c r => ?_) fun c xs r => ?_
    · rw [del_ne (fun y => by rw [y, he] at r; cases r)]; exact r
    · rw [del_ne (fun y => by rw [y, he] at r; cases r)]; exact r
  · obtain ⟨hb, q'⟩ := del_some q
    obtain ⟨ob, e1⟩ := (I.hok b u q').some
    exact ⟨ob, hideAll_get _ e1 (out b hb fun z => by rw [I.stkFree b z] at q'; cases q')⟩
  · exact hideAll_get _ (I.base.keep b ob q n (sub b hb) hx) (out b (ne b ob q) hb)
  · obtain ⟨o', e1⟩ := I.base.there b ob q hx
    exact ⟨o', hideAll_get _ e1 (out b (ne b ob q) hb)⟩
  · refine .made _ _ (fun b ob q => of_hideAll _ q) (funFrames_hide I.stack fun env hm a ha => List.mem_cons_of_mem _ (List.mem_filterMap.mpr ⟨env, hm, ha⟩)) (hideAll_none _ (by simp)) g rfl rfl rfl rfl
/-- raise C(args), C with an __init__ -/
def tRaiseI (C : Addr) (sp : Sp) (E : XK) (ta : TA) : TS := fun _ σ H => ta σ H fun vs H1 => vs.length ≤ sizeLine ∧ ∀ e, H1 e = none → sp (.ref e :: vs) (upd H1 e (.ext (ExcM e C none))) (fun v H2 => v = .non ∧ ∃ dd, H2 e = some (.ext (ExcM e C dd)) ∧ E (.ref C) dd (delH H2 e)) E0
theorem ps_raiseI {X : Cx} {E : XK} {C f : Addr} {fd : FuncData} {ps : List Str} {sp : Sp} {cm : Bool} {k : Nat} {x : Str} {a : Expr} {args : List Expr} {np cpos pos : Pos} {ta : TA} (hc : X.calm = true) (c : ExcI X.K C f) (F : FnOk X.prog X.w X.K X.mg X.base CX0 k f fd ps sp cm) (hr : Room (k + 1) X.A cm) (hb : Binds X.K fd ps [])
    (hg : Gl (X.wish (XE X E)) x) (hm : X.mg x = some (.ref C)) (ha : PA (X.wish (XE X E)) (a :: args) ta)
    (hd : (x == ("__debug__" : Str)) = false := by decide) (he : starEach (a :: args) X.env = (false, eval a X.env) :: starEach args X.env := by rfl) (hpl : (backTo cpos (starEach args X.env)).any (·.1) = false := by rfl) :
    PS (X.wish (XE X E)) (.Raise (some (.Call (.Name x np) (a :: args) [] cpos)) none pos) (tRaiseI C sp E ta) := by
  intro pins s σ H D I hw
  obtain ⟨bm, N, nm, q, bs, hdct, sn, sub, ab, col, dd, k0, k1, k2, k3, k5, mN, hC0, hn0, hi0, hT0, hlk⟩ := c.obj I.ok.mod.kin
  rw [arm_exec_Raise]
  refine wpAny_bind (wpAny_standAt (raise_ref (C := C) (nm := nm) (q := q) (N := N) (bs := bs) (bm := bm) (hdct := hdct) (sn := sn) (sub := sub) (ab := ab) (col := col) (dd := dd) (k0 := k0) (k1 := k1) (k2 := k2) (k3 := k3) (k5 := k5) (newId := "ValueError.__new__") (hT0.hasType (by decide)) (I.ok.hd hc) (wpAny_bind (wpAny_mono ?_ (fun v s1 h1 => wpAny_bind (wpAny_standAt (wpAny_pure h1))) fun _ _ z => z))))
  refine wpAny_Call_Name_kw (ld_glob I hg hm ?_ hd)
  refine callWith_K (h₀ := X.base) I.ok.mod.kin c.kp (thn (ha cpos pins s σ H _ I hw) fun us s1 ⟨vs, H1, I1, r, hl, q1⟩ => ⟨I1.kIn, ?_⟩) he hpl
  have kb : ∀ b ob, X.base.get? b = some ob → s1.heap.get? b = some ob := I1.bk
  obtain ⟨h1, g1, d1, t1, os1⟩ := s1
  have fnT : typeIn X.K (.ref f) = some (.type "function") := beq_iff_eq.mp c.fn
  obtain ⟨oI, lI, cI⟩ : ∃ oI, X.K.lookup f = some oI ∧ oI.cls = .type "function" := by
    unfold typeIn at fnT
    exact Option.map_eq_some_iff.mp fnT
  have hfree : H1 (h1.objs.size + 1) = none := I1.hok.fresh (Nat.le_succ _)
  have hq := q1 (h1.objs.size + 1) hfree
  have I2 : Inv (X.wish (XE X E)) pins σ (upd H1 (h1.objs.size + 1) (.ext (ExcM (h1.objs.size + 1) C none))) ⟨newExcH h1 C us, g1, d1, t1, os1⟩ := by
    have ge : (newExcH h1 C us).get? (h1.objs.size + 1) = some (newExcO C h1.objs.size) := by heap_get
    exact I1.laid (t' := t1) (fun b o z => Heap.get?_push_of_some _ (Heap.get?_push_of_some _ z)) (Nat.le_succ _) ⟨⟨_, _, ge⟩, ⟨_, ge⟩, ExcM.ext⟩
  have r2 : Vals (V.ref (h1.objs.size + 1) :: vs) (Value.ref (h1.objs.size + 1) :: us) := .cons rfl r
  have hlen : (Value.ref (h1.objs.size + 1) :: us).length = ps.length := by
    have e := r2.length
    rw [F.len _ _ _ _ hq] at e
    exact e.symm
  refine call_init PySem.F.excBase_ValueError (by decide) PySem.F.excBase_ValueError (hT0.keeps kb) (kb _ _ hC0) (hn0.keeps kb) hi0 (I1.kIn _ _ lI) cI ?_ (by show us.length ≤ sizeLine; rw [← r.length]; exact hl)
  refine wpAny_call (codeAny_mono (F.run _ X.stack _ _ ⟨Value.ref (h1.objs.size + 1) :: us, []⟩ (Value.ref (h1.objs.size + 1) :: us) _ _ E0 (hr.make C us []) (I2.env0.make C us []) ?_ r2 hq) fun r s' hq' => ?_)
  · have z := hb _ (Value.ref (h1.objs.size + 1) :: us) I2.kIn (by rw [List.append_nil]; exact hlen)
    rw [List.append_nil] at z
    exact z
  cases r with
  | error e => exact False.elim hq'
  | ok fl =>
    cases fl with
    | ret u =>
      obtain ⟨v, H', I3, rv, ev, dd', ge, hE⟩ := I2.after hq'
      subst ev
      obtain ⟨t, sl, g⟩ := (show ObjOk X.prog X.w H' s'.heap (h1.objs.size + 1) (.ext (ExcM (h1.objs.size + 1) C dd')) from I3.hok _ _ ge).1
      refine ⟨rv, _, _, t, sl, rfl, I3.bk _ _ hC0, g, _, _, dd', _, rfl, hE, ExcAt.init I3.unwish ge ?_⟩
      exact Heap.get?_none_of_le (Nat.le_trans I1.sz (Nat.le_succ _))
    | next => exact False.elim hq'
    | brk => exact False.elim hq'
    | cont => exact False.elim hq'
/-! ### self.f = v in such an __init__, e.f of one that was caught -/
section
variable {X : Cx} {o e value : Expr} {f : Str} {pos pos' : Pos} {ta tv : TE}
def sFldX (K : Frag) (ta tv : TE) (f : Str) : TS := fun D σ H => tv σ H fun y H1 => ta σ H1 fun x H2 => ∃ e C, x = .ref e ∧ H2 e = some (.ext (ExcM e C none)) ∧ ClsX K C ∧ NoAttr K C f ∧
  ∀ dx, H2 dx = none → D.nx σ (upd (upd H2 e (.ext (ExcM e C (some dx)))) dx (.xd [(f, y)]))
theorem ps_fldX (ha : PE X o ta) (hv : PE X value tv) (hs : swapsWith value (some (.Attribute o f pos')) pos.line X.env = pure false) : PS X (.Assign [.Attribute o f pos'] value pos) (sFldX X.K ta tv f) := by
  intro pins s σ H D I h
  refine plainObj_wpAny_Assign_Attribute (thn (hv pins s σ H _ I h) fun u s1 ⟨y, H1, I1, ry, q⟩ => thn (ha pins s1 σ H1 _ I1 q) fun ov s2 ⟨x, H2, I2, rx, a, C, ex, ea, c, n, q2⟩ => ?_) hs
  subst ex
  obtain rfl : ov = Value.ref a := rx
  exact setattrX_ok I2 ea c n ry fun dx s3 hx I3 => ⟨σ, _, I3, q2 dx hx⟩
def tFldX (K : Frag) (ta : TE) (f : Str) : TE := fun σ H Q => ta σ H fun x H1 => ∃ a C dx fs v, x = .ref a ∧ H1 a = some (.ext (IsExcD a (.ref C) (some dx))) ∧ H1 dx = some (.xd fs) ∧ ClsX K C ∧ NoAttr K C f ∧ fs.lookup f = some v ∧ Q v H1
theorem pe_fldX {K : Frag} (hK : X.K = K) (he : PE X e ta) (hb : attributeBase e f X.env (eval e X.env) = eval e X.env) : PE X (.Attribute e f pos) (tFldX K ta f) := by
  subst hK
  intro pins s σ H Q I h
  refine attr_of hb (thn (he pins s σ H _ I h) fun u s1 ⟨x, H1, I1, rx, a, C, dx, fs, v, ex, ea, ed, c, n, l, q⟩ => ?_)
  subst ex
  obtain rfl : u = Value.ref a := rx
  obtain ⟨oe, vs, g, g1, g2, g3⟩ := (show ObjOk X.prog X.w H1 s1.heap a (.ext (IsExcD a (.ref C) (some dx))) from I1.hok a _ ea).1
  obtain ⟨mA, n1, r⟩ := (show ObjOk X.prog X.w H1 s1.heap dx (.xd fs) from I1.hok dx _ ed)
  obtain ⟨u, hu, ru⟩ := RelO.some_of (v := v) (o := mA f) (by rw [← l]; exact r f)
  exact getX I1.kIn g g1 g3 g2 n1 c n hu (handed_of ru) ⟨v, H1, I1.tok _, ru, q⟩
end
theorem IsExcD.cls {e D : Addr} {dd : Option Addr} {h : Heap} (x : IsExcD e (.ref D) dd h) : ClsAt e D h := let ⟨oe, _, a, b, _, _⟩ := x; ⟨oe, a, b⟩
theorem call_isiXD {X : Cx} {K : Frag} (hK : X.K = K := by rfl) : CallR X (.builtin "isinstance") (fun xs H Q => ∃ e D dd, ∃ (x : V) (c : Value) (b : Bool), xs = [.ref e, x] ∧ (∀ u, RelV x u → u = c) ∧ H e = some (.ext (IsExcD e (.ref D) dd)) ∧ ClsE K D ∧ kitOne K (.ref D) c = some b ∧ Q (.bl b) H) := by
  intro pins s σ H xs us Q I r h
  subst hK
  obtain ⟨e, D, dd, x, c, b, rfl, hx, he, hc, hk, q⟩ := h
  obtain ⟨u, v, rfl, ru, rv⟩ := vals2 r
  obtain rfl : u = Value.ref e := ru
  obtain rfl := hx v rv
  have p : IsExcD e (.ref D) dd s.heap := (show ObjOk X.prog X.w H s.heap e (.ext (IsExcD e (.ref D) dd)) from I.hok e _ he).1
  exact kia_one hc.kit I.kIn p.cls hk (fun z => nomatch z) fun tk => ⟨.bl b, H, I.tok tk, rfl, q⟩
/-! ### try: f(..) except S as n: suite, the exception with its dict -/
def tTryX (K : Frag) (S : Addr) (i : Nat) (tx : TX) (ts : TS) : TS := fun D σ H => tx σ H (fun _ H1 => D.nx σ H1) (fun C dd H1 => ∃ c, C = .ref c ∧ Takes K c S ∧ ∀ e, H1 e = none →
  ts { nx := fun σ' H' => D.nx (σ'.set i none) H', rt := D.rt, bk := fun σ' H' => D.bk (σ'.set i none) H', ct := fun σ' H' => D.ct (σ'.set i none) H' } (σ.set i (some (.ref e))) (upd H1 e (.ext (IsExcD e (.ref c) dd))))
theorem ps_tryX {X : Cx} {e : Expr} {S n : Str} {Sc : Addr} {i : Nat} {b0 : Stmt} {body : List Stmt} {tx : TX} {ts : TS} {epos spos hpos pos : Pos} (top : X.stack = X.env :: X.outer) (fr : X.env.frame = some X.env.locals)
    (hx : PX X e tx) (hg : Gl X S) (hm : X.mg S = some (.ref Sc)) (hs : ∀ a, PSs (X.inH a).nox (b0 :: body) ts) (hN : X.N.Nodup) (hi : X.N[i]? = some n) (hk : X.env.scope.names.lookup n = some .local)
    (hd : (S == ("__debug__" : Str)) = false := by decide) (hsw : swapsWith e none epos.line X.env = pure false := by rfl) :
    PS X (.Try [.Expr e epos] [.ExceptHandler (some (.Name S spos)) (some n) (b0 :: body) hpos] [] [] pos) (tTryX X.K Sc i tx ts) := by
  intro pins s σ H D I h
  refine wpAny_Try_except ?_
  have hb := wpAny_Expr_any (Q := fun f s1 => f = .next ∧ ∃ H1, Inv X pins σ H1 s1 ∧ D.nx σ H1) (thn (hx pins s σ H _ _ I h) fun v s1 ⟨x, H1, I1, r, q⟩ => ⟨rfl, H1, I1, q⟩) I.quiet hsw
  refine wpAny_execs_cons (wpAny_mono hb (fun f s1 ⟨hf, H1, I1, q⟩ => ?_) fun ev s' ⟨H1, s1, I1, hc⟩ => ?_)
  · subst hf
    exact wpAny_execs_nil (wpAny_execs_nil ⟨σ, H1, I1, q⟩)
  · refine CX1.lands (by rw [← top]; exact I1.ok.frames) top fr hc fun a C dd0 H' s3 ha hE l => ?_
    subst ha
    obtain ⟨c, rfl, ⟨bm, bm', ⟨nm, q, N, bs, hdct, sn, sub, ab, col, dd, k0, k1, k2, k3, k5, nid, lc⟩, ⟨nm', q', N', bs', hdct', sn', sub', ab', col', dd', k0', k1', k2', k3', k5', nid', lS⟩, hB, hM⟩, hts⟩ := hE
    refine wpAny_handleBy_cons (codeAny_handlers_test ?_) (by intro q; cases q)
    have I3 := l.inv I1
    refine ld_glob (X := X.inH a) I3.inH hg hm ?_ hd
    obtain ⟨oe, vs, hoe, hcl, hda⟩ := l.obj
    have kC := I3.kIn _ _ lc
    have kS := I3.kIn _ _ lS
    obtain ⟨h3, g3, d3, t3, os3⟩ := s3
    refine matches_own kC kS hoe hcl hB hM ?_
    refine codeAny_handlers_suite_as ?_
    refine l.again fun s4 l4 => ?_
    have I4 := l4.trackedD I1
    refine store_ok (X := X.inH a) (v := .ref a) I4.inH hN hi (.inl hk) rfl (fun s5 I5 => ?_) (.inr hk)
    refine wpAny_mono (hs a pins s5 _ _ _ (I5.wish _) (hts a l4.fe)) (fun f s6 q => ?_) (fun _ _ z => False.elim z)
    cases f with
    | next => obtain ⟨σ', H2, J, q⟩ := q; exact goes (X := X) (J.unwish.ofH I.ok) hN hi hk fun s7 J7 => ⟨_, H2, J7, q⟩
    | brk => obtain ⟨σ', H2, J, q⟩ := q; exact goes (X := X) (J.unwish.ofH I.ok) hN hi hk fun s7 J7 => ⟨_, H2, J7, q⟩
    | cont => obtain ⟨σ', H2, J, q⟩ := q; exact goes (X := X) (J.unwish.ofH I.ok) hN hi hk fun s7 J7 => ⟨_, H2, J7, q⟩
    | ret u => obtain ⟨v, σ', H2, J, r, q⟩ := q; exact goes (X := X) (J.unwish.ofH I.ok) hN hi hk fun s7 J7 => ⟨v, _, H2, J7, r, q⟩
/-- what lies there behind a raise with one attribute -/
theorem del_made {H : Hp} {e dx C : Addr} {f : Str} {y : V} {H' : Hp} (he : H e = none) (hd : upd H e (.ext (ExcM e C none)) dx = none) (eH : H' = upd (upd (upd H e (.ext (ExcM e C none))) e (.ext (ExcM e C (some dx)))) dx (.xd [(f, y)])) :
    H' e = some (.ext (ExcM e C (some dx))) ∧ delH H' e dx = some (.xd [(f, y)]) ∧ ∀ b o, H b = some o → delH H' e b = some o := by
  have ne : dx ≠ e := fun z => by rw [z, upd_same] at hd; cases hd
  have hdx : H dx = none := by rw [upd_ne ne] at hd; exact hd
  subst eH
  refine ⟨by rw [upd_ne ne.symm, upd_same], by rw [del_ne ne, upd_same], fun b o q => ?_⟩
  have nb : b ≠ e := fun z => by rw [z, he] at q; cases q
  have nb2 : b ≠ dx := fun z => by rw [z, hdx] at q; cases q
  rw [del_ne nb, upd_ne nb2, upd_ne nb, upd_ne nb]
  exact q
end L2

set_option Elab.async false
set_option linter.all false
set_option maxRecDepth 100000
namespace L2
open PySem PySem.Spec PyProof.Rows PySem.W
/-! ### two except clauses, the exception with its dict -/
theorem Takes.mkG {K : Frag} {c S : Addr} {h : Heap} (hc : ∃ bm, IsXC K c bm ∧ OwnTail h bmV bm) (hS : ∃ bm, IsXC K S bm ∧ OwnTail h bmV bm) (hm : mroIn K c (.ref S) = some true) : Takes K c S := by
  obtain ⟨bm, x, _⟩ := hc
  obtain ⟨bm', x', t'⟩ := hS
  refine ⟨bm, bm', x, x', t'.hasType (by decide), ?_⟩
  obtain ⟨nm, q, N, bs, hdct, sn, sub, ab, col, dd, k0, k1, k2, k3, k5, nid, lc⟩ := x
  unfold mroIn clsIn at hm
  rw [lc] at hm
  simpa using hm
end L2

set_option Elab.async false
set_option linter.all false
set_option maxRecDepth 100000
namespace L2
open PySem PySem.Spec PyProof.Rows PySem.W
/-! ### list(x) and sorted(x, reverse=b) within a comprehension -/
theorem pe_sortRK {X : Cx} (K0 : PySem.W.Frag) (h0 : X.K = K0) {e : Expr} {te : TE} {b : Bool} {p kp cp pos : Pos} {j : Nat} (hg : Gl X "sorted") (hm : X.mg "sorted" = none) (he : PE X e te)
    (hse : starEach [e] X.env = [(false, eval e X.env)] := by rfl) : PE X (.Call (.Name "sorted" p) [e] [⟨some "reverse", .Constant (.bool b) j cp, kp⟩] pos) (tSortR K0 b te) :=
  PE.kk K0 (fun K => tSortR K b te) (pe_sortR hg hm he hse) h0
def rLstOf (K : PySem.W.Frag) : List V → Hp → VK → Prop := fun xs H Q => ∃ p ys, xs = [.ref p] ∧ (SqL K H p ys ∨ SqT K H p ys) ∧ ∀ l, H l = none → Q (.ref l) (upd H l (.lst ys))
theorem call_list_ofK {X : Cx} (K0 : PySem.W.Frag) (h : X.K = K0) : CallR X (.type "list") (rLstOf K0) := CallR.kk K0 rLstOf call_list_of h
theorem comp_trueT {K : PySem.W.Frag} {i : Nat} {a : Addr} {xs : List V} {nm : Str} {fr : List (Str × Nat)} {te : TE} {σ : St} {H : Hp} {Q : VK} (tl : St) (hle : xs.length ≤ sizeLine) (htl : startC [nm] fr σ = none :: tl) (hs : σ[i]? = some (some (.ref a))) (h : H a = some (.tup xs))
    (step : ∀ (j : Nat) (x : V) (H' : Hp) (P : VK), xs[j]? = some x → Same H H' → (∀ H'', Same H' H'' → P (.bl true) H'') → te (some x :: tl) H' P)
    (hd : ∀ H' p, Same H H' → H' p = none → Q (.ref p) (upd H' p (.lst ((List.replicate xs.length true).map V.bl)))) : tComp (iTup K (tVar i)) [nm] fr (gName 0) tYes te σ H Q := by
  refine comp_map1T (fun (b : Bool) v _ => v = V.bl b) (List.replicate xs.length true) tl (by rw [List.length_replicate]) hle (fun _ _ _ _ _ h => h) htl hs h (fun j x b H' P hx hb s' hP => ?_) (fun zs H' p s' a2 hp => ?_)
  · have e : b = true := by
      obtain ⟨_, e⟩ := List.getElem?_eq_some_iff.mp hb
      rw [← e]; simp
    exact step j x H' P hx s' fun H'' s'' => hP _ _ s'' (by rw [e])
  · rw [bls_of a2]
    exact hd H' p s' hp
/-! ### lists within lists: == -/
theorem eqk_lst {X : Cx} {α : Type} [DecidableEq α] {R : α → V → Hp → Prop} {n : Nat} (h : EqK X α R n) (det : ∀ (pins : List (Addr × Obj)) (σ : St) (H : Hp) (s : Shared) (a b : α) (v : V), Inv X pins σ H s → R a v H → R b v H → a = b) : EqK X (List α) (RLst X.K R) (n + 1) := fun pins σ H s A a b v w u u' I hu r1 r2 q1 q2 => by
  obtain ⟨p, xs, rfl, h1, a1⟩ := id r1
  obtain ⟨q, ys, rfl, h2, a2⟩ := id r2
  cases q1
  cases q2
  by_cases hpq : p = q
  · subst hpq
    have e := I.list_inj h1 h2
    subst e
    have : a = b := by
      clear r1 r2 h1 h2 hu
      induction a1 generalizing b with
      | nil => cases a2; rfl
      | cons r t ih =>
        cases a2 with
        | cons r' t' => rw [det pins σ H s _ _ _ I r r', ih _ t']
    rw [decide_eq_true this]
    exact SeqAt.EqAt.same _
  · exact SeqAt.EqAt.of_refs hpq (rc_lst h I hu r1 r2)
theorem Lst1.rlst {K : PySem.W.Frag} {H : Hp} {rows : List (List Int)} {xs : List V} (h : All2 Lst1 H rows xs) : All2 (RLst K RInt) H rows xs := by
  induction h with
  | nil => exact .nil
  | cons r _ ih => obtain ⟨q, e, h⟩ := r; exact .cons ⟨q, _, e, SqL.of h, all2_ints _⟩ ih
end L2

set_option maxHeartbeats 4000000
namespace My
open PySem PySem.Spec PyProof.Rows L2
def top (i : Nat) : Stmt := PySem.Challenge.pw_shutpairs_k11_rules_kept.main.body.getD i (.Pass ⟨0, 0, 0, 0⟩)
abbrev s_NoHeap___init__ : Stmt := inClass (top 2) 0
abbrev s_heap_of : Stmt := top 23
abbrev s_rule_of : Stmt := top 28
abbrev s__law_start : Stmt := top 33
abbrev s__law_mix : Stmt := top 35
abbrev s__law_draw : Stmt := top 34
abbrev s__law_heap : Stmt := top 36
abbrev s__law_joined : Stmt := top 38
abbrev s__law_whole : Stmt := top 40
abbrev s__law_row : Stmt := top 39
abbrev s__law_rows : Stmt := top 42
abbrev s__law_alone : Stmt := top 41
abbrev s__law_refused : Stmt := top 43
abbrev s_often : Stmt := top 24
abbrev s_lies_in : Stmt := top 25
abbrev s_all_in : Stmt := top 29
abbrev s_first_in : Stmt := top 30
abbrev s_keeps : Stmt := top 31
abbrev s__law_lies : Stmt := top 37
abbrev s__law_told : Stmt := top 44
abbrev s_law : Stmt := top 45
set_option genInjectivity false in
structure Adr where
  a_NoHeap___init__ : Addr
  fd_NoHeap___init__ : FuncData
  a_heap_of : Addr
  fd_heap_of : FuncData
  a_rule_of : Addr
  fd_rule_of : FuncData
  a__law_start : Addr
  fd__law_start : FuncData
  a__law_mix : Addr
  fd__law_mix : FuncData
  a__law_draw : Addr
  fd__law_draw : FuncData
  a__law_heap : Addr
  fd__law_heap : FuncData
  a__law_joined : Addr
  fd__law_joined : FuncData
  a__law_whole : Addr
  fd__law_whole : FuncData
  a__law_row : Addr
  fd__law_row : FuncData
  a__law_rows : Addr
  fd__law_rows : FuncData
  a__law_alone : Addr
  fd__law_alone : FuncData
  a__law_refused : Addr
  fd__law_refused : FuncData
  a_often : Addr
  fd_often : FuncData
  a_lies_in : Addr
  fd_lies_in : FuncData
  a_all_in : Addr
  fd_all_in : FuncData
  a_first_in : Addr
  fd_first_in : FuncData
  a_keeps : Addr
  fd_keeps : FuncData
  a__law_lies : Addr
  fd__law_lies : FuncData
  a__law_told : Addr
  fd__law_told : FuncData
  a_law : Addr
  fd_law : FuncData
  c_ShutError : Addr
  c_NoHeap : Addr
  c_NotIn : Addr
  c_NoText : Addr
  c_NoRule : Addr
  c_NoSum : Addr
  c_NotKept : Addr
  c_NoPlace : Addr
  c_NoPair : Addr
  c_NotSoMany : Addr
  c_Unmatched : Addr
  c_NotPaired : Addr
  c_TooLong : Addr
  c_NotStrict : Addr
  c_LeftOver : Addr
  c_NoBottom : Addr
  c_NoLanes : Addr
  c_TooGreat : Addr
  c_NoLine : Addr
  c_NoName : Addr
  c_NothingLeft : Addr
set_option genInjectivity false in
structure Txt (K : PySem.W.Frag) (mg : Str → Option Value) (A : Adr) : Prop where
  F_NoHeap___init__ : Fun K "__init__" "NoHeap.__init__" s_NoHeap___init__ A.a_NoHeap___init__ A.fd_NoHeap___init__
  b_NoHeap___init__ : Binds K A.fd_NoHeap___init__ ["self", "part"] []
  F_heap_of : Fun K "heap_of" "heap_of" s_heap_of A.a_heap_of A.fd_heap_of
  b_heap_of : Binds K A.fd_heap_of ["parts"] []
  g_heap_of : mg "heap_of" = some (.ref A.a_heap_of)
  F_rule_of : Fun K "rule_of" "rule_of" s_rule_of A.a_rule_of A.fd_rule_of
  b_rule_of : Binds K A.fd_rule_of ["heaps"] []
  g_rule_of : mg "rule_of" = some (.ref A.a_rule_of)
  F__law_start : Fun K "_law_start" "_law_start" s__law_start A.a__law_start A.fd__law_start
  b__law_start : Binds K A.fd__law_start ["_law_script"] []
  g__law_start : mg "_law_start" = some (.ref A.a__law_start)
  F__law_mix : Fun K "_law_mix" "_law_mix" s__law_mix A.a__law_mix A.fd__law_mix
  b__law_mix : Binds K A.fd__law_mix ["_law_state"] []
  g__law_mix : mg "_law_mix" = some (.ref A.a__law_mix)
  F__law_draw : Fun K "_law_draw" "_law_draw" s__law_draw A.a__law_draw A.fd__law_draw
  b__law_draw : Binds K A.fd__law_draw ["_law_state", "_law_many"] []
  g__law_draw : mg "_law_draw" = some (.ref A.a__law_draw)
  F__law_heap : Fun K "_law_heap" "_law_heap" s__law_heap A.a__law_heap A.fd__law_heap
  b__law_heap : Binds K A.fd__law_heap ["_law_state", "_law_size", "_law_top"] []
  g__law_heap : mg "_law_heap" = some (.ref A.a__law_heap)
  F__law_joined : Fun K "_law_joined" "_law_joined" s__law_joined A.a__law_joined A.fd__law_joined
  b__law_joined : Binds K A.fd__law_joined ["_law_heaps"] []
  g__law_joined : mg "_law_joined" = some (.ref A.a__law_joined)
  F__law_whole : Fun K "_law_whole" "_law_whole" s__law_whole A.a__law_whole A.fd__law_whole
  b__law_whole : Binds K A.fd__law_whole ["_law_found"] []
  g__law_whole : mg "_law_whole" = some (.ref A.a__law_whole)
  F__law_row : Fun K "_law_row" "_law_row" s__law_row A.a__law_row A.fd__law_row
  b__law_row : Binds K A.fd__law_row ["_law_found"] []
  g__law_row : mg "_law_row" = some (.ref A.a__law_row)
  F__law_rows : Fun K "_law_rows" "_law_rows" s__law_rows A.a__law_rows A.fd__law_rows
  b__law_rows : Binds K A.fd__law_rows ["_law_state"] []
  g__law_rows : mg "_law_rows" = some (.ref A.a__law_rows)
  F__law_alone : Fun K "_law_alone" "_law_alone" s__law_alone A.a__law_alone A.fd__law_alone
  b__law_alone : Binds K A.fd__law_alone ["_law_e"] []
  g__law_alone : mg "_law_alone" = some (.ref A.a__law_alone)
  F__law_refused : Fun K "_law_refused" "_law_refused" s__law_refused A.a__law_refused A.fd__law_refused
  b__law_refused : Binds K A.fd__law_refused ["_law_handed", "_law_bad"] []
  g__law_refused : mg "_law_refused" = some (.ref A.a__law_refused)
  F_often : Fun K "often" "often" s_often A.a_often A.fd_often
  b_often : Binds K A.fd_often ["heap", "part"] []
  g_often : mg "often" = some (.ref A.a_often)
  F_lies_in : Fun K "lies_in" "lies_in" s_lies_in A.a_lies_in A.fd_lies_in
  b_lies_in : Binds K A.fd_lies_in ["one", "other"] []
  g_lies_in : mg "lies_in" = some (.ref A.a_lies_in)
  F_all_in : Fun K "all_in" "all_in" s_all_in A.a_all_in A.fd_all_in
  b_all_in : Binds K A.fd_all_in ["rule", "heap"] []
  g_all_in : mg "all_in" = some (.ref A.a_all_in)
  F_first_in : Fun K "first_in" "first_in" s_first_in A.a_first_in A.fd_first_in
  b_first_in : Binds K A.fd_first_in ["rule", "heap"] []
  g_first_in : mg "first_in" = some (.ref A.a_first_in)
  F_keeps : Fun K "keeps" "keeps" s_keeps A.a_keeps A.fd_keeps
  b_keeps : Binds K A.fd_keeps ["rule", "heap"] []
  g_keeps : mg "keeps" = some (.ref A.a_keeps)
  F__law_lies : Fun K "_law_lies" "_law_lies" s__law_lies A.a__law_lies A.fd__law_lies
  b__law_lies : Binds K A.fd__law_lies ["_law_one", "_law_other"] []
  g__law_lies : mg "_law_lies" = some (.ref A.a__law_lies)
  F__law_told : Fun K "_law_told" "_law_told" s__law_told A.a__law_told A.fd__law_told
  b__law_told : Binds K A.fd__law_told ["_law_rule", "_law_heap_here"] []
  g__law_told : mg "_law_told" = some (.ref A.a__law_told)
  F_law : Fun K "law" "law" s_law A.a_law A.fd_law
  b_law : Binds K A.fd_law ["_law_script"] []
  g_law : mg "law" = some (.ref A.a_law)
  b_ValueError : mg "ValueError" = none
  b_all : mg "all" = none
  b_bool : mg "bool" = none
  b_enumerate : mg "enumerate" = none
  b_int : mg "int" = none
  b_isinstance : mg "isinstance" = none
  b_len : mg "len" = none
  b_list : mg "list" = none
  b_min : mg "min" = none
  b_range : mg "range" = none
  b_sorted : mg "sorted" = none
  b_tuple : mg "tuple" = none
  v_MOST_HEAPS : ∃ t, mg "MOST_HEAPS" = some (.int 6 t)
  kin : ∃ h, K.In h
  g_ShutError : mg "ShutError" = some (.ref A.c_ShutError)
  g_NoHeap : mg "NoHeap" = some (.ref A.c_NoHeap)
  g_NotIn : mg "NotIn" = some (.ref A.c_NotIn)
  g_NoText : mg "NoText" = some (.ref A.c_NoText)
  g_NoRule : mg "NoRule" = some (.ref A.c_NoRule)
  g_NoSum : mg "NoSum" = some (.ref A.c_NoSum)
  g_NotKept : mg "NotKept" = some (.ref A.c_NotKept)
  g_NoPlace : mg "NoPlace" = some (.ref A.c_NoPlace)
  g_NoPair : mg "NoPair" = some (.ref A.c_NoPair)
  g_NotSoMany : mg "NotSoMany" = some (.ref A.c_NotSoMany)
  g_Unmatched : mg "Unmatched" = some (.ref A.c_Unmatched)
  g_NotPaired : mg "NotPaired" = some (.ref A.c_NotPaired)
  g_TooLong : mg "TooLong" = some (.ref A.c_TooLong)
  g_NotStrict : mg "NotStrict" = some (.ref A.c_NotStrict)
  g_LeftOver : mg "LeftOver" = some (.ref A.c_LeftOver)
  g_NoBottom : mg "NoBottom" = some (.ref A.c_NoBottom)
  g_NoLanes : mg "NoLanes" = some (.ref A.c_NoLanes)
  g_TooGreat : mg "TooGreat" = some (.ref A.c_TooGreat)
  g_NoLine : mg "NoLine" = some (.ref A.c_NoLine)
  g_NoName : mg "NoName" = some (.ref A.c_NoName)
  g_NothingLeft : mg "NothingLeft" = some (.ref A.c_NothingLeft)
  x_NoRule : ExcC K A.c_NoRule
  x_ShutError : ExcC K A.c_ShutError
  e_NoHeap : ClsE K A.c_NoHeap
  t_NoHeap_ShutError : PySem.W.mroIn K A.c_NoHeap (.ref A.c_ShutError) = some true
  i_NoHeap_LeftOver : PySem.W.kitOne K (.ref A.c_NoHeap) (.ref A.c_LeftOver) = some false
  i_NoHeap_NoBottom : PySem.W.kitOne K (.ref A.c_NoHeap) (.ref A.c_NoBottom) = some false
  i_NoHeap_NoHeap : PySem.W.kitOne K (.ref A.c_NoHeap) (.ref A.c_NoHeap) = some true
  i_NoHeap_NoLanes : PySem.W.kitOne K (.ref A.c_NoHeap) (.ref A.c_NoLanes) = some false
  i_NoHeap_NoLine : PySem.W.kitOne K (.ref A.c_NoHeap) (.ref A.c_NoLine) = some false
  i_NoHeap_NoName : PySem.W.kitOne K (.ref A.c_NoHeap) (.ref A.c_NoName) = some false
  i_NoHeap_NoPair : PySem.W.kitOne K (.ref A.c_NoHeap) (.ref A.c_NoPair) = some false
  i_NoHeap_NoPlace : PySem.W.kitOne K (.ref A.c_NoHeap) (.ref A.c_NoPlace) = some false
  i_NoHeap_NoRule : PySem.W.kitOne K (.ref A.c_NoHeap) (.ref A.c_NoRule) = some false
  i_NoHeap_NoSum : PySem.W.kitOne K (.ref A.c_NoHeap) (.ref A.c_NoSum) = some false
  i_NoHeap_NoText : PySem.W.kitOne K (.ref A.c_NoHeap) (.ref A.c_NoText) = some false
  i_NoHeap_NotIn : PySem.W.kitOne K (.ref A.c_NoHeap) (.ref A.c_NotIn) = some false
  i_NoHeap_NotKept : PySem.W.kitOne K (.ref A.c_NoHeap) (.ref A.c_NotKept) = some false
  i_NoHeap_NotPaired : PySem.W.kitOne K (.ref A.c_NoHeap) (.ref A.c_NotPaired) = some false
  i_NoHeap_NotSoMany : PySem.W.kitOne K (.ref A.c_NoHeap) (.ref A.c_NotSoMany) = some false
  i_NoHeap_NotStrict : PySem.W.kitOne K (.ref A.c_NoHeap) (.ref A.c_NotStrict) = some false
  i_NoHeap_NothingLeft : PySem.W.kitOne K (.ref A.c_NoHeap) (.ref A.c_NothingLeft) = some false
  i_NoHeap_ShutError : PySem.W.kitOne K (.ref A.c_NoHeap) (.ref A.c_ShutError) = some true
  i_NoHeap_TooGreat : PySem.W.kitOne K (.ref A.c_NoHeap) (.ref A.c_TooGreat) = some false
  i_NoHeap_TooLong : PySem.W.kitOne K (.ref A.c_NoHeap) (.ref A.c_TooLong) = some false
  i_NoHeap_Unmatched : PySem.W.kitOne K (.ref A.c_NoHeap) (.ref A.c_Unmatched) = some false
  i_NoHeap_ValueError : PySem.W.kitOne K (.ref A.c_NoHeap) (.type "ValueError") = some true
  e_NoRule : ClsE K A.c_NoRule
  t_NoRule_ShutError : PySem.W.mroIn K A.c_NoRule (.ref A.c_ShutError) = some true
  i_NoRule_LeftOver : PySem.W.kitOne K (.ref A.c_NoRule) (.ref A.c_LeftOver) = some false
  i_NoRule_NoBottom : PySem.W.kitOne K (.ref A.c_NoRule) (.ref A.c_NoBottom) = some false
  i_NoRule_NoHeap : PySem.W.kitOne K (.ref A.c_NoRule) (.ref A.c_NoHeap) = some false
  i_NoRule_NoLanes : PySem.W.kitOne K (.ref A.c_NoRule) (.ref A.c_NoLanes) = some false
  i_NoRule_NoLine : PySem.W.kitOne K (.ref A.c_NoRule) (.ref A.c_NoLine) = some false
  i_NoRule_NoName : PySem.W.kitOne K (.ref A.c_NoRule) (.ref A.c_NoName) = some false
  i_NoRule_NoPair : PySem.W.kitOne K (.ref A.c_NoRule) (.ref A.c_NoPair) = some false
  i_NoRule_NoPlace : PySem.W.kitOne K (.ref A.c_NoRule) (.ref A.c_NoPlace) = some false
  i_NoRule_NoRule : PySem.W.kitOne K (.ref A.c_NoRule) (.ref A.c_NoRule) = some true
  i_NoRule_NoSum : PySem.W.kitOne K (.ref A.c_NoRule) (.ref A.c_NoSum) = some false
  i_NoRule_NoText : PySem.W.kitOne K (.ref A.c_NoRule) (.ref A.c_NoText) = some false
  i_NoRule_NotIn : PySem.W.kitOne K (.ref A.c_NoRule) (.ref A.c_NotIn) = some false
  i_NoRule_NotKept : PySem.W.kitOne K (.ref A.c_NoRule) (.ref A.c_NotKept) = some false
  i_NoRule_NotPaired : PySem.W.kitOne K (.ref A.c_NoRule) (.ref A.c_NotPaired) = some false
  i_NoRule_NotSoMany : PySem.W.kitOne K (.ref A.c_NoRule) (.ref A.c_NotSoMany) = some false
  i_NoRule_NotStrict : PySem.W.kitOne K (.ref A.c_NoRule) (.ref A.c_NotStrict) = some false
  i_NoRule_NothingLeft : PySem.W.kitOne K (.ref A.c_NoRule) (.ref A.c_NothingLeft) = some false
  i_NoRule_ShutError : PySem.W.kitOne K (.ref A.c_NoRule) (.ref A.c_ShutError) = some true
  i_NoRule_TooGreat : PySem.W.kitOne K (.ref A.c_NoRule) (.ref A.c_TooGreat) = some false
  i_NoRule_TooLong : PySem.W.kitOne K (.ref A.c_NoRule) (.ref A.c_TooLong) = some false
  i_NoRule_Unmatched : PySem.W.kitOne K (.ref A.c_NoRule) (.ref A.c_Unmatched) = some false
  i_NoRule_ValueError : PySem.W.kitOne K (.ref A.c_NoRule) (.type "ValueError") = some true
  xi_NoHeap : ExcI K A.c_NoHeap A.a_NoHeap___init__
  cx_NoHeap : ClsX K A.c_NoHeap
  na_NoHeap_part : NoAttr K A.c_NoHeap "part"
section
variable {P : Program} {w : World} {K : PySem.W.Frag} {mg : Str → Option Value} {base : Heap} {A : Adr}
def n_NoHeap___init__ : List Str := ["self", "part"]
theorem sc_NoHeap___init__ : FnScope n_NoHeap___init__ ["self", "part"] (defScope s_NoHeap___init__) := ⟨rfl, rfl, rfl, by decide +kernel, rfl, by decide +kernel, by decide +kernel⟩
def sp_NoHeap (A : Adr) : Sp := fun vs H Q _ => ∃ (e : Addr) (v : V), vs = [.ref e, v] ∧ H e = some (.ext (ExcM e A.c_NoHeap none)) ∧ ∀ (dx : Addr) (H' : Hp), H dx = none → H' = upd (upd H e (.ext (ExcM e A.c_NoHeap (some dx)))) dx (.xd [("part", v)]) → Q .non H'
theorem ok_NoHeap___init__ (T : Txt K mg A) : FnOk P w K mg base CX0 1 A.a_NoHeap___init__ A.fd_NoHeap___init__ ["self", "part"] (sp_NoHeap A) := by
  refine T.F_NoHeap___init__.ok sc_NoHeap___init__ (fun vs H Q E h => ?_) (fun cdv Ar outer s H vs Q E hr h => ?_)
  · obtain ⟨e, v, rfl, he, k⟩ := h
    rfl
  · obtain ⟨e, v, rfl, he, k⟩ := h
    refine ⟨_, (pss_one (ps_fldX (pv 0) (pv 1) rfl)), ?_⟩
    exact ⟨_, rfl, _, rfl, e, A.c_NoHeap, rfl, he, T.cx_NoHeap, T.na_NoHeap_part, fun dx hdx => k dx _ hdx rfl⟩
def n_heap_of : List Str := ["parts", "part"]
theorem sc_heap_of : FnScope n_heap_of ["parts"] (defScope s_heap_of) := ⟨rfl, rfl, rfl, by decide +kernel, rfl, by decide +kernel, by decide +kernel⟩
/-- the first one below 1 -/
def FirstBad (ns : List Int) (z : Int) : Prop := ∃ l r, ns = l ++ z :: r ∧ z < 1 ∧ ∀ x ∈ l, 1 ≤ x
theorem FirstBad.eq {ns : List Int} {z y : Int} {i : Nat} (h : FirstBad ns z) (hi : ns[i]? = some y) (hy : y < 1) (hall : ∀ x ∈ ns.take i, 1 ≤ x) : y = z := by
  obtain ⟨l, r, rfl, hz, hl⟩ := h
  rcases Nat.lt_trichotomy i l.length with c | c | c
  · rw [List.getElem?_append_left c] at hi
    have := hl y (List.mem_of_getElem? hi)
    omega
  · subst c
    rw [List.getElem?_append_right (Nat.le_refl _), Nat.sub_self] at hi
    exact (Option.some.inj hi).symm
  · have : z ∈ (l ++ z :: r).take i := by
      refine List.mem_iff_getElem?.mpr ⟨l.length, ?_⟩
      rw [List.getElem?_take_of_lt c, List.getElem?_append_right (Nat.le_refl _), Nat.sub_self]
      rfl
    have := hall z this
    omega
theorem FirstBad.not {ns : List Int} {z : Int} (h : FirstBad ns z) (hp : ∀ x ∈ ns, 1 ≤ x) : False := by
  obtain ⟨l, r, rfl, hz, hl⟩ := h
  have := hp z (by simp)
  omega
def sp_heap_of (A : Adr) : Sp := fun vs H Q E => ∃ (a : Addr) (ns : List Int), vs = [.ref a] ∧ (H a = some (.lst (ns.map V.int)) ∨ H a = some (.tup (ns.map V.int))) ∧ ns.length < 64 ∧
  (((∀ x ∈ ns, 1 ≤ x) ∧ ∀ (p : Addr) (H' : Hp), H' p = some (.tup ((sortD ns).map V.int)) → Same H H' → Q (.ref p) H') ∨ (∃ z, FirstBad ns z ∧ ∀ (dx : Addr) (H' : Hp), H' dx = some (.xd [("part", .int z)]) → Same H H' → E (.ref A.c_NoHeap) (some dx) H'))
theorem ok_heap_of (T : Txt K mg A) : FnOk P w K mg base (CX1 P w) 3 A.a_heap_of A.fd_heap_of ["parts"] (sp_heap_of A) := by
  refine T.F_heap_of.okE sc_heap_of (fun vs H Q E h => ?_) (fun cdv Ar outer s H vs Q E hr h => ?_)
  · obtain ⟨a, ns, rfl, ha, hl, h⟩ := h
    rfl
  · obtain ⟨a, ns, rfl, ha, hl, h⟩ := h
    refine ⟨_, (pss_cons (ps_ok fun ok => ps_for (ownE ok) rfl (pi_or (pi_list (pv 0)) (pi_tup (pv 0))) (pg_name (i := 1) sc_heap_of.nd rfl (by first | exact Or.inl rfl | exact Or.inr rfl))
          (pss_one (ps_if (pt_cmpR op_lt (pv 1) pe_int (nomark _))
          (pss_one (ps_raiseI rfl T.xi_NoHeap (ok_NoHeap___init__ T) (hr.mono (by decide)) T.b_NoHeap___init__ rfl T.g_NoHeap (pa_cons (pv 1) pa_nil))) pss_nil)))
        (pss_one (ps_ret (pe_callTy call_tuple_of rfl T.b_tuple boot_tuple (pa_cons (pe_sortR rfl T.b_sorted (pv 0)) pa_nil))))), ?_⟩
    rcases ha with ha | ha
    · refine .inl ⟨_, rfl, a, rfl, ⟨_, SqL.of ha⟩, for_list (xs := ns.map V.int) (fun i σ' H' => H' = H ∧ (∃ v, σ' = [some (.ref a), v]) ∧ i ≤ ns.length ∧ ∀ x ∈ ns.take i, 1 ≤ x) ⟨rfl, ⟨_, rfl⟩, Nat.zero_le _, by simp⟩ ?_ ?_ ?_⟩
      · rintro i σ' H' _ ⟨rfl, _⟩
        exact SqL.of ha
      · rintro i x σ' H' hx ⟨rfl, ⟨v, rfl⟩, hi, hall⟩
        obtain ⟨z, hz, rfl⟩ := map_at hx
        refine ⟨_, rfl, _, _, rfl, rfl, _, rfl, ite2 (fun hlt => ?_) (fun hge => ?_)⟩
        · have hz1 := of_decide_eq_true hlt
          refine ⟨_, rfl, by show 1 ≤ sizeLine; decide, fun e he => ⟨e, _, rfl, upd_same, fun dx H' hdx eH => ?_⟩⟩
          obtain ⟨d1, d2, d3⟩ := del_made he hdx eH
          refine ⟨rfl, some dx, d1, ?_⟩
          rcases h with ⟨hp, _⟩ | ⟨z', hz', k⟩
          · have := hp z (List.mem_of_getElem? hz)
            omega
          · rw [← hz'.eq hz hz1 hall] at k
            exact k dx _ d2 d3
        · have hz1 : ¬ z < 1 := fun y => hge (decide_eq_true y)
          refine ⟨rfl, ⟨_, rfl⟩, (List.getElem?_eq_some_iff.mp hz).1, fun x hx => ?_⟩
          rw [List.take_succ, hz] at hx
          rcases List.mem_append.mp hx with hx | hx
          · exact hall x hx
          · have : x = z := by simpa using hx
            omega
      · rintro σ' H' ⟨rfl, ⟨v, rfl⟩, _, hall⟩
        rw [List.length_map, List.take_length] at hall
        rcases h with ⟨_, k⟩ | ⟨z', hz', _⟩
        · refine ⟨_, rfl, a, ns, rfl, .inl (SqL.of ha), hl, fun ns' p4 hperm hord hp4 => ?_⟩
          refine ⟨p4, _, rfl, .inl ⟨SqL.of upd_same, fun p5 hp5 => ?_⟩⟩
          have e : ns' = sortD ns := sortD_eq hperm hord
          subst e
          exact k p5 _ upd_same ((Same.new hp4).trans (Same.new hp5))
        · exact (hz'.not hall).elim
    · refine .inr ⟨_, rfl, a, rfl, ⟨_, SqT.of ha⟩, for_tup (xs := ns.map V.int) (fun i σ' H' => H' = H ∧ (∃ v, σ' = [some (.ref a), v]) ∧ i ≤ ns.length ∧ ∀ x ∈ ns.take i, 1 ≤ x) ⟨rfl, ⟨_, rfl⟩, Nat.zero_le _, by simp⟩ ?_ ?_ ?_⟩
      · rintro i σ' H' _ ⟨rfl, _⟩
        exact SqT.of ha
      · rintro i x σ' H' hx ⟨rfl, ⟨v, rfl⟩, hi, hall⟩
        obtain ⟨z, hz, rfl⟩ := map_at hx
        refine ⟨_, rfl, _, _, rfl, rfl, _, rfl, ite2 (fun hlt => ?_) (fun hge => ?_)⟩
        · have hz1 := of_decide_eq_true hlt
          refine ⟨_, rfl, by show 1 ≤ sizeLine; decide, fun e he => ⟨e, _, rfl, upd_same, fun dx H' hdx eH => ?_⟩⟩
          obtain ⟨d1, d2, d3⟩ := del_made he hdx eH
          refine ⟨rfl, some dx, d1, ?_⟩
          rcases h with ⟨hp, _⟩ | ⟨z', hz', k⟩
          · have := hp z (List.mem_of_getElem? hz)
            omega
          · rw [← hz'.eq hz hz1 hall] at k
            exact k dx _ d2 d3
        · have hz1 : ¬ z < 1 := fun y => hge (decide_eq_true y)
          refine ⟨rfl, ⟨_, rfl⟩, (List.getElem?_eq_some_iff.mp hz).1, fun x hx => ?_⟩
          rw [List.take_succ, hz] at hx
          rcases List.mem_append.mp hx with hx | hx
          · exact hall x hx
          · have : x = z := by simpa using hx
            omega
      · rintro σ' H' ⟨rfl, ⟨v, rfl⟩, _, hall⟩
        rw [List.length_map, List.take_length] at hall
        rcases h with ⟨_, k⟩ | ⟨z', hz', _⟩
        · refine ⟨_, rfl, a, ns, rfl, .inr (SqT.of ha), hl, fun ns' p4 hperm hord hp4 => ?_⟩
          refine ⟨p4, _, rfl, .inl ⟨SqL.of upd_same, fun p5 hp5 => ?_⟩⟩
          have e : ns' = sortD ns := sortD_eq hperm hord
          subst e
          exact k p5 _ upd_same ((Same.new hp4).trans (Same.new hp5))
        · exact (hz'.not hall).elim
def n_rule_of : List Str := ["heaps"]
theorem sc_rule_of : FnScope n_rule_of ["heaps"] (defScope s_rule_of) := ⟨rfl, rfl, rfl, by decide +kernel, rfl, by decide +kernel, by decide +kernel⟩
/-- rows as lists in a list, or as tuples in a tuple -/
def RowsAt (H : Hp) (a : Addr) (xs : List V) (rows : List (List Int)) : Prop := (H a = some (.lst xs) ∧ All2 Lst1 H rows xs) ∨ (H a = some (.tup xs) ∧ All2 Tup1 H rows xs)
theorem RowsAt.same {H H' : Hp} {a : Addr} {xs : List V} {rows : List (List Int)} (h : RowsAt H a xs rows) (s : Same H H') : RowsAt H' a xs rows := by
  rcases h with ⟨h1, h2⟩ | ⟨h1, h2⟩
  · exact .inl ⟨s _ _ h1, h2.mvI s⟩
  · exact .inr ⟨s _ _ h1, h2.mv s.tups⟩
theorem RowsAt.length {H : Hp} {a : Addr} {xs : List V} {rows : List (List Int)} (h : RowsAt H a xs rows) : rows.length = xs.length := by
  rcases h with ⟨h1, h2⟩ | ⟨h1, h2⟩
  · exact h2.length
  · exact h2.length
theorem FirstBad.tail {x z : Int} {m : List Int} (h : FirstBad (x :: m) z) (hx : 1 ≤ x) : FirstBad m z := by
  obtain ⟨l, r, e, hz, hl⟩ := h
  rcases l with _ | ⟨y, l⟩
  · injection e with e1 e2
    omega
  · injection e with e1 e2
    exact ⟨l, r, e2, hz, fun x hx => hl x (List.mem_cons_of_mem _ hx)⟩
theorem FirstBad.skip {z : Int} {m : List Int} : ∀ {l : List Int}, FirstBad (l ++ m) z → (∀ x ∈ l, 1 ≤ x) → FirstBad m z
  | [], h, _ => h
  | x :: l, h, hl => FirstBad.skip (l := l) (FirstBad.tail h (hl x (by simp))) fun y hy => hl y (List.mem_cons_of_mem _ hy)
theorem FirstBad.split {z : Int} {m : List Int} : ∀ {r : List Int}, FirstBad (r ++ m) z → (∀ x ∈ r, 1 ≤ x) ∨ FirstBad r z
  | [], _ => .inl (by simp)
  | x :: r, h => by
    by_cases hx : 1 ≤ x
    · rcases FirstBad.split (r := r) (FirstBad.tail h hx) with c | ⟨l, t, e, hz, hl⟩
      · refine .inl fun y hy => ?_
        rcases List.mem_cons.mp hy with rfl | hy
        · exact hx
        · exact c y hy
      · refine .inr ⟨x :: l, t, by rw [e]; rfl, hz, fun y hy => ?_⟩
        rcases List.mem_cons.mp hy with rfl | hy
        · exact hx
        · exact hl y hy
    · obtain ⟨l, t, e, hz, hl⟩ := h
      rcases l with _ | ⟨y, l⟩
      · injection e with e1 e2
        exact .inr ⟨[], r, by rw [e1]; rfl, hz, by simp⟩
      · injection e with e1 e2
        exact absurd (hl x (by rw [e1]; simp)) hx
theorem flat_at {rows : List (List Int)} {i : Nat} {r : List Int} (h : rows[i]? = some r) : rows.flatten = (rows.take i).flatten ++ (r ++ (rows.drop (i + 1)).flatten) := by
  obtain ⟨hi, e⟩ := List.getElem?_eq_some_iff.mp h
  conv => lhs; rw [← List.take_append_drop i rows, List.drop_eq_getElem_cons hi, e]
  simp
theorem take_flat {rows : List (List Int)} {i : Nat} {r : List Int} (h : rows[i]? = some r) : (rows.take (i + 1)) = rows.take i ++ [r] := by
  rw [List.take_succ, h]; rfl
def sp_rule_of (A : Adr) : Sp := fun vs H Q E => ∃ (a : Addr) (xs : List V) (rows : List (List Int)), vs = [.ref a] ∧ RowsAt H a xs rows ∧ rows.length ≤ 8 ∧ (∀ r ∈ rows, r.length < 64) ∧
  ((6 < rows.length ∧ ∀ H', Same H H' → E (.ref A.c_NoRule) none H') ∨
   (rows.length ≤ 6 ∧ (∀ x ∈ rows.flatten, 1 ≤ x) ∧ ∀ (p : Addr) (rs : List V) (H' : Hp), H' p = some (.tup rs) → All2 Tup1 H' (rows.map sortD) rs → Same H H' → H p = none → Q (.ref p) H') ∨
   (rows.length ≤ 6 ∧ ∃ z, FirstBad rows.flatten z ∧ ∀ (dx : Addr) (H' : Hp), H' dx = some (.xd [("part", .int z)]) → Same H H' → E (.ref A.c_NoHeap) (some dx) H'))
theorem ok_rule_of (T : Txt K mg A) : FnOk P w K mg base (CX1 P w) 5 A.a_rule_of A.fd_rule_of ["heaps"] (sp_rule_of A) := by
  refine T.F_rule_of.okE sc_rule_of (fun vs H Q E h => ?_) (fun cdv Ar outer s H vs Q E hr h => ?_)
  · obtain ⟨a, xs, rows, rfl, ha, hln, hr1, h⟩ := h
    rfl
  · obtain ⟨a, xs, rows, rfl, ha, hln, hr1, h⟩ := h
    refine ⟨_, (pss_cons (ps_if (pt_cmpR op_gt (pe_callB call_len_seq rfl T.b_len PySem.boot_len (pa_cons (pv 0) pa_nil)) (pe_glob (v := .int 6) rfl T.v_MOST_HEAPS.choose_spec ⟨_, rfl⟩) (nomark _))
          (pss_one (ps_raise rfl T.x_NoRule rfl T.g_NoRule (pa_cons pe_str pa_nil))) pss_nil)
        (pss_one (ps_ret (pe_callTy call_tuple_of rfl T.b_tuple boot_tuple (pa_cons (pe_compE (ls := ["parts"]) (fr := []) (cs_of (defScope s_rule_of) n_rule_of rfl rfl (by decide +kernel)) rfl (pi_or (pi_list (pv 0)) (pi_tup (pv 0))) (fun _ _ _ _ hC => pgcE 0 (by decide +kernel) rfl rfl) (fun _ _ _ _ hC => pf_nil) (fun _ _ _ _ hC => (pe_call (ok_heap_of T) (hr.mono (by decide)) (glcE (defScope s_rule_of)) T.g_heap_of T.F_heap_of.kp T.b_heap_of .nil (passC hC) (pa_cons (pvcE (defScope s_rule_of) 0) pa_nil)))) pa_nil))))), ?_⟩
    have lx := ha.length
    have c6 : decide ((6 : Int) < xs.length) = decide (6 < rows.length) := by rw [lx]; exact decide_eq_decide.mpr (by omega)
    refine ⟨_, rfl, a, xs, rfl, (ha.imp (fun z => SqL.of z.1) (fun z => SqT.of z.1)), _, _, rfl, rfl, _, rfl, ?_⟩
    rw [c6]
    refine ite2 (fun hc => ⟨by show 1 ≤ sizeLine; decide, ?_⟩) (fun hc => ?_)
    · rcases h with ⟨_, k⟩ | ⟨h6, _⟩ | ⟨h6, _⟩
      · exact k _ fun _ _ z => z
      · exact absurd (of_decide_eq_true hc) (by omega)
      · exact absurd (of_decide_eq_true hc) (by omega)
    have h6 : ¬ 6 < rows.length := fun z => hc (decide_eq_true z)
    have step : ∀ (i : Nat) (r : List Int), rows[i]? = some r → (∀ x ∈ (rows.take i).flatten, 1 ≤ x) → (∀ x ∈ r, 1 ≤ x) ∨ ∃ z, FirstBad r z ∧ ∀ (dx : Addr) (H' : Hp), H' dx = some (.xd [("part", .int z)]) → Same H H' → E (.ref A.c_NoHeap) (some dx) H' := fun i r hr hp => by
      rcases h with ⟨h7, _⟩ | ⟨_, hg, _⟩ | ⟨_, z, hz, k⟩
      · exact absurd h7 h6
      · exact .inl fun x hx => hg x (List.mem_flatten.mpr ⟨r, List.mem_of_getElem? hr, hx⟩)
      · rw [flat_at hr] at hz
        rcases (hz.skip hp).split with c | c
        · exact .inl c
        · exact .inr ⟨z, c, k⟩
    have fin : ∀ (ys : List V) (H' : Hp) (p : Addr), (∀ x ∈ rows.flatten, 1 ≤ x) → H' p = some (.tup ys) → All2 Tup1 H' (rows.map sortD) ys → Same H H' → H p = none → Q (.ref p) H' := fun ys H' p hg gp h2 s np => by
      rcases h with ⟨h7, _⟩ | ⟨_, _, k⟩ | ⟨_, z, hz, _⟩
      · exact absurd h7 h6
      · exact k p ys H' gp h2 s np
      · exact (hz.not hg).elim
    have adv : ∀ (i : Nat) (r : List Int), rows[i]? = some r → (∀ x ∈ (rows.take i).flatten, 1 ≤ x) → (∀ x ∈ r, 1 ≤ x) → ∀ x ∈ (rows.take (i + 1)).flatten, 1 ≤ x := fun i r hr h1 h2 x hx => by
      rw [take_flat hr, List.flatten_append] at hx
      rcases List.mem_append.mp hx with hx | hx
      · exact h1 x hx
      · exact h2 x (by simpa using hx)
    rcases ha with ⟨ha, h2⟩ | ⟨ha, h2⟩
    · refine .inl ⟨_, rfl, a, rfl, ⟨_, SqL.of ha⟩, comp_list (xs := xs) (fun i ys σ' H' => Same H H' ∧ (∃ v, σ' = [v]) ∧ ys.length = i ∧ (∀ x ∈ (rows.take i).flatten, 1 ≤ x) ∧ All2 Tup1 H' ((rows.take i).map sortD) ys) ⟨fun _ _ z => z, ⟨_, rfl⟩, rfl, by simp, .nil⟩ ?_ ?_ ?_⟩
      · rintro i ys σ' H' hi ⟨s, _, hy, _⟩
        exact ⟨SqL.of (s _ _ ha), by rw [hy]; exact small64 (by omega)⟩
      · rintro i x ys σ' H' hx ⟨s, ⟨v, rfl⟩, hy, hg, h3⟩
        obtain ⟨r, hr, q, rfl, hq⟩ := h2.get hx
        refine ⟨_, rfl, q, r, rfl, .inl (s _ _ hq), hr1 r (List.mem_of_getElem? hr), ?_⟩
        rcases step i r hr hg with c | ⟨z, c, kz⟩
        · refine .inl ⟨c, fun p H1 gp s1 => ⟨s.trans s1, ⟨_, rfl⟩, by simp [hy], adv i r hr hg c, ?_⟩⟩
          rw [take_flat hr, List.map_append]
          exact (h3.mv s1.tups).snoc ⟨p, rfl, gp⟩
        · exact .inr ⟨z, c, fun dx H1 g1 s1 => kz dx H1 g1 (s.trans s1)⟩
      · rintro ys σ' H' ⟨s, _, hy, hg, h3⟩ l hl
        rw [← lx, List.take_length] at hg h3
        refine ⟨l, ys, rfl, .inl ⟨SqL.of upd_same, fun p hp => ?_⟩⟩
        have sn := (Same.new (o := .lst ys) hl).trans (Same.new (o := .tup ys) hp)
        exact fin ys _ p hg upd_same (h3.mv sn.tups) (s.trans sn) ((s.trans (Same.new hl)).free hp)
    · refine .inr ⟨_, rfl, a, rfl, ⟨_, SqT.of ha⟩, comp_tup (xs := xs) (fun i ys σ' H' => Same H H' ∧ (∃ v, σ' = [v]) ∧ ys.length = i ∧ (∀ x ∈ (rows.take i).flatten, 1 ≤ x) ∧ All2 Tup1 H' ((rows.take i).map sortD) ys) ⟨fun _ _ z => z, ⟨_, rfl⟩, rfl, by simp, .nil⟩ ?_ ?_ ?_⟩
      · rintro i ys σ' H' hi ⟨s, _, hy, _⟩
        exact ⟨SqT.of (s _ _ ha), by rw [hy]; exact small64 (by omega)⟩
      · rintro i x ys σ' H' hx ⟨s, ⟨v, rfl⟩, hy, hg, h3⟩
        obtain ⟨r, hr, q, rfl, hq⟩ := h2.get hx
        refine ⟨_, rfl, q, r, rfl, .inr (s _ _ hq), hr1 r (List.mem_of_getElem? hr), ?_⟩
        rcases step i r hr hg with c | ⟨z, c, kz⟩
        · refine .inl ⟨c, fun p H1 gp s1 => ⟨s.trans s1, ⟨_, rfl⟩, by simp [hy], adv i r hr hg c, ?_⟩⟩
          rw [take_flat hr, List.map_append]
          exact (h3.mv s1.tups).snoc ⟨p, rfl, gp⟩
        · exact .inr ⟨z, c, fun dx H1 g1 s1 => kz dx H1 g1 (s.trans s1)⟩
      · rintro ys σ' H' ⟨s, _, hy, hg, h3⟩ l hl
        rw [← lx, List.take_length] at hg h3
        refine ⟨l, ys, rfl, .inl ⟨SqL.of upd_same, fun p hp => ?_⟩⟩
        have sn := (Same.new (o := .lst ys) hl).trans (Same.new (o := .tup ys) hp)
        exact fin ys _ p hg upd_same (h3.mv sn.tups) (s.trans sn) ((s.trans (Same.new hl)).free hp)
def n__law_start : List Str := ["_law_script", "_law_great"]
theorem sc__law_start : FnScope n__law_start ["_law_script"] (defScope s__law_start) := ⟨rfl, rfl, rfl, by decide +kernel, rfl, by decide +kernel, by decide +kernel⟩
def sp_start (K : PySem.W.Frag) : Sp := fun vs H Q _ => ∃ (a : Addr) (ns : List Int), vs = [.ref a] ∧ SqL K H a (ns.map V.int) ∧ ns.length ≤ 63 ∧
  ∀ (st ga ca : Addr) (H' : Hp), StAt H' st ga ca 0 → H st = none → H ga = none → H ca = none → Same H H' → Q (.ref st) H'
theorem ok__law_start (T : Txt K mg A) : FnOk P w K mg base CX0 1 A.a__law_start A.fd__law_start ["_law_script"] (sp_start K) := by
  refine T.F__law_start.ok sc__law_start (fun vs H Q E h => ?_) (fun cdv Ar outer s H vs Q E hr h => ?_)
  · obtain ⟨a, ns, rfl, hS, hl, k⟩ := h
    rfl
  · obtain ⟨a, ns, rfl, hS, hl, k⟩ := h
    refine ⟨_, (pss_cons (ps_comp (i := 1) (ls := ["_law_cell"]) (fr := []) (cs_of (defScope s__law_start) n__law_start rfl rfl (by decide +kernel)) rfl (pi_list (pv 0)) (fun _ _ _ _ => pgc 0 (by decide +kernel) rfl rfl) (fun _ _ _ _ => pf_one (pt_cmpR op_ge (pvc (defScope s__law_start) 0) (pe_op op_pow pe_int pe_int) (nomark _))) (fun _ _ _ _ => (pvc (defScope s__law_start) 0)) sc__law_start.nd rfl rfl rfl)
        (pss_one (ps_ret (pe_lst (pa_cons (pv 1) (pa_cons pe_int (pa_cons (pe_comp (ls := ["_law_cell"]) (fr := []) (cs_of (defScope s__law_start) n__law_start rfl rfl (by decide +kernel)) rfl (pi_list (pv 0)) (fun _ _ _ _ => pgc 0 (by decide +kernel) rfl rfl) (fun _ _ _ _ => pf_nil) (fun _ _ _ _ => (pe_op op_mod (pvc (defScope s__law_start) 0) pe_int))) (pa_cons pe_int pa_nil)))))))), ?_⟩
    refine ⟨_, rfl, a, rfl, ⟨_, hS⟩, comp_list (xs := ns.map V.int) (fun i ys σ' H' => H' = H ∧ (∃ v, σ' = [v]) ∧ ∃ gs : List Int, ys = gs.map V.int ∧ gs.length ≤ i ∧ ∀ x ∈ gs, 0 < x) ⟨rfl, ⟨_, rfl⟩, [], rfl, Nat.zero_le _, fun _ hx => nomatch hx⟩ ?_ ?_ ?_⟩
    · rintro i ys σ' H' hi ⟨rfl, _, gs, rfl, hg, _⟩
      refine ⟨hS, ?_⟩
      rw [List.length_map] at hi ⊢
      exact Nat.le_trans (Nat.le_trans hg (Nat.le_trans hi hl)) (by decide)
    · rintro i x ys σ' H' hx ⟨rfl, ⟨v, rfl⟩, gs, rfl, hg, hp⟩
      rw [List.getElem?_map] at hx
      cases hn : ns[i]? with
      | none => rw [hn] at hx; cases hx
      | some z =>
        rw [hn] at hx
        cases hx
        refine ⟨_, rfl, _, _, rfl, rfl, ⟨by decide, by decide, by decide⟩, _, _, rfl, rfl, _, rfl, ?_⟩
        refine ite2 (fun hz => ⟨_, rfl, rfl, ⟨_, rfl⟩, gs ++ [z], by simp, by simp; exact hg, fun y hy => ?_⟩) (fun hz => ⟨rfl, ⟨_, rfl⟩, gs, rfl, Nat.le_succ_of_le hg, hp⟩)
        rcases List.mem_append.mp hy with hy | hy
        · exact hp y hy
        · have : y = z := by simpa using hy
          subst this
          exact Int.lt_of_lt_of_le (by decide) (of_decide_eq_true hz)
    · rintro ys σ' H' ⟨rfl, _, gs, rfl, hg, hp⟩ g0 hg0
      rw [List.length_map] at hg
      have s1 : Same H' (upd H' g0 (.lst (gs.map V.int))) := Same.new hg0
      refine ⟨_, rfl, _, rfl, a, rfl, ⟨_, s1.seq hS⟩, comp_list (xs := ns.map V.int) (fun i ys σ' H2 => H2 = upd H' g0 (.lst (gs.map V.int)) ∧ (∃ v, σ' = [v]) ∧ ∃ cs : List Int, ys = cs.map V.int ∧ cs.length = i) ⟨rfl, ⟨_, rfl⟩, [], rfl, rfl⟩ ?_ ?_ ?_⟩
      · rintro i ys σ' H2 hi ⟨rfl, _, cs, rfl, hc⟩
        refine ⟨s1.seq hS, ?_⟩
        rw [List.length_map] at hi ⊢
        exact Nat.le_trans (Nat.le_trans (Nat.le_of_eq hc) (Nat.le_trans hi hl)) (by decide)
      · rintro i x ys σ' H2 hx ⟨rfl, ⟨v, rfl⟩, cs, rfl, hc⟩
        rw [List.getElem?_map] at hx
        cases hn : ns[i]? with
        | none => rw [hn] at hx; cases hx
        | some z =>
          rw [hn] at hx
          cases hx
          refine ⟨_, rfl, _, _, rfl, rfl, (by show (0 : Int) < 2147483629; decide), rfl, ⟨_, rfl⟩, cs ++ [z % 2147483629], by simp, by simp [hc]⟩
      · rintro ys σ' H2 ⟨rfl, _, cs, rfl, hc⟩ c0 hc0
        refine ⟨by show 4 ≤ sizeLine; decide, fun st hst => ?_⟩
        have n1 : g0 ≠ c0 := fun z => by rw [← z, upd_same] at hc0; cases hc0
        have n2 : st ≠ c0 := fun z => by rw [z, upd_same] at hst; cases hst
        have hst1 : upd H' g0 (.lst (gs.map V.int)) st = none := by rw [upd_ne n2] at hst; exact hst
        have n3 : st ≠ g0 := fun z => by rw [z, upd_same] at hst1; cases hst1
        refine k st g0 c0 _ ⟨⟨gs, cs, 0, 0, upd_same, ?_, ?_, Nat.le_trans hg hl, hp, Int.le_refl _, Int.le_refl _, Int.le_refl _⟩, n1, n3, n2⟩ ?_ hg0 ?_ (s1.trans ((Same.new hc0).trans (Same.new hst)))
        · rw [upd_ne n3.symm, upd_ne n1, upd_same]
        · rw [upd_ne n2.symm, upd_same]
        · rw [upd_ne n3] at hst1; exact hst1
        · rw [upd_ne n1.symm] at hc0; exact hc0
def n__law_mix : List Str := ["_law_state", "_law_count", "_law_cell", "_law_stirred"]
theorem sc__law_mix : FnScope n__law_mix ["_law_state"] (defScope s__law_mix) := ⟨rfl, rfl, rfl, by decide +kernel, rfl, by decide +kernel, by decide +kernel⟩
def sp_mix : Sp := fun vs H Q _ => ∃ (st ga ca : Addr) (N : Nat), vs = [.ref st] ∧ StAt H st ga ca N ∧ N ≤ 10 ^ 9 ∧
  ∀ (r : Int) (H' : Hp), 0 ≤ r → StAt H' st ga ca (N + 1) → Keep [st, ga] H H' → Q (.int r) H'
theorem ok__law_mix (T : Txt K mg A) : FnOk P w K mg base CX0 1 A.a__law_mix A.fd__law_mix ["_law_state"] sp_mix := by
  refine T.F__law_mix.ok sc__law_mix (fun vs H Q E h => ?_) (fun cdv Ar outer s H vs Q E hr h => ?_)
  · obtain ⟨st, ga, ca, N, rfl, S, hN, k⟩ := h
    rfl
  · obtain ⟨st, ga, ca, N, rfl, S, hN, k⟩ := h
    refine ⟨_, (pss_cons (ps_augS (pv 0) pe_int get_list pe_int ip_add set_list)
        (pss_cons (ps_set (i := 1) sc__law_mix.nd rfl (by first | exact Or.inl rfl | exact Or.inr rfl) (pe_ix ix_list (pv 0) pe_int (fun _ _ => rfl)))
        (pss_cons (ps_set (i := 2) sc__law_mix.nd rfl (by first | exact Or.inl rfl | exact Or.inr rfl) pe_int)
        (pss_cons (ps_if (pt_truth (pe_ix ix_list (pv 0) pe_int (fun _ _ => rfl)) (fun _ => rfl))
          (pss_one (ps_set (i := 2) sc__law_mix.nd rfl (by first | exact Or.inl rfl | exact Or.inr rfl) (pe_ix ix_list (pe_ix ix_list (pv 0) pe_int (fun _ _ => rfl)) (pe_op op_mod (pv 1) (pe_callB call_len_seq rfl T.b_len PySem.boot_len (pa_cons (pe_ix ix_list (pv 0) pe_int (fun _ _ => rfl)) pa_nil))) (fun _ _ => rfl)))) pss_nil)
        (pss_cons (ps_set (i := 3) sc__law_mix.nd rfl (by first | exact Or.inl rfl | exact Or.inr rfl) (pe_op op_mod (pe_op op_mul (pe_op op_add (pe_op op_add (pe_op op_add (pv 2) (pe_op op_mul (pe_op op_mul pe_int (pv 1)) (pv 1))) (pe_op op_mul pe_int (pv 1))) pe_int) pe_int) pe_int))
        (pss_one (ps_ret (pe_op op_mod (pe_op op_mul (pe_op op_add (pe_op op_add (pv 3) (pe_op op_mul pe_int (pv 1))) pe_int) pe_int) pe_int)))))))), ?_⟩
    obtain ⟨⟨gs, cs, q, n, h1, h2, h3, h4, h5, h6, h7, h8⟩, gc, sg, sc⟩ := S
    have hn : -(2 ^ 64) < n + 1 ∧ n + 1 < 2 ^ 64 := by omega
    refine ⟨_, rfl, st, _, 3, _, rfl, rfl, SqL.of h1, by decide, rfl, _, _, rfl, rfl, st, _, 3, 3, rfl, rfl, h1, rfl, ?_⟩
    have e1 : upd H st (.lst ([V.ref ga, V.int q, V.ref ca, V.int n].set 3 (V.int (n + 1)))) st = some (.lst [.ref ga, .int q, .ref ca, .int (n + 1)]) := upd_same
    refine ⟨_, rfl, st, _, 3, _, rfl, rfl, SqL.of e1, rfl, ?_⟩
    refine ⟨_, rfl, st, _, 2, _, rfl, rfl, SqL.of e1, rfl, ?_⟩
    have e3 : upd H st (.lst ([V.ref ga, V.int q, V.ref ca, V.int n].set 3 (V.int (n + 1)))) ca = some (.lst (cs.map V.int)) := by rw [upd_ne sc.symm]; exact h3
    have e2 : upd H st (.lst ([V.ref ga, V.int q, V.ref ca, V.int n].set 3 (V.int (n + 1)))) ga = some (.lst (gs.map V.int)) := by rw [upd_ne sg.symm]; exact h2
    refine ⟨_, Or.inl ⟨_, SqL.of e3, rfl⟩, ?_⟩
    have fin : ∀ (c : Int), (tSeq (tAsg (tOp (rI (fun _ j => 0 < j) fun i j => V.int (i % j)) (tOp (rI CMul fun i j => V.int (i * j)) (tOp (rI0 fun i j => V.int (i + j)) (tOp (rI0 fun i j => V.int (i + j)) (tOp (rI0 fun i j => V.int (i + j)) (tVar 2) (tOp (rI CMul fun i j => V.int (i * j)) (tOp (rI CMul fun i j => V.int (i * j)) (tC (V.int 7)) (tVar 1)) (tVar 1))) (tOp (rI CMul fun i j => V.int (i * j)) (tC (V.int 13)) (tVar 1))) (tC (V.int 5))) (tC (V.int 1220703125))) (tC (V.int 2147483647))) (gName 3))
        (tRet (tOp (rI (fun _ j => 0 < j) fun i j => V.int (i % j)) (tOp (rI CMul fun i j => V.int (i * j)) (tOp (rI0 fun i j => V.int (i + j)) (tOp (rI0 fun i j => V.int (i + j)) (tVar 3) (tOp (rI CMul fun i j => V.int (i * j)) (tC (V.int 17)) (tVar 1))) (tC (V.int 3))) (tC (V.int 39373))) (tC (V.int 1000000007)))))
        { nx := fun _ H' => Q .non H', rt := Q } [some (.ref st), some (.int (n + 1)), some (.int c), none] (upd H st (.lst ([V.ref ga, V.int q, V.ref ca, V.int n].set 3 (V.int (n + 1))))) := fun c => by
      refine ⟨_, rfl, _, rfl, _, _, rfl, rfl, .inl (by decide), _, rfl, _, _, rfl, rfl, .inr hn, _, _, rfl, rfl, _, rfl, _, _, rfl, rfl, .inl (by decide), _, _, rfl, rfl, _, _, rfl, rfl, _, _, rfl, rfl, .inr (by decide), _, _, rfl, rfl, (by show (0 : Int) < 2147483647; decide), ?_⟩
      refine ⟨_, rfl, _, rfl, _, _, rfl, rfl, .inl (by decide), _, _, rfl, rfl, _, _, rfl, rfl, _, _, rfl, rfl, .inr (by decide), _, _, rfl, rfl, (by show (0 : Int) < 1000000007; decide), ?_⟩
      exact k _ _ (Int.emod_nonneg _ (by decide)) ⟨⟨gs, cs, q, n + 1, e1, e2, e3, h4, h5, h6, by omega, by omega⟩, gc, sg, sc⟩ (Keep.set (by simp))
    cases hc : cs with
    | nil =>
      refine iteF ?_
      exact fin 5
    | cons c0 cr =>
      refine iteT ?_
      rw [hc] at e3
      refine ⟨_, rfl, st, _, 2, _, rfl, rfl, SqL.of e1, rfl, _, rfl, _, rfl, st, _, 2, _, rfl, rfl, SqL.of e1, rfl, ca, _, rfl, .inl (SqL.of e3), _, _, rfl, rfl, ?_, ?_⟩
      · rw [List.length_map]; simp only [List.length_cons]; omega
      · have hpos : (0 : Int) < ((c0 :: cr).length : Int) := by simp only [List.length_cons]; omega
        rw [List.length_map]
        have hm0 := Int.emod_nonneg (n + 1) (Int.ne_of_gt hpos)
        have hm1 := Int.emod_lt_of_pos (n + 1) hpos
        obtain ⟨j, hj⟩ : ∃ j : Nat, (n + 1) % ((c0 :: cr).length : Int) = (j : Int) := ⟨((n + 1) % ((c0 :: cr).length : Int)).toNat, by omega⟩
        have hjl : j < (c0 :: cr).length := by omega
        refine ⟨ca, _, _, _, rfl, rfl, SqL.of e3, by rw [hj]; exact atI_nat (v := V.int ((c0 :: cr)[j])) (by rw [List.getElem?_map, List.getElem?_eq_getElem hjl]; rfl), ?_⟩
        exact fin _
def n__law_draw : List Str := ["_law_state", "_law_many", "_law_told_here", "_law_size"]
theorem sc__law_draw : FnScope n__law_draw ["_law_state", "_law_many"] (defScope s__law_draw) := ⟨rfl, rfl, rfl, by decide +kernel, rfl, by decide +kernel, by decide +kernel⟩
/-- a draw: any number from 0 on below many; what it may change is the state's own -/
def sp_draw : Sp := fun vs H Q _ => ∃ (st ga ca : Addr) (N : Nat) (m : Int), vs = [.ref st, .int m] ∧ StAt H st ga ca N ∧ N ≤ 10 ^ 8 ∧ 0 < m ∧ m ≤ 10 ^ 60 ∧
  ∀ (r : Int) (H' : Hp), 0 ≤ r → r < m → StAt H' st ga ca (N + 7) → Keep [st, ga] H H' → Q (.int r) H'
theorem ok__law_draw (T : Txt K mg A) : FnOk P w K mg base CX0 2 A.a__law_draw A.fd__law_draw ["_law_state", "_law_many"] sp_draw := by
  refine T.F__law_draw.ok sc__law_draw (fun vs H Q E h => ?_) (fun cdv Ar outer s H vs Q E hr h => ?_)
  · obtain ⟨st, ga, ca, N, m, rfl, S, hN, hm0, hm1, k⟩ := h
    rfl
  · obtain ⟨st, ga, ca, N, m, rfl, S, hN, hm0, hm1, k⟩ := h
    refine ⟨_, (pss_cons (ps_if (PW.pt (pw_and (pt_cmpR op_eq (pe_ix ix_list (pv 0) pe_int (fun _ _ => rfl)) pe_int (nomark _)) (pw_and1 (pt_truth (pe_ix ix_list (pv 0) pe_int (fun _ _ => rfl)) (fun _ => rfl)))))
          (pss_one (ps_asg (pe_bm PySem.F.plainAttrs_list PySem.F.slot_list_pop PySem.F.type_list_pop mt_popAt (pe_ix ix_list (pv 0) pe_int (fun _ _ => rfl)) (pa_cons pe_int pa_nil)) (pg_sub (pv 0) pe_int set_list))) pss_nil)
        (pss_cons (ps_if (pt_cmpR op_gt (pe_ix ix_list (pv 0) pe_int (fun _ _ => rfl)) pe_int (nomark _))
          (pss_cons (ps_set (i := 2) sc__law_draw.nd rfl (by first | exact Or.inl rfl | exact Or.inr rfl) (pe_op op_mod (pe_ix ix_list (pv 0) pe_int (fun _ _ => rfl)) (pv 1)))
        (pss_cons (ps_asg (pe_op op_fdivB (pe_ix ix_list (pv 0) pe_int (fun _ _ => rfl)) (pv 1)) (pg_sub (pv 0) pe_int set_list))
        (pss_one (ps_ret (pv 2))))) pss_nil)
        (pss_cons (ps_set (i := 2) sc__law_draw.nd rfl (by first | exact Or.inl rfl | exact Or.inr rfl) pe_int)
        (pss_cons (ps_set (i := 3) sc__law_draw.nd rfl (by first | exact Or.inl rfl | exact Or.inr rfl) pe_int)
        (pss_cons (ps_while PassesOwn.never (pt_cmpR op_lt (pv 3) (pv 1) (nomark _))
          (pss_cons (ps_set (i := 2) sc__law_draw.nd rfl (by first | exact Or.inl rfl | exact Or.inr rfl) (pe_op op_add (pe_op op_mul (pv 2) pe_int) (pe_call (ok__law_mix T) (hr.mono (by decide)) rfl T.g__law_mix T.F__law_mix.kp T.b__law_mix .nil pass0 (pa_cons (pv 0) pa_nil))))
        (pss_one (ps_set (i := 3) sc__law_draw.nd rfl (by first | exact Or.inl rfl | exact Or.inr rfl) (pe_op op_mul (pv 3) pe_int)))))
        (pss_one (ps_ret (pe_op op_mod (pv 2) (pv 1))))))))), ?_⟩
    obtain ⟨⟨gs, cs, q, n, h1, h2, h3, h4, h5, h6, h7, h8⟩, gc, sg, sc⟩ := S
    have hb : ∀ (g : List Int) (x : Int) (H' : Hp), H' = upd (upd H ga (.lst (g.map V.int))) st (.lst [.ref ga, .int x, .ref ca, .int n]) → H' st = some (.lst [.ref ga, .int x, .ref ca, .int n]) ∧ H' ga = some (.lst (g.map V.int)) ∧ H' ca = some (.lst (cs.map V.int)) ∧ Keep [st, ga] H H' := fun g x H' e => by
      subst e
      refine ⟨upd_same, by rw [upd_ne sg.symm, upd_same], by rw [upd_ne sc.symm, upd_ne gc.symm]; exact h3, fun b o e hn => ?_⟩
      have n1 : b ≠ st := fun z => hn (by simp [z])
      have n2 : b ≠ ga := fun z => hn (by simp [z])
      rw [upd_ne n1, upd_ne n2]
      exact e
    refine seqJoin (fun σ' H' => σ' = [some (.ref st), some (.int m), none, none] ∧ ∃ (g : List Int) (x : Int), H' st = some (.lst [.ref ga, .int x, .ref ca, .int n]) ∧ H' ga = some (.lst (g.map V.int)) ∧ H' ca = some (.lst (cs.map V.int)) ∧ Keep [st, ga] H H' ∧ g.length ≤ 63 ∧ (∀ x ∈ g, 0 < x) ∧ 0 ≤ x) (fun nx hnx => ?_) ?_
    · have skip : nx [some (.ref st), some (.int m), none, none] H := hnx _ _ ⟨rfl, gs, q, h1, h2, h3, Keep.refl _ _, h4, h5, h6⟩
      refine ⟨_, rfl, st, _, 1, _, rfl, rfl, SqL.of h1, rfl, rfl, _, rfl, ?_⟩
      refine ite2 (fun hq => ?_) (fun hq => iteF skip)
      have hq0 : q = 0 := by simpa using hq
      subst hq0
      refine ⟨_, rfl, st, _, 0, _, rfl, rfl, SqL.of h1, rfl, _, .inl ⟨_, SqL.of h2, rfl⟩, ?_⟩
      cases gs with
      | nil => exact iteF skip
      | cons g0 gr =>
        refine iteT ?_
        have eg : upd H ga (.lst ((V.int g0 :: gr.map V.int).eraseIdx 0)) st = some (.lst [.ref ga, .int 0, .ref ca, .int n]) := by rw [upd_ne sg]; exact h1
        refine ⟨_, rfl, st, _, 0, _, rfl, rfl, SqL.of h1, rfl, .inl ⟨rfl, _, SqL.of h2⟩, ga, _, 0, 0, V.int g0, rfl, rfl, h2, by decide, by decide, (by simp [seqIndex?]), rfl, ?_⟩
        refine ⟨_, rfl, st, _, 1, 1, rfl, rfl, eg, rfl, ?_⟩
        obtain ⟨b1, b2, b3, b4⟩ := hb gr g0 _ rfl
        exact hnx _ _ ⟨rfl, gr, g0, b1, b2, b3, b4, by simp only [List.length_cons] at h4; omega, fun y hy => h5 y (List.mem_cons_of_mem _ hy), Int.le_of_lt (h5 g0 List.mem_cons_self)⟩
    · rintro σ1 H1 ⟨rfl, g, x, c1, c2, c3, c4, c5, c6, c7⟩
      refine ⟨_, rfl, st, _, 1, _, rfl, rfl, SqL.of c1, rfl, _, _, rfl, rfl, _, rfl, ?_⟩
      refine ite2 (fun hx => ?_) (fun hx => ?_)
      · refine ⟨_, rfl, st, _, 1, _, rfl, rfl, SqL.of c1, rfl, _, rfl, _, _, rfl, rfl, hm0, ?_⟩
        refine ⟨_, rfl, st, _, 1, _, rfl, rfl, SqL.of c1, rfl, _, rfl, _, _, rfl, rfl, ⟨hm0, Int.le_trans hm1 (by decide)⟩, ?_⟩
        refine ⟨_, rfl, st, _, 1, 1, rfl, rfl, c1, rfl, ?_⟩
        refine ⟨_, rfl, k _ _ (Int.emod_nonneg _ (Int.ne_of_gt hm0)) (Int.emod_lt_of_pos _ hm0) ⟨⟨g, cs, x / m, n, upd_same, by rw [upd_ne sg.symm]; exact c2, by rw [upd_ne sc.symm]; exact c3, c5, c6, Int.ediv_nonneg c7 (Int.le_of_lt hm0), h7, by omega⟩, gc, sg, sc⟩ (c4.trans (Keep.set (by simp)))⟩
      · refine ⟨fun mm σ2 H2 => ∃ (j : Nat) (told : Int), j ≤ 7 ∧ mm = 7 - j ∧ σ2 = [some (.ref st), some (.int m), some (.int told), some (.int (1000000007 ^ j))] ∧ StAt H2 st ga ca (N + j) ∧ Keep [st, ga] H H2,
          ⟨7, 0, 0, by decide, rfl, rfl, ⟨⟨g, cs, x, n, c1, c2, c3, c5, c6, c7, h7, by omega⟩, gc, sg, sc⟩, c4⟩, ?_⟩
        rintro mm σ2 H2 ⟨j, told, hj, rfl, rfl, S2, k2⟩
        refine ⟨_, rfl, _, rfl, _, _, rfl, rfl, _, rfl, ?_⟩
        refine ite2 (fun hlt => ?_) (fun hlt => ?_)
        · have hlt' : (1000000007 : Int) ^ j < m := of_decide_eq_true hlt
          have hj6 : j < 7 := by
            rcases Nat.lt_or_ge j 7 with z | z
            · exact z
            · have e7 : j = 7 := by omega
              subst e7
              exact absurd (Int.lt_of_lt_of_le hlt' hm1) (by decide)
          refine ⟨fun σ3 H3 => ∃ (told : Int), σ3 = [some (.ref st), some (.int m), some (.int told), some (.int (1000000007 ^ (j + 1)))] ∧ StAt H3 st ga ca (N + (j + 1)) ∧ Keep [st, ga] H H3, fun σ3 H3 ⟨td, e3, S3, k3⟩ => ⟨7 - (j + 1), by omega, j + 1, td, hj6, rfl, e3, S3, k3⟩, ?_⟩
          refine ⟨_, rfl, _, _, rfl, rfl, .inr (by decide), _, rfl, st, ga, ca, N + j, rfl, S2, by omega, fun r H3 hr0 S3 k3 => ?_⟩
          refine ⟨_, _, rfl, rfl, ?_⟩
          refine ⟨_, rfl, _, _, rfl, rfl, .inr (by decide), ?_⟩
          refine ⟨told * 1000000007 + r, ?_, S3, k2.trans k3⟩
          show [some (V.ref st), some (V.int m), some (V.int _), some (V.int (1000000007 ^ j * 1000000007))] = _
          rw [← Int.pow_succ]
        · refine ⟨_, rfl, _, rfl, _, _, rfl, rfl, hm0, ?_⟩
          exact k _ _ (Int.emod_nonneg _ (Int.ne_of_gt hm0)) (Int.emod_lt_of_pos _ hm0) (S2.mono (by omega)) k2
def n__law_heap : List Str := ["_law_state", "_law_size", "_law_top", "_law_parts"]
theorem sc__law_heap : FnScope n__law_heap ["_law_state", "_law_size", "_law_top"] (defScope s__law_heap) := ⟨rfl, rfl, rfl, by decide +kernel, rfl, by decide +kernel, by decide +kernel⟩
def sp_heap : Sp := fun vs H Q _ => ∃ (st ga ca : Addr) (N : Nat) (size topp : Int), vs = [.ref st, .int size, .int topp] ∧ StAt H st ga ca N ∧ N ≤ 10 ^ 7 ∧ 0 ≤ size ∧ size ≤ 60 ∧ 0 < topp ∧ topp ≤ 10 ^ 60 ∧
  ∀ (p : Addr) (ns : List Int) (H' : Hp), (ns.length : Int) ≤ size → (∀ x ∈ ns, 1 ≤ x ∧ x ≤ topp) → ns.Pairwise (· ≥ ·) → H' p = some (.tup (ns.map V.int)) → H p = none → StAt H' st ga ca (N + 434) → Keep [st, ga] H H' → Q (.ref p) H'
theorem ok__law_heap (T : Txt K mg A) : FnOk P w K mg base CX0 3 A.a__law_heap A.fd__law_heap ["_law_state", "_law_size", "_law_top"] sp_heap := by
  refine T.F__law_heap.ok sc__law_heap (fun vs H Q E h => ?_) (fun cdv Ar outer s H vs Q E hr h => ?_)
  · obtain ⟨st, ga, ca, N, size, topp, rfl, S, hN, h0, h1, t0, t1, k⟩ := h
    rfl
  · obtain ⟨st, ga, ca, N, size, topp, rfl, S, hN, h0, h1, t0, t1, k⟩ := h
    refine ⟨_, (pss_cons (ps_comp (i := 3) (ls := ["_law_k"]) (fr := [("_law_state", 0), ("_law_top", 2)]) (cs_of (defScope s__law_heap) n__law_heap rfl rfl (by decide +kernel)) rfl (pi_range1 rfl T.b_range (pa_cons (pe_call (ok__law_draw T) (hr.mono (by decide)) rfl T.g__law_draw T.F__law_draw.kp T.b__law_draw .nil pass0 (pa_cons (pv 0 (hv := Or.inr (Or.inl rfl))) (pa_cons (pe_op op_add (pv 1) pe_int) pa_nil))) pa_nil)) (fun _ _ _ _ => pgc 0 (by decide +kernel) rfl rfl) (fun _ _ _ _ => pf_nil) (fun _ _ _ _ => (pe_op op_add pe_int (pe_call (ok__law_draw T) (hr.mono (by decide)) (glc (defScope s__law_heap)) T.g__law_draw T.F__law_draw.kp T.b__law_draw .nil pass0 (pa_cons (pvc (defScope s__law_heap) 1) (pa_cons (pvc (defScope s__law_heap) 2) pa_nil))))) sc__law_heap.nd rfl rfl rfl)
        (pss_one (ps_ret (pe_callTy call_tuple_of rfl T.b_tuple boot_tuple (pa_cons (pe_sortR rfl T.b_sorted (pv 3)) pa_nil))))), ?_⟩
    refine ⟨_, rfl, _, rfl, _, _, rfl, rfl, st, ga, ca, N, size + 1, rfl, S, by omega, by omega, Int.le_trans (show size + 1 ≤ 61 by omega) (by decide), fun many H2 m0 m1 S2 K2' => ?_⟩
    refine ⟨_, rfl, by omega, by omega, comp_range (fun i ys σ' H' => (∃ v, σ' = [v, some (.ref st), some (.int topp)]) ∧ ∃ ns : List Int, ys = ns.map V.int ∧ ns.length = i ∧ (∀ x ∈ ns, 1 ≤ x ∧ x ≤ topp) ∧ StAt H' st ga ca (N + 7 + 7 * i) ∧ Keep [st, ga] H H')
      ⟨⟨_, rfl⟩, [], rfl, rfl, (fun _ hx => nomatch hx), S2, K2'⟩ ?_ ?_ ?_⟩
    · rintro i ys σ' H' hi ⟨_, ns, rfl, hl, _⟩
      rw [List.length_map, hl]
      exact small64 (by omega)
    · rintro i ys σ' H' hi ⟨⟨v, rfl⟩, ns, rfl, hl, hb, S', K'⟩
      refine ⟨_, rfl, _, rfl, st, ga, ca, N + 7 + 7 * i, topp, rfl, S', by omega, t0, t1, fun r H3 h0 h1 S3 K3 => ?_⟩
      refine ⟨_, _, rfl, rfl, ⟨_, rfl⟩, ns ++ [1 + r], by simp, by simp [hl], fun x hx => ?_, S3.mono (by omega), K'.trans K3⟩
      rcases List.mem_append.mp hx with hx | hx
      · exact hb x hx
      · have : x = 1 + r := by simpa using hx
        omega
    · rintro ys σ' H' ⟨_, ns, rfl, hl, hb, S', K'⟩ p3 hp3
      refine ⟨_, rfl, p3, ns, rfl, .inl (SqL.of upd_same), by omega, fun ns' p4 hperm hord hp4 => ?_⟩
      refine ⟨p4, _, rfl, .inl ⟨SqL.of upd_same, fun p5 hp5 => ?_⟩⟩
      have s3 : Same H' (upd (upd (upd H' p3 (.lst (ns.map V.int))) p4 (.lst (ns'.map V.int))) p5 (.tup (ns'.map V.int))) := (Same.new hp3).trans ((Same.new hp4).trans (Same.new hp5))
      have S5 := S'.same s3
      have n5 : H' p5 = none := ((Same.new hp3).trans (Same.new hp4)).free hp5
      refine k p5 ns' _ (by rw [hperm.length_eq]; omega) (fun x hx => hb x (hperm.mem_iff.mp hx)) hord upd_same (K'.free n5 (S'.nin n5)) (S5.mono (by omega)) (K'.trans s3.keep)
def n__law_joined : List Str := ["_law_heaps", "_law_found", "_law_heap_here", "_law_part"]
theorem sc__law_joined : FnScope n__law_joined ["_law_heaps"] (defScope s__law_joined) := ⟨rfl, rfl, rfl, by decide +kernel, rfl, by decide +kernel, by decide +kernel⟩
def sp_law_joined : Sp := fun vs H Q _ => ∃ (a : Addr) (xs : List V) (ls : List (List Int)), vs = [.ref a] ∧ H a = some (.lst xs) ∧ All2 Tup1 H ls xs ∧ ls.flatten.length < 1000 ∧
  ∀ (p : Addr) (ms : List Int) (H' : Hp), H' p = some (.tup (ms.map V.int)) → IsJoin ls ms → ms.length < 1000 → Same H H' → H p = none → Q (.ref p) H'
theorem ok__law_joined (T : Txt K mg A) : FnOk P w K mg base CX0 1 A.a__law_joined A.fd__law_joined ["_law_heaps"] sp_law_joined := by
  refine T.F__law_joined.ok sc__law_joined (fun vs H Q E h => ?_) (fun cdv Ar outer s H vs Q E hr h => ?_)
  · obtain ⟨a, xs, ls, rfl, ha, h2, hln, k⟩ := h
    rfl
  · obtain ⟨a, xs, ls, rfl, ha, h2, hln, k⟩ := h
    refine ⟨_, (pss_cons (ps_set (i := 1) sc__law_joined.nd rfl (by first | exact Or.inl rfl | exact Or.inr rfl) (pe_lst pa_nil))
        (pss_cons (ps_for PassesOwn.never rfl (pi_list (pv 0)) (pg_name (i := 2) sc__law_joined.nd rfl (by first | exact Or.inl rfl | exact Or.inr rfl))
          (pss_one (ps_for PassesOwn.never rfl (pi_tup (pv 2)) (pg_name (i := 3) sc__law_joined.nd rfl (by first | exact Or.inl rfl | exact Or.inr rfl))
          (pss_one (ps_if (pt_cmpR op_lt (pe_bm PySem.F.plainAttrs_list PySem.F.slot_list_count PySem.F.type_list_count mt_countL (pv 1) (pa_cons (pv 3) pa_nil)) (pe_bm PySem.F.plainAttrs_tuple PySem.F.slot_tuple_count PySem.F.type_tuple_count mt_countT (pv 2) (pa_cons (pv 3) pa_nil)) (nomark _))
          (pss_one (ps_expr (pe_bm PySem.F.plainAttrs_list PySem.F.slot_list_append PySem.F.type_list_append mt_append (pv 1) (pa_cons (pv 3) pa_nil)))) pss_nil)))))
        (pss_one (ps_ret (pe_callTy call_tuple_of rfl T.b_tuple boot_tuple (pa_cons (pe_sortRB rfl T.b_sorted (pv 1)) pa_nil)))))), ?_⟩
    refine ⟨by show 0 ≤ sizeLine; decide, fun f hf => ?_⟩
    have hlc : ∀ i j (x : List Int), ls[i]? = some x → ((ls.take i).flatten ++ x.take j).length < 1000 := fun i j x hx => by
      have hi := (List.getElem?_eq_some_iff.mp hx).1
      have ex := (List.getElem?_eq_some_iff.mp hx).2
      have e1 : ls.flatten = (ls.take i).flatten ++ (x ++ (ls.drop (i + 1)).flatten) := by
        conv => lhs; rw [← List.take_append_drop i ls]
        rw [List.flatten_append, List.drop_eq_getElem_cons hi, ex, List.flatten_cons]
      rw [e1] at hln
      simp only [List.length_append, List.length_take] at hln ⊢
      omega
    refine ⟨_, rfl, a, rfl, ⟨_, SqL.of (Same.new hf _ _ ha)⟩, for_list (xs := xs) (fun i σ' H' => (∃ v w, σ' = [some (.ref a), some (.ref f), v, w]) ∧ Same H H' ∧ ∃ fs : List Int, H' f = some (.lst (fs.map V.int)) ∧ fs.length ≤ (ls.take i).flatten.length ∧ ∀ x, fs.count x = maxC (ls.take i) x) ⟨⟨_, _, rfl⟩, Same.new hf, [], upd_same, Nat.le_refl _, fun _ => rfl⟩ ?_ ?_ ?_⟩
    · rintro i σ' H' _ ⟨_, s, _⟩
      exact SqL.of (s _ _ ha)
    · rintro i x σ' H' hx ⟨⟨v, w', rfl⟩, s, fs, gf, hfl, hfc⟩
      obtain ⟨hs, hhs, q, rfl, hq⟩ := h2.get hx
      refine ⟨_, rfl, q, rfl, ⟨_, SqT.of (s _ _ hq)⟩, for_tup (xs := hs.map V.int) (fun j σ' H' => (∃ w, σ' = [some (.ref a), some (.ref f), some (.ref q), w]) ∧ Same H H' ∧ ∃ fs : List Int, H' f = some (.lst (fs.map V.int)) ∧ fs.length ≤ ((ls.take i).flatten ++ hs.take j).length ∧ ∀ x, fs.count x = max (maxC (ls.take i) x) (min (hs.count x) (maxC (ls.take i) x + (hs.take j).count x))) ⟨⟨_, rfl⟩, s, fs, gf, by rw [List.take_zero, List.append_nil]; exact hfl, fun x => by rw [hfc]; simp; omega⟩ ?_ ?_ ?_⟩
      · rintro j σ' H2 _ ⟨_, s2, _⟩
        exact SqT.of (s2 _ _ hq)
      · rintro j x σ' H2 hx2 ⟨⟨w2, rfl⟩, s2, fs2, gf2, hfl2, hfc2⟩
        obtain ⟨z, hz, rfl⟩ := map_at hx2
        have hj := (List.getElem?_eq_some_iff.mp hz).1
        have ez := (List.getElem?_eq_some_iff.mp hz).2
        have e1 : ∀ x, (hs.take (j + 1)).count x = (hs.take j).count x + if z = x then 1 else 0 := fun x => by
          rw [List.take_succ_eq_append_getElem hj, List.count_append, ez, List.count_singleton]
          simp
        have e2 : (hs.take (j + 1)).count z ≤ hs.count z := List.Sublist.count_le z (List.take_sublist _ _)
        have e3 := e1 z
        rw [if_pos rfl] at e3
        have hl64 := hlc i j hs hhs
        have e4 : ((ls.take i).flatten ++ hs.take (j + 1)).length = ((ls.take i).flatten ++ hs.take j).length + 1 := by
          simp only [List.length_append, List.length_take]; omega
        refine ⟨_, rfl, .inl ⟨rfl, _, SqL.of gf2⟩, _, rfl, f, _, _, rfl, rfl, SqL.of gf2, rfl, flat_ints _, ?_⟩
        refine ⟨_, rfl, .inr (.inl ⟨rfl, .inr ⟨_, s2 _ _ hq⟩⟩), _, rfl, q, _, _, rfl, rfl, SqT.of (s2 _ _ hq), rfl, flat_ints _, ?_⟩
        refine ⟨_, _, rfl, rfl, _, rfl, ?_⟩
        rw [cntV_ints, cntV_ints]
        refine ite2 (fun hlt => ?_) (fun hlt => ?_)
        · have hlt' : fs2.count z < hs.count z := by have := of_decide_eq_true hlt; omega
          refine ⟨_, rfl, .inl ⟨rfl, _, SqL.of gf2⟩, _, rfl, f, _, _, rfl, rfl, gf2, ?_, ⟨_, rfl⟩, ?_, fs2 ++ [z], by rw [upd_same, List.map_append]; rfl, ?_, fun x => ?_⟩
          · rw [List.length_map]
            exact Nat.lt_of_lt_of_le (show fs2.length < 1000 by omega) (by decide)
          · exact fun b o e => by rw [upd_ne (ne_of_none e hf)]; exact s2 _ _ e
          · rw [e4, List.length_append]
            show fs2.length + 1 ≤ _
            omega
          · rw [List.count_append, List.count_singleton, hfc2 x, e1 x]
            by_cases e : z = x
            · subst e
              have := joinStep (hfc2 z) (by omega) hlt'
              rw [hfc2 z] at this
              simpa using this
            · have e' : (z == x) = false := by simpa using e
              rw [if_neg e, e']
              simp
        · have hlt' : ¬ fs2.count z < hs.count z := fun h => hlt (decide_eq_true (by omega))
          refine ⟨⟨_, rfl⟩, s2, fs2, gf2, by omega, fun x => ?_⟩
          rw [hfc2 x, e1 x]
          by_cases e : z = x
          · subst e
            have := joinStay (hfc2 z) (by omega) hlt'
            rw [hfc2 z] at this
            simpa using this
          · rw [if_neg e]
            simp
      · rintro σ' H2 ⟨⟨w2, rfl⟩, s2, fs2, gf2, hfl2, hfc2⟩
        rw [List.length_map, List.take_length] at hfl2 hfc2
        have hi := (List.getElem?_eq_some_iff.mp hhs).1
        have ez := (List.getElem?_eq_some_iff.mp hhs).2
        have et : ls.take (i + 1) = ls.take i ++ [hs] := by rw [List.take_succ_eq_append_getElem hi, ez]
        refine ⟨⟨_, _, rfl⟩, s2, fs2, gf2, ?_, fun x => ?_⟩
        · rw [et, List.flatten_append]
          simpa using hfl2
        · rw [et, maxC_append, hfc2 x]
          show _ = max _ (max (hs.count x) 0)
          omega
    · rintro σ' H2 ⟨⟨v, w2, rfl⟩, s2, fs2, gf2, hfl2, hfc2⟩
      rw [← h2.length, List.take_length] at hfl2 hfc2
      refine ⟨_, rfl, f, fs2, rfl, .inl (SqL.of gf2), Nat.le_trans (m := 1000) (by omega) (by decide), fun ms l hperm hord hl => ?_⟩
      refine ⟨l, _, rfl, .inl ⟨SqL.of upd_same, fun p hp => ?_⟩⟩
      exact k p ms _ upd_same ⟨hord, fun x => by rw [hperm.count_eq, hfc2]⟩ (by rw [hperm.length_eq]; omega) (s2.trans ((Same.new hl).trans (Same.new hp))) (s2.free ((Same.new hl).free hp))
def n__law_whole : List Str := ["_law_found"]
theorem sc__law_whole : FnScope n__law_whole ["_law_found"] (defScope s__law_whole) := ⟨rfl, rfl, rfl, by decide +kernel, rfl, by decide +kernel, by decide +kernel⟩
def sp_whole : Sp := fun vs H Q _ => ∃ (i : Int), vs = [.int i] ∧ Q (.bl true) H
theorem ok__law_whole (T : Txt K mg A) : FnOk P w K mg base CX0 1 A.a__law_whole A.fd__law_whole ["_law_found"] sp_whole false := by
  refine T.F__law_whole.ok sc__law_whole (fun vs H Q E h => ?_) (fun cdv Ar outer s H vs Q E hr h => ?_)
  · obtain ⟨i, rfl, k⟩ := h
    rfl
  · obtain ⟨i, rfl, k⟩ := h
    refine ⟨_, (pss_one (ps_ret (pe_and (pe_callB call_isi rfl T.b_isinstance boot_isinstance (pa_cons (pv 0) (pa_cons (pe_bltn (v := .ty "int") rfl T.b_int boot_int rfl) pa_nil))) (pe_one (pe_not (pe_callB call_isi rfl T.b_isinstance boot_isinstance (pa_cons (pv 0) (pa_cons (pe_bltn (v := .ty "bool") rfl T.b_bool boot_bool rfl) pa_nil)))))))), ?_⟩
    exact ⟨_, rfl, _, _, _, true, rfl, TyOf.int _, kit_int_int, true, rfl, _, rfl, _, _, _, false, rfl, TyOf.int _, kit_int_bool, false, rfl, k⟩
def n__law_row : List Str := ["_law_found"]
theorem sc__law_row : FnScope n__law_row ["_law_found"] (defScope s__law_row) := ⟨rfl, rfl, rfl, by decide +kernel, rfl, by decide +kernel, by decide +kernel⟩
def sp_row : Sp := fun vs H Q _ => ∃ (a : Addr) (ns : List Int), vs = [.ref a] ∧ H a = some (.tup (ns.map V.int)) ∧ ns.length ≤ 100000 ∧ ∀ (H' : Hp), Same H H' → Q (.bl true) H'
theorem ok__law_row (T : Txt K mg A) : FnOk P w K mg base CX0 2 A.a__law_row A.fd__law_row ["_law_found"] sp_row := by
  refine T.F__law_row.ok sc__law_row (fun vs H Q E h => ?_) (fun cdv Ar outer s H vs Q E hr h => ?_)
  · obtain ⟨a, ns, rfl, ha, hln, k⟩ := h
    rfl
  · obtain ⟨a, ns, rfl, ha, hln, k⟩ := h
    refine ⟨_, (pss_one (ps_ret (pe_and (pe_callB call_isi rfl T.b_isinstance boot_isinstance (pa_cons (pv 0) (pa_cons (pe_bltn (v := .ty "tuple") rfl T.b_tuple boot_tuple rfl) pa_nil))) (pe_one (pe_callB (call_all_bools rfl) rfl T.b_all boot_all (pa_cons (pe_comp (ls := ["_law_one"]) (fr := []) (cs_of (defScope s__law_row) n__law_row rfl rfl (by decide +kernel)) rfl (pi_tup (pv 0)) (fun _ _ _ _ => pgc 0 (by decide +kernel) rfl rfl) (fun _ _ _ _ => pf_nil) (fun _ _ _ _ => (pe_call (ok__law_whole T).any (hr.mono (by decide)) (glc (defScope s__law_row)) T.g__law_whole T.F__law_whole.kp T.b__law_whole .nil pass0 (pa_cons (pvc (defScope s__law_row) 0) pa_nil)))) pa_nil)))))), ?_⟩
    refine ⟨_, rfl, _, _, _, true, rfl, TyOf.tup ha, kit_tup_tup, true, rfl, _, rfl, a, rfl, ⟨_, SqT.of ha⟩, comp_tup (xs := ns.map V.int) (fun i ys σ' H' => H' = H ∧ (∃ v, σ' = [v]) ∧ ys = (List.replicate i true).map V.bl ∧ i ≤ ns.length) ⟨rfl, ⟨_, rfl⟩, rfl, Nat.zero_le _⟩ ?_ ?_ ?_⟩
    · rintro i ys σ' H' hi ⟨rfl, _, rfl, hi'⟩
      refine ⟨SqT.of ha, ?_⟩
      rw [List.length_map, List.length_replicate]
      exact Nat.le_trans (Nat.le_trans hi' hln) (by decide)
    · rintro i x ys σ' H' hx ⟨rfl, ⟨v, rfl⟩, rfl, hi'⟩
      obtain ⟨z, hz, rfl⟩ := map_at hx
      have hi := (List.getElem?_eq_some_iff.mp hz).1
      refine ⟨_, rfl, z, rfl, rfl, ⟨_, rfl⟩, ?_, hi⟩
      rw [List.replicate_succ', List.map_append]
      rfl
    · rintro ys σ' H' ⟨rfl, _, rfl, hi'⟩ l hl0
      refine ⟨l, _, rfl, SqL.of upd_same, ?_⟩
      have e : (List.replicate (ns.map V.int).length true).all id = true := by simp
      rw [e]
      exact k _ (Same.new hl0)
def n__law_rows : List Str := ["_law_state", "_law_rows_here", "_law_size", "_law_many", "_law_k", "_law_row_here"]
theorem sc__law_rows : FnScope n__law_rows ["_law_state"] (defScope s__law_rows) := ⟨rfl, rfl, rfl, by decide +kernel, rfl, by decide +kernel, by decide +kernel⟩
theorem moreN {S : List Addr} {H : Hp} {rows : List (List Int)} {xs : List V} {p : Addr} (hp : H p = none) (h : All2 (LstN S) H rows xs) : All2 (LstN (p :: S)) H rows xs := by
  induction h with
  | nil => exact .nil
  | cons r _ ih =>
    obtain ⟨q, e, n, g⟩ := r
    refine .cons ⟨q, e, fun z => ?_, g⟩ ih
    rcases List.mem_cons.mp z with rfl | z
    · rw [hp] at g; cases g
    · exact n z
theorem lessN {S : List Addr} {H : Hp} {rows : List (List Int)} {xs : List V} {p : Addr} (h : All2 (LstN (p :: S)) H rows xs) : All2 (LstN S) H rows xs := by
  induction h with
  | nil => exact .nil
  | cons r _ ih =>
    obtain ⟨q, e, n, g⟩ := r
    exact .cons ⟨q, e, fun z => n (List.mem_cons_of_mem _ z), g⟩ ih
theorem keepMore {S : List Addr} {H H' : Hp} (k : Keep S H H') (p : Addr) : Keep (p :: S) H H' := k.wide fun _ h => List.mem_cons_of_mem _ h
def sp_rows : Sp := fun vs H Q _ => ∃ (st ga ca : Addr) (N : Nat), vs = [.ref st] ∧ StAt H st ga ca N ∧ N ≤ 10 ^ 6 ∧
  ∀ (l : Addr) (xs : List V) (rows : List (List Int)) (H' : Hp), H' l = some (.lst xs) → l ∉ [st, ga] → All2 (LstN [st, ga]) H' rows xs → rows.length ≤ 8 → (∀ r ∈ rows, r.length ≤ 60) → StAt H' st ga ca (N + 6000) → Keep [st, ga] H H' → Q (.ref l) H'
theorem ok__law_rows (T : Txt K mg A) : FnOk P w K mg base CX0 9 A.a__law_rows A.fd__law_rows ["_law_state"] sp_rows := by
  refine T.F__law_rows.ok sc__law_rows (fun vs H Q E h => ?_) (fun cdv Ar outer s H vs Q E hr h => ?_)
  · obtain ⟨st, ga, ca, N, rfl, S, hN, k⟩ := h
    rfl
  · obtain ⟨st, ga, ca, N, rfl, S, hN, k⟩ := h
    refine ⟨_, (pss_cons (ps_set (i := 1) sc__law_rows.nd rfl (by first | exact Or.inl rfl | exact Or.inr rfl) (pe_lst pa_nil))
        (@pss_cons _ _ _ _ _ (@ps_asg _ _ _ _ _ _ (@pe_ix _ _ _ _ _ _ _ ix_list (@pe_lst _ _ _ _ (@pa_cons _ _ _ _ _ (@pe_tup _ _ _ _ _ (@pa_cons _ _ _ _ _ (@pe_int _ _ _ _) (@pa_cons _ _ _ _ _ (@pe_int _ _ _ _) (@pa_nil _) (by rfl)) (by rfl))) (@pa_cons _ _ _ _ _ (@pe_tup _ _ _ _ _ (@pa_cons _ _ _ _ _ (@pe_int _ _ _ _) (@pa_cons _ _ _ _ _ (@pe_int _ _ _ _) (@pa_nil _) (by rfl)) (by rfl))) (@pa_cons _ _ _ _ _ (@pe_tup _ _ _ _ _ (@pa_cons _ _ _ _ _ (@pe_int _ _ _ _) (@pa_cons _ _ _ _ _ (@pe_int _ _ _ _) (@pa_nil _) (by rfl)) (by rfl))) (@pa_cons _ _ _ _ _ (@pe_tup _ _ _ _ _ (@pa_cons _ _ _ _ _ (@pe_int _ _ _ _) (@pa_cons _ _ _ _ _ (@pe_int _ _ _ _) (@pa_nil _) (by rfl)) (by rfl))) (@pa_cons _ _ _ _ _ (@pe_tup _ _ _ _ _ (@pa_cons _ _ _ _ _ (@pe_op _ _ _ _ _ _ _ _ op_pow (@pe_int _ _ _ _) (@pe_int _ _ _ _)) (@pa_cons _ _ _ _ _ (@pe_int _ _ _ _) (@pa_nil _) (by rfl)) (by rfl))) (@pa_nil _) (by rfl)) (by rfl)) (by rfl)) (by rfl)) (by rfl))) (pe_call (ok__law_draw T) (hr.mono (by decide)) rfl T.g__law_draw T.F__law_draw.kp T.b__law_draw .nil pass0 (pa_cons (pv 0 (hv := Or.inr (Or.inl rfl))) (pa_cons pe_int pa_nil))) (fun _ _ => rfl)) (pg_tup rfl (pgs_cons (pg_name (i := 2) sc__law_rows.nd rfl (by first | exact Or.inl rfl | exact Or.inr rfl)) (pgs_cons (pg_name (i := 3) sc__law_rows.nd rfl (by first | exact Or.inl rfl | exact Or.inr rfl)) pgs_nil))) (by rfl) (by rfl) (by rfl))
        (pss_cons (ps_for PassesOwn.never rfl (pi_range1 rfl T.b_range (pa_cons (pe_call (ok__law_draw T) (hr.mono (by decide)) rfl T.g__law_draw T.F__law_draw.kp T.b__law_draw .nil pass0 (pa_cons (pv 0 (hv := Or.inr (Or.inl rfl))) (pa_cons pe_int pa_nil))) pa_nil)) (pg_name (i := 4) sc__law_rows.nd rfl (by first | exact Or.inl rfl | exact Or.inr rfl))
          (pss_cons (ps_comp (i := 5) (ls := ["_law_one"]) (fr := [("_law_state", 0), ("_law_size", 2)]) (cs_of (defScope s__law_rows) n__law_rows rfl rfl (by decide +kernel)) rfl (pi_range1 rfl T.b_range (pa_cons (pe_call (ok__law_draw T) (hr.mono (by decide)) rfl T.g__law_draw T.F__law_draw.kp T.b__law_draw .nil pass0 (pa_cons (pv 0 (hv := Or.inr (Or.inl rfl))) (pa_cons (pe_op op_add (pv 3) pe_int) pa_nil))) pa_nil)) (fun _ _ _ _ => pgc 0 (by decide +kernel) rfl rfl) (fun _ _ _ _ => pf_nil) (fun _ _ _ _ => (pe_op op_add pe_int (pe_call (ok__law_draw T) (hr.mono (by decide)) (glc (defScope s__law_rows)) T.g__law_draw T.F__law_draw.kp T.b__law_draw .nil pass0 (pa_cons (pvc (defScope s__law_rows) 1) (pa_cons (pvc (defScope s__law_rows) 2) pa_nil))))) sc__law_rows.nd rfl rfl rfl)
        (pss_cons (ps_if (PW.pt (pw_and (pt_truth (pv 5) (fun _ => rfl)) (pw_and1 (pt_cmpR op_eq (pe_call (ok__law_draw T) (hr.mono (by decide)) rfl T.g__law_draw T.F__law_draw.kp T.b__law_draw .nil pass0 (pa_cons (pv 0 (hv := Or.inr (Or.inl rfl))) (pa_cons pe_int pa_nil))) pe_int (nomark _)))))
          (pss_one (ps_asg (pe_op op_sub pe_int (pe_call (ok__law_draw T) (hr.mono (by decide)) rfl T.g__law_draw T.F__law_draw.kp T.b__law_draw .nil pass0 (pa_cons (pv 0 (hv := Or.inr (Or.inl rfl))) (pa_cons pe_int pa_nil)))) (pg_sub (pv 5) (pe_call (ok__law_draw T) (hr.mono (by decide)) rfl T.g__law_draw T.F__law_draw.kp T.b__law_draw .nil pass0 (pa_cons (pv 0 (hv := Or.inr (Or.inl rfl))) (pa_cons (pe_callB call_len_seq rfl T.b_len PySem.boot_len (pa_cons (pv 5) pa_nil)) pa_nil))) set_list))) pss_nil)
        (pss_one (ps_expr (pe_bm PySem.F.plainAttrs_list PySem.F.slot_list_append PySem.F.type_list_append mt_append (pv 1) (pa_cons (pv 5) pa_nil)))))))
        (pss_one (ps_ret (pv 1)))))), ?_⟩
    refine ⟨by show 0 ≤ sizeLine; decide, fun l hl => ?_⟩
    refine ⟨by show 2 ≤ sizeLine; decide, fun t1 h1 => ⟨by show 2 ≤ sizeLine; decide, fun t2 h2 => ⟨by show 2 ≤ sizeLine; decide, fun t3 h3 => ⟨by show 2 ≤ sizeLine; decide, fun t4 h4 => ⟨_, _, rfl, rfl, ⟨by decide, by decide, by decide⟩, by show 2 ≤ sizeLine; decide, fun t5 h5 => ⟨by show 5 ≤ sizeLine; decide, fun d hd => ?_⟩⟩⟩⟩⟩⟩
    dsimp only at h1 h2 h3 h4 h5 hd ⊢
    have a1 := upd_same (H := upd H l (.lst [])) (a := t1) (o := .tup [V.int 4, V.int 4])
    generalize e1 : upd (upd H l (.lst [])) t1 (.tup [V.int 4, V.int 4]) = G1 at a1 h2 h3 h4 h5 hd ⊢
    have u1 : Same H G1 := by rw [← e1]; exact (Same.new hl).trans (Same.new h1)
    have al : G1 l = some (.lst []) := by rw [← e1]; exact Same.new h1 _ _ upd_same
    have a2 := upd_same (H := G1) (a := t2) (o := .tup [V.int 4, V.int 4])
    have s2 := Same.new (o := .tup [V.int 4, V.int 4]) h2
    generalize upd G1 t2 (.tup [V.int 4, V.int 4]) = G2 at a2 s2 h3 h4 h5 hd ⊢
    have a3 := upd_same (H := G2) (a := t3) (o := .tup [V.int 4, V.int 4])
    have s3 := Same.new (o := .tup [V.int 4, V.int 4]) h3
    generalize upd G2 t3 (.tup [V.int 4, V.int 4]) = G3 at a3 s3 h4 h5 hd ⊢
    have a4 := upd_same (H := G3) (a := t4) (o := .tup [V.int 3, V.int 60])
    have s4 := Same.new (o := .tup [V.int 3, V.int 60]) h4
    generalize upd G3 t4 (.tup [V.int 3, V.int 60]) = G4 at a4 s4 h5 hd ⊢
    have a5 := upd_same (H := G4) (a := t5) (o := .tup [V.int (10 ^ Int.toNat 59), V.int 9])
    have s5 := Same.new (o := .tup [V.int (10 ^ Int.toNat 59), V.int 9]) h5
    generalize upd G4 t5 (.tup [V.int (10 ^ Int.toNat 59), V.int 9]) = G5 at a5 s5 hd ⊢
    have ad := upd_same (H := G5) (a := d) (o := .lst [V.ref t1, V.ref t2, V.ref t3, V.ref t4, V.ref t5])
    have s6 := Same.new (o := .lst [V.ref t1, V.ref t2, V.ref t3, V.ref t4, V.ref t5]) hd
    generalize upd G5 d (.lst [V.ref t1, V.ref t2, V.ref t3, V.ref t4, V.ref t5]) = G6 at ad s6 ⊢
    have sA := u1.trans (s2.trans (s3.trans (s4.trans s5)))
    have nd : d ∉ [st, ga] := (S.same sA).nin hd
    have s06 := sA.trans s6
    have S6 := S.same s06
    refine ⟨_, rfl, st, ga, ca, N, 5, rfl, S6, by omega, by decide, by decide, fun r H1 r0 r1 S1 K1 => ?_⟩
    have T1 := K1.tups S6
    obtain ⟨t, m, n, hat, gt, hm0, hm1, hn0, hn1⟩ : ∃ (t : Addr) (m n : Int), atI [V.ref t1, V.ref t2, V.ref t3, V.ref t4, V.ref t5] r = some (.ref t) ∧ H1 t = some (.tup [V.int m, V.int n]) ∧ 0 < m ∧ m ≤ 10 ^ 60 ∧ 0 ≤ n ∧ n ≤ 60 := by
      have : r = 0 ∨ r = 1 ∨ r = 2 ∨ r = 3 ∨ r = 4 := by omega
      rcases this with rfl | rfl | rfl | rfl | rfl
      · exact ⟨t1, 4, 4, rfl, T1 _ _ (s6 _ _ (s5 _ _ (s4 _ _ (s3 _ _ (s2 _ _ a1))))), by decide, by decide, by decide, by decide⟩
      · exact ⟨t2, 4, 4, rfl, T1 _ _ (s6 _ _ (s5 _ _ (s4 _ _ (s3 _ _ a2)))), by decide, by decide, by decide, by decide⟩
      · exact ⟨t3, 4, 4, rfl, T1 _ _ (s6 _ _ (s5 _ _ (s4 _ _ a3))), by decide, by decide, by decide, by decide⟩
      · exact ⟨t4, 3, 60, rfl, T1 _ _ (s6 _ _ (s5 _ _ a4)), by decide, by decide, by decide, by decide⟩
      · exact ⟨t5, 10 ^ Int.toNat 59, 9, rfl, T1 _ _ (s6 _ _ a5), by decide, by decide, by decide, by decide⟩
    have nl : l ∉ [st, ga] := S.nin hl
    have nl3 : l ∉ [st, ga, ca] := S.nin3 hl
    have gl1 : H1 l = some (.lst []) := K1.at ((s2.trans (s3.trans (s4.trans (s5.trans s6)))) _ _ al) nl
    have k01 : Keep [st, ga] H H1 := s06.keep.trans K1
    refine ⟨d, _, r, _, rfl, rfl, SqL.of (K1.at ad nd), hat, t, _, rfl, SqT.of gt, rfl, _, _, rfl, _, _, rfl, rfl, ?_⟩
    clear a1 a2 a3 a4 a5 ad s2 s3 s4 s5 s6 h1 h2 h3 h4 h5 hd al u1 e1 hat gt T1 sA s06 S6 K1
    refine ⟨_, rfl, st, ga, ca, _, 9, rfl, S1, by omega, by decide, by decide, fun c H2 c0 c1 S2 K2 => ?_⟩
    refine ⟨_, rfl, by omega, by omega, for_range (n := c.toNat) (fun i σ' H' => ∃ (v4 v5 : Option V) (xs : List V) (rows : List (List Int)), σ' = [some (.ref st), some (.ref l), some (.int m), some (.int n), v4, v5] ∧ H' l = some (.lst xs) ∧ All2 (LstN (l :: [st, ga])) H' rows xs ∧ rows.length = i ∧ (∀ r ∈ rows, r.length ≤ 60) ∧ StAt H' st ga ca (N + 100 + 700 * i) ∧ Keep [st, ga] H H') ⟨_, _, [], [], rfl, K2.at gl1 nl, .nil, rfl, by simp, S2.mono (by omega), k01.trans K2⟩ ?_ ?_⟩
    · rintro i σ' H' hi ⟨v4, v5, xs, rows, rfl, gl, h2, hrl, hrs, S', K'⟩
      refine ⟨_, rfl, _, rfl, _, _, rfl, rfl, st, ga, ca, _, n + 1, rfl, S', by omega, by omega, Int.le_trans (show n + 1 ≤ 61 by omega) (by decide), fun c2 H3 c20 c21 S3 K3 => ?_⟩
      refine ⟨_, rfl, by omega, by omega, comp_range (n := c2.toNat) (fun j ys σ' H'' => (∃ v, σ' = [v, some (.ref st), some (.int m)]) ∧ ∃ ns : List Int, ys = ns.map V.int ∧ ns.length = j ∧ StAt H'' st ga ca (N + 107 + 700 * i + 7 * j) ∧ Keep [st, ga] H' H'') ⟨⟨_, rfl⟩, [], rfl, rfl, S3.mono (by omega), K3⟩ ?_ ?_ ?_⟩
      · rintro j ys σ' H'' hj ⟨_, ns, rfl, hnl, _⟩
        rw [List.length_map, hnl]
        exact small64 (by omega)
      · rintro j ys σ' H'' hj ⟨⟨v, rfl⟩, ns, rfl, hnl, S4, K4⟩
        refine ⟨_, rfl, _, rfl, st, ga, ca, _, m, rfl, S4, by omega, hm0, hm1, fun w H5 w0 w1 S5 K5 => ?_⟩
        exact ⟨_, _, rfl, rfl, ⟨_, rfl⟩, ns ++ [1 + w], by simp, by simp [hnl], S5.mono (by omega), K4.trans K5⟩
      rintro ys σ' H4 ⟨_, ns, rfl, hnl, S4, K4⟩ p hp
      have np := S4.nin hp
      have np3 := S4.nin3 hp
      have gl4 := K4.at gl nl
      have hlp : l ≠ p := ne_of_none gl4 hp
      have h24 : All2 (LstN (p :: l :: [st, ga])) H4 rows xs := moreN hp (h2.mvN (keepMore K4 l))
      have sp := Same.new (o := .lst (ns.map V.int)) hp
      have gp := upd_same (H := H4) (a := p) (o := .lst (ns.map V.int))
      generalize upd H4 p (.lst (ns.map V.int)) = H5 at sp gp
      have nH : H p = none := (K'.trans K4).free hp np
      dsimp only [tNext, gName]
      refine seqJoin (fun σ' H' => ∃ (ns : List Int), σ' = [some (.ref st), some (.ref l), some (.int m), some (.int n), some (.int (0 + (i : Int))), some (.ref p)] ∧ H' p = some (.lst (ns.map V.int)) ∧ ns.length ≤ 60 ∧ H' l = some (.lst xs) ∧ All2 (LstN (p :: l :: [st, ga])) H' rows xs ∧ StAt H' st ga ca (N + 700 + 700 * i) ∧ Keep [st, ga] H H') (fun nx hnx => ?_) ?_
      · have S5 := S4.same sp
        have k05 : Keep [st, ga] H H5 := (K'.trans K4).trans sp.keep
        have h25 : All2 (LstN (p :: l :: [st, ga])) H5 rows xs := h24.mvN (sp.keep)
        have hnl60 : ns.length ≤ 60 := by omega
        refine ⟨_, rfl, _, .inl ⟨_, SqL.of gp, rfl⟩, ite2 (fun hc => ?_) (fun _ => iteF (hnx _ _ ⟨ns, rfl, gp, hnl60, sp _ _ gl4, h25, S5.mono (by omega), k05⟩))⟩
        have lp : 0 < ns.length := by
          rcases ns with _ | ⟨_, _⟩
          · cases hc
          · exact Nat.succ_pos _
        refine ⟨_, rfl, st, ga, ca, _, 12, rfl, S5, by omega, by decide, by decide, fun w H6 w0 w1 S6 K6 => ⟨rfl, _, rfl, ite2 (fun _ => ?_) (fun _ => hnx _ _ ⟨ns, rfl, K6.at gp np, hnl60, K6.at (sp _ _ gl4) nl, h25.mvN (keepMore (keepMore K6 l) p), S6.mono (by omega), k05.trans K6⟩)⟩⟩
        refine ⟨_, rfl, st, ga, ca, _, 3, rfl, S6, by omega, by decide, by decide, fun w3 H7 _ _ S7 K7 => ?_⟩
        have K57 := K6.trans K7
        refine ⟨_, _, rfl, rfl, ?_⟩
        refine ⟨_, rfl, _, rfl, _, rfl, p, _, rfl, .inl (SqL.of (K57.at gp np)), st, ga, ca, _, _, rfl, S7, by omega, by rw [List.length_map]; omega, by rw [List.length_map]; exact Int.le_trans (show (ns.length : Int) ≤ 60 by omega) (by decide), fun at_ H8 at0 at1 S8 K8 => ?_⟩
        obtain ⟨an, rfl⟩ : ∃ n : Nat, at_ = (n : Int) := ⟨at_.toNat, by omega⟩
        rw [List.length_map] at at1
        have K58 := K57.trans K8
        refine ⟨p, _, (an : Int), an, rfl, rfl, K58.at gp np, ixN_nat (by rw [List.length_map]; omega), ?_⟩
        refine hnx _ _ ⟨ns.set an (0 - w3), rfl, by rw [upd_same, List.map_set], by rw [List.length_set]; exact hnl60, by rw [upd_ne hlp]; exact K58.at (sp _ _ gl4) nl, (h25.mvN (keepMore (keepMore K58 l) p)).mvN (Keep.set (by simp)), (S8.upd np3).mono (by omega), (k05.trans K58).updN nH⟩
      · rintro σ' H6 ⟨ns, rfl, gp, hn, gl, h2, S6, K6⟩
        refine ⟨_, rfl, .inl ⟨rfl, _, SqL.of gl⟩, _, rfl, l, _, _, rfl, rfl, gl, by have := h2.length; exact Nat.lt_of_le_of_lt (show xs.length ≤ 8 by omega) (by decide), ?_⟩
        have npl : p ∉ l :: [st, ga] := fun z => (List.mem_cons.mp z).elim (fun e => hlp e.symm) np
        refine ⟨_, _, xs ++ [.ref p], rows ++ [ns], rfl, upd_same, ((lessN h2).mvN (Keep.set (by simp))).snoc ⟨p, rfl, npl, by rw [upd_ne hlp.symm]; exact gp⟩, by simp [hrl], fun r hr => ?_, (S6.upd nl3).mono (by omega), K6.updN hl⟩
        rcases List.mem_append.mp hr with hr | hr
        · exact hrs r hr
        · have : r = ns := by simpa using hr
          rw [this]; exact hn
    · rintro σ' H' ⟨v4, v5, xs, rows, rfl, gl, h2, hrl, hrs, S', K'⟩
      exact ⟨_, rfl, k l xs rows H' gl nl (lessN h2) (by omega) hrs (S'.mono (by omega)) K'⟩
def n__law_alone : List Str := ["_law_e", "_law_found"]
theorem sc__law_alone : FnScope n__law_alone ["_law_e"] (defScope s__law_alone) := ⟨rfl, rfl, rfl, by decide +kernel, rfl, by decide +kernel, by decide +kernel⟩
def sp_one_class (A : Adr) : Sp := fun vs H Q _ => ∃ (e : Addr) (dd : Option Addr), vs = [.ref e] ∧ (H e = some (.ext (IsExcD e (.ref A.c_NoRule) dd)) ∨ H e = some (.ext (IsExcD e (.ref A.c_NoHeap) dd))) ∧ ∀ H', Same H H' → Q (.bl true) H'
theorem ok__law_alone (T : Txt K mg A) : FnOk P w K mg base CX0 1 A.a__law_alone A.fd__law_alone ["_law_e"] (sp_one_class A) false := by
  refine T.F__law_alone.ok sc__law_alone (fun vs H Q E h => ?_) (fun cdv Ar outer s H vs Q E hr h => ?_)
  · obtain ⟨e, dd, rfl, he, k⟩ := h
    rfl
  · obtain ⟨e, dd, rfl, he, k⟩ := h
    refine ⟨_, (pss_cons (ps_set (i := 1) sc__law_alone.nd rfl (by first | exact Or.inl rfl | exact Or.inr rfl) (pe_lst (pa_cons (pe_callB (call_isiXD (K := K)) rfl T.b_isinstance boot_isinstance (pa_cons (pv 0) (pa_cons (pe_glob (v := .ref A.c_NotIn) rfl T.g_NotIn rfl) pa_nil))) (pa_cons (pe_callB (call_isiXD (K := K)) rfl T.b_isinstance boot_isinstance (pa_cons (pv 0) (pa_cons (pe_glob (v := .ref A.c_NoText) rfl T.g_NoText rfl) pa_nil))) (pa_cons (pe_callB (call_isiXD (K := K)) rfl T.b_isinstance boot_isinstance (pa_cons (pv 0) (pa_cons (pe_glob (v := .ref A.c_NoRule) rfl T.g_NoRule rfl) pa_nil))) (pa_cons (pe_callB (call_isiXD (K := K)) rfl T.b_isinstance boot_isinstance (pa_cons (pv 0) (pa_cons (pe_glob (v := .ref A.c_NoSum) rfl T.g_NoSum rfl) pa_nil))) pa_nil))))))
        (pss_cons (ps_set (i := 1) sc__law_alone.nd rfl (by first | exact Or.inl rfl | exact Or.inr rfl) (pe_op op_cat (pv 1) (pe_lst (pa_cons (pe_callB (call_isiXD (K := K)) rfl T.b_isinstance boot_isinstance (pa_cons (pv 0) (pa_cons (pe_glob (v := .ref A.c_NoPlace) rfl T.g_NoPlace rfl) pa_nil))) (pa_cons (pe_callB (call_isiXD (K := K)) rfl T.b_isinstance boot_isinstance (pa_cons (pv 0) (pa_cons (pe_glob (v := .ref A.c_NoPair) rfl T.g_NoPair rfl) pa_nil))) (pa_cons (pe_callB (call_isiXD (K := K)) rfl T.b_isinstance boot_isinstance (pa_cons (pv 0) (pa_cons (pe_glob (v := .ref A.c_NotPaired) rfl T.g_NotPaired rfl) pa_nil))) pa_nil))))))
        (pss_cons (ps_set (i := 1) sc__law_alone.nd rfl (by first | exact Or.inl rfl | exact Or.inr rfl) (pe_op op_cat (pv 1) (pe_lst (pa_cons (pe_callB (call_isiXD (K := K)) rfl T.b_isinstance boot_isinstance (pa_cons (pv 0) (pa_cons (pe_glob (v := .ref A.c_NotSoMany) rfl T.g_NotSoMany rfl) pa_nil))) (pa_cons (pe_callB (call_isiXD (K := K)) rfl T.b_isinstance boot_isinstance (pa_cons (pv 0) (pa_cons (pe_glob (v := .ref A.c_NotStrict) rfl T.g_NotStrict rfl) pa_nil))) (pa_cons (pe_callB (call_isiXD (K := K)) rfl T.b_isinstance boot_isinstance (pa_cons (pv 0) (pa_cons (pe_glob (v := .ref A.c_LeftOver) rfl T.g_LeftOver rfl) pa_nil))) pa_nil))))))
        (pss_cons (ps_set (i := 1) sc__law_alone.nd rfl (by first | exact Or.inl rfl | exact Or.inr rfl) (pe_op op_cat (pv 1) (pe_lst (pa_cons (pe_callB (call_isiXD (K := K)) rfl T.b_isinstance boot_isinstance (pa_cons (pv 0) (pa_cons (pe_glob (v := .ref A.c_NoBottom) rfl T.g_NoBottom rfl) pa_nil))) (pa_cons (pe_callB (call_isiXD (K := K)) rfl T.b_isinstance boot_isinstance (pa_cons (pv 0) (pa_cons (pe_glob (v := .ref A.c_NoLanes) rfl T.g_NoLanes rfl) pa_nil))) (pa_cons (pe_callB (call_isiXD (K := K)) rfl T.b_isinstance boot_isinstance (pa_cons (pv 0) (pa_cons (pe_glob (v := .ref A.c_TooGreat) rfl T.g_TooGreat rfl) pa_nil))) pa_nil))))))
        (pss_cons (ps_set (i := 1) sc__law_alone.nd rfl (by first | exact Or.inl rfl | exact Or.inr rfl) (pe_op op_cat (pv 1) (pe_lst (pa_cons (pe_callB (call_isiXD (K := K)) rfl T.b_isinstance boot_isinstance (pa_cons (pv 0) (pa_cons (pe_glob (v := .ref A.c_NoLine) rfl T.g_NoLine rfl) pa_nil))) (pa_cons (pe_callB (call_isiXD (K := K)) rfl T.b_isinstance boot_isinstance (pa_cons (pv 0) (pa_cons (pe_glob (v := .ref A.c_NothingLeft) rfl T.g_NothingLeft rfl) pa_nil))) (pa_cons (pe_callB (call_isiXD (K := K)) rfl T.b_isinstance boot_isinstance (pa_cons (pv 0) (pa_cons (pe_glob (v := .ref A.c_NoHeap) rfl T.g_NoHeap rfl) pa_nil))) pa_nil))))))
        (pss_cons (ps_set (i := 1) sc__law_alone.nd rfl (by first | exact Or.inl rfl | exact Or.inr rfl) (pe_op op_cat (pv 1) (pe_lst (pa_cons (pe_callB (call_isiXD (K := K)) rfl T.b_isinstance boot_isinstance (pa_cons (pv 0) (pa_cons (pe_glob (v := .ref A.c_NotKept) rfl T.g_NotKept rfl) pa_nil))) (pa_cons (pe_callB (call_isiXD (K := K)) rfl T.b_isinstance boot_isinstance (pa_cons (pv 0) (pa_cons (pe_glob (v := .ref A.c_Unmatched) rfl T.g_Unmatched rfl) pa_nil))) (pa_cons (pe_callB (call_isiXD (K := K)) rfl T.b_isinstance boot_isinstance (pa_cons (pv 0) (pa_cons (pe_glob (v := .ref A.c_TooLong) rfl T.g_TooLong rfl) pa_nil))) pa_nil))))))
        (pss_cons (ps_set (i := 1) sc__law_alone.nd rfl (by first | exact Or.inl rfl | exact Or.inr rfl) (pe_op op_cat (pv 1) (pe_lst (pa_cons (pe_callB (call_isiXD (K := K)) rfl T.b_isinstance boot_isinstance (pa_cons (pv 0) (pa_cons (pe_glob (v := .ref A.c_NoName) rfl T.g_NoName rfl) pa_nil))) pa_nil))))
        (pss_one (ps_ret (pe_and (pe_cmpR op_eq (pe_bm PySem.F.plainAttrs_list PySem.F.slot_list_count PySem.F.type_list_count mt_countL (pv 1) (pa_cons pe_bl pa_nil)) pe_int (nomark _)) (pe_and (pe_callB (call_isiXD (K := K)) rfl T.b_isinstance boot_isinstance (pa_cons (pv 0) (pa_cons (pe_glob (v := .ref A.c_ShutError) rfl T.g_ShutError rfl) pa_nil))) (pe_one (pe_callB (call_isiXD (K := K)) rfl T.b_isinstance boot_isinstance (pa_cons (pv 0) (pa_cons (pe_bltn (v := .ty "ValueError") rfl T.b_ValueError boot_ValueError rfl) pa_nil))))))))))))))), ?_⟩
    rcases he with he | he
    · refine ⟨_, rfl, e, A.c_NoRule, dd, _, _, _, rfl, (fun _ h => h), he, T.e_NoRule, T.i_NoRule_NotIn, _, rfl, e, A.c_NoRule, dd, _, _, _, rfl, (fun _ h => h), he, T.e_NoRule, T.i_NoRule_NoText, _, rfl, e, A.c_NoRule, dd, _, _, _, rfl, (fun _ h => h), he, T.e_NoRule, T.i_NoRule_NoRule, _, rfl, e, A.c_NoRule, dd, _, _, _, rfl, (fun _ h => h), he, T.e_NoRule, T.i_NoRule_NoSum, by show 4 ≤ sizeLine; decide, fun l0 hl0 => ?_⟩
      obtain ⟨H0, hH0⟩ : ∃ H0, H0 = upd H l0 (.lst [V.bl false, V.bl false, V.bl true, V.bl false]) := ⟨_, rfl⟩
      rw [← hH0]
      have s0 : Same H H0 := by rw [hH0]; exact Same.new hl0
      have g0 : H0 l0 = some (.lst [V.bl false, V.bl false, V.bl true, V.bl false]) := by rw [hH0]; exact upd_same
      refine ⟨_, rfl, _, rfl, e, A.c_NoRule, dd, _, _, _, rfl, (fun _ h => h), (s0 _ _ he), T.e_NoRule, T.i_NoRule_NoPlace, _, rfl, e, A.c_NoRule, dd, _, _, _, rfl, (fun _ h => h), (s0 _ _ he), T.e_NoRule, T.i_NoRule_NoPair, _, rfl, e, A.c_NoRule, dd, _, _, _, rfl, (fun _ h => h), (s0 _ _ he), T.e_NoRule, T.i_NoRule_NotPaired, by show 3 ≤ sizeLine; decide, fun m1 hm1 => ?_⟩
      refine ⟨l0, m1, _, _, rfl, rfl, Same.new hm1 _ _ g0, upd_same, by show 7 ≤ sizeLine; decide, fun l1 hl1 => ?_⟩
      obtain ⟨H1, hH1⟩ : ∃ H', H' = upd (upd H0 m1 (.lst [V.bl false, V.bl false, V.bl false])) l1 (.lst ([V.bl false, V.bl false, V.bl true, V.bl false] ++ [V.bl false, V.bl false, V.bl false])) := ⟨_, rfl⟩
      rw [← hH1]
      have s1 : Same H H1 := by rw [hH1]; exact s0.trans ((Same.new hm1).trans (Same.new hl1))
      have g1 : H1 l1 = some (.lst [V.bl false, V.bl false, V.bl true, V.bl false, V.bl false, V.bl false, V.bl false]) := by rw [hH1]; exact upd_same
      refine ⟨_, rfl, _, rfl, e, A.c_NoRule, dd, _, _, _, rfl, (fun _ h => h), (s1 _ _ he), T.e_NoRule, T.i_NoRule_NotSoMany, _, rfl, e, A.c_NoRule, dd, _, _, _, rfl, (fun _ h => h), (s1 _ _ he), T.e_NoRule, T.i_NoRule_NotStrict, _, rfl, e, A.c_NoRule, dd, _, _, _, rfl, (fun _ h => h), (s1 _ _ he), T.e_NoRule, T.i_NoRule_LeftOver, by show 3 ≤ sizeLine; decide, fun m2 hm2 => ?_⟩
      refine ⟨l1, m2, _, _, rfl, rfl, Same.new hm2 _ _ g1, upd_same, by show 10 ≤ sizeLine; decide, fun l2 hl2 => ?_⟩
      obtain ⟨H2, hH2⟩ : ∃ H', H' = upd (upd H1 m2 (.lst [V.bl false, V.bl false, V.bl false])) l2 (.lst ([V.bl false, V.bl false, V.bl true, V.bl false, V.bl false, V.bl false, V.bl false] ++ [V.bl false, V.bl false, V.bl false])) := ⟨_, rfl⟩
      rw [← hH2]
      have s2 : Same H H2 := by rw [hH2]; exact s1.trans ((Same.new hm2).trans (Same.new hl2))
      have g2 : H2 l2 = some (.lst [V.bl false, V.bl false, V.bl true, V.bl false, V.bl false, V.bl false, V.bl false, V.bl false, V.bl false, V.bl false]) := by rw [hH2]; exact upd_same
      refine ⟨_, rfl, _, rfl, e, A.c_NoRule, dd, _, _, _, rfl, (fun _ h => h), (s2 _ _ he), T.e_NoRule, T.i_NoRule_NoBottom, _, rfl, e, A.c_NoRule, dd, _, _, _, rfl, (fun _ h => h), (s2 _ _ he), T.e_NoRule, T.i_NoRule_NoLanes, _, rfl, e, A.c_NoRule, dd, _, _, _, rfl, (fun _ h => h), (s2 _ _ he), T.e_NoRule, T.i_NoRule_TooGreat, by show 3 ≤ sizeLine; decide, fun m3 hm3 => ?_⟩
      refine ⟨l2, m3, _, _, rfl, rfl, Same.new hm3 _ _ g2, upd_same, by show 13 ≤ sizeLine; decide, fun l3 hl3 => ?_⟩
      obtain ⟨H3, hH3⟩ : ∃ H', H' = upd (upd H2 m3 (.lst [V.bl false, V.bl false, V.bl false])) l3 (.lst ([V.bl false, V.bl false, V.bl true, V.bl false, V.bl false, V.bl false, V.bl false, V.bl false, V.bl false, V.bl false] ++ [V.bl false, V.bl false, V.bl false])) := ⟨_, rfl⟩
      rw [← hH3]
      have s3 : Same H H3 := by rw [hH3]; exact s2.trans ((Same.new hm3).trans (Same.new hl3))
      have g3 : H3 l3 = some (.lst [V.bl false, V.bl false, V.bl true, V.bl false, V.bl false, V.bl false, V.bl false, V.bl false, V.bl false, V.bl false, V.bl false, V.bl false, V.bl false]) := by rw [hH3]; exact upd_same
      refine ⟨_, rfl, _, rfl, e, A.c_NoRule, dd, _, _, _, rfl, (fun _ h => h), (s3 _ _ he), T.e_NoRule, T.i_NoRule_NoLine, _, rfl, e, A.c_NoRule, dd, _, _, _, rfl, (fun _ h => h), (s3 _ _ he), T.e_NoRule, T.i_NoRule_NothingLeft, _, rfl, e, A.c_NoRule, dd, _, _, _, rfl, (fun _ h => h), (s3 _ _ he), T.e_NoRule, T.i_NoRule_NoHeap, by show 3 ≤ sizeLine; decide, fun m4 hm4 => ?_⟩
      refine ⟨l3, m4, _, _, rfl, rfl, Same.new hm4 _ _ g3, upd_same, by show 16 ≤ sizeLine; decide, fun l4 hl4 => ?_⟩
      obtain ⟨H4, hH4⟩ : ∃ H', H' = upd (upd H3 m4 (.lst [V.bl false, V.bl false, V.bl false])) l4 (.lst ([V.bl false, V.bl false, V.bl true, V.bl false, V.bl false, V.bl false, V.bl false, V.bl false, V.bl false, V.bl false, V.bl false, V.bl false, V.bl false] ++ [V.bl false, V.bl false, V.bl false])) := ⟨_, rfl⟩
      rw [← hH4]
      have s4 : Same H H4 := by rw [hH4]; exact s3.trans ((Same.new hm4).trans (Same.new hl4))
      have g4 : H4 l4 = some (.lst [V.bl false, V.bl false, V.bl true, V.bl false, V.bl false, V.bl false, V.bl false, V.bl false, V.bl false, V.bl false, V.bl false, V.bl false, V.bl false, V.bl false, V.bl false, V.bl false]) := by rw [hH4]; exact upd_same
      refine ⟨_, rfl, _, rfl, e, A.c_NoRule, dd, _, _, _, rfl, (fun _ h => h), (s4 _ _ he), T.e_NoRule, T.i_NoRule_NotKept, _, rfl, e, A.c_NoRule, dd, _, _, _, rfl, (fun _ h => h), (s4 _ _ he), T.e_NoRule, T.i_NoRule_Unmatched, _, rfl, e, A.c_NoRule, dd, _, _, _, rfl, (fun _ h => h), (s4 _ _ he), T.e_NoRule, T.i_NoRule_TooLong, by show 3 ≤ sizeLine; decide, fun m5 hm5 => ?_⟩
      refine ⟨l4, m5, _, _, rfl, rfl, Same.new hm5 _ _ g4, upd_same, by show 19 ≤ sizeLine; decide, fun l5 hl5 => ?_⟩
      obtain ⟨H5, hH5⟩ : ∃ H', H' = upd (upd H4 m5 (.lst [V.bl false, V.bl false, V.bl false])) l5 (.lst ([V.bl false, V.bl false, V.bl true, V.bl false, V.bl false, V.bl false, V.bl false, V.bl false, V.bl false, V.bl false, V.bl false, V.bl false, V.bl false, V.bl false, V.bl false, V.bl false] ++ [V.bl false, V.bl false, V.bl false])) := ⟨_, rfl⟩
      rw [← hH5]
      have s5 : Same H H5 := by rw [hH5]; exact s4.trans ((Same.new hm5).trans (Same.new hl5))
      have g5 : H5 l5 = some (.lst [V.bl false, V.bl false, V.bl true, V.bl false, V.bl false, V.bl false, V.bl false, V.bl false, V.bl false, V.bl false, V.bl false, V.bl false, V.bl false, V.bl false, V.bl false, V.bl false, V.bl false, V.bl false, V.bl false]) := by rw [hH5]; exact upd_same
      refine ⟨_, rfl, _, rfl, e, A.c_NoRule, dd, _, _, _, rfl, (fun _ h => h), (s5 _ _ he), T.e_NoRule, T.i_NoRule_NoName, by show 1 ≤ sizeLine; decide, fun m6 hm6 => ?_⟩
      refine ⟨l5, m6, _, _, rfl, rfl, Same.new hm6 _ _ g5, upd_same, by show 20 ≤ sizeLine; decide, fun l6 hl6 => ?_⟩
      obtain ⟨H6, hH6⟩ : ∃ H', H' = upd (upd H5 m6 (.lst [V.bl false])) l6 (.lst ([V.bl false, V.bl false, V.bl true, V.bl false, V.bl false, V.bl false, V.bl false, V.bl false, V.bl false, V.bl false, V.bl false, V.bl false, V.bl false, V.bl false, V.bl false, V.bl false, V.bl false, V.bl false, V.bl false] ++ [V.bl false])) := ⟨_, rfl⟩
      rw [← hH6]
      have s6 : Same H H6 := by rw [hH6]; exact s5.trans ((Same.new hm6).trans (Same.new hl6))
      have g6 : H6 l6 = some (.lst [V.bl false, V.bl false, V.bl true, V.bl false, V.bl false, V.bl false, V.bl false, V.bl false, V.bl false, V.bl false, V.bl false, V.bl false, V.bl false, V.bl false, V.bl false, V.bl false, V.bl false, V.bl false, V.bl false, V.bl false]) := by rw [hH6]; exact upd_same
      refine ⟨_, rfl, .inl ⟨rfl, _, SqL.of g6⟩, l6, _, _, rfl, rfl, SqL.of g6, rfl, rfl, rfl, ⟨true, by first | rfl | decide, iteT ?_⟩⟩
      refine ⟨_, rfl, e, A.c_NoRule, dd, _, _, _, rfl, (fun _ h => h), (s6 _ _ he), T.e_NoRule, T.i_NoRule_ShutError, ⟨true, rfl, iteT ?_⟩⟩
      exact ⟨_, rfl, e, A.c_NoRule, dd, _, _, _, rfl, (fun _ h => h), (s6 _ _ he), T.e_NoRule, T.i_NoRule_ValueError, k _ s6⟩
    · refine ⟨_, rfl, e, A.c_NoHeap, dd, _, _, _, rfl, (fun _ h => h), he, T.e_NoHeap, T.i_NoHeap_NotIn, _, rfl, e, A.c_NoHeap, dd, _, _, _, rfl, (fun _ h => h), he, T.e_NoHeap, T.i_NoHeap_NoText, _, rfl, e, A.c_NoHeap, dd, _, _, _, rfl, (fun _ h => h), he, T.e_NoHeap, T.i_NoHeap_NoRule, _, rfl, e, A.c_NoHeap, dd, _, _, _, rfl, (fun _ h => h), he, T.e_NoHeap, T.i_NoHeap_NoSum, by show 4 ≤ sizeLine; decide, fun l0 hl0 => ?_⟩
      obtain ⟨H0, hH0⟩ : ∃ H0, H0 = upd H l0 (.lst [V.bl false, V.bl false, V.bl false, V.bl false]) := ⟨_, rfl⟩
      rw [← hH0]
      have s0 : Same H H0 := by rw [hH0]; exact Same.new hl0
      have g0 : H0 l0 = some (.lst [V.bl false, V.bl false, V.bl false, V.bl false]) := by rw [hH0]; exact upd_same
      refine ⟨_, rfl, _, rfl, e, A.c_NoHeap, dd, _, _, _, rfl, (fun _ h => h), (s0 _ _ he), T.e_NoHeap, T.i_NoHeap_NoPlace, _, rfl, e, A.c_NoHeap, dd, _, _, _, rfl, (fun _ h => h), (s0 _ _ he), T.e_NoHeap, T.i_NoHeap_NoPair, _, rfl, e, A.c_NoHeap, dd, _, _, _, rfl, (fun _ h => h), (s0 _ _ he), T.e_NoHeap, T.i_NoHeap_NotPaired, by show 3 ≤ sizeLine; decide, fun m1 hm1 => ?_⟩
      refine ⟨l0, m1, _, _, rfl, rfl, Same.new hm1 _ _ g0, upd_same, by show 7 ≤ sizeLine; decide, fun l1 hl1 => ?_⟩
      obtain ⟨H1, hH1⟩ : ∃ H', H' = upd (upd H0 m1 (.lst [V.bl false, V.bl false, V.bl false])) l1 (.lst ([V.bl false, V.bl false, V.bl false, V.bl false] ++ [V.bl false, V.bl false, V.bl false])) := ⟨_, rfl⟩
      rw [← hH1]
      have s1 : Same H H1 := by rw [hH1]; exact s0.trans ((Same.new hm1).trans (Same.new hl1))
      have g1 : H1 l1 = some (.lst [V.bl false, V.bl false, V.bl false, V.bl false, V.bl false, V.bl false, V.bl false]) := by rw [hH1]; exact upd_same
      refine ⟨_, rfl, _, rfl, e, A.c_NoHeap, dd, _, _, _, rfl, (fun _ h => h), (s1 _ _ he), T.e_NoHeap, T.i_NoHeap_NotSoMany, _, rfl, e, A.c_NoHeap, dd, _, _, _, rfl, (fun _ h => h), (s1 _ _ he), T.e_NoHeap, T.i_NoHeap_NotStrict, _, rfl, e, A.c_NoHeap, dd, _, _, _, rfl, (fun _ h => h), (s1 _ _ he), T.e_NoHeap, T.i_NoHeap_LeftOver, by show 3 ≤ sizeLine; decide, fun m2 hm2 => ?_⟩
      refine ⟨l1, m2, _, _, rfl, rfl, Same.new hm2 _ _ g1, upd_same, by show 10 ≤ sizeLine; decide, fun l2 hl2 => ?_⟩
      obtain ⟨H2, hH2⟩ : ∃ H', H' = upd (upd H1 m2 (.lst [V.bl false, V.bl false, V.bl false])) l2 (.lst ([V.bl false, V.bl false, V.bl false, V.bl false, V.bl false, V.bl false, V.bl false] ++ [V.bl false, V.bl false, V.bl false])) := ⟨_, rfl⟩
      rw [← hH2]
      have s2 : Same H H2 := by rw [hH2]; exact s1.trans ((Same.new hm2).trans (Same.new hl2))
      have g2 : H2 l2 = some (.lst [V.bl false, V.bl false, V.bl false, V.bl false, V.bl false, V.bl false, V.bl false, V.bl false, V.bl false, V.bl false]) := by rw [hH2]; exact upd_same
      refine ⟨_, rfl, _, rfl, e, A.c_NoHeap, dd, _, _, _, rfl, (fun _ h => h), (s2 _ _ he), T.e_NoHeap, T.i_NoHeap_NoBottom, _, rfl, e, A.c_NoHeap, dd, _, _, _, rfl, (fun _ h => h), (s2 _ _ he), T.e_NoHeap, T.i_NoHeap_NoLanes, _, rfl, e, A.c_NoHeap, dd, _, _, _, rfl, (fun _ h => h), (s2 _ _ he), T.e_NoHeap, T.i_NoHeap_TooGreat, by show 3 ≤ sizeLine; decide, fun m3 hm3 => ?_⟩
      refine ⟨l2, m3, _, _, rfl, rfl, Same.new hm3 _ _ g2, upd_same, by show 13 ≤ sizeLine; decide, fun l3 hl3 => ?_⟩
      obtain ⟨H3, hH3⟩ : ∃ H', H' = upd (upd H2 m3 (.lst [V.bl false, V.bl false, V.bl false])) l3 (.lst ([V.bl false, V.bl false, V.bl false, V.bl false, V.bl false, V.bl false, V.bl false, V.bl false, V.bl false, V.bl false] ++ [V.bl false, V.bl false, V.bl false])) := ⟨_, rfl⟩
      rw [← hH3]
      have s3 : Same H H3 := by rw [hH3]; exact s2.trans ((Same.new hm3).trans (Same.new hl3))
      have g3 : H3 l3 = some (.lst [V.bl false, V.bl false, V.bl false, V.bl false, V.bl false, V.bl false, V.bl false, V.bl false, V.bl false, V.bl false, V.bl false, V.bl false, V.bl false]) := by rw [hH3]; exact upd_same
      refine ⟨_, rfl, _, rfl, e, A.c_NoHeap, dd, _, _, _, rfl, (fun _ h => h), (s3 _ _ he), T.e_NoHeap, T.i_NoHeap_NoLine, _, rfl, e, A.c_NoHeap, dd, _, _, _, rfl, (fun _ h => h), (s3 _ _ he), T.e_NoHeap, T.i_NoHeap_NothingLeft, _, rfl, e, A.c_NoHeap, dd, _, _, _, rfl, (fun _ h => h), (s3 _ _ he), T.e_NoHeap, T.i_NoHeap_NoHeap, by show 3 ≤ sizeLine; decide, fun m4 hm4 => ?_⟩
      refine ⟨l3, m4, _, _, rfl, rfl, Same.new hm4 _ _ g3, upd_same, by show 16 ≤ sizeLine; decide, fun l4 hl4 => ?_⟩
      obtain ⟨H4, hH4⟩ : ∃ H', H' = upd (upd H3 m4 (.lst [V.bl false, V.bl false, V.bl true])) l4 (.lst ([V.bl false, V.bl false, V.bl false, V.bl false, V.bl false, V.bl false, V.bl false, V.bl false, V.bl false, V.bl false, V.bl false, V.bl false, V.bl false] ++ [V.bl false, V.bl false, V.bl true])) := ⟨_, rfl⟩
      rw [← hH4]
      have s4 : Same H H4 := by rw [hH4]; exact s3.trans ((Same.new hm4).trans (Same.new hl4))
      have g4 : H4 l4 = some (.lst [V.bl false, V.bl false, V.bl false, V.bl false, V.bl false, V.bl false, V.bl false, V.bl false, V.bl false, V.bl false, V.bl false, V.bl false, V.bl false, V.bl false, V.bl false, V.bl true]) := by rw [hH4]; exact upd_same
      refine ⟨_, rfl, _, rfl, e, A.c_NoHeap, dd, _, _, _, rfl, (fun _ h => h), (s4 _ _ he), T.e_NoHeap, T.i_NoHeap_NotKept, _, rfl, e, A.c_NoHeap, dd, _, _, _, rfl, (fun _ h => h), (s4 _ _ he), T.e_NoHeap, T.i_NoHeap_Unmatched, _, rfl, e, A.c_NoHeap, dd, _, _, _, rfl, (fun _ h => h), (s4 _ _ he), T.e_NoHeap, T.i_NoHeap_TooLong, by show 3 ≤ sizeLine; decide, fun m5 hm5 => ?_⟩
      refine ⟨l4, m5, _, _, rfl, rfl, Same.new hm5 _ _ g4, upd_same, by show 19 ≤ sizeLine; decide, fun l5 hl5 => ?_⟩
      obtain ⟨H5, hH5⟩ : ∃ H', H' = upd (upd H4 m5 (.lst [V.bl false, V.bl false, V.bl false])) l5 (.lst ([V.bl false, V.bl false, V.bl false, V.bl false, V.bl false, V.bl false, V.bl false, V.bl false, V.bl false, V.bl false, V.bl false, V.bl false, V.bl false, V.bl false, V.bl false, V.bl true] ++ [V.bl false, V.bl false, V.bl false])) := ⟨_, rfl⟩
      rw [← hH5]
      have s5 : Same H H5 := by rw [hH5]; exact s4.trans ((Same.new hm5).trans (Same.new hl5))
      have g5 : H5 l5 = some (.lst [V.bl false, V.bl false, V.bl false, V.bl false, V.bl false, V.bl false, V.bl false, V.bl false, V.bl false, V.bl false, V.bl false, V.bl false, V.bl false, V.bl false, V.bl false, V.bl true, V.bl false, V.bl false, V.bl false]) := by rw [hH5]; exact upd_same
      refine ⟨_, rfl, _, rfl, e, A.c_NoHeap, dd, _, _, _, rfl, (fun _ h => h), (s5 _ _ he), T.e_NoHeap, T.i_NoHeap_NoName, by show 1 ≤ sizeLine; decide, fun m6 hm6 => ?_⟩
      refine ⟨l5, m6, _, _, rfl, rfl, Same.new hm6 _ _ g5, upd_same, by show 20 ≤ sizeLine; decide, fun l6 hl6 => ?_⟩
      obtain ⟨H6, hH6⟩ : ∃ H', H' = upd (upd H5 m6 (.lst [V.bl false])) l6 (.lst ([V.bl false, V.bl false, V.bl false, V.bl false, V.bl false, V.bl false, V.bl false, V.bl false, V.bl false, V.bl false, V.bl false, V.bl false, V.bl false, V.bl false, V.bl false, V.bl true, V.bl false, V.bl false, V.bl false] ++ [V.bl false])) := ⟨_, rfl⟩
      rw [← hH6]
      have s6 : Same H H6 := by rw [hH6]; exact s5.trans ((Same.new hm6).trans (Same.new hl6))
      have g6 : H6 l6 = some (.lst [V.bl false, V.bl false, V.bl false, V.bl false, V.bl false, V.bl false, V.bl false, V.bl false, V.bl false, V.bl false, V.bl false, V.bl false, V.bl false, V.bl false, V.bl false, V.bl true, V.bl false, V.bl false, V.bl false, V.bl false]) := by rw [hH6]; exact upd_same
      refine ⟨_, rfl, .inl ⟨rfl, _, SqL.of g6⟩, l6, _, _, rfl, rfl, SqL.of g6, rfl, rfl, rfl, ⟨true, by first | rfl | decide, iteT ?_⟩⟩
      refine ⟨_, rfl, e, A.c_NoHeap, dd, _, _, _, rfl, (fun _ h => h), (s6 _ _ he), T.e_NoHeap, T.i_NoHeap_ShutError, ⟨true, rfl, iteT ?_⟩⟩
      exact ⟨_, rfl, e, A.c_NoHeap, dd, _, _, _, rfl, (fun _ h => h), (s6 _ _ he), T.e_NoHeap, T.i_NoHeap_ValueError, k _ s6⟩
def n__law_refused : List Str := ["_law_handed", "_law_bad", "_law_e"]
theorem sc__law_refused : FnScope n__law_refused ["_law_handed", "_law_bad"] (defScope s__law_refused) := ⟨rfl, rfl, rfl, by decide +kernel, rfl, by decide +kernel, by decide +kernel⟩
def sp_refused : Sp := fun vs H Q _ => ∃ (a b : Addr) (xs : List V) (rows : List (List Int)) (bs : List Int), vs = [.ref a, .ref b] ∧ RowsAt H a xs rows ∧ H b = some (.lst (bs.map V.int)) ∧ rows.length ≤ 8 ∧ (∀ r ∈ rows, r.length < 64) ∧ (6 < rows.length ∨ ∃ z r, bs = z :: r ∧ FirstBad rows.flatten z) ∧ ∀ (H' : Hp), Same H H' → Q (.bl true) H'
theorem ok__law_refused (T : Txt K mg A) : FnOk P w K mg base CX0 9 A.a__law_refused A.fd__law_refused ["_law_handed", "_law_bad"] sp_refused := by
  refine T.F__law_refused.ok sc__law_refused (fun vs H Q E h => ?_) (fun cdv Ar outer s H vs Q E hr h => ?_)
  · obtain ⟨a, b, xs, rows, bs, rfl, ha, hb, hln, hr1, hbad, k⟩ := h
    rfl
  · obtain ⟨a, b, xs, rows, bs, rfl, ha, hb, hln, hr1, hbad, k⟩ := h
    refine ⟨_, (pss_cons (ps_tryX (i := 2) rfl rfl (px_call (ok_rule_of T) (hr.mono (by decide)) rfl T.g_rule_of T.F_rule_of.kp T.b_rule_of .nil (pa_cons (pv 0) pa_nil)) rfl T.g_ShutError (fun _ => (pss_cons (ps_if (pt_not (pt_truthK K rfl (pe_call (ok__law_alone T) ((hr.mono (by decide)).inH _) rfl T.g__law_alone T.F__law_alone.kp T.b__law_alone .nil pass0 (pa_cons (pv 2) pa_nil)) (fun _ => rfl)))
          (pss_one (ps_ret pe_bl)) pss_nil)
        (pss_cons (ps_if (pt_cmpR op_gt (pe_callB (call_len_seqK K rfl) rfl T.b_len PySem.boot_len (pa_cons (pv 0) pa_nil)) pe_int (nomark _))
          (pss_one (ps_ret (pe_callB (call_isiXD (K := K)) rfl T.b_isinstance boot_isinstance (pa_cons (pv 2) (pa_cons (pe_glob (v := .ref A.c_NoRule) rfl T.g_NoRule rfl) pa_nil))))) pss_nil)
        (pss_one (ps_ret (pe_and (pe_callB (call_isiXD (K := K)) rfl T.b_isinstance boot_isinstance (pa_cons (pv 2) (pa_cons (pe_glob (v := .ref A.c_NoHeap) rfl T.g_NoHeap rfl) pa_nil))) (pe_and (pe_call (ok__law_whole T) ((hr.mono (by decide)).inH _) rfl T.g__law_whole T.F__law_whole.kp T.b__law_whole .nil pass0 (pa_cons (pe_fldX (K := K) rfl (pv 2) rfl) pa_nil)) (pe_one (pe_cmpR op_eq (pe_fldX (K := K) rfl (pv 2) rfl) (pe_ix (ix_listK K rfl) (pv 1) pe_int (fun _ _ => rfl)) (nomark _)))))))))) sc__law_refused.nd rfl rfl)
        (pss_one (ps_ret pe_bl))), ?_⟩
    obtain ⟨h0, hk⟩ := T.kin
    have lx := ha.length
    have c6 : decide ((6 : Int) < xs.length) = decide (6 < rows.length) := by rw [lx]; exact decide_eq_decide.mpr (by omega)
    by_cases h6 : 6 < rows.length
    · refine ⟨_, rfl, a, xs, rows, rfl, ha, hln, hr1, .inl ⟨h6, fun H1 s1 => ?_⟩⟩
      refine ⟨_, rfl, Takes.mkG (T.x_NoRule.isX hk) (T.x_ShutError.isX hk) T.t_NoRule_ShutError, fun e hen => ?_⟩
      have sE := Same.new (o := .ext (IsExcD e (.ref A.c_NoRule) none)) hen
      refine ⟨_, rfl, e, none, rfl, .inl upd_same, fun H2 s2 => ⟨true, rfl, iteF ?_⟩⟩
      have s02 := s1.trans (sE.trans s2)
      have ha2 := ha.same s02
      refine ⟨_, rfl, a, xs, rfl, (ha2.imp (fun z => SqL.of z.1) (fun z => SqT.of z.1)), _, _, rfl, rfl, _, rfl, ?_⟩
      rw [c6]
      refine ite2 (fun _ => ?_) (fun hc => absurd (decide_eq_true h6) hc)
      exact ⟨_, rfl, e, A.c_NoRule, none, _, _, _, rfl, (fun _ h => h), s2 _ _ upd_same, T.e_NoRule, T.i_NoRule_NoRule, k _ s02⟩
    · obtain ⟨z, r, rfl, hz⟩ := hbad.resolve_left h6
      refine ⟨_, rfl, a, xs, rows, rfl, ha, hln, hr1, .inr (.inr ⟨by omega, z, hz, fun dx H1 gdx s1 => ?_⟩)⟩
      refine ⟨_, rfl, Takes.mkI hk T.xi_NoHeap (T.x_ShutError.isX hk) T.t_NoHeap_ShutError, fun e hen => ?_⟩
      have sE := Same.new (o := .ext (IsExcD e (.ref A.c_NoHeap) (some dx))) hen
      have he := upd_same (H := H1) (a := e) (o := .ext (IsExcD e (.ref A.c_NoHeap) (some dx)))
      have gE := sE _ _ gdx
      generalize upd H1 e (.ext (IsExcD e (.ref A.c_NoHeap) (some dx))) = HE at sE he gE
      have hlk : List.lookup ("part" : Str) [(("part" : Str), V.int z)] = some (V.int z) := by simp [List.lookup]
      refine ⟨_, rfl, e, some dx, rfl, .inr he, fun H2 s2 => ⟨true, rfl, iteF ?_⟩⟩
      have s02 := s1.trans (sE.trans s2)
      have ha2 := ha.same s02
      refine ⟨_, rfl, a, xs, rfl, (ha2.imp (fun z => SqL.of z.1) (fun z => SqT.of z.1)), _, _, rfl, rfl, _, rfl, ?_⟩
      rw [c6]
      refine ite2 (fun hc => absurd (of_decide_eq_true hc) h6) (fun _ => ?_)
      refine ⟨_, rfl, e, A.c_NoHeap, some dx, _, _, _, rfl, (fun _ h => h), s2 _ _ he, T.e_NoHeap, T.i_NoHeap_NoHeap, true, rfl, iteT ?_⟩
      refine ⟨_, rfl, e, A.c_NoHeap, dx, _, _, rfl, s2 _ _ he, s2 _ _ gE, T.cx_NoHeap, T.na_NoHeap_part, hlk, z, rfl, true, rfl, iteT ?_⟩
      refine ⟨_, rfl, e, A.c_NoHeap, dx, _, _, rfl, s2 _ _ he, s2 _ _ gE, T.cx_NoHeap, T.na_NoHeap_part, hlk, _, rfl, b, _, 0, _, rfl, rfl, SqL.of (s02 _ _ hb), atI_nat (j := 0) rfl, rfl, ?_⟩
      rw [decide_eq_true rfl]
      exact k H2 s02
def n_often : List Str := ["heap", "part"]
theorem sc_often : FnScope n_often ["heap", "part"] (defScope s_often) := ⟨rfl, rfl, rfl, by decide +kernel, rfl, by decide +kernel, by decide +kernel⟩
def sp_often (K : PySem.W.Frag) : Sp := fun vs H Q _ => ∃ (a : Addr) (ns : List Int) (y : Int), vs = [.ref a, .int y] ∧ H a = some (.tup (ns.map V.int)) ∧ Q (.int (ns.count y : Nat)) H
theorem ok_often (T : Txt K mg A) : FnOk P w K mg base CX0 1 A.a_often A.fd_often ["heap", "part"] (sp_often K) := by
  refine T.F_often.ok sc_often (fun vs H Q E h => ?_) (fun cdv Ar outer s H vs Q E hr h => ?_)
  · obtain ⟨a, ns, y, rfl, hS, k⟩ := h
    rfl
  · obtain ⟨a, ns, y, rfl, hS, k⟩ := h
    refine ⟨_, (pss_one (ps_ret (pe_bm PySem.F.plainAttrs_tuple PySem.F.slot_tuple_count PySem.F.type_tuple_count mt_countT (pv 0) (pa_cons (pv 1) pa_nil)))), ?_⟩
    exact ⟨_, rfl, .inr (.inl ⟨rfl, .inr ⟨_, hS⟩⟩), _, rfl, a, _, _, rfl, rfl, SqT.of hS, rfl, flat_ints _, by rw [cntV_ints]; exact k⟩
def n_lies_in : List Str := ["one", "other", "part"]
theorem sc_lies_in : FnScope n_lies_in ["one", "other"] (defScope s_lies_in) := ⟨rfl, rfl, rfl, by decide +kernel, rfl, by decide +kernel, by decide +kernel⟩
def sp_lies_in : Sp := fun vs H Q _ => ∃ (a b : Addr) (ns ms : List Int), vs = [.ref a, .ref b] ∧ H a = some (.tup (ns.map V.int)) ∧ H b = some (.tup (ms.map V.int)) ∧ Q (.bl (lies ns ms)) H
theorem ok_lies_in (T : Txt K mg A) : FnOk P w K mg base CX0 2 A.a_lies_in A.fd_lies_in ["one", "other"] sp_lies_in := by
  refine T.F_lies_in.ok sc_lies_in (fun vs H Q E h => ?_) (fun cdv Ar outer s H vs Q E hr h => ?_)
  · obtain ⟨a, b, ns, ms, rfl, ha, hb, k⟩ := h
    rfl
  · obtain ⟨a, b, ns, ms, rfl, ha, hb, k⟩ := h
    refine ⟨_, (pss_cons (ps_for PassesOwn.never rfl (pi_tup (pv 0)) (pg_name (i := 2) sc_lies_in.nd rfl (by first | exact Or.inl rfl | exact Or.inr rfl))
          (pss_one (ps_if (pt_cmpR op_lt (pe_call (ok_often T) (hr.mono (by decide)) rfl T.g_often T.F_often.kp T.b_often .nil pass0 (pa_cons (pv 1) (pa_cons (pv 2) pa_nil))) (pe_call (ok_often T) (hr.mono (by decide)) rfl T.g_often T.F_often.kp T.b_often .nil pass0 (pa_cons (pv 0) (pa_cons (pv 2) pa_nil))) (nomark _))
          (pss_one (ps_ret pe_bl)) pss_nil)))
        (pss_one (ps_ret pe_bl))), ?_⟩
    refine ⟨_, rfl, a, rfl, ⟨_, SqT.of ha⟩, for_tup (xs := ns.map V.int) (fun i σ' H' => H' = H ∧ (∃ v, σ' = [some (.ref a), some (.ref b), v]) ∧ (ns.take i).all (fun x => decide (ns.count x ≤ ms.count x)) = true) ⟨rfl, ⟨_, rfl⟩, rfl⟩ ?_ ?_ ?_⟩
    · rintro i σ' H' _ ⟨rfl, _⟩
      exact SqT.of ha
    · rintro i x σ' H' hx ⟨rfl, ⟨v, rfl⟩, hall⟩
      obtain ⟨z, hz, rfl⟩ := map_at hx
      refine ⟨_, rfl, _, rfl, b, ms, z, rfl, hb, ?_⟩
      refine ⟨_, rfl, _, rfl, a, ns, z, rfl, ha, ?_⟩
      refine ⟨_, _, rfl, rfl, _, rfl, ?_⟩
      refine ite2 (fun hlt => ?_) (fun hlt => ⟨rfl, ⟨_, rfl⟩, ?_⟩)
      · have h1 : lies ns ms = false := all_false (List.mem_of_getElem? hz) (by
          have := of_decide_eq_true hlt
          exact decide_eq_false (by omega))
        rw [h1] at k
        exact k
      · rw [all_take hz, hall, Bool.true_and]
        refine decide_eq_true ?_
        have : ¬ ((ms.count z : Nat) : Int) < ((ns.count z : Nat) : Int) := fun q => hlt (decide_eq_true q)
        omega
    · rintro σ' H' ⟨rfl, _, hall⟩
      rw [List.length_map, List.take_length] at hall
      have h1 : lies ns ms = true := hall
      rw [h1] at k
      exact k
def n_all_in : List Str := ["rule", "heap"]
theorem sc_all_in : FnScope n_all_in ["rule", "heap"] (defScope s_all_in) := ⟨rfl, rfl, rfl, by decide +kernel, rfl, by decide +kernel, by decide +kernel⟩
def sp_all_in : Sp := fun vs H Q _ => ∃ (p q : Addr) (rs : List V) (rule : List (List Int)) (hs : List Int), vs = [.ref p, .ref q] ∧ H p = some (.tup rs) ∧ All2 Tup1 H rule rs ∧ H q = some (.tup (hs.map V.int)) ∧ rule.length ≤ 60 ∧
  ∀ (l : Addr) (H' : Hp), H' l = some (.lst ((idxG rule hs).map V.int)) → Same H H' → H l = none → Q (.ref l) H'
theorem ok_all_in (T : Txt K mg A) : FnOk P w K mg base CX0 3 A.a_all_in A.fd_all_in ["rule", "heap"] sp_all_in := by
  refine T.F_all_in.ok sc_all_in (fun vs H Q E h => ?_) (fun cdv Ar outer s H vs Q E hr h => ?_)
  · obtain ⟨p, q, rs, rule, hs, rfl, hp, h2, hq, hln, k⟩ := h
    rfl
  · obtain ⟨p, q, rs, rule, hs, rfl, hp, h2, hq, hln, k⟩ := h
    refine ⟨_, (pss_one (ps_ret (pe_comp (ls := ["number", "shut"]) (fr := [("heap", 1)]) (cs_of (defScope s_all_in) n_all_in rfl rfl (by decide +kernel)) rfl (pi_enum true rfl T.b_enumerate (pa_cons (pv 0) pa_nil)) (fun _ _ _ _ => pg_tupC 2 rfl (pgs_cons (pgc (ls := ["number", "shut"]) (fr := [("heap", 1)]) 0 (by decide +kernel) rfl rfl) (pgs_cons (pgc (ls := ["number", "shut"]) (fr := [("heap", 1)]) 1 (by decide +kernel) rfl rfl) pgs_nil)) rfl rfl) (fun _ _ _ _ => pf_one (pt_truthK K rfl (pe_call (ok_lies_in T) (hr.mono (by decide)) (glc (defScope s_all_in)) T.g_lies_in T.F_lies_in.kp T.b_lies_in .nil pass0 (pa_cons (pvc (defScope s_all_in) 1) (pa_cons (pvc (defScope s_all_in) 2) pa_nil))) (fun _ => rfl))) (fun _ _ _ _ => (pvc (defScope s_all_in) 0))))), ?_⟩
    refine ⟨_, rfl, p, rfl, ⟨_, SqT.of hp⟩, comp_enum (k := true) (xs := rs) (fun i zs σ' H' => Same H H' ∧ (∃ v w, σ' = [v, w, some (.ref q)]) ∧ zs = (idxP rule hs i).map V.int) ⟨fun _ _ h => h, ⟨_, _, rfl⟩, rfl⟩ ?_ ?_ ?_⟩
    · rintro i zs σ' H' hi ⟨s, _, rfl⟩
      refine ⟨SqT.of (s _ _ hp), ?_⟩
      rw [List.length_map]
      have h1 := idxP_len rule hs i
      have h2 := h2.length
      exact small64 (by omega)
    · rintro i x zs σ' H' T' hx ⟨s, ⟨v, w', rfl⟩, rfl⟩ hT
      obtain ⟨hs1, hh1, q1, rfl, hq1⟩ := h2.get hx
      have hi := (List.getElem?_eq_some_iff.mp hh1).1
      have e1 : rule.getD i [] = hs1 := by simp [hh1]
      refine ⟨T', _, rfl, SqT.of upd_same, rfl, _, _, rfl, _, _, rfl, rfl, ?_⟩
      have sn := s.trans (Same.new (o := .tup [.int i, .ref q1]) hT)
      refine ⟨_, rfl, _, rfl, q1, q, hs1, hs, rfl, sn _ _ hq1, sn _ _ hq, ?_⟩
      refine ⟨_, rfl, ?_⟩
      refine ite2 (fun hc => ⟨_, rfl, sn, ⟨_, _, rfl⟩, ?_⟩) (fun hc => ⟨sn, ⟨_, _, rfl⟩, ?_⟩)
      · rw [idxP_succ, e1, if_pos hc, List.map_append]
        rfl
      · rw [idxP_succ, e1, if_neg hc, List.append_nil]
    · rintro zs σ' H' ⟨s, _, rfl⟩ l hl
      rw [← h2.length]
      exact k l _ upd_same (s.trans (Same.new hl)) (s.free hl)
def n_first_in : List Str := ["rule", "heap"]
theorem sc_first_in : FnScope n_first_in ["rule", "heap"] (defScope s_first_in) := ⟨rfl, rfl, rfl, by decide +kernel, rfl, by decide +kernel, by decide +kernel⟩
def sp_first_in : Sp := fun vs H Q _ => ∃ (p q : Addr) (rs : List V) (rule : List (List Int)) (hs : List Int), vs = [.ref p, .ref q] ∧ H p = some (.tup rs) ∧ All2 Tup1 H rule rs ∧ H q = some (.tup (hs.map V.int)) ∧ rule.length ≤ 60 ∧
  ∀ (H' : Hp), Same H H' → Q (optV (firstG rule hs)) H'
theorem ok_first_in (T : Txt K mg A) : FnOk P w K mg base CX0 4 A.a_first_in A.fd_first_in ["rule", "heap"] sp_first_in := by
  refine T.F_first_in.ok sc_first_in (fun vs H Q E h => ?_) (fun cdv Ar outer s H vs Q E hr h => ?_)
  · obtain ⟨p, q, rs, rule, hs, rfl, hp, h2, hq, hln, k⟩ := h
    rfl
  · obtain ⟨p, q, rs, rule, hs, rfl, hp, h2, hq, hln, k⟩ := h
    refine ⟨_, (pss_one (ps_ret (pe_minD false rfl rfl T.b_min (pe_call (ok_all_in T) (hr.mono (by decide)) rfl T.g_all_in T.F_all_in.kp T.b_all_in .nil pass0 (pa_cons (pv 0) (pa_cons (pv 1) pa_nil))) pe_non))), ?_⟩
    refine ⟨_, rfl, _, rfl, p, q, rs, rule, hs, rfl, hp, h2, hq, hln, fun l H' hl s nl => ?_⟩
    refine ⟨l, idxG rule hs, rfl, SqL.of hl, fun v hv => ?_⟩
    rcases hv with ⟨e, rfl⟩ | ⟨m, rfl, hm⟩
    · have := k H' s
      rw [first_none e] at this
      exact this
    · have e : firstG rule hs = some m := idxP_head rule hs rule.length m hm
      have := k H' s
      rw [e] at this
      exact this
def n_keeps : List Str := ["rule", "heap"]
theorem sc_keeps : FnScope n_keeps ["rule", "heap"] (defScope s_keeps) := ⟨rfl, rfl, rfl, by decide +kernel, rfl, by decide +kernel, by decide +kernel⟩
def sp_keeps : Sp := fun vs H Q _ => ∃ (p q : Addr) (rs : List V) (rule : List (List Int)) (hs : List Int), vs = [.ref p, .ref q] ∧ H p = some (.tup rs) ∧ All2 Tup1 H rule rs ∧ H q = some (.tup (hs.map V.int)) ∧ rule.length ≤ 60 ∧
  ∀ (H' : Hp), Same H H' → Q (.bl (firstG rule hs).isNone) H'
theorem ok_keeps (T : Txt K mg A) : FnOk P w K mg base CX0 5 A.a_keeps A.fd_keeps ["rule", "heap"] sp_keeps := by
  refine T.F_keeps.ok sc_keeps (fun vs H Q E h => ?_) (fun cdv Ar outer s H vs Q E hr h => ?_)
  · obtain ⟨p, q, rs, rule, hs, rfl, hp, h2, hq, hln, k⟩ := h
    rfl
  · obtain ⟨p, q, rs, rule, hs, rfl, hp, h2, hq, hln, k⟩ := h
    refine ⟨_, (pss_one (ps_ret (pe_cmpR op_isN (pe_call (ok_first_in T) (hr.mono (by decide)) rfl T.g_first_in T.F_first_in.kp T.b_first_in .nil pass0 (pa_cons (pv 0) (pa_cons (pv 1) pa_nil))) pe_non (nomark _)))), ?_⟩
    refine ⟨_, rfl, _, rfl, p, q, rs, rule, hs, rfl, hp, h2, hq, hln, fun H' s => ⟨rfl, ?_⟩⟩
    rw [optV_none]
    exact k H' s
def n__law_lies : List Str := ["_law_one", "_law_other"]
theorem sc__law_lies : FnScope n__law_lies ["_law_one", "_law_other"] (defScope s__law_lies) := ⟨rfl, rfl, rfl, by decide +kernel, rfl, by decide +kernel, by decide +kernel⟩
def sp_llies : Sp := fun vs H Q _ => ∃ (a b : Addr) (ns ms : List Int), vs = [.ref a, .ref b] ∧ H a = some (.tup (ns.map V.int)) ∧ H b = some (.tup (ms.map V.int)) ∧ ns.length ≤ 10000 ∧ ∀ H', Same H H' → Q (.bl (lies ns ms)) H'
theorem ok__law_lies (T : Txt K mg A) : FnOk P w K mg base CX0 1 A.a__law_lies A.fd__law_lies ["_law_one", "_law_other"] sp_llies := by
  refine T.F__law_lies.ok sc__law_lies (fun vs H Q E h => ?_) (fun cdv Ar outer s H vs Q E hr h => ?_)
  · obtain ⟨a, b, ns, ms, rfl, ha, hb, hln, k⟩ := h
    rfl
  · obtain ⟨a, b, ns, ms, rfl, ha, hb, hln, k⟩ := h
    refine ⟨_, (pss_one (ps_ret (pe_callB (call_all_bools rfl) rfl T.b_all boot_all (pa_cons (pe_comp (ls := ["_law_part"]) (fr := [("_law_one", 0), ("_law_other", 1)]) (cs_of (defScope s__law_lies) n__law_lies rfl rfl (by decide +kernel)) rfl (pi_tup (pv 0 (hv := Or.inr (Or.inl rfl)))) (fun _ _ _ _ => pgc 0 (by decide +kernel) rfl rfl) (fun _ _ _ _ => pf_nil) (fun _ _ _ _ => (pe_cmpR op_le (pe_bmK K rfl PySem.F.plainAttrs_tuple PySem.F.slot_tuple_count PySem.F.type_tuple_count (mt_countTK K rfl) (pvc (defScope s__law_lies) 1) (pa_cons (pvc (defScope s__law_lies) 0) pa_nil)) (pe_bmK K rfl PySem.F.plainAttrs_tuple PySem.F.slot_tuple_count PySem.F.type_tuple_count (mt_countTK K rfl) (pvc (defScope s__law_lies) 2) (pa_cons (pvc (defScope s__law_lies) 0) pa_nil)) (nomark _)))) pa_nil)))), ?_⟩
    refine ⟨_, rfl, a, rfl, ⟨_, SqT.of ha⟩, comp_tup (xs := ns.map V.int) (fun i ys σ' H' => H' = H ∧ (∃ v, σ' = [v, some (.ref a), some (.ref b)]) ∧ ys = ((ns.take i).map fun x => decide (ns.count x ≤ ms.count x)).map V.bl) ⟨rfl, ⟨_, rfl⟩, rfl⟩ ?_ ?_ ?_⟩
    · rintro i ys σ' H' hi ⟨rfl, _, rfl⟩
      refine ⟨SqT.of ha, ?_⟩
      rw [List.length_map, List.length_map, List.length_take]
      exact Nat.le_trans (m := 10000) (by omega) (by decide)
    · rintro i x ys σ' H' hx ⟨rfl, ⟨v, rfl⟩, rfl⟩
      obtain ⟨z, hz, rfl⟩ := map_at hx
      have hi := (List.getElem?_eq_some_iff.mp hz).1
      have ez := (List.getElem?_eq_some_iff.mp hz).2
      refine ⟨_, rfl, .inr (.inl ⟨rfl, .inr ⟨_, ha⟩⟩), _, rfl, a, _, _, rfl, rfl, SqT.of ha, rfl, flat_ints _, ?_⟩
      refine ⟨_, rfl, .inr (.inl ⟨rfl, .inr ⟨_, hb⟩⟩), _, rfl, b, _, _, rfl, rfl, SqT.of hb, rfl, flat_ints _, ?_⟩
      refine ⟨_, _, rfl, rfl, rfl, ⟨_, rfl⟩, ?_⟩
      rw [List.take_succ_eq_append_getElem hi, List.map_append, List.map_append, ez]
      show _ ++ [V.bl (decide (((cntV (V.int z) (ns.map V.int) : Nat) : Int) ≤ ((cntV (V.int z) (ms.map V.int) : Nat) : Int)))] = _
      rw [cntV_ints, cntV_ints]
      have e : decide (((ns.count z : Nat) : Int) ≤ ((ms.count z : Nat) : Int)) = decide (ns.count z ≤ ms.count z) := by
        rw [decide_eq_decide]; omega
      rw [e]
      rfl
    · rintro ys σ' H' ⟨rfl, _, rfl⟩ l hl
      rw [List.length_map, List.take_length]
      refine ⟨l, _, rfl, SqL.of upd_same, ?_⟩
      have e : (ns.map fun x => decide (ns.count x ≤ ms.count x)).all id = lies ns ms := by
        unfold lies
        rw [List.all_map]
        rfl
      rw [e]
      exact k _ (Same.new hl)
def n__law_told : List Str := ["_law_rule", "_law_heap_here", "_law_due", "_law_found", "_law_first", "_law_word"]
theorem sc__law_told : FnScope n__law_told ["_law_rule", "_law_heap_here"] (defScope s__law_told) := ⟨rfl, rfl, rfl, by decide +kernel, rfl, by decide +kernel, by decide +kernel⟩
def sp_told : Sp := fun vs H Q _ => ∃ (p q : Addr) (rs : List V) (rule : List (List Int)) (hs : List Int), vs = [.ref p, .ref q] ∧ H p = some (.tup rs) ∧ All2 Tup1 H rule rs ∧ H q = some (.tup (hs.map V.int)) ∧ rule.length ≤ 60 ∧ (∀ h ∈ rule, h.length ≤ 1000) ∧ ∀ (H' : Hp), Same H H' → Q (.bl true) H'
theorem ok__law_told (T : Txt K mg A) : FnOk P w K mg base CX0 9 A.a__law_told A.fd__law_told ["_law_rule", "_law_heap_here"] sp_told := by
  refine T.F__law_told.ok sc__law_told (fun vs H Q E h => ?_) (fun cdv Ar outer s H vs Q E hr h => ?_)
  · obtain ⟨p, q, rs, rule, hs, rfl, hp, h2, hq, hln, hsm, k⟩ := h
    rfl
  · obtain ⟨p, q, rs, rule, hs, rfl, hp, h2, hq, hln, hsm, k⟩ := h
    refine ⟨_, (pss_cons (ps_comp (i := 2) (ls := ["_law_number"]) (fr := [("_law_heap_here", 1), ("_law_rule", 0)]) (cs_of (defScope s__law_told) n__law_told rfl rfl (by decide +kernel)) rfl (pi_range1 rfl T.b_range (pa_cons (pe_callB call_len_seq rfl T.b_len PySem.boot_len (pa_cons (pv 0 (hv := Or.inr (Or.inl rfl))) pa_nil)) pa_nil)) (fun _ _ _ _ => pgc 0 (by decide +kernel) rfl rfl) (fun _ _ _ _ => pf_one (pt_truthK K rfl (pe_call (ok__law_lies T) (hr.mono (by decide)) (glc (defScope s__law_told)) T.g__law_lies T.F__law_lies.kp T.b__law_lies .nil pass0 (pa_cons (pe_ix (ix_tupK K rfl) (pvc (defScope s__law_told) 2) (pvc (defScope s__law_told) 0) (fun _ _ => rfl)) (pa_cons (pvc (defScope s__law_told) 1) pa_nil))) (fun _ => rfl))) (fun _ _ _ _ => (pvc (defScope s__law_told) 0)) sc__law_told.nd rfl rfl rfl)
        (pss_cons (ps_set (i := 3) sc__law_told.nd rfl (by first | exact Or.inl rfl | exact Or.inr rfl) (pe_call (ok_all_in T) (hr.mono (by decide)) rfl T.g_all_in T.F_all_in.kp T.b_all_in .nil pass0 (pa_cons (pv 0 (hv := Or.inr (Or.inl rfl))) (pa_cons (pv 1 (hv := Or.inr (Or.inl rfl))) pa_nil))))
        (pss_cons (ps_set (i := 4) sc__law_told.nd rfl (by first | exact Or.inl rfl | exact Or.inr rfl) (pe_call (ok_first_in T) (hr.mono (by decide)) rfl T.g_first_in T.F_first_in.kp T.b_first_in .nil pass0 (pa_cons (pv 0 (hv := Or.inr (Or.inl rfl))) (pa_cons (pv 1 (hv := Or.inr (Or.inl rfl))) pa_nil))))
        (pss_cons (ps_set (i := 5) sc__law_told.nd rfl (by first | exact Or.inl rfl | exact Or.inr rfl) (pe_call (ok_keeps T) (hr.mono (by decide)) rfl T.g_keeps T.F_keeps.kp T.b_keeps .nil pass0 (pa_cons (pv 0 (hv := Or.inr (Or.inl rfl))) (pa_cons (pv 1 (hv := Or.inr (Or.inl rfl))) pa_nil))))
        (pss_cons (ps_if (PW.pt (pw_or (pt_not (pt_truth (pe_callB call_isi rfl T.b_isinstance boot_isinstance (pa_cons (pv 3) (pa_cons (pe_bltn (v := .ty "list") rfl T.b_list boot_list rfl) pa_nil))) (fun _ => rfl))) (pw_or (pt_not (pt_truth (pe_callB (call_all_bools rfl) rfl T.b_all boot_all (pa_cons (pe_comp (ls := ["_law_number"]) (fr := []) (cs_of (defScope s__law_told) n__law_told rfl rfl (by decide +kernel)) rfl (pi_list (pv 3)) (fun _ _ _ _ => pgc 0 (by decide +kernel) rfl rfl) (fun _ _ _ _ => pf_nil) (fun _ _ _ _ => (pe_call (ok__law_whole T).any (hr.mono (by decide)) (glc (defScope s__law_told)) T.g__law_whole T.F__law_whole.kp T.b__law_whole .nil pass0 (pa_cons (pvc (defScope s__law_told) 0) pa_nil)))) pa_nil)) (fun _ => rfl))) (pw_or1 (pt_cmpR (op_neL' eqk_int (huR hr)) (pv 3) (pv 2) (nomark _))))))
          (pss_one (ps_ret pe_bl)) pss_nil)
        (pss_cons (ps_expr (pe_bm PySem.F.plainAttrs_list PySem.F.slot_list_append PySem.F.type_list_append mt_append (pv 3) (pa_cons pe_int pa_nil)))
        (pss_cons (ps_if (PW.pt (pw_or (pt_cmpR (op_neL' eqk_int (huR hr)) (pe_call (ok_all_in T) (hr.mono (by decide)) rfl T.g_all_in T.F_all_in.kp T.b_all_in .nil pass0 (pa_cons (pv 0 (hv := Or.inr (Or.inl rfl))) (pa_cons (pv 1 (hv := Or.inr (Or.inl rfl))) pa_nil))) (pv 2) (nomark _)) (pw_or (pt_not (pt_truth (pe_callB call_isi rfl T.b_isinstance boot_isinstance (pa_cons (pv 5) (pa_cons (pe_bltn (v := .ty "bool") rfl T.b_bool boot_bool rfl) pa_nil))) (fun _ => rfl))) (pw_or1 (pt_cmpR op_ne (pv 5) (pe_cmpR op_eq (pe_callB call_len_seq rfl T.b_len PySem.boot_len (pa_cons (pv 2) pa_nil)) pe_int (nomark _)) (nomark _))))))
          (pss_one (ps_ret pe_bl)) pss_nil)
        (pss_cons (ps_if (pt_cmpR op_eq (pe_callB call_len_seq rfl T.b_len PySem.boot_len (pa_cons (pv 2) pa_nil)) pe_int (nomark _))
          (pss_one (ps_ret (pe_cmpR op_isN (pv 4) pe_non (nomark _)))) pss_nil)
        (pss_one (ps_ret (pe_and (pe_call (ok__law_whole T).any (hr.mono (by decide)) rfl T.g__law_whole T.F__law_whole.kp T.b__law_whole .nil pass0 (pa_cons (pv 4) pa_nil)) (pe_one (pe_cmpR op_eq (pv 4) (pe_ix ix_list (pv 2) pe_int (fun _ _ => rfl)) (nomark _)))))))))))))), ?_⟩
    have hrl := h2.length
    refine ⟨_, rfl, p, _, rfl, .inr (SqT.of hp), _, rfl, by omega, by omega, comp_range (n := rs.length) (fun i ys σ' H' => Same H H' ∧ (∃ v, σ' = [v, some (.ref q), some (.ref p)]) ∧ ys = (idxP rule hs i).map V.int) ⟨fun _ _ h => h, ⟨_, rfl⟩, rfl⟩ ?_ ?_ ?_⟩
    · rintro i ys σ' H' hi ⟨s, _, rfl⟩
      rw [List.length_map]
      have h1 := idxP_len rule hs i
      exact small64 (by omega)
    · rintro i ys σ' H' hi ⟨s, ⟨v, rfl⟩, rfl⟩
      have hir : i < rule.length := by omega
      obtain ⟨x, hx, q1, rfl, hq1⟩ := h2.at (List.getElem?_eq_getElem hir)
      have e1 : rule.getD i [] = rule[i] := by simp [hir]
      refine ⟨_, rfl, _, rfl, p, _, _, _, rfl, rfl, SqT.of (s _ _ hp), by rw [Int.zero_add]; exact atI_nat hx, ?_⟩
      refine ⟨_, rfl, q1, q, rule[i], hs, rfl, s _ _ hq1, s _ _ hq, Nat.le_trans (hsm _ (List.getElem_mem hir)) (by decide), fun H2 s2 => ⟨_, rfl, ?_⟩⟩
      have s3 := s.trans s2
      refine ite2 (fun hc => ⟨_, rfl, s3, ⟨_, rfl⟩, ?_⟩) (fun hc => ⟨s3, ⟨_, rfl⟩, ?_⟩)
      · rw [idxP_succ, e1, if_pos hc, List.map_append, Int.zero_add]
        rfl
      · rw [idxP_succ, e1, if_neg hc, List.append_nil]
    rintro ys σ' H1 ⟨s1, _, rfl⟩ du hdu
    rw [← hrl]
    have ndu := s1.free hdu
    have s2 := s1.trans (Same.new (o := .lst ((idxP rule hs rule.length).map V.int)) hdu)
    have g2 := upd_same (H := H1) (a := du) (o := .lst ((idxP rule hs rule.length).map V.int))
    generalize upd H1 du (.lst ((idxP rule hs rule.length).map V.int)) = H2 at s2 g2
    dsimp only [tNext, gName]
    refine ⟨_, rfl, _, rfl, p, q, rs, rule, hs, rfl, s2 _ _ hp, h2.mv s2.tups, s2 _ _ hq, hln, fun fo H3 g3 s3 nfo => ?_⟩
    have s03 := s2.trans s3
    refine ⟨_, rfl, _, rfl, p, q, rs, rule, hs, rfl, s03 _ _ hp, h2.mv s03.tups, s03 _ _ hq, hln, fun H4 s4 => ?_⟩
    have s04 := s03.trans s4
    refine ⟨_, rfl, _, rfl, p, q, rs, rule, hs, rfl, s04 _ _ hp, h2.mv s04.tups, s04 _ _ hq, hln, fun H5 s5 => ?_⟩
    have s05 := s04.trans s5
    have s25 := s3.trans (s4.trans s5)
    have g5 : H5 fo = some (.lst ((idxG rule hs).map V.int)) := (s4.trans s5) _ _ g3
    have lid : (idxG rule hs).length ≤ 60 := Nat.le_trans (idxP_len rule hs rule.length) hln
    dsimp only [tNext, gName]
    refine ⟨_, rfl, _, _, _, true, rfl, TyOf.lst g5, kit_list_list, true, rfl, iteF ?_⟩
    refine comp_trueL [] (by rw [List.length_map]; exact small64 (by omega)) rfl rfl g5 (fun j x H' P hx s' hP => ?_) (fun H6 l6 s6 hl6 => ?_)
    · obtain ⟨z, hz, rfl⟩ := map_at hx
      exact ⟨_, rfl, z, rfl, hP _ fun _ _ h => h⟩
    have s57 := s6.trans (Same.new (o := .lst ((List.replicate ((idxG rule hs).map V.int).length true).map V.bl)) hl6)
    have e : ∀ n, (List.replicate n true).all id = true := fun n => by simp
    refine ⟨l6, List.replicate _ true, rfl, SqL.of upd_same, true, (by rw [e]; rfl), iteF ?_⟩
    generalize upd H6 l6 (.lst ((List.replicate ((idxG rule hs).map V.int).length true).map V.bl)) = H7 at s57
    have g7 := s57 _ _ g5
    have gd7 := s57 _ _ (s25 _ _ g2)
    refine ⟨_, rfl, _, rfl, idxG rule hs, idxG rule hs, ⟨fo, _, rfl, SqL.of g7, all2_ints _⟩, ⟨du, _, rfl, SqL.of gd7, all2_ints _⟩, _, rfl, ite2 (fun hc => absurd hc (by simp)) fun _ => ?_⟩
    have s07 := s05.trans s57
    have nfo0 : H fo = none := s2.free nfo
    refine ⟨_, rfl, .inl ⟨rfl, _, SqL.of g7⟩, fo, _, _, rfl, rfl, g7, by rw [List.length_map]; exact Nat.lt_of_le_of_lt lid (by decide), ?_⟩
    have s08 : Same H (upd H7 fo (.lst ((idxG rule hs).map V.int ++ [V.int 0]))) := fun b o hb => by rw [upd_ne (ne_of_none hb nfo0)]; exact s07 _ _ hb
    have gd8 : upd H7 fo (.lst ((idxG rule hs).map V.int ++ [V.int 0])) du = some (.lst ((idxG rule hs).map V.int)) := by
      rw [upd_ne (ne_of_none g2 nfo)]; exact gd7
    generalize upd H7 fo (.lst ((idxG rule hs).map V.int ++ [V.int 0])) = H8 at s08 gd8
    refine ⟨_, rfl, _, rfl, p, q, rs, rule, hs, rfl, s08 _ _ hp, h2.mv s08.tups, s08 _ _ hq, hln, fun f2 H9 g9 s9 nf2 => ?_⟩
    have gd9 := s9 _ _ gd8
    have s09 := s08.trans s9
    refine ⟨_, rfl, idxG rule hs, idxG rule hs, ⟨f2, _, rfl, SqL.of g9, all2_ints _⟩, ⟨du, _, rfl, SqL.of gd9, all2_ints _⟩, _, rfl, ite2 (fun hc => absurd hc (by simp)) fun _ => ?_⟩
    refine ⟨_, rfl, _, _, _, true, rfl, TyOf.bl _, kit_bool_bool, true, rfl, iteF ?_⟩
    refine ⟨_, rfl, _, rfl, du, _, rfl, .inl (SqL.of gd9), rfl, rfl, _, rfl, ?_⟩
    rcases hh : idxG rule hs with _ | ⟨z, tt⟩
    · have hf : firstG rule hs = none := by unfold firstG; rw [hh]; rfl
      refine ite2 (fun hc => absurd hc (by simp [hf])) fun _ => ?_
      refine ⟨_, rfl, du, _, rfl, .inl (SqL.of gd9), rfl, _, rfl, ite2 (fun _ => ?_) (fun hc => absurd hc (by simp [hh]))⟩
      refine ⟨_, rfl, rfl, ?_⟩
      rw [hf]
      exact k _ s09
    · have hf : firstG rule hs = some z := by unfold firstG; rw [hh]; rfl
      refine ite2 (fun hc => absurd hc (by simp [hf]; omega)) fun _ => ?_
      refine ⟨_, rfl, du, _, rfl, .inl (SqL.of gd9), rfl, _, rfl, ite2 (fun hc => absurd hc (by simp [hh]; try omega)) (fun _ => ?_)⟩
      rw [hh] at gd9
      refine ⟨_, rfl, z, by rw [hf]; rfl, true, rfl, iteT ?_⟩
      refine ⟨_, rfl, _, rfl, du, _, 0, _, rfl, rfl, SqL.of gd9, atI_nat (j := 0) rfl, ?_⟩
      rw [hf]
      refine ⟨rfl, ?_⟩
      rw [show decide (optV (some z) = V.int z) = true from decide_eq_true rfl]
      exact k _ s09
def n_law : List Str := ["_law_script", "_law_state", "_law_rows_here", "_law_handed", "_law_row_here", "_law_bad", "_law_rule", "_law_due", "_law_heap_here", "_law_some"]
theorem sc_law : FnScope n_law ["_law_script"] (defScope s_law) := ⟨rfl, rfl, rfl, by decide +kernel, rfl, by decide +kernel, by decide +kernel⟩
def sp_law (K : PySem.W.Frag) : Sp := fun vs H Q _ => ∃ (a : Addr) (ns : List Int), vs = [.ref a] ∧ SqL K H a (ns.map V.int) ∧ ns.length ≤ 63 ∧ ∀ H', Q (.bl true) H'
theorem fb_of : ∀ {ns : List Int} {z : Int} {r : List Int}, ns.filter (fun x => decide (x < 1)) = z :: r → FirstBad ns z
  | [], _, _, h => by cases h
  | x :: ns, z, r, h => by
    by_cases hx : x < 1
    · rw [List.filter_cons_of_pos (by simpa using hx)] at h
      cases h
      exact ⟨[], ns, rfl, hx, by simp⟩
    · rw [List.filter_cons_of_neg (by simpa using hx)] at h
      obtain ⟨l, r', e, hz, hl⟩ := fb_of h
      refine ⟨x :: l, r', by rw [e]; rfl, hz, fun y hy => ?_⟩
      rcases List.mem_cons.mp hy with rfl | hy
      · omega
      · exact hl y hy
theorem fb_none {ns : List Int} (h : ns.filter (fun x => decide (x < 1)) = []) : ∀ x ∈ ns, 1 ≤ x := fun x hx => by
  have := List.filter_eq_nil_iff.mp h x hx
  simp at this
  omega
theorem flat_le : ∀ {rows : List (List Int)}, (∀ r ∈ rows, r.length ≤ 60) → rows.flatten.length ≤ 60 * rows.length
  | [], _ => by simp
  | r :: rows, h => by
    have h1 := flat_le (rows := rows) fun x hx => h x (List.mem_cons_of_mem _ hx)
    have h2 := h r (by simp)
    rw [List.flatten_cons, List.length_append, List.length_cons]
    omega
theorem cat_gen {K : PySem.W.Frag} {H : Hp} {a b : Addr} {xs ys : List V} {Q : VK} (ha : H a = some (.tup xs)) (hb : H b = some (.tup ys)) (hl : xs.length + ys.length ≤ sizeLine) (k : ∀ q H', Same H H' → H' q = some (.tup (xs ++ ys)) → Q (.ref q) H') : rCatA K (.ref a) (.ref b) H Q := by
  refine ⟨a, b, _, _, rfl, rfl, SqT.of ha, SqT.of hb, hl, fun e => ?_, fun _ e => ?_, fun _ _ p hp => ?_⟩
  · subst e
    exact k b H (fun _ _ h => h) hb
  · subst e
    rw [List.append_nil] at k
    exact k a H (fun _ _ h => h) ha
  · exact k p _ (Same.new hp) upd_same
/-- the rows as they are handed in -/
def HandAt (st ga : Addr) (H : Hp) (hd : Addr) (zs : List V) (rows : List (List Int)) : Prop := (H hd = some (.lst zs) ∧ hd ∉ [st, ga] ∧ All2 (LstN [st, ga]) H rows zs) ∨ (H hd = some (.tup zs) ∧ All2 Tup1 H rows zs)
theorem HandAt.rows {st ga : Addr} {H : Hp} {hd : Addr} {zs : List V} {rows : List (List Int)} (h : HandAt st ga H hd zs rows) : RowsAt H hd zs rows := by
  rcases h with ⟨h1, _, h2⟩ | ⟨h1, h2⟩
  · exact .inl ⟨h1, h2.toL⟩
  · exact .inr ⟨h1, h2⟩
theorem HandAt.get {st ga : Addr} {H : Hp} {hd : Addr} {zs : List V} {rows : List (List Int)} (h : HandAt st ga H hd zs rows) {j : Nat} {x : V} {row : List Int} (hx : zs[j]? = some x) (hr : rows[j]? = some row) : ∃ q, x = .ref q ∧ (H q = some (.lst (row.map V.int)) ∨ H q = some (.tup (row.map V.int))) := by
  rcases h with ⟨_, _, h2⟩ | ⟨_, h2⟩
  · obtain ⟨r, hr', q, e, _, g⟩ := h2.get hx
    have := Option.some.inj (hr'.symm.trans hr)
    subst this
    exact ⟨q, e, .inl g⟩
  · obtain ⟨r, hr', q, e, g⟩ := h2.get hx
    have := Option.some.inj (hr'.symm.trans hr)
    subst this
    exact ⟨q, e, .inr g⟩
structure Cx11 (H : Hp) (st ga ca l hd : Addr) (xs zs : List V) (rows : List (List Int)) (N : Nat) : Prop where
  gl : H l = some (.lst xs)
  nl : l ∉ [st, ga]
  h2 : All2 (LstN [st, ga]) H rows xs
  hh : HandAt st ga H hd zs rows
  S : StAt H st ga ca N
theorem Cx11.keep {H H' : Hp} {st ga ca l hd : Addr} {xs zs : List V} {rows : List (List Int)} {N M : Nat} (c : Cx11 H st ga ca l hd xs zs rows N) (k : Keep [st, ga] H H') (S' : StAt H' st ga ca M) : Cx11 H' st ga ca l hd xs zs rows M := by
  refine ⟨k.at c.gl c.nl, c.nl, c.h2.mvN k, ?_, S'⟩
  rcases c.hh with ⟨h1, n, h2⟩ | ⟨h1, h2⟩
  · exact .inl ⟨k.at h1 n, n, h2.mvN k⟩
  · exact .inr ⟨k.tups c.S _ _ h1, h2.mv (k.tups c.S)⟩
theorem Cx11.same {H H' : Hp} {st ga ca l hd : Addr} {xs zs : List V} {rows : List (List Int)} {N : Nat} (c : Cx11 H st ga ca l hd xs zs rows N) (s : Same H H') : Cx11 H' st ga ca l hd xs zs rows N := c.keep s.keep (c.S.same s)
theorem Cx11.mono {H : Hp} {st ga ca l hd : Addr} {xs zs : List V} {rows : List (List Int)} {N M : Nat} (c : Cx11 H st ga ca l hd xs zs rows N) (h : N ≤ M) : Cx11 H st ga ca l hd xs zs rows M := ⟨c.gl, c.nl, c.h2, c.hh, c.S.mono h⟩
theorem ok_law (T : Txt K mg A) : FnOk P w K mg base CX0 33 A.a_law A.fd_law ["_law_script"] (sp_law K) := by
  refine T.F_law.ok sc_law (fun vs H Q E h => ?_) (fun cdv Ar outer s H vs Q E hr h => ?_)
  · obtain ⟨a, ns, rfl, hS, hl, k⟩ := h
    rfl
  · obtain ⟨a, ns, rfl, hS, hl, k⟩ := h
    refine ⟨_, (pss_cons (ps_set (i := 1) sc_law.nd rfl (by first | exact Or.inl rfl | exact Or.inr rfl) (pe_call (ok__law_start T) (hr.mono (by decide)) rfl T.g__law_start T.F__law_start.kp T.b__law_start .nil pass0 (pa_cons (pv 0) pa_nil)))
        (pss_cons (ps_set (i := 2) sc_law.nd rfl (by first | exact Or.inl rfl | exact Or.inr rfl) (pe_call (ok__law_rows T) (hr.mono (by decide)) rfl T.g__law_rows T.F__law_rows.kp T.b__law_rows .nil pass0 (pa_cons (pv 1 (hv := Or.inr (Or.inl rfl))) pa_nil)))
        (pss_cons (ps_comp (i := 3) (ls := ["_law_row_here"]) (fr := []) (cs_of (defScope s_law) n_law rfl rfl (by decide +kernel)) rfl (pi_list (pv 2)) (fun _ _ _ _ => pgc 0 (by decide +kernel) rfl rfl) (fun _ _ _ _ => pf_nil) (fun _ _ _ _ => (pe_callTy (call_list_ofK K rfl) (glc (defScope s_law)) T.b_list boot_list (pa_cons (pvc (defScope s_law) 0) pa_nil))) sc_law.nd rfl rfl rfl)
        (pss_cons (ps_if (pt_cmpR op_eq (pe_call (ok__law_draw T) (hr.mono (by decide)) rfl T.g__law_draw T.F__law_draw.kp T.b__law_draw .nil pass0 (pa_cons (pv 1 (hv := Or.inr (Or.inl rfl))) (pa_cons pe_int pa_nil))) pe_int (nomark _))
          (pss_one (ps_set (i := 3) sc_law.nd rfl (by first | exact Or.inl rfl | exact Or.inr rfl) (pe_callTy call_tuple_of rfl T.b_tuple boot_tuple (pa_cons (pe_comp (ls := ["_law_row_here"]) (fr := []) (cs_of (defScope s_law) n_law rfl rfl (by decide +kernel)) rfl (pi_list (pv 2)) (fun _ _ _ _ => pgc 0 (by decide +kernel) rfl rfl) (fun _ _ _ _ => pf_nil) (fun _ _ _ _ => (pe_callTy (call_tuple_ofK K rfl) (glc (defScope s_law)) T.b_tuple boot_tuple (pa_cons (pvc (defScope s_law) 0) pa_nil)))) pa_nil)))) pss_nil)
        (pss_cons (ps_set (i := 5) sc_law.nd rfl (by first | exact Or.inl rfl | exact Or.inr rfl) (pe_lst pa_nil))
        (pss_cons (ps_for PassesOwn.never rfl (pi_list (pv 2)) (pg_name (i := 4) sc_law.nd rfl (by first | exact Or.inl rfl | exact Or.inr rfl))
          (pss_one (ps_set (i := 5) sc_law.nd rfl (by first | exact Or.inl rfl | exact Or.inr rfl) (pe_op op_cat (pv 5) (pe_comp (ls := ["_law_part"]) (fr := []) (cs_of (defScope s_law) n_law rfl rfl (by decide +kernel)) rfl (pi_list (pv 4)) (fun _ _ _ _ => pgc 0 (by decide +kernel) rfl rfl) (fun _ _ _ _ => pf_one (pt_cmpR op_lt (pvc (defScope s_law) 0) pe_int (nomark _))) (fun _ _ _ _ => (pvc (defScope s_law) 0)))))))
        (pss_cons (ps_if (PW.pt (pw_or (pt_cmpR op_gt (pe_callB call_len_seq rfl T.b_len PySem.boot_len (pa_cons (pv 2) pa_nil)) pe_int (nomark _)) (pw_or1 (pt_truth (pv 5) (fun _ => rfl)))))
          (pss_one (ps_ret (pe_and (pe_call (ok__law_refused T) (hr.mono (by decide)) rfl T.g__law_refused T.F__law_refused.kp T.b__law_refused .nil pass0 (pa_cons (pv 3) (pa_cons (pv 5) pa_nil))) (pe_one (pe_cmpR (op_eqL' (eqk_lst eqk_int det_int) (huR hr)) (pe_comp (ls := ["_law_row_here"]) (fr := []) (cs_of (defScope s_law) n_law rfl rfl (by decide +kernel)) rfl (pi_or (pi_list (pv 3)) (pi_tup (pv 3))) (fun _ _ _ _ => pgc 0 (by decide +kernel) rfl rfl) (fun _ _ _ _ => pf_nil) (fun _ _ _ _ => (pe_callTy (call_list_ofK K rfl) (glc (defScope s_law)) T.b_list boot_list (pa_cons (pvc (defScope s_law) 0) pa_nil)))) (pv 2) (nomark _)))))) pss_nil)
        (pss_cons (ps_set (i := 6) sc_law.nd rfl (by first | exact Or.inl rfl | exact Or.inr rfl) (pe_call (ok_rule_of T) (hr.mono (by decide)) rfl T.g_rule_of T.F_rule_of.kp T.b_rule_of .nil pass01 (pa_cons (pv 3) pa_nil)))
        (pss_cons (ps_set (i := 7) sc_law.nd rfl (by first | exact Or.inl rfl | exact Or.inr rfl) (pe_callTy call_tuple_of rfl T.b_tuple boot_tuple (pa_cons (pe_comp (ls := ["_law_row_here"]) (fr := []) (cs_of (defScope s_law) n_law rfl rfl (by decide +kernel)) rfl (pi_list (pv 2)) (fun _ _ _ _ => pgc 0 (by decide +kernel) rfl rfl) (fun _ _ _ _ => pf_nil) (fun _ _ _ _ => (pe_callTy (call_tuple_ofK K rfl) (glc (defScope s_law)) T.b_tuple boot_tuple (pa_cons (pe_sortRK K rfl (glc (defScope s_law)) T.b_sorted (pvc (defScope s_law) 0)) pa_nil)))) pa_nil)))
        (pss_cons (ps_if (PW.pt (pw_or (pt_not (pt_truth (pe_callB call_isi rfl T.b_isinstance boot_isinstance (pa_cons (pv 6) (pa_cons (pe_bltn (v := .ty "tuple") rfl T.b_tuple boot_tuple rfl) pa_nil))) (fun _ => rfl))) (pw_or (pt_not (pt_truth (pe_callB (call_all_bools rfl) rfl T.b_all boot_all (pa_cons (pe_comp (ls := ["_law_heap_here"]) (fr := []) (cs_of (defScope s_law) n_law rfl rfl (by decide +kernel)) rfl (pi_tup (pv 6)) (fun _ _ _ _ => pgc 0 (by decide +kernel) rfl rfl) (fun _ _ _ _ => pf_nil) (fun _ _ _ _ => (pe_call (ok__law_row T) (hr.mono (by decide)) (glc (defScope s_law)) T.g__law_row T.F__law_row.kp T.b__law_row .nil pass0 (pa_cons (pvc (defScope s_law) 0) pa_nil)))) pa_nil)) (fun _ => rfl))) (pw_or1 (pt_cmpR (op_neT' (eqk_tup eqk_int det_int) (huR hr)) (pv 6) (pv 7) (nomark _))))))
          (pss_one (ps_ret pe_bl)) pss_nil)
        (pss_cons (ps_if (pt_cmpR (op_neL' (eqk_lst eqk_int det_int) (huR hr)) (pe_comp (ls := ["_law_row_here"]) (fr := []) (cs_of (defScope s_law) n_law rfl rfl (by decide +kernel)) rfl (pi_or (pi_list (pv 3)) (pi_tup (pv 3))) (fun _ _ _ _ => pgc 0 (by decide +kernel) rfl rfl) (fun _ _ _ _ => pf_nil) (fun _ _ _ _ => (pe_callTy (call_list_ofK K rfl) (glc (defScope s_law)) T.b_list boot_list (pa_cons (pvc (defScope s_law) 0) pa_nil)))) (pv 2) (nomark _))
          (pss_one (ps_ret pe_bl)) pss_nil)
        (pss_cons (ps_set (i := 8) sc_law.nd rfl (by first | exact Or.inl rfl | exact Or.inr rfl) (pe_call (ok__law_heap T) (hr.mono (by decide)) rfl T.g__law_heap T.F__law_heap.kp T.b__law_heap .nil pass0 (pa_cons (pv 1 (hv := Or.inr (Or.inl rfl))) (pa_cons pe_int (pa_cons pe_int pa_nil)))))
        (pss_cons (ps_comp (i := 9) (ls := ["_law_one"]) (fr := [("_law_state", 1)]) (cs_of (defScope s_law) n_law rfl rfl (by decide +kernel)) rfl (pi_tup (pv 6)) (fun _ _ _ _ => pgc 0 (by decide +kernel) rfl rfl) (fun _ _ _ _ => pf_one (pt_cmpR op_eq (pe_call (ok__law_draw T) (hr.mono (by decide)) (glc (defScope s_law)) T.g__law_draw T.F__law_draw.kp T.b__law_draw .nil pass0 (pa_cons (pvc (defScope s_law) 1) (pa_cons pe_int pa_nil))) pe_int (nomark _))) (fun _ _ _ _ => (pvc (defScope s_law) 0)) sc_law.nd rfl rfl rfl)
        (pss_cons (ps_if (pt_cmpR op_eq (pe_call (ok__law_draw T) (hr.mono (by decide)) rfl T.g__law_draw T.F__law_draw.kp T.b__law_draw .nil pass0 (pa_cons (pv 1 (hv := Or.inr (Or.inl rfl))) (pa_cons pe_int pa_nil))) pe_int (nomark _))
          (pss_one (ps_set (i := 8) sc_law.nd rfl (by first | exact Or.inl rfl | exact Or.inr rfl) (pe_callTy call_tuple_of rfl T.b_tuple boot_tuple (pa_cons (pe_sortR rfl T.b_sorted (pe_slice sl_tupA (pe_op op_catA (pe_call (ok__law_joined T) (hr.mono (by decide)) rfl T.g__law_joined T.F__law_joined.kp T.b__law_joined .nil pass0 (pa_cons (pv 9) pa_nil)) (pe_slice sl_tupA (pv 8) po_none (po_some pe_int))) po_none (po_some pe_int))) pa_nil)))) pss_nil)
        (pss_one (ps_ret (pe_and (pe_call (ok__law_told T) (hr.mono (by decide)) rfl T.g__law_told T.F__law_told.kp T.b__law_told .nil pass0 (pa_cons (pv 6) (pa_cons (pv 8) pa_nil))) (pe_and (pe_call (ok__law_told T) (hr.mono (by decide)) rfl T.g__law_told T.F__law_told.kp T.b__law_told .nil pass0 (pa_cons (pe_tup pa_nil) (pa_cons (pv 8) pa_nil))) (pe_one (pe_call (ok__law_told T) (hr.mono (by decide)) rfl T.g__law_told T.F__law_told.kp T.b__law_told .nil pass0 (pa_cons (pv 6) (pa_cons (pe_tup pa_nil) pa_nil)))))))))))))))))))))), ?_⟩
    refine ⟨_, rfl, a, ns, rfl, hS, hl, fun st ga ca H1 S1 n1 n2 n3 s1 => ?_⟩
    refine ⟨_, rfl, st, ga, ca, 0, rfl, S1, by decide, fun l xs rows H2 gl nl h2 hrl hrs S2 K2 => ?_⟩
    have lx := h2.length
    have hr64 : ∀ r ∈ rows, r.length < 64 := fun r hr => Nat.lt_of_le_of_lt (hrs r hr) (by decide)
    dsimp only [tNext, gName]
    refine comp_map1L (LstN [st, ga]) rows [] (by omega) (small64 (by omega)) (fun _ _ _ _ s z => LstN.mv s.keep z) rfl rfl gl (fun j x row H' P hx hrow s' hP => ?_) (fun zs H3 p s3 a2 hp => ?_)
    · obtain ⟨row', hrow', q, rfl, nq, hq⟩ := h2.get hx
      have e : row' = row := Option.some.inj (hrow'.symm.trans hrow)
      subst e
      exact ⟨_, rfl, q, _, rfl, .inl (SqL.of (s' _ _ hq)), fun l2 hl2 => hP _ _ (Same.new hl2) ⟨l2, rfl, (S2.same s').nin hl2, upd_same⟩⟩
    have s4 := s3.trans (Same.new (o := .lst zs) hp)
    have np := (S2.same s3).nin hp
    have C4 : Cx11 (upd H3 p (.lst zs)) st ga ca l p xs zs rows 6000 := ⟨s4 _ _ gl, nl, h2.mvN s4.keep, .inl ⟨upd_same, np, a2.mvN (Same.new hp).keep⟩, (S2.same s4).mono (by omega)⟩
    generalize upd H3 p (.lst zs) = H4 at C4
    clear s4 s3 a2 hp h2 gl S2 K2
    dsimp only [tNext, gName]
    refine seqJoin (fun σ' H' => ∃ (hd : Addr) (zs : List V), σ' = [some (.ref a), some (.ref st), some (.ref l), some (.ref hd), none, none, none, none, none, none] ∧ Cx11 H' st ga ca l hd xs zs rows 6100) (fun nx hnx => ?_) ?_
    · refine ⟨_, rfl, st, ga, ca, _, 2, rfl, C4.S, by decide, by decide, by decide, fun c H5 c0 c1 S5 K5 => ⟨rfl, _, rfl, ite2 (fun _ => ?_) (fun _ => hnx _ _ ⟨p, zs, rfl, (C4.keep K5 S5).mono (by omega)⟩)⟩⟩
      have C5 := C4.keep K5 S5
      refine comp_map1L Tup1 rows [] (by omega) (small64 (by omega)) (fun _ _ _ _ s ⟨q, e, g⟩ => ⟨q, e, s _ _ g⟩) rfl rfl C5.gl (fun j x row H' P hx hrow s' hP => ?_) (fun ws H6 p6 s6 a6 hp6 => ?_)
      · obtain ⟨row', hrow', q, rfl, nq, hq⟩ := C5.h2.get hx
        have e : row' = row := Option.some.inj (hrow'.symm.trans hrow)
        subst e
        exact ⟨_, rfl, q, _, rfl, .inl ⟨SqL.of (s' _ _ hq), fun l2 hl2 => hP _ _ (Same.new hl2) ⟨l2, rfl, upd_same⟩⟩⟩
      refine ⟨p6, ws, rfl, .inl ⟨SqL.of upd_same, fun p7 hp7 => ?_⟩⟩
      have s7 := s6.trans ((Same.new (o := .lst ws) hp6).trans (Same.new (o := .tup ws) hp7))
      have C7 := C5.same s7
      exact hnx _ _ ⟨p7, ws, rfl, ⟨C7.gl, C7.nl, C7.h2, .inr ⟨upd_same, a6.mv ((Same.new hp6).trans (Same.new hp7)).tups⟩, C7.S.mono (by omega)⟩⟩
    clear C4 p np zs
    rintro σ' H3 ⟨hd, zs, rfl, C3⟩
    refine ⟨by show 0 ≤ sizeLine; decide, fun b0 hb0 => ?_⟩
    have C4 := C3.same (Same.new (o := .lst []) hb0)
    have gb0 := upd_same (H := H3) (a := b0) (o := .lst [])
    generalize upd H3 b0 (.lst []) = H4 at C4 gb0
    clear C3 hb0
    have fl : ∀ i, ((rows.take i).flatten).length ≤ 480 := fun i => by
      have h1 := flat_le (rows := rows.take i) fun r hr => hrs r (List.mem_of_mem_take hr)
      rw [List.length_take] at h1
      omega
    dsimp only [tNext, gName]
    refine ⟨_, rfl, l, rfl, ⟨_, SqL.of C4.gl⟩, for_list (xs := xs) (fun i σ' H' => ∃ (v4 : Option V) (b : Addr), σ' = [some (.ref a), some (.ref st), some (.ref l), some (.ref hd), v4, some (.ref b), none, none, none, none] ∧ H' b = some (.lst ((((rows.take i).flatten).filter fun x => decide (x < 1)).map V.int)) ∧ Same H4 H') ⟨_, b0, rfl, gb0, fun _ _ h => h⟩ ?_ ?_ ?_⟩
    · rintro i σ' H' hi ⟨v4, b, rfl, gb, s⟩
      exact SqL.of (s _ _ C4.gl)
    · rintro i x σ' H' hx ⟨v4, b, rfl, gb, s⟩
      obtain ⟨row, hrow, q, rfl, nq, hq⟩ := C4.h2.get hx
      have hrw := hrs row (List.mem_of_getElem? hrow)
      refine ⟨_, rfl, _, rfl, q, rfl, ⟨_, SqL.of (s _ _ hq)⟩, comp_list (xs := row.map V.int) (fun j ys σ' H'' => Same H' H'' ∧ (∃ v, σ' = [v]) ∧ ys = ((row.take j).filter fun x => decide (x < 1)).map V.int) ⟨fun _ _ h => h, ⟨_, rfl⟩, rfl⟩ ?_ ?_ ?_⟩
      · rintro j ys σ' H'' hj ⟨s', _, rfl⟩
        refine ⟨SqL.of (s' _ _ (s _ _ hq)), ?_⟩
        rw [List.length_map]
        have := List.length_filter_le (fun x : Int => decide (x < 1)) (row.take j)
        rw [List.length_take] at this
        exact small64 (by omega)
      · rintro j x ys σ' H'' hx ⟨s', ⟨v, rfl⟩, rfl⟩
        obtain ⟨z, hz, rfl⟩ := map_at hx
        refine ⟨_, rfl, _, _, rfl, rfl, _, rfl, ite2 (fun hc => ⟨_, rfl, s', ⟨_, rfl⟩, ?_⟩) (fun hc => ⟨s', ⟨_, rfl⟩, ?_⟩)⟩
        · rw [filter_take _ hz, if_pos hc, List.map_append]; rfl
        · rw [filter_take _ hz, if_neg hc, List.append_nil]
      · rintro ys σ' H'' ⟨s', _, rfl⟩ m hm
        rw [List.length_map, List.take_length]
        have gb' := (s'.trans (Same.new (o := .lst ((row.filter fun x => decide (x < 1)).map V.int)) hm)) _ _ gb
        have sm := s'.trans (Same.new (o := .lst ((row.filter fun x => decide (x < 1)).map V.int)) hm)
        have e1 : ((rows.take (i + 1)).flatten).filter (fun x => decide (x < 1)) = ((rows.take i).flatten).filter (fun x => decide (x < 1)) ++ row.filter (fun x => decide (x < 1)) := by
          rw [take_flat hrow, List.flatten_append, List.filter_append]
          simp
        refine ⟨b, m, _, _, rfl, rfl, gb', upd_same, ?_, fun b2 hb2 => ⟨_, b2, rfl, ?_, s.trans (sm.trans (Same.new hb2))⟩⟩
        · have h1 := fl (i + 1)
          have h2 := List.length_filter_le (fun x : Int => decide (x < 1)) ((rows.take (i + 1)).flatten)
          rw [e1] at h2
          rw [List.length_append] at h2
          rw [List.length_map, List.length_map]
          exact Nat.le_trans (show _ ≤ 480 by omega) (by decide)
        · rw [upd_same, e1, List.map_append]
    rintro σ' H5 ⟨v4, b, rfl, gb, s⟩
    rw [← lx, List.take_length] at gb
    have C5 := C4.same s
    clear C4 gb0 s
    have c6 : decide ((6 : Int) < xs.length) = decide (6 < rows.length) := by rw [lx]; exact decide_eq_decide.mpr (by omega)
    dsimp only [tNext, gName]
    refine ⟨_, rfl, l, xs, rfl, .inl (SqL.of C5.gl), _, _, rfl, rfl, _, rfl, ?_⟩
    rw [c6]
    refine ite2 (fun hc => iteT ?_) (fun hc => ?_)
    · have h6 := of_decide_eq_true hc
      refine ⟨_, rfl, _, rfl, hd, b, zs, rows, _, rfl, C5.hh.rows, gb, hrl, hr64, .inl h6, fun H8 s8 => ⟨true, rfl, iteT ?_⟩⟩
      have C8 := C5.same s8
      refine comp_map1 Lst1 rows [] (by have := C8.hh.rows.length; omega) (small64 (by have := C8.hh.rows.length; omega)) (fun _ _ _ _ s z => Lst1.mv s z) rfl rfl (C8.hh.elim (fun z => .inl z.1) (fun z => .inr z.1)) (fun j x row H' P hx hrow s' hP => ?_) (fun ws HZ lz sz aw hlz => ?_)
      · obtain ⟨q, rfl, gq⟩ := C8.hh.get hx hrow
        exact ⟨_, rfl, q, _, rfl, gq.imp (fun z => SqL.of (s' _ _ z)) (fun z => SqT.of (s' _ _ z)), fun l2 hl2 => hP _ _ (Same.new hl2) ⟨l2, rfl, upd_same⟩⟩
      have s9 := sz.trans (Same.new (o := .lst ws) hlz)
      refine ⟨_, rfl, rows, rows, ⟨lz, ws, rfl, SqL.of upd_same, Lst1.rlst (aw.mvI (Same.new hlz))⟩, ⟨l, xs, rfl, SqL.of (s9 _ _ C8.gl), Lst1.rlst ((C8.same s9).h2.toL)⟩, ?_⟩
      rw [decide_eq_true rfl]
      exact k _
    have h6 : ¬ 6 < rows.length := fun z => hc (decide_eq_true z)
    refine ⟨_, rfl, _, .inl ⟨_, SqL.of gb, rfl⟩, ite2 (fun hc => ?_) (fun hc => ?_)⟩
    · have hbad : ∃ z r, rows.flatten.filter (fun x => decide (x < 1)) = z :: r ∧ FirstBad rows.flatten z := by
        rcases hf : rows.flatten.filter (fun x => decide (x < 1)) with _ | ⟨z, r⟩
        · rw [hf] at hc; cases hc
        · exact ⟨z, r, rfl, fb_of hf⟩
      refine ⟨_, rfl, _, rfl, hd, b, zs, rows, _, rfl, C5.hh.rows, gb, hrl, hr64, .inr hbad, fun H8 s8 => ⟨true, rfl, iteT ?_⟩⟩
      have C8 := C5.same s8
      refine comp_map1 Lst1 rows [] (by have := C8.hh.rows.length; omega) (small64 (by have := C8.hh.rows.length; omega)) (fun _ _ _ _ s z => Lst1.mv s z) rfl rfl (C8.hh.elim (fun z => .inl z.1) (fun z => .inr z.1)) (fun j x row H' P hx hrow s' hP => ?_) (fun ws HZ lz sz aw hlz => ?_)
      · obtain ⟨q, rfl, gq⟩ := C8.hh.get hx hrow
        exact ⟨_, rfl, q, _, rfl, gq.imp (fun z => SqL.of (s' _ _ z)) (fun z => SqT.of (s' _ _ z)), fun l2 hl2 => hP _ _ (Same.new hl2) ⟨l2, rfl, upd_same⟩⟩
      have s9 := sz.trans (Same.new (o := .lst ws) hlz)
      refine ⟨_, rfl, rows, rows, ⟨lz, ws, rfl, SqL.of upd_same, Lst1.rlst (aw.mvI (Same.new hlz))⟩, ⟨l, xs, rfl, SqL.of (s9 _ _ C8.gl), Lst1.rlst ((C8.same s9).h2.toL)⟩, ?_⟩
      rw [decide_eq_true rfl]
      exact k _
    have hg : ∀ x ∈ rows.flatten, 1 ≤ x := by
      rcases hf : rows.flatten.filter (fun x => decide (x < 1)) with _ | ⟨z, r⟩
      · exact fb_none hf
      · rw [hf] at hc; exact absurd rfl hc
    refine ⟨_, rfl, hd, zs, rows, rfl, C5.hh.rows, hrl, hr64, .inr (.inl ⟨by omega, hg, fun p rs H6 gp hr6 s6 np => ?_⟩)⟩
    have C6 := C5.same s6
    have lrs := hr6.length
    rw [List.length_map] at lrs
    have hsm : ∀ h ∈ rows.map sortD, h.length ≤ 60 := fun h hh => by
      obtain ⟨r, hr, rfl⟩ := List.mem_map.mp hh
      rw [sortD_length]
      exact hrs r hr
    clear C5 gb s6
    dsimp only [tNext, gName]
    refine comp_map1L Tup1 (rows.map sortD) [] (by rw [List.length_map]; omega) (small64 (by omega)) (fun _ _ _ _ s ⟨q, e, g⟩ => ⟨q, e, s _ _ g⟩) rfl rfl C6.gl (fun j x row H' P hx hrow s' hP => ?_) (fun ws H7 p7 s7 a7 hp7 => ?_)
    · obtain ⟨row', hrow', q, rfl, nq, hq⟩ := C6.h2.get hx
      have e : row = sortD row' := by
        rw [List.getElem?_map, hrow'] at hrow
        exact (Option.some.inj hrow).symm
      subst e
      refine ⟨_, rfl, q, row', rfl, .inl (SqL.of (s' _ _ hq)), hr64 row' (List.mem_of_getElem? hrow'), fun ns' p4 hperm hord hp4 => ?_⟩
      refine ⟨p4, _, rfl, .inl ⟨SqL.of upd_same, fun p5 hp5 => ?_⟩⟩
      have e : ns' = sortD row' := sortD_eq hperm hord
      subst e
      exact hP _ _ ((Same.new hp4).trans (Same.new hp5)) ⟨p5, rfl, upd_same⟩
    refine ⟨p7, ws, rfl, .inl ⟨SqL.of upd_same, fun du hdu => ?_⟩⟩
    have s78 := (Same.new (o := .lst ws) hp7).trans (Same.new (o := .tup ws) hdu)
    have gdu := upd_same (H := upd H7 p7 (.lst ws)) (a := du) (o := .tup ws)
    have a8 := a7.mv s78.tups
    have s8 := s7.trans s78
    generalize upd (upd H7 p7 (.lst ws)) du (.tup ws) = H8 at s8 gdu a8
    clear s78 a7 s7 hp7
    have C8 := C6.same s8
    have gp8 := s8 _ _ gp
    have hr8 := hr6.mv s8.tups
    clear C6 hr6 gp s8 np
    dsimp only [tNext, gName]
    refine ⟨_, rfl, _, _, _, true, rfl, TyOf.tup gp8, kit_tup_tup, true, rfl, iteF ?_⟩
    refine comp_trueT [] (small64 (by omega)) rfl rfl gp8 (fun j x H' P hx s' hP => ?_) (fun H9 l9 s9 hl9 => ?_)
    · obtain ⟨h, hh, q, rfl, hq⟩ := hr8.get hx
      exact ⟨_, rfl, q, h, rfl, s' _ _ hq, Nat.le_trans (hsm h (List.mem_of_getElem? hh)) (by decide), hP⟩
    have e : ∀ n, (List.replicate n true).all id = true := fun n => by simp
    refine ⟨l9, List.replicate _ true, rfl, SqL.of upd_same, true, (by rw [e]; rfl), iteF ?_⟩
    have s10 := s9.trans (Same.new (o := .lst ((List.replicate rs.length true).map V.bl)) hl9)
    generalize upd H9 l9 (.lst ((List.replicate rs.length true).map V.bl)) = HA at s10
    refine ⟨_, rfl, _, rfl, rows.map sortD, rows.map sortD, ⟨p, rs, rfl, SqT.of (s10 _ _ gp8), (hr8.mv s10.tups).rtup⟩, ⟨du, ws, rfl, SqT.of (s10 _ _ gdu), (a8.mv s10.tups).rtup⟩, _, rfl, ite2 (fun hc => absurd hc (by simp)) fun _ => ?_⟩
    have CA := C8.same s10
    refine comp_map1 Lst1 rows [] (by have := CA.hh.rows.length; omega) (small64 (by have := CA.hh.rows.length; omega)) (fun _ _ _ _ s z => Lst1.mv s z) rfl rfl (CA.hh.elim (fun z => .inl z.1) (fun z => .inr z.1)) (fun j x row H' P hx hrow s' hP => ?_) (fun ws HZ lz sz aw hlz => ?_)
    · obtain ⟨q, rfl, gq⟩ := CA.hh.get hx hrow
      exact ⟨_, rfl, q, _, rfl, gq.imp (fun z => SqL.of (s' _ _ z)) (fun z => SqT.of (s' _ _ z)), fun l2 hl2 => hP _ _ (Same.new hl2) ⟨l2, rfl, upd_same⟩⟩
    have sB := sz.trans (Same.new (o := .lst ws) hlz)
    refine ⟨_, rfl, rows, rows, ⟨lz, _, rfl, SqL.of upd_same, Lst1.rlst (aw.mvI (Same.new hlz))⟩, ⟨l, xs, rfl, SqL.of (sB _ _ CA.gl), Lst1.rlst ((CA.same sB).h2.toL)⟩, _, rfl, ite2 (fun hc => absurd hc (by simp)) fun _ => ?_⟩
    have s8B := s10.trans sB
    generalize upd HZ lz _ = HB at s8B
    have SB := C8.S.same s8B
    have gpB := s8B _ _ gp8
    have hrB := hr8.mv s8B.tups
    clear CA C8 sB sz aw hlz gp8 hr8 s8B s10 gdu a8 s9 hl9
    refine ⟨_, rfl, st, ga, ca, _, 9, 4, rfl, SB, by decide, by decide, by decide, by decide, by decide, fun ph hs HC hsl hsb hsp ghs nph SC KC => ?_⟩
    have TC := KC.tups SB
    have gpC := TC _ _ gpB
    have hrC := hrB.mv TC
    clear gpB hrB TC
    refine ⟨_, rfl, p, rfl, ⟨_, SqT.of gpC⟩, comp_tup (xs := rs) (fun i ys σ' H' => (∃ v, σ' = [v, some (.ref st)]) ∧ ys.length ≤ i ∧ (∃ sel : List (List Int), All2 Tup1 H' sel ys ∧ sel.flatten.length ≤ 60 * i) ∧ StAt H' st ga ca (7000 + 7 * i) ∧ Keep [st, ga] HC H') ⟨⟨_, rfl⟩, Nat.le_refl _, ⟨[], .nil, by simp⟩, SC.mono (by omega), Keep.refl _ _⟩ ?_ ?_ ?_⟩
    · rintro i ys σ' H' hi ⟨_, hy, _, _, K'⟩
      exact ⟨SqT.of (K'.tups SC _ _ gpC), small64 (by omega)⟩
    · rintro i x ys σ' H' hx ⟨⟨v, rfl⟩, hy, ⟨sel, h3, hsel⟩, S', K'⟩
      obtain ⟨h, hh, q, rfl, hq⟩ := hrC.get hx
      have hi : i < rs.length := (List.getElem?_eq_some_iff.mp hx).1
      have hql := hsm h (List.mem_of_getElem? hh)
      refine ⟨_, rfl, st, ga, ca, _, 2, rfl, S', by omega, by decide, by decide, fun r HD r0 r1 SD KD => ⟨rfl, _, rfl, ite2 (fun _ => ⟨_, rfl, ⟨_, rfl⟩, by simp; omega, ⟨sel ++ [h], (h3.mv (KD.tups S')).snoc ⟨q, rfl, KD.tups S' _ _ (K'.tups SC _ _ hq)⟩, ?_⟩, SD.mono (by omega), K'.trans KD⟩) (fun _ => ⟨⟨_, rfl⟩, by omega, ⟨sel, h3.mv (KD.tups S'), by omega⟩, SD.mono (by omega), K'.trans KD⟩)⟩⟩
      rw [List.flatten_append, List.length_append]
      simp only [List.flatten_cons, List.flatten_nil, List.append_nil]
      omega
    rintro ys σ' HD ⟨_, hy, ⟨sel, h3, hsel⟩, SD, KD⟩ so hso
    have sE := Same.new (o := .lst ys) hso
    have gso := upd_same (H := HD) (a := so) (o := .lst ys)
    have nso := SD.nin hso
    have SE := SD.same sE
    have TE : Tups HC (upd HD so (.lst ys)) := fun b o h => sE _ _ (KD.tups SC _ _ h)
    have h3E := h3.mv sE.tups
    generalize upd HD so (.lst ys) = HE at sE gso SE TE h3E
    have gpE := TE _ _ gpC
    have hrE := hrC.mv TE
    have ghE := TE _ _ ghs
    clear gpC hrC TE h3 ghs
    dsimp only [tNext, gName]
    refine seqJoin (fun σ' H' => ∃ (ph : Addr) (hs : List Int), σ' = [some (.ref a), some (.ref st), some (.ref l), some (.ref hd), v4, some (.ref b), some (.ref p), some (.ref du), some (.ref ph), some (.ref so)] ∧ H' ph = some (.tup (hs.map V.int)) ∧ H' p = some (.tup rs) ∧ All2 Tup1 H' (rows.map sortD) rs) (fun nx hnx => ?_) ?_
    · refine ⟨_, rfl, st, ga, ca, _, 2, rfl, SE, by omega, by decide, by decide, fun r HF r0 r1 SF KF => ?_⟩
      have TF := KF.tups SE
      refine ⟨rfl, _, rfl, ite2 (fun _ => ?_) (fun _ => hnx _ _ ⟨ph, hs, rfl, TF _ _ ghE, TF _ _ gpE, hrE.mv TF⟩)⟩
      refine ⟨_, rfl, so, ys, sel, rfl, KF.at gso nso, h3E.mv TF, by omega, fun jp ms HG gj hj hjl sG nj => ?_⟩
      have TG : Tups HE HG := fun b o h => sG _ _ (TF _ _ h)
      refine ⟨_, rfl, _, rfl, sl_any (TG _ _ ghE) fun q1 HH s1 g1 => ?_⟩
      rw [show (some (3 : Int)) = some ((3 : Nat) : Int) from rfl, cut_take, ← List.map_take] at g1
      refine cat_gen (s1 _ _ gj) g1 (by rw [List.length_map, List.length_map, List.length_take]; exact Nat.le_trans (show _ ≤ 1003 by omega) (by decide)) fun q2 HI s2 g2 => ?_
      rw [← List.map_append] at g2
      refine ⟨_, rfl, sl_any g2 fun q3 HJ s3 g3 => ?_⟩
      rw [show (some (60 : Int)) = some ((60 : Nat) : Int) from rfl, cut_take, ← List.map_take] at g3
      refine ⟨q3, _, rfl, .inr (SqT.of g3), by rw [List.length_take]; omega, fun ns' p4 hperm hord hp4 => ?_⟩
      refine ⟨p4, _, rfl, .inl ⟨SqL.of upd_same, fun p5 hp5 => ?_⟩⟩
      have TJ : Tups HE (upd (upd HJ p4 (.lst (ns'.map V.int))) p5 (.tup (ns'.map V.int))) := fun b o h => ((s1.trans (s2.trans s3)).trans ((Same.new hp4).trans (Same.new hp5))) _ _ (TG _ _ h)
      exact hnx _ _ ⟨p5, ns', rfl, upd_same, TJ _ _ gpE, hrE.mv TJ⟩
    rintro σ' HF ⟨ph, hs, rfl, gh, gp, hr9⟩
    have hsm' : ∀ h ∈ rows.map sortD, h.length ≤ 1000 := fun h hh => Nat.le_trans (hsm h hh) (by decide)
    have hl60 : (rows.map sortD).length ≤ 60 := by rw [List.length_map]; omega
    refine ⟨_, rfl, _, rfl, p, ph, rs, rows.map sortD, hs, rfl, gp, hr9, gh, hl60, hsm', fun HG sG => ⟨true, rfl, iteT ?_⟩⟩
    refine ⟨by show 0 ≤ sizeLine; decide, fun t1 ht1 => ?_⟩
    have sH := sG.trans (Same.new (o := .tup []) ht1)
    refine ⟨_, rfl, t1, ph, [], [], hs, rfl, upd_same, .nil, sH _ _ gh, by decide, by simp, fun HI sI => ⟨true, rfl, iteT ?_⟩⟩
    have sJ := sH.trans sI
    refine ⟨_, rfl, by show 0 ≤ sizeLine; decide, fun t2 ht2 => ?_⟩
    have sK := sJ.trans (Same.new (o := .tup []) ht2)
    exact ⟨p, t2, rs, rows.map sortD, [], rfl, sK _ _ gp, hr9.mv sK.tups, upd_same, hl60, hsm', fun HL _ => k HL⟩
end
theorem all_mk {l : PySem.W.OpenLaw} {w : World} {K : PySem.W.Frag} {h : Heap} {mg : Str → Option Value} {fa : Addr} (X : K.In h) (G : h.Ns mainGlobals mg) (hfa : mg "law" = some (.ref fa))
    {f0 : Addr} {od0 an0 : Option Addr} {sl0 : Array (Option Value)} {oc0 kV0 dc0 pm0 cd0 ct0 : Value}
    {f1 : Addr} {od1 an1 : Option Addr} {sl1 : Array (Option Value)} {oc1 kV1 dc1 pm1 cd1 ct1 : Value}
    {f2 : Addr} {od2 an2 : Option Addr} {sl2 : Array (Option Value)} {oc2 kV2 dc2 pm2 cd2 ct2 : Value}
    {f3 : Addr} {od3 an3 : Option Addr} {sl3 : Array (Option Value)} {oc3 kV3 dc3 pm3 cd3 ct3 : Value}
    {f4 : Addr} {od4 an4 : Option Addr} {sl4 : Array (Option Value)} {oc4 kV4 dc4 pm4 cd4 ct4 : Value}
    {f5 : Addr} {od5 an5 : Option Addr} {sl5 : Array (Option Value)} {oc5 kV5 dc5 pm5 cd5 ct5 : Value}
    {f6 : Addr} {od6 an6 : Option Addr} {sl6 : Array (Option Value)} {oc6 kV6 dc6 pm6 cd6 ct6 : Value}
    {f7 : Addr} {od7 an7 : Option Addr} {sl7 : Array (Option Value)} {oc7 kV7 dc7 pm7 cd7 ct7 : Value}
    {f8 : Addr} {od8 an8 : Option Addr} {sl8 : Array (Option Value)} {oc8 kV8 dc8 pm8 cd8 ct8 : Value}
    {f9 : Addr} {od9 an9 : Option Addr} {sl9 : Array (Option Value)} {oc9 kV9 dc9 pm9 cd9 ct9 : Value}
    {f10 : Addr} {od10 an10 : Option Addr} {sl10 : Array (Option Value)} {oc10 kV10 dc10 pm10 cd10 ct10 : Value}
    {f11 : Addr} {od11 an11 : Option Addr} {sl11 : Array (Option Value)} {oc11 kV11 dc11 pm11 cd11 ct11 : Value}
    {f12 : Addr} {od12 an12 : Option Addr} {sl12 : Array (Option Value)} {oc12 kV12 dc12 pm12 cd12 ct12 : Value}
    {f13 : Addr} {od13 an13 : Option Addr} {sl13 : Array (Option Value)} {oc13 kV13 dc13 pm13 cd13 ct13 : Value}
    {f14 : Addr} {od14 an14 : Option Addr} {sl14 : Array (Option Value)} {oc14 kV14 dc14 pm14 cd14 ct14 : Value}
    {f15 : Addr} {od15 an15 : Option Addr} {sl15 : Array (Option Value)} {oc15 kV15 dc15 pm15 cd15 ct15 : Value}
    {f16 : Addr} {od16 an16 : Option Addr} {sl16 : Array (Option Value)} {oc16 kV16 dc16 pm16 cd16 ct16 : Value}
    {f17 : Addr} {od17 an17 : Option Addr} {sl17 : Array (Option Value)} {oc17 kV17 dc17 pm17 cd17 ct17 : Value}
    {f18 : Addr} {od18 an18 : Option Addr} {sl18 : Array (Option Value)} {oc18 kV18 dc18 pm18 cd18 ct18 : Value}
    {f19 : Addr} {od19 an19 : Option Addr} {sl19 : Array (Option Value)} {oc19 kV19 dc19 pm19 cd19 ct19 : Value}
    {f20 : Addr} {od20 an20 : Option Addr} {sl20 : Array (Option Value)} {oc20 kV20 dc20 pm20 cd20 ct20 : Value}
    {q_ShutError : Addr}
    {q_NoHeap : Addr}
    {q_NotIn : Addr}
    {q_NoText : Addr}
    {q_NoRule : Addr}
    {q_NoSum : Addr}
    {q_NotKept : Addr}
    {q_NoPlace : Addr}
    {q_NoPair : Addr}
    {q_NotSoMany : Addr}
    {q_Unmatched : Addr}
    {q_NotPaired : Addr}
    {q_TooLong : Addr}
    {q_NotStrict : Addr}
    {q_LeftOver : Addr}
    {q_NoBottom : Addr}
    {q_NoLanes : Addr}
    {q_TooGreat : Addr}
    {q_NoLine : Addr}
    {q_NoName : Addr}
    {q_NothingLeft : Addr}
    (a1 : PySem.W.nsIn K mainGlobals "heap_of" = some (some (.ref f1))) (l1 : K.lookup f1 = some ⟨oc1, od1, .func (PySem.W.fnOf "heap_of" "heap_of" (defArgs s_heap_of) (defBody s_heap_of) (defScope s_heap_of) .none kV1 dc1 pm1 an1 cd1 ct1), sl1⟩) (c1 : PySem.W.codeIn K cd1 "heap_of" = true) (k1 : PySem.W.keepIn K (.ref f1) = true)
    (a2 : PySem.W.nsIn K mainGlobals "rule_of" = some (some (.ref f2))) (l2 : K.lookup f2 = some ⟨oc2, od2, .func (PySem.W.fnOf "rule_of" "rule_of" (defArgs s_rule_of) (defBody s_rule_of) (defScope s_rule_of) .none kV2 dc2 pm2 an2 cd2 ct2), sl2⟩) (c2 : PySem.W.codeIn K cd2 "rule_of" = true) (k2 : PySem.W.keepIn K (.ref f2) = true)
    (a3 : PySem.W.nsIn K mainGlobals "_law_start" = some (some (.ref f3))) (l3 : K.lookup f3 = some ⟨oc3, od3, .func (PySem.W.fnOf "_law_start" "_law_start" (defArgs s__law_start) (defBody s__law_start) (defScope s__law_start) .none kV3 dc3 pm3 an3 cd3 ct3), sl3⟩) (c3 : PySem.W.codeIn K cd3 "_law_start" = true) (k3 : PySem.W.keepIn K (.ref f3) = true)
    (a4 : PySem.W.nsIn K mainGlobals "_law_mix" = some (some (.ref f4))) (l4 : K.lookup f4 = some ⟨oc4, od4, .func (PySem.W.fnOf "_law_mix" "_law_mix" (defArgs s__law_mix) (defBody s__law_mix) (defScope s__law_mix) .none kV4 dc4 pm4 an4 cd4 ct4), sl4⟩) (c4 : PySem.W.codeIn K cd4 "_law_mix" = true) (k4 : PySem.W.keepIn K (.ref f4) = true)
    (a5 : PySem.W.nsIn K mainGlobals "_law_draw" = some (some (.ref f5))) (l5 : K.lookup f5 = some ⟨oc5, od5, .func (PySem.W.fnOf "_law_draw" "_law_draw" (defArgs s__law_draw) (defBody s__law_draw) (defScope s__law_draw) .none kV5 dc5 pm5 an5 cd5 ct5), sl5⟩) (c5 : PySem.W.codeIn K cd5 "_law_draw" = true) (k5 : PySem.W.keepIn K (.ref f5) = true)
    (a6 : PySem.W.nsIn K mainGlobals "_law_heap" = some (some (.ref f6))) (l6 : K.lookup f6 = some ⟨oc6, od6, .func (PySem.W.fnOf "_law_heap" "_law_heap" (defArgs s__law_heap) (defBody s__law_heap) (defScope s__law_heap) .none kV6 dc6 pm6 an6 cd6 ct6), sl6⟩) (c6 : PySem.W.codeIn K cd6 "_law_heap" = true) (k6 : PySem.W.keepIn K (.ref f6) = true)
    (a7 : PySem.W.nsIn K mainGlobals "_law_joined" = some (some (.ref f7))) (l7 : K.lookup f7 = some ⟨oc7, od7, .func (PySem.W.fnOf "_law_joined" "_law_joined" (defArgs s__law_joined) (defBody s__law_joined) (defScope s__law_joined) .none kV7 dc7 pm7 an7 cd7 ct7), sl7⟩) (c7 : PySem.W.codeIn K cd7 "_law_joined" = true) (k7 : PySem.W.keepIn K (.ref f7) = true)
    (a8 : PySem.W.nsIn K mainGlobals "_law_whole" = some (some (.ref f8))) (l8 : K.lookup f8 = some ⟨oc8, od8, .func (PySem.W.fnOf "_law_whole" "_law_whole" (defArgs s__law_whole) (defBody s__law_whole) (defScope s__law_whole) .none kV8 dc8 pm8 an8 cd8 ct8), sl8⟩) (c8 : PySem.W.codeIn K cd8 "_law_whole" = true) (k8 : PySem.W.keepIn K (.ref f8) = true)
    (a9 : PySem.W.nsIn K mainGlobals "_law_row" = some (some (.ref f9))) (l9 : K.lookup f9 = some ⟨oc9, od9, .func (PySem.W.fnOf "_law_row" "_law_row" (defArgs s__law_row) (defBody s__law_row) (defScope s__law_row) .none kV9 dc9 pm9 an9 cd9 ct9), sl9⟩) (c9 : PySem.W.codeIn K cd9 "_law_row" = true) (k9 : PySem.W.keepIn K (.ref f9) = true)
    (a10 : PySem.W.nsIn K mainGlobals "_law_rows" = some (some (.ref f10))) (l10 : K.lookup f10 = some ⟨oc10, od10, .func (PySem.W.fnOf "_law_rows" "_law_rows" (defArgs s__law_rows) (defBody s__law_rows) (defScope s__law_rows) .none kV10 dc10 pm10 an10 cd10 ct10), sl10⟩) (c10 : PySem.W.codeIn K cd10 "_law_rows" = true) (k10 : PySem.W.keepIn K (.ref f10) = true)
    (a11 : PySem.W.nsIn K mainGlobals "_law_alone" = some (some (.ref f11))) (l11 : K.lookup f11 = some ⟨oc11, od11, .func (PySem.W.fnOf "_law_alone" "_law_alone" (defArgs s__law_alone) (defBody s__law_alone) (defScope s__law_alone) .none kV11 dc11 pm11 an11 cd11 ct11), sl11⟩) (c11 : PySem.W.codeIn K cd11 "_law_alone" = true) (k11 : PySem.W.keepIn K (.ref f11) = true)
    (a12 : PySem.W.nsIn K mainGlobals "_law_refused" = some (some (.ref f12))) (l12 : K.lookup f12 = some ⟨oc12, od12, .func (PySem.W.fnOf "_law_refused" "_law_refused" (defArgs s__law_refused) (defBody s__law_refused) (defScope s__law_refused) .none kV12 dc12 pm12 an12 cd12 ct12), sl12⟩) (c12 : PySem.W.codeIn K cd12 "_law_refused" = true) (k12 : PySem.W.keepIn K (.ref f12) = true)
    (a13 : PySem.W.nsIn K mainGlobals "often" = some (some (.ref f13))) (l13 : K.lookup f13 = some ⟨oc13, od13, .func (PySem.W.fnOf "often" "often" (defArgs s_often) (defBody s_often) (defScope s_often) .none kV13 dc13 pm13 an13 cd13 ct13), sl13⟩) (c13 : PySem.W.codeIn K cd13 "often" = true) (k13 : PySem.W.keepIn K (.ref f13) = true)
    (a14 : PySem.W.nsIn K mainGlobals "lies_in" = some (some (.ref f14))) (l14 : K.lookup f14 = some ⟨oc14, od14, .func (PySem.W.fnOf "lies_in" "lies_in" (defArgs s_lies_in) (defBody s_lies_in) (defScope s_lies_in) .none kV14 dc14 pm14 an14 cd14 ct14), sl14⟩) (c14 : PySem.W.codeIn K cd14 "lies_in" = true) (k14 : PySem.W.keepIn K (.ref f14) = true)
    (a15 : PySem.W.nsIn K mainGlobals "all_in" = some (some (.ref f15))) (l15 : K.lookup f15 = some ⟨oc15, od15, .func (PySem.W.fnOf "all_in" "all_in" (defArgs s_all_in) (defBody s_all_in) (defScope s_all_in) .none kV15 dc15 pm15 an15 cd15 ct15), sl15⟩) (c15 : PySem.W.codeIn K cd15 "all_in" = true) (k15 : PySem.W.keepIn K (.ref f15) = true)
    (a16 : PySem.W.nsIn K mainGlobals "first_in" = some (some (.ref f16))) (l16 : K.lookup f16 = some ⟨oc16, od16, .func (PySem.W.fnOf "first_in" "first_in" (defArgs s_first_in) (defBody s_first_in) (defScope s_first_in) .none kV16 dc16 pm16 an16 cd16 ct16), sl16⟩) (c16 : PySem.W.codeIn K cd16 "first_in" = true) (k16 : PySem.W.keepIn K (.ref f16) = true)
    (a17 : PySem.W.nsIn K mainGlobals "keeps" = some (some (.ref f17))) (l17 : K.lookup f17 = some ⟨oc17, od17, .func (PySem.W.fnOf "keeps" "keeps" (defArgs s_keeps) (defBody s_keeps) (defScope s_keeps) .none kV17 dc17 pm17 an17 cd17 ct17), sl17⟩) (c17 : PySem.W.codeIn K cd17 "keeps" = true) (k17 : PySem.W.keepIn K (.ref f17) = true)
    (a18 : PySem.W.nsIn K mainGlobals "_law_lies" = some (some (.ref f18))) (l18 : K.lookup f18 = some ⟨oc18, od18, .func (PySem.W.fnOf "_law_lies" "_law_lies" (defArgs s__law_lies) (defBody s__law_lies) (defScope s__law_lies) .none kV18 dc18 pm18 an18 cd18 ct18), sl18⟩) (c18 : PySem.W.codeIn K cd18 "_law_lies" = true) (k18 : PySem.W.keepIn K (.ref f18) = true)
    (a19 : PySem.W.nsIn K mainGlobals "_law_told" = some (some (.ref f19))) (l19 : K.lookup f19 = some ⟨oc19, od19, .func (PySem.W.fnOf "_law_told" "_law_told" (defArgs s__law_told) (defBody s__law_told) (defScope s__law_told) .none kV19 dc19 pm19 an19 cd19 ct19), sl19⟩) (c19 : PySem.W.codeIn K cd19 "_law_told" = true) (k19 : PySem.W.keepIn K (.ref f19) = true)
    (a20 : PySem.W.nsIn K mainGlobals "law" = some (some (.ref f20))) (l20 : K.lookup f20 = some ⟨oc20, od20, .func (PySem.W.fnOf "law" "law" (defArgs s_law) (defBody s_law) (defScope s_law) .none kV20 dc20 pm20 an20 cd20 ct20), sl20⟩) (c20 : PySem.W.codeIn K cd20 "law" = true) (k20 : PySem.W.keepIn K (.ref f20) = true)
    (z_ValueError : PySem.W.nsIn K mainGlobals "ValueError" = some none)
    (z_all : PySem.W.nsIn K mainGlobals "all" = some none)
    (z_bool : PySem.W.nsIn K mainGlobals "bool" = some none)
    (z_enumerate : PySem.W.nsIn K mainGlobals "enumerate" = some none)
    (z_int : PySem.W.nsIn K mainGlobals "int" = some none)
    (z_isinstance : PySem.W.nsIn K mainGlobals "isinstance" = some none)
    (z_len : PySem.W.nsIn K mainGlobals "len" = some none)
    (z_list : PySem.W.nsIn K mainGlobals "list" = some none)
    (z_min : PySem.W.nsIn K mainGlobals "min" = some none)
    (z_range : PySem.W.nsIn K mainGlobals "range" = some none)
    (z_sorted : PySem.W.nsIn K mainGlobals "sorted" = some none)
    (z_tuple : PySem.W.nsIn K mainGlobals "tuple" = some none)
    {tk_MOST_HEAPS : Tok} (w_MOST_HEAPS : PySem.W.nsIn K mainGlobals "MOST_HEAPS" = some (some (.int 6 tk_MOST_HEAPS)))
    (m_ShutError : PySem.W.nsIn K mainGlobals "ShutError" = some (some (.ref q_ShutError)))
    (m_NoHeap : PySem.W.nsIn K mainGlobals "NoHeap" = some (some (.ref q_NoHeap)))
    (m_NotIn : PySem.W.nsIn K mainGlobals "NotIn" = some (some (.ref q_NotIn)))
    (m_NoText : PySem.W.nsIn K mainGlobals "NoText" = some (some (.ref q_NoText)))
    (m_NoRule : PySem.W.nsIn K mainGlobals "NoRule" = some (some (.ref q_NoRule)))
    (m_NoSum : PySem.W.nsIn K mainGlobals "NoSum" = some (some (.ref q_NoSum)))
    (m_NotKept : PySem.W.nsIn K mainGlobals "NotKept" = some (some (.ref q_NotKept)))
    (m_NoPlace : PySem.W.nsIn K mainGlobals "NoPlace" = some (some (.ref q_NoPlace)))
    (m_NoPair : PySem.W.nsIn K mainGlobals "NoPair" = some (some (.ref q_NoPair)))
    (m_NotSoMany : PySem.W.nsIn K mainGlobals "NotSoMany" = some (some (.ref q_NotSoMany)))
    (m_Unmatched : PySem.W.nsIn K mainGlobals "Unmatched" = some (some (.ref q_Unmatched)))
    (m_NotPaired : PySem.W.nsIn K mainGlobals "NotPaired" = some (some (.ref q_NotPaired)))
    (m_TooLong : PySem.W.nsIn K mainGlobals "TooLong" = some (some (.ref q_TooLong)))
    (m_NotStrict : PySem.W.nsIn K mainGlobals "NotStrict" = some (some (.ref q_NotStrict)))
    (m_LeftOver : PySem.W.nsIn K mainGlobals "LeftOver" = some (some (.ref q_LeftOver)))
    (m_NoBottom : PySem.W.nsIn K mainGlobals "NoBottom" = some (some (.ref q_NoBottom)))
    (m_NoLanes : PySem.W.nsIn K mainGlobals "NoLanes" = some (some (.ref q_NoLanes)))
    (m_TooGreat : PySem.W.nsIn K mainGlobals "TooGreat" = some (some (.ref q_TooGreat)))
    (m_NoLine : PySem.W.nsIn K mainGlobals "NoLine" = some (some (.ref q_NoLine)))
    (m_NoName : PySem.W.nsIn K mainGlobals "NoName" = some (some (.ref q_NoName)))
    (m_NothingLeft : PySem.W.nsIn K mainGlobals "NothingLeft" = some (some (.ref q_NothingLeft)))
    (x_NoRule : PySem.W.excIn K q_NoRule bmV "ValueError.__new__" = true) (y_NoRule : PySem.W.keepIn K (.ref q_NoRule) = true)
    (x_ShutError : PySem.W.excIn K q_ShutError bmV "ValueError.__new__" = true) (y_ShutError : PySem.W.keepIn K (.ref q_ShutError) = true)
    (e1_NoHeap : PySem.W.findIn K (.ref q_NoHeap) "__getattribute__" = some (some (.builtin "BaseException.__getattribute__"))) (e2_NoHeap : PySem.W.findIn K (.ref q_NoHeap) "__getattr__" = some none) (e3_NoHeap : PySem.W.findIn K (.ref q_NoHeap) "__class__" = some (some (.builtin "object.__class__"))) (e4_NoHeap : PySem.W.specialIn K (.builtin "object.__class__") "__get__" = some (some (.builtin "getset_descriptor.__get__"))) (e5_NoHeap : PySem.W.takesIn K (.builtin "object.__class__") = some true) (e6_NoHeap : PySem.W.mroIn K q_NoHeap (.type "object") = some true) (e7_NoHeap : PySem.W.mroIn K q_NoHeap (.type "BaseException") = some true)
    (t_NoHeap_ShutError : PySem.W.mroIn K q_NoHeap (.ref q_ShutError) = some true)
    (i_NoHeap_LeftOver : PySem.W.kitOne K (.ref q_NoHeap) (.ref q_LeftOver) = some false)
    (i_NoHeap_NoBottom : PySem.W.kitOne K (.ref q_NoHeap) (.ref q_NoBottom) = some false)
    (i_NoHeap_NoHeap : PySem.W.kitOne K (.ref q_NoHeap) (.ref q_NoHeap) = some true)
    (i_NoHeap_NoLanes : PySem.W.kitOne K (.ref q_NoHeap) (.ref q_NoLanes) = some false)
    (i_NoHeap_NoLine : PySem.W.kitOne K (.ref q_NoHeap) (.ref q_NoLine) = some false)
    (i_NoHeap_NoName : PySem.W.kitOne K (.ref q_NoHeap) (.ref q_NoName) = some false)
    (i_NoHeap_NoPair : PySem.W.kitOne K (.ref q_NoHeap) (.ref q_NoPair) = some false)
    (i_NoHeap_NoPlace : PySem.W.kitOne K (.ref q_NoHeap) (.ref q_NoPlace) = some false)
    (i_NoHeap_NoRule : PySem.W.kitOne K (.ref q_NoHeap) (.ref q_NoRule) = some false)
    (i_NoHeap_NoSum : PySem.W.kitOne K (.ref q_NoHeap) (.ref q_NoSum) = some false)
    (i_NoHeap_NoText : PySem.W.kitOne K (.ref q_NoHeap) (.ref q_NoText) = some false)
    (i_NoHeap_NotIn : PySem.W.kitOne K (.ref q_NoHeap) (.ref q_NotIn) = some false)
    (i_NoHeap_NotKept : PySem.W.kitOne K (.ref q_NoHeap) (.ref q_NotKept) = some false)
    (i_NoHeap_NotPaired : PySem.W.kitOne K (.ref q_NoHeap) (.ref q_NotPaired) = some false)
    (i_NoHeap_NotSoMany : PySem.W.kitOne K (.ref q_NoHeap) (.ref q_NotSoMany) = some false)
    (i_NoHeap_NotStrict : PySem.W.kitOne K (.ref q_NoHeap) (.ref q_NotStrict) = some false)
    (i_NoHeap_NothingLeft : PySem.W.kitOne K (.ref q_NoHeap) (.ref q_NothingLeft) = some false)
    (i_NoHeap_ShutError : PySem.W.kitOne K (.ref q_NoHeap) (.ref q_ShutError) = some true)
    (i_NoHeap_TooGreat : PySem.W.kitOne K (.ref q_NoHeap) (.ref q_TooGreat) = some false)
    (i_NoHeap_TooLong : PySem.W.kitOne K (.ref q_NoHeap) (.ref q_TooLong) = some false)
    (i_NoHeap_Unmatched : PySem.W.kitOne K (.ref q_NoHeap) (.ref q_Unmatched) = some false)
    (i_NoHeap_ValueError : PySem.W.kitOne K (.ref q_NoHeap) (.type "ValueError") = some true)
    (e1_NoRule : PySem.W.findIn K (.ref q_NoRule) "__getattribute__" = some (some (.builtin "BaseException.__getattribute__"))) (e2_NoRule : PySem.W.findIn K (.ref q_NoRule) "__getattr__" = some none) (e3_NoRule : PySem.W.findIn K (.ref q_NoRule) "__class__" = some (some (.builtin "object.__class__"))) (e4_NoRule : PySem.W.specialIn K (.builtin "object.__class__") "__get__" = some (some (.builtin "getset_descriptor.__get__"))) (e5_NoRule : PySem.W.takesIn K (.builtin "object.__class__") = some true) (e6_NoRule : PySem.W.mroIn K q_NoRule (.type "object") = some true) (e7_NoRule : PySem.W.mroIn K q_NoRule (.type "BaseException") = some true)
    (t_NoRule_ShutError : PySem.W.mroIn K q_NoRule (.ref q_ShutError) = some true)
    (i_NoRule_LeftOver : PySem.W.kitOne K (.ref q_NoRule) (.ref q_LeftOver) = some false)
    (i_NoRule_NoBottom : PySem.W.kitOne K (.ref q_NoRule) (.ref q_NoBottom) = some false)
    (i_NoRule_NoHeap : PySem.W.kitOne K (.ref q_NoRule) (.ref q_NoHeap) = some false)
    (i_NoRule_NoLanes : PySem.W.kitOne K (.ref q_NoRule) (.ref q_NoLanes) = some false)
    (i_NoRule_NoLine : PySem.W.kitOne K (.ref q_NoRule) (.ref q_NoLine) = some false)
    (i_NoRule_NoName : PySem.W.kitOne K (.ref q_NoRule) (.ref q_NoName) = some false)
    (i_NoRule_NoPair : PySem.W.kitOne K (.ref q_NoRule) (.ref q_NoPair) = some false)
    (i_NoRule_NoPlace : PySem.W.kitOne K (.ref q_NoRule) (.ref q_NoPlace) = some false)
    (i_NoRule_NoRule : PySem.W.kitOne K (.ref q_NoRule) (.ref q_NoRule) = some true)
    (i_NoRule_NoSum : PySem.W.kitOne K (.ref q_NoRule) (.ref q_NoSum) = some false)
    (i_NoRule_NoText : PySem.W.kitOne K (.ref q_NoRule) (.ref q_NoText) = some false)
    (i_NoRule_NotIn : PySem.W.kitOne K (.ref q_NoRule) (.ref q_NotIn) = some false)
    (i_NoRule_NotKept : PySem.W.kitOne K (.ref q_NoRule) (.ref q_NotKept) = some false)
    (i_NoRule_NotPaired : PySem.W.kitOne K (.ref q_NoRule) (.ref q_NotPaired) = some false)
    (i_NoRule_NotSoMany : PySem.W.kitOne K (.ref q_NoRule) (.ref q_NotSoMany) = some false)
    (i_NoRule_NotStrict : PySem.W.kitOne K (.ref q_NoRule) (.ref q_NotStrict) = some false)
    (i_NoRule_NothingLeft : PySem.W.kitOne K (.ref q_NoRule) (.ref q_NothingLeft) = some false)
    (i_NoRule_ShutError : PySem.W.kitOne K (.ref q_NoRule) (.ref q_ShutError) = some true)
    (i_NoRule_TooGreat : PySem.W.kitOne K (.ref q_NoRule) (.ref q_TooGreat) = some false)
    (i_NoRule_TooLong : PySem.W.kitOne K (.ref q_NoRule) (.ref q_TooLong) = some false)
    (i_NoRule_Unmatched : PySem.W.kitOne K (.ref q_NoRule) (.ref q_Unmatched) = some false)
    (i_NoRule_ValueError : PySem.W.kitOne K (.ref q_NoRule) (.type "ValueError") = some true)
    (a0 : PySem.W.findIn K (.ref q_NoHeap) "__init__" = some (some (.ref f0))) (i0 : PySem.W.isFn K (.ref f0) = true) (l0 : K.lookup f0 = some ⟨oc0, od0, .func (PySem.W.fnOf "__init__" "NoHeap.__init__" (defArgs s_NoHeap___init__) (defBody s_NoHeap___init__) (defScope s_NoHeap___init__) .none kV0 dc0 pm0 an0 cd0 ct0), sl0⟩) (c0 : PySem.W.codeIn K cd0 "NoHeap.__init__" = true) (k0 : PySem.W.keepIn K (.ref f0) = true)
    (xi_NoHeap : excInI K q_NoHeap f0 = true) (y_NoHeap : PySem.W.keepIn K (.ref q_NoHeap) = true) (hd_NoHeap : PySem.W.hasDictIn K q_NoHeap = true) (po_NoHeap : overX K q_NoHeap = true) (sa_NoHeap : PySem.W.findIn K (.ref q_NoHeap) "__setattr__" = some (some (.builtin "object.__setattr__")))
    (na_NoHeap_part : PySem.W.findIn K (.ref q_NoHeap) "part" = some none) :
    ∃ fd : FuncData, (∀ (s : Shared) (v : Value), BindsTo s fd ⟨[v], []⟩ [("_law_script", v)]) ∧ ∀ base : Heap, K.In base → base.Ns mainGlobals mg → FnOk l.prog w K mg base CX0 33 fa fd ["_law_script"] (sp_law K) := by
  have e := hfa.symm.trans (PySem.W.mg_of X G a20)
  cases e
  have T : Txt K mg ⟨f0, PySem.W.fnOf "__init__" "NoHeap.__init__" (defArgs s_NoHeap___init__) (defBody s_NoHeap___init__) (defScope s_NoHeap___init__) .none kV0 dc0 pm0 an0 cd0 ct0, f1, PySem.W.fnOf "heap_of" "heap_of" (defArgs s_heap_of) (defBody s_heap_of) (defScope s_heap_of) .none kV1 dc1 pm1 an1 cd1 ct1, f2, PySem.W.fnOf "rule_of" "rule_of" (defArgs s_rule_of) (defBody s_rule_of) (defScope s_rule_of) .none kV2 dc2 pm2 an2 cd2 ct2, f3, PySem.W.fnOf "_law_start" "_law_start" (defArgs s__law_start) (defBody s__law_start) (defScope s__law_start) .none kV3 dc3 pm3 an3 cd3 ct3, f4, PySem.W.fnOf "_law_mix" "_law_mix" (defArgs s__law_mix) (defBody s__law_mix) (defScope s__law_mix) .none kV4 dc4 pm4 an4 cd4 ct4, f5, PySem.W.fnOf "_law_draw" "_law_draw" (defArgs s__law_draw) (defBody s__law_draw) (defScope s__law_draw) .none kV5 dc5 pm5 an5 cd5 ct5, f6, PySem.W.fnOf "_law_heap" "_law_heap" (defArgs s__law_heap) (defBody s__law_heap) (defScope s__law_heap) .none kV6 dc6 pm6 an6 cd6 ct6, f7, PySem.W.fnOf "_law_joined" "_law_joined" (defArgs s__law_joined) (defBody s__law_joined) (defScope s__law_joined) .none kV7 dc7 pm7 an7 cd7 ct7, f8, PySem.W.fnOf "_law_whole" "_law_whole" (defArgs s__law_whole) (defBody s__law_whole) (defScope s__law_whole) .none kV8 dc8 pm8 an8 cd8 ct8, f9, PySem.W.fnOf "_law_row" "_law_row" (defArgs s__law_row) (defBody s__law_row) (defScope s__law_row) .none kV9 dc9 pm9 an9 cd9 ct9, f10, PySem.W.fnOf "_law_rows" "_law_rows" (defArgs s__law_rows) (defBody s__law_rows) (defScope s__law_rows) .none kV10 dc10 pm10 an10 cd10 ct10, f11, PySem.W.fnOf "_law_alone" "_law_alone" (defArgs s__law_alone) (defBody s__law_alone) (defScope s__law_alone) .none kV11 dc11 pm11 an11 cd11 ct11, f12, PySem.W.fnOf "_law_refused" "_law_refused" (defArgs s__law_refused) (defBody s__law_refused) (defScope s__law_refused) .none kV12 dc12 pm12 an12 cd12 ct12, f13, PySem.W.fnOf "often" "often" (defArgs s_often) (defBody s_often) (defScope s_often) .none kV13 dc13 pm13 an13 cd13 ct13, f14, PySem.W.fnOf "lies_in" "lies_in" (defArgs s_lies_in) (defBody s_lies_in) (defScope s_lies_in) .none kV14 dc14 pm14 an14 cd14 ct14, f15, PySem.W.fnOf "all_in" "all_in" (defArgs s_all_in) (defBody s_all_in) (defScope s_all_in) .none kV15 dc15 pm15 an15 cd15 ct15, f16, PySem.W.fnOf "first_in" "first_in" (defArgs s_first_in) (defBody s_first_in) (defScope s_first_in) .none kV16 dc16 pm16 an16 cd16 ct16, f17, PySem.W.fnOf "keeps" "keeps" (defArgs s_keeps) (defBody s_keeps) (defScope s_keeps) .none kV17 dc17 pm17 an17 cd17 ct17, f18, PySem.W.fnOf "_law_lies" "_law_lies" (defArgs s__law_lies) (defBody s__law_lies) (defScope s__law_lies) .none kV18 dc18 pm18 an18 cd18 ct18, f19, PySem.W.fnOf "_law_told" "_law_told" (defArgs s__law_told) (defBody s__law_told) (defScope s__law_told) .none kV19 dc19 pm19 an19 cd19 ct19, fa, PySem.W.fnOf "law" "law" (defArgs s_law) (defBody s_law) (defScope s_law) .none kV20 dc20 pm20 an20 cd20 ct20, q_ShutError, q_NoHeap, q_NotIn, q_NoText, q_NoRule, q_NoSum, q_NotKept, q_NoPlace, q_NoPair, q_NotSoMany, q_Unmatched, q_NotPaired, q_TooLong, q_NotStrict, q_LeftOver, q_NoBottom, q_NoLanes, q_TooGreat, q_NoLine, q_NoName, q_NothingLeft⟩ := ⟨fun_mk (st := s_NoHeap___init__) l0 c0 k0,
    (fun_mk (st := s_NoHeap___init__) l0 c0 k0).binds (fun _ _ _ _ _ _ us hl => match us, hl with | [_, _], _ => rfl),
    fun_mk (st := s_heap_of) l1 c1 k1,
    (fun_mk (st := s_heap_of) l1 c1 k1).binds (fun _ _ _ _ _ _ us hl => match us, hl with | [_], _ => rfl),
    PySem.W.mg_of X G a1,
    fun_mk (st := s_rule_of) l2 c2 k2,
    (fun_mk (st := s_rule_of) l2 c2 k2).binds (fun _ _ _ _ _ _ us hl => match us, hl with | [_], _ => rfl),
    PySem.W.mg_of X G a2,
    fun_mk (st := s__law_start) l3 c3 k3,
    (fun_mk (st := s__law_start) l3 c3 k3).binds (fun _ _ _ _ _ _ us hl => match us, hl with | [_], _ => rfl),
    PySem.W.mg_of X G a3,
    fun_mk (st := s__law_mix) l4 c4 k4,
    (fun_mk (st := s__law_mix) l4 c4 k4).binds (fun _ _ _ _ _ _ us hl => match us, hl with | [_], _ => rfl),
    PySem.W.mg_of X G a4,
    fun_mk (st := s__law_draw) l5 c5 k5,
    (fun_mk (st := s__law_draw) l5 c5 k5).binds (fun _ _ _ _ _ _ us hl => match us, hl with | [_, _], _ => rfl),
    PySem.W.mg_of X G a5,
    fun_mk (st := s__law_heap) l6 c6 k6,
    (fun_mk (st := s__law_heap) l6 c6 k6).binds (fun _ _ _ _ _ _ us hl => match us, hl with | [_, _, _], _ => rfl),
    PySem.W.mg_of X G a6,
    fun_mk (st := s__law_joined) l7 c7 k7,
    (fun_mk (st := s__law_joined) l7 c7 k7).binds (fun _ _ _ _ _ _ us hl => match us, hl with | [_], _ => rfl),
    PySem.W.mg_of X G a7,
    fun_mk (st := s__law_whole) l8 c8 k8,
    (fun_mk (st := s__law_whole) l8 c8 k8).binds (fun _ _ _ _ _ _ us hl => match us, hl with | [_], _ => rfl),
    PySem.W.mg_of X G a8,
    fun_mk (st := s__law_row) l9 c9 k9,
    (fun_mk (st := s__law_row) l9 c9 k9).binds (fun _ _ _ _ _ _ us hl => match us, hl with | [_], _ => rfl),
    PySem.W.mg_of X G a9,
    fun_mk (st := s__law_rows) l10 c10 k10,
    (fun_mk (st := s__law_rows) l10 c10 k10).binds (fun _ _ _ _ _ _ us hl => match us, hl with | [_], _ => rfl),
    PySem.W.mg_of X G a10,
    fun_mk (st := s__law_alone) l11 c11 k11,
    (fun_mk (st := s__law_alone) l11 c11 k11).binds (fun _ _ _ _ _ _ us hl => match us, hl with | [_], _ => rfl),
    PySem.W.mg_of X G a11,
    fun_mk (st := s__law_refused) l12 c12 k12,
    (fun_mk (st := s__law_refused) l12 c12 k12).binds (fun _ _ _ _ _ _ us hl => match us, hl with | [_, _], _ => rfl),
    PySem.W.mg_of X G a12,
    fun_mk (st := s_often) l13 c13 k13,
    (fun_mk (st := s_often) l13 c13 k13).binds (fun _ _ _ _ _ _ us hl => match us, hl with | [_, _], _ => rfl),
    PySem.W.mg_of X G a13,
    fun_mk (st := s_lies_in) l14 c14 k14,
    (fun_mk (st := s_lies_in) l14 c14 k14).binds (fun _ _ _ _ _ _ us hl => match us, hl with | [_, _], _ => rfl),
    PySem.W.mg_of X G a14,
    fun_mk (st := s_all_in) l15 c15 k15,
    (fun_mk (st := s_all_in) l15 c15 k15).binds (fun _ _ _ _ _ _ us hl => match us, hl with | [_, _], _ => rfl),
    PySem.W.mg_of X G a15,
    fun_mk (st := s_first_in) l16 c16 k16,
    (fun_mk (st := s_first_in) l16 c16 k16).binds (fun _ _ _ _ _ _ us hl => match us, hl with | [_, _], _ => rfl),
    PySem.W.mg_of X G a16,
    fun_mk (st := s_keeps) l17 c17 k17,
    (fun_mk (st := s_keeps) l17 c17 k17).binds (fun _ _ _ _ _ _ us hl => match us, hl with | [_, _], _ => rfl),
    PySem.W.mg_of X G a17,
    fun_mk (st := s__law_lies) l18 c18 k18,
    (fun_mk (st := s__law_lies) l18 c18 k18).binds (fun _ _ _ _ _ _ us hl => match us, hl with | [_, _], _ => rfl),
    PySem.W.mg_of X G a18,
    fun_mk (st := s__law_told) l19 c19 k19,
    (fun_mk (st := s__law_told) l19 c19 k19).binds (fun _ _ _ _ _ _ us hl => match us, hl with | [_, _], _ => rfl),
    PySem.W.mg_of X G a19,
    fun_mk (st := s_law) l20 c20 k20,
    (fun_mk (st := s_law) l20 c20 k20).binds (fun _ _ _ _ _ _ us hl => match us, hl with | [_], _ => rfl),
    PySem.W.mg_of X G a20,
    PySem.W.mg_none_of X G z_ValueError,
    PySem.W.mg_none_of X G z_all,
    PySem.W.mg_none_of X G z_bool,
    PySem.W.mg_none_of X G z_enumerate,
    PySem.W.mg_none_of X G z_int,
    PySem.W.mg_none_of X G z_isinstance,
    PySem.W.mg_none_of X G z_len,
    PySem.W.mg_none_of X G z_list,
    PySem.W.mg_none_of X G z_min,
    PySem.W.mg_none_of X G z_range,
    PySem.W.mg_none_of X G z_sorted,
    PySem.W.mg_none_of X G z_tuple,
    ⟨_, PySem.W.mg_of X G w_MOST_HEAPS⟩,
    ⟨h, X⟩,
    PySem.W.mg_of X G m_ShutError,
    PySem.W.mg_of X G m_NoHeap,
    PySem.W.mg_of X G m_NotIn,
    PySem.W.mg_of X G m_NoText,
    PySem.W.mg_of X G m_NoRule,
    PySem.W.mg_of X G m_NoSum,
    PySem.W.mg_of X G m_NotKept,
    PySem.W.mg_of X G m_NoPlace,
    PySem.W.mg_of X G m_NoPair,
    PySem.W.mg_of X G m_NotSoMany,
    PySem.W.mg_of X G m_Unmatched,
    PySem.W.mg_of X G m_NotPaired,
    PySem.W.mg_of X G m_TooLong,
    PySem.W.mg_of X G m_NotStrict,
    PySem.W.mg_of X G m_LeftOver,
    PySem.W.mg_of X G m_NoBottom,
    PySem.W.mg_of X G m_NoLanes,
    PySem.W.mg_of X G m_TooGreat,
    PySem.W.mg_of X G m_NoLine,
    PySem.W.mg_of X G m_NoName,
    PySem.W.mg_of X G m_NothingLeft,
    ⟨x_NoRule, y_NoRule⟩,
    ⟨x_ShutError, y_ShutError⟩,
    ⟨e1_NoHeap, e2_NoHeap, e3_NoHeap, e4_NoHeap, e5_NoHeap, e6_NoHeap, e7_NoHeap⟩,
    t_NoHeap_ShutError,
    i_NoHeap_LeftOver,
    i_NoHeap_NoBottom,
    i_NoHeap_NoHeap,
    i_NoHeap_NoLanes,
    i_NoHeap_NoLine,
    i_NoHeap_NoName,
    i_NoHeap_NoPair,
    i_NoHeap_NoPlace,
    i_NoHeap_NoRule,
    i_NoHeap_NoSum,
    i_NoHeap_NoText,
    i_NoHeap_NotIn,
    i_NoHeap_NotKept,
    i_NoHeap_NotPaired,
    i_NoHeap_NotSoMany,
    i_NoHeap_NotStrict,
    i_NoHeap_NothingLeft,
    i_NoHeap_ShutError,
    i_NoHeap_TooGreat,
    i_NoHeap_TooLong,
    i_NoHeap_Unmatched,
    i_NoHeap_ValueError,
    ⟨e1_NoRule, e2_NoRule, e3_NoRule, e4_NoRule, e5_NoRule, e6_NoRule, e7_NoRule⟩,
    t_NoRule_ShutError,
    i_NoRule_LeftOver,
    i_NoRule_NoBottom,
    i_NoRule_NoHeap,
    i_NoRule_NoLanes,
    i_NoRule_NoLine,
    i_NoRule_NoName,
    i_NoRule_NoPair,
    i_NoRule_NoPlace,
    i_NoRule_NoRule,
    i_NoRule_NoSum,
    i_NoRule_NoText,
    i_NoRule_NotIn,
    i_NoRule_NotKept,
    i_NoRule_NotPaired,
    i_NoRule_NotSoMany,
    i_NoRule_NotStrict,
    i_NoRule_NothingLeft,
    i_NoRule_ShutError,
    i_NoRule_TooGreat,
    i_NoRule_TooLong,
    i_NoRule_Unmatched,
    i_NoRule_ValueError,
    ⟨xi_NoHeap, y_NoHeap, i0⟩,
    ⟨e1_NoHeap, e2_NoHeap, e7_NoHeap, hd_NoHeap, e6_NoHeap, po_NoHeap, sa_NoHeap⟩,
    na_NoHeap_part⟩
  exact ⟨PySem.W.fnOf "law" "law" (defArgs s_law) (defBody s_law) (defScope s_law) .none kV20 dc20 pm20 an20 cd20 ct20, fun s v => .of_eq rfl, fun base _ _ => ok_law T⟩
theorem walk {l : PySem.W.OpenLaw} {q : Program} {loose : List Str} {XP : (Str → Option Value) → Heap → Prop} {YP : World → Heap → Prop} {d : DefRec} {K : Params → PySem.W.Frag} (hn : l.most = some 63) (hdf : d.params.defaults = [])
    (hY : ∀ (w : World) (h : Heap), YP w h → (K w.params).In h)
    (F : ∀ (w : World) (mg : Str → Option Value) (fa : Addr) (h : Heap), (K w.params).In h → h.Ns mainGlobals mg → mg d.name = some (.ref fa) →
      ∃ fd : FuncData, (∀ (s : Shared) (u : Value), BindsTo s fd ⟨[u], []⟩ [("_law_script", u)]) ∧ ∀ base : Heap, (K w.params).In base → base.Ns mainGlobals mg → FnOk l.prog w (K w.params) mg base CX0 33 fa fd ["_law_script"] (sp_law (K w.params))) :
    PySem.W.WalkO q loose XP YP l.row.toRowW d [] (fun f vs => PySem.call f vs) :=
  L2.walk_of (n := 63) (k := 33) (x := "_law_script") (CX := fun _ => CX0) (sp := fun w => sp_law (K w.params)) hn (by decide) hdf ⟨fun _ => rfl, by decide, by decide⟩ hY F (fun _ _ a ns hl _ hS => ⟨a, ns, rfl, hS, hl, fun _ => rfl⟩) fun _ _ _ _ _ z => z
end My
namespace PySem.W.Fast
def tw17490857227636048807 : Nat := 0
def tw13107687703411632042 : Nat := 0
def tw3334062434554258362 : Nat := 0
def tw6205786790012623394 : Nat := 0
def tw1893432762793186289 : Nat := 0
def tw7686328728415429803 : Nat := 0
def tw15086747389302257213 : Nat := 0
def tw11717989953086676952 : Nat := 0
def tw16557869684434828807 : Nat := 0
def tw17250640348872328739 : Nat := 0
def tw5003149194775172072 : Nat := 0
def tw10287461024098849054 : Nat := 0
def tw10426078297923995519 : Nat := 0
def tw17899161654541979331 : Nat := 0
def tw11753891240271420012 : Nat := 0
def tw16965805334426669127 : Nat := 0
def tw2842470524639467707 : Nat := 0
def tw16439137493065256811 : Nat := 0
def tw5831865606297660716 : Nat := 0
def tw14667795970657354486 : Nat := 0
def tw1151070787600575927 : Nat := 0
def tw7304222722263469089 : Nat := 0
def tw14974523265215003120 : Nat := 0
def tw11693416477040148809 : Nat := 0
def tw1683665227995475106 : Nat := 0
def tw1541092682715475480 : Nat := 0
def tw12222349549523290530 : Nat := 0
def tw15827818557947542263 : Nat := 0
def tw2503699034052011375 : Nat := 0
def tw10192405883392367378 : Nat := 0
def tw8255211562110955936 : Nat := 0
def tw13031511167212970505 : Nat := 0
def tw5682084865074207770 : Nat := 0
def tw16355675556380942346 : Nat := 0
def tw7353157422528542699 : Nat := 0
def tw3200555513684757971 : Nat := 0
def tw12532844410533166633 : Nat := 0
def tw16183461001957637835 : Nat := 0
def tw13067485733838062087 : Nat := 0
def tw3655268477030295269 : Nat := 0
def tw6418530046722001378 : Nat := 0
def tw11550449043353753709 : Nat := 0
def tw10198404463068498152 : Nat := 0
def tw1636540684491123250 : Nat := 0
def tw15135907362467488011 : Nat := 0
def tw18428387164615950136 : Nat := 0
def tw17784079585064131828 : Nat := 0
def tw7642708202501845651 : Nat := 0
def tw15383662088381722269 : Nat := 0
def tw11572763780118027156 : Nat := 0
def tw11379444216672018309 : Nat := 0
def tw8484656749101770322 : Nat := 0
def tw18356492305441506537 : Nat := 0
def tw11425223104948988249 : Nat := 0
def tw13406927982779814235 : Nat := 0
def tw11917646648758704203 : Nat := 0
def tw3031183183975962643 : Nat := 0
def tw1734006355927800240 : Nat := 0
def tw11278250203777352281 : Nat := 0
def tw2691683132496749594 : Nat := 0
def tw3560089383195973159 : Nat := 0
def tw7718310579471053740 : Nat := 0
def tw621135834742732997 : Nat := 0
def tw18197137015208962635 : Nat := 0
def tw15233754277685295132 : Nat := 0
def tw6778662451789948405 : Nat := 0
def tw3505359945340387263 : Nat := 0
def tw14985562212574194469 : Nat := 0
def tw15249303608561115108 : Nat := 0
def tw8077944499983905433 : Nat := 0
def tw7329810614113215658 : Nat := 0
def tw11232400210327161607 : Nat := 0
def tw12038088250358914614 : Nat := 0
def tw1194662340156419703 : Nat := 0
def tw11343311130671964808 : Nat := 0
def tw2804097884044322282 : Nat := 0
def tw1727366859880091431 : Nat := 0
def tw14099760137679249489 : Nat := 0
def tw12534693875424475937 : Nat := 0
def tw7812399385892747430 : Nat := 0
def tw3142684039048105264 : Nat := 0
def tw3539124264936263989 : Nat := 0
def tw12108602005335372818 : Nat := 0
def tw13229460751115029998 : Nat := 0
def tw6334450833691072419 : Nat := 0
def tw2262140139962658007 : Nat := 0
def tw17544379265282082818 : Nat := 0
def tw11962929026941731837 : Nat := 0
def tw2162164948079674687 : Nat := 0
def tw1653506310732519863 : Nat := 0
def tw10855841287207067725 : Nat := 0
def tw14350347139905319810 : Nat := 0
def tw16458515291670155584 : Nat := 0
def tw3393796514579487709 : Nat := 0
def tw4427019319429276289 : Nat := 0
def tw2265359979056318692 : Nat := 0
def tw3604219630615625815 : Nat := 0
def tw14003334007318936520 : Nat := 0
def tw11757626241753249934 : Nat := 0
def tw10297168056596302791 : Nat := 0
def tw11838751354813645319 : Nat := 0
def tw4524409071629718420 : Nat := 0
def tw16254129765799228455 : Nat := 0
def tw3562475559783735689 : Nat := 0
def tw13167219658110298014 : Nat := 0
def tw737032111042753074 : Nat := 0
def tw7636291735032668111 : Nat := 0
def tw12196538465269614580 : Nat := 0
def tw17332260233259394925 : Nat := 0
def tw10621082575105197772 : Nat := 0
def tw7311575742204930092 : Nat := 0
def tw8837992723921341289 : Nat := 0
def tw479180922924180311 : Nat := 0
def tw7286123320457922208 : Nat := 0
def tw4184090390800806902 : Nat := 0
def tw612910247475095966 : Nat := 0
def tw12014877255885521490 : Nat := 0
def tw14438718610332455347 : Nat := 0
def tw15074860806283127859 : Nat := 0
def tw17149234957581780609 : Nat := 0
def tw18410656184813319401 : Nat := 0
def tw7214872612373532716 : Nat := 0
def tw13883543256331264552 : Nat := 0
def tw9530078300745616836 : Nat := 0
def tw8147822321823544529 : Nat := 0
def tw8468478496095132451 : Nat := 0
def tw5346921794733978734 : Nat := 0
def tw8293899971836223575 : Nat := 0
def tw1444386768291440014 : Nat := 0
def tw10137439049984227479 : Nat := 0
def tw4078895320928947995 : Nat := 0
def tw5922037868528546522 : Nat := 0
def tw17615008797092576998 : Nat := 0
def tw10323612726849198412 : Nat := 0
def tw10230318250515131422 : Nat := 0
def tw1230572717472809412 : Nat := 0
def tw1102585055436928808 : Nat := 0
def tw10864596838873444482 : Nat := 0
def tw16749322957307061077 : Nat := 0
def tw17520162221170077524 : Nat := 0
def tw9853848163788338875 : Nat := 0
def tw17441061662349744256 : Nat := 0
def tw2202535829207988674 : Nat := 0
def tw446564094368932474 : Nat := 0
def tw8310953011173934841 : Nat := 0
def tw12356131827720510287 : Nat := 0
def tw3831006563057359787 : Nat := 0
def tw17635423666576356654 : Nat := 0
def tw11333998992351899339 : Nat := 0
def tw1765634624377676433 : Nat := 0
def tw930138683368674911 : Nat := 0
def tw3873468712808966712 : Nat := 0
def tw14359038051989151447 : Nat := 0
end PySem.W.Fast
open PySem PySem.W PyProof.Rows
set_option maxRecDepth 100000 in
set_option maxHeartbeats 0 in
theorem PySem.Challenge.cw_shutpairs_k11_rules_kept_holds : PySem.Challenge.rw_shutpairs_k11_rules_kept.Holds := by
  w_on; o_law; k_head; (case hw => w_witness2)
  k_fill
  refine My.walk (l := PySem.Challenge.rw_shutpairs_k11_rules_kept) rfl rfl (fun w h Y => PySem.W.kIn_of Y) ?F
  case F =>
    intro w mg fa h KX G hmg
    refine' My.all_mk KX G hmg ?a1 ?l1 ?c1 ?k1 ?a2 ?l2 ?c2 ?k2 ?a3 ?l3 ?c3 ?k3 ?a4 ?l4 ?c4 ?k4 ?a5 ?l5 ?c5 ?k5 ?a6 ?l6 ?c6 ?k6 ?a7 ?l7 ?c7 ?k7 ?a8 ?l8 ?c8 ?k8 ?a9 ?l9 ?c9 ?k9 ?a10 ?l10 ?c10 ?k10 ?a11 ?l11 ?c11 ?k11 ?a12 ?l12 ?c12 ?k12 ?a13 ?l13 ?c13 ?k13 ?a14 ?l14 ?c14 ?k14 ?a15 ?l15 ?c15 ?k15 ?a16 ?l16 ?c16 ?k16 ?a17 ?l17 ?c17 ?k17 ?a18 ?l18 ?c18 ?k18 ?a19 ?l19 ?c19 ?k19 ?a20 ?l20 ?c20 ?k20 ?z_ValueError ?z_all ?z_bool ?z_enumerate ?z_int ?z_isinstance ?z_len ?z_list ?z_min ?z_range ?z_sorted ?z_tuple ?w_MOST_HEAPS ?m_ShutError ?m_NoHeap ?m_NotIn ?m_NoText ?m_NoRule ?m_NoSum ?m_NotKept ?m_NoPlace ?m_NoPair ?m_NotSoMany ?m_Unmatched ?m_NotPaired ?m_TooLong ?m_NotStrict ?m_LeftOver ?m_NoBottom ?m_NoLanes ?m_TooGreat ?m_NoLine ?m_NoName ?m_NothingLeft ?x_NoRule ?y_NoRule ?x_ShutError ?y_ShutError ?e1_NoHeap ?e2_NoHeap ?e3_NoHeap ?e4_NoHeap ?e5_NoHeap ?e6_NoHeap ?e7_NoHeap ?t_NoHeap_ShutError ?i_NoHeap_LeftOver ?i_NoHeap_NoBottom ?i_NoHeap_NoHeap ?i_NoHeap_NoLanes ?i_NoHeap_NoLine ?i_NoHeap_NoName ?i_NoHeap_NoPair ?i_NoHeap_NoPlace ?i_NoHeap_NoRule ?i_NoHeap_NoSum ?i_NoHeap_NoText ?i_NoHeap_NotIn ?i_NoHeap_NotKept ?i_NoHeap_NotPaired ?i_NoHeap_NotSoMany ?i_NoHeap_NotStrict ?i_NoHeap_NothingLeft ?i_NoHeap_ShutError ?i_NoHeap_TooGreat ?i_NoHeap_TooLong ?i_NoHeap_Unmatched ?i_NoHeap_ValueError ?e1_NoRule ?e2_NoRule ?e3_NoRule ?e4_NoRule ?e5_NoRule ?e6_NoRule ?e7_NoRule ?t_NoRule_ShutError ?i_NoRule_LeftOver ?i_NoRule_NoBottom ?i_NoRule_NoHeap ?i_NoRule_NoLanes ?i_NoRule_NoLine ?i_NoRule_NoName ?i_NoRule_NoPair ?i_NoRule_NoPlace ?i_NoRule_NoRule ?i_NoRule_NoSum ?i_NoRule_NoText ?i_NoRule_NotIn ?i_NoRule_NotKept ?i_NoRule_NotPaired ?i_NoRule_NotSoMany ?i_NoRule_NotStrict ?i_NoRule_NothingLeft ?i_NoRule_ShutError ?i_NoRule_TooGreat ?i_NoRule_TooLong ?i_NoRule_Unmatched ?i_NoRule_ValueError ?a0 ?i0 ?l0 ?c0 ?k0 ?xi_NoHeap ?y_NoHeap ?hd_NoHeap ?po_NoHeap ?sa_NoHeap ?na_NoHeap_part
    (case a1 => k_is)
    (case l1 => k_is)
    (case c1 => k_is)
    (case k1 => k_is)
    (case a2 => k_is)
    (case l2 => k_is)
    (case c2 => k_is)
    (case k2 => k_is)
    (case a3 => k_is)
    (case l3 => k_is)
    (case c3 => k_is)
    (case k3 => k_is)
    (case a4 => k_is)
    (case l4 => k_is)
    (case c4 => k_is)
    (case k4 => k_is)
    (case a5 => k_is)
    (case l5 => k_is)
    (case c5 => k_is)
    (case k5 => k_is)
    (case a6 => k_is)
    (case l6 => k_is)
    (case c6 => k_is)
    (case k6 => k_is)
    (case a7 => k_is)
    (case l7 => k_is)
    (case c7 => k_is)
    (case k7 => k_is)
    (case a8 => k_is)
    (case l8 => k_is)
    (case c8 => k_is)
    (case k8 => k_is)
    (case a9 => k_is)
    (case l9 => k_is)
    (case c9 => k_is)
    (case k9 => k_is)
    (case a10 => k_is)
    (case l10 => k_is)
    (case c10 => k_is)
    (case k10 => k_is)
    (case a11 => k_is)
    (case l11 => k_is)
    (case c11 => k_is)
    (case k11 => k_is)
    (case a12 => k_is)
    (case l12 => k_is)
    (case c12 => k_is)
    (case k12 => k_is)
    (case a13 => k_is)
    (case l13 => k_is)
    (case c13 => k_is)
    (case k13 => k_is)
    (case a14 => k_is)
    (case l14 => k_is)
    (case c14 => k_is)
    (case k14 => k_is)
    (case a15 => k_is)
    (case l15 => k_is)
    (case c15 => k_is)
    (case k15 => k_is)
    (case a16 => k_is)
    (case l16 => k_is)
    (case c16 => k_is)
    (case k16 => k_is)
    (case a17 => k_is)
    (case l17 => k_is)
    (case c17 => k_is)
    (case k17 => k_is)
    (case a18 => k_is)
    (case l18 => k_is)
    (case c18 => k_is)
    (case k18 => k_is)
    (case a19 => k_is)
    (case l19 => k_is)
    (case c19 => k_is)
    (case k19 => k_is)
    (case a20 => k_is)
    (case l20 => k_is)
    (case c20 => k_is)
    (case k20 => k_is)
    (case z_ValueError => k_is)
    (case z_all => k_is)
    (case z_bool => k_is)
    (case z_enumerate => k_is)
    (case z_int => k_is)
    (case z_isinstance => k_is)
    (case z_len => k_is)
    (case z_list => k_is)
    (case z_min => k_is)
    (case z_range => k_is)
    (case z_sorted => k_is)
    (case z_tuple => k_is)
    (case w_MOST_HEAPS => k_is)
    (case m_ShutError => k_is)
    (case m_NoHeap => k_is)
    (case m_NotIn => k_is)
    (case m_NoText => k_is)
    (case m_NoRule => k_is)
    (case m_NoSum => k_is)
    (case m_NotKept => k_is)
    (case m_NoPlace => k_is)
    (case m_NoPair => k_is)
    (case m_NotSoMany => k_is)
    (case m_Unmatched => k_is)
    (case m_NotPaired => k_is)
    (case m_TooLong => k_is)
    (case m_NotStrict => k_is)
    (case m_LeftOver => k_is)
    (case m_NoBottom => k_is)
    (case m_NoLanes => k_is)
    (case m_TooGreat => k_is)
    (case m_NoLine => k_is)
    (case m_NoName => k_is)
    (case m_NothingLeft => k_is)
    (case x_NoRule => k_exc)
    (case y_NoRule => k_is)
    (case x_ShutError => k_exc)
    (case y_ShutError => k_is)
    (case e1_NoHeap => k_is)
    (case e2_NoHeap => k_is)
    (case e3_NoHeap => k_is)
    (case e4_NoHeap => k_is)
    (case e5_NoHeap => k_is)
    (case e6_NoHeap => k_is)
    (case e7_NoHeap => k_is)
    (case t_NoHeap_ShutError => k_is)
    (case i_NoHeap_LeftOver => kit_is)
    (case i_NoHeap_NoBottom => kit_is)
    (case i_NoHeap_NoHeap => kit_is)
    (case i_NoHeap_NoLanes => kit_is)
    (case i_NoHeap_NoLine => kit_is)
    (case i_NoHeap_NoName => kit_is)
    (case i_NoHeap_NoPair => kit_is)
    (case i_NoHeap_NoPlace => kit_is)
    (case i_NoHeap_NoRule => kit_is)
    (case i_NoHeap_NoSum => kit_is)
    (case i_NoHeap_NoText => kit_is)
    (case i_NoHeap_NotIn => kit_is)
    (case i_NoHeap_NotKept => kit_is)
    (case i_NoHeap_NotPaired => kit_is)
    (case i_NoHeap_NotSoMany => kit_is)
    (case i_NoHeap_NotStrict => kit_is)
    (case i_NoHeap_NothingLeft => kit_is)
    (case i_NoHeap_ShutError => kit_is)
    (case i_NoHeap_TooGreat => kit_is)
    (case i_NoHeap_TooLong => kit_is)
    (case i_NoHeap_Unmatched => kit_is)
    (case i_NoHeap_ValueError => kit_is)
    (case e1_NoRule => k_is)
    (case e2_NoRule => k_is)
    (case e3_NoRule => k_is)
    (case e4_NoRule => k_is)
    (case e5_NoRule => k_is)
    (case e6_NoRule => k_is)
    (case e7_NoRule => k_is)
    (case t_NoRule_ShutError => k_is)
    (case i_NoRule_LeftOver => kit_is)
    (case i_NoRule_NoBottom => kit_is)
    (case i_NoRule_NoHeap => kit_is)
    (case i_NoRule_NoLanes => kit_is)
    (case i_NoRule_NoLine => kit_is)
    (case i_NoRule_NoName => kit_is)
    (case i_NoRule_NoPair => kit_is)
    (case i_NoRule_NoPlace => kit_is)
    (case i_NoRule_NoRule => kit_is)
    (case i_NoRule_NoSum => kit_is)
    (case i_NoRule_NoText => kit_is)
    (case i_NoRule_NotIn => kit_is)
    (case i_NoRule_NotKept => kit_is)
    (case i_NoRule_NotPaired => kit_is)
    (case i_NoRule_NotSoMany => kit_is)
    (case i_NoRule_NotStrict => kit_is)
    (case i_NoRule_NothingLeft => kit_is)
    (case i_NoRule_ShutError => kit_is)
    (case i_NoRule_TooGreat => kit_is)
    (case i_NoRule_TooLong => kit_is)
    (case i_NoRule_Unmatched => kit_is)
    (case i_NoRule_ValueError => kit_is)
    (case a0 => k_is)
    (case i0 => k_is)
    (case l0 => k_is)
    (case c0 => k_is)
    (case k0 => k_is)
    (case xi_NoHeap => kernel_rfl)
    (case y_NoHeap => k_is)
    (case hd_NoHeap => k_is)
    (case po_NoHeap => kernel_rfl)
    (case sa_NoHeap => k_is)
    (case na_NoHeap_part => k_is)
