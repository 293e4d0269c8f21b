import PyProof.Rows.All
import Wide.All
import OpenK.AllK
import Wide.FinOn
import PyProof.EqAt
import PyProof.EqKinds
import PyProof.TupleCall
import PyProof.NeKinds
import PyProof.StrLawsTight
import PyProof.ExcClass3
import PyProof.StationsW
import PyProof.ExcBaseAll.ValueError
import PyProof.NsDelKeeps
import PyProof.RulesAs
import PyProof.ExcArgsOwn
import PyProof.ExcAttrAll.ValueError
import PyProof.ZipIter
import PyProof.ListMulRoad
import KE.KDictSum
import PyProof.ListRange
import PyProof.Draws
import PyProof.EnumMake
import PyProof.Rows.Range3
import PyProof.Rows.SortShell
import PyProof.Conv_int_bool
import PyProof.Rows.SetFrom
import PyProof.Rows.SetObj
import PyProof.WalksMore
import KE.IntBitsLaws
import KE.KRevSl
import PyProof.FitsBits
import PyProof.CollectIter
import PyProof.IsRules
import PyProof.AttrMissHeap
import PyProof.WalksS
import KE.KDictOf
import PyProof.PureStr
import PyProof.StrOps2
import PyProof.SliceStr2
import PyProof.StrBlockI
import PyProof.CompFree
import PyProof.Rows.StrSplitJoin
import PyProof.StrCalls6
import PyProof.ConsumeWalk
import PyProof.StrLawsReplace
import PyProof.DictItems
import PyProof.Rows.SortRuns
import KE.KFind
import Lean
import PySem.Challenge.RW_shutpairs_k52_whole_as_many_keep
set_option Elab.async false
set_option linter.all false
set_option maxRecDepth 100000
namespace L2
open PySem PySem.Spec PyProof.Rows
abbrev Key := Sum Int Str
def keyIs : Key → Value → Bool
  | .inl k, v => Value.isInt k v
  | .inr x, v => Value.isStrOf x v
def keyH (w : World) : Key → Int
  | .inl k => hashInt k
  | .inr x => hashStr w x
theorem keyIs_shape : ∀ {k : Key} {v : Value}, keyIs k v = true → (∃ i t, k = Sum.inl i ∧ v = Value.int i t) ∨ (∃ x t, k = Sum.inr x ∧ v = Value.str x t)
  | .inl i, v, h => by
    obtain ⟨t, e⟩ := Value.isInt_shape (k := i) (v := v) h
    exact .inl ⟨i, t, rfl, e⟩
  | .inr x, v, h => by
    obtain ⟨t, e⟩ := Value.isStrOf_shape (x := x) (v := v) h
    exact .inr ⟨x, t, rfl, e⟩
theorem keyIs_int (i : Int) (t : Tok) : keyIs (.inl i) (.int i t) = true := by simp [keyIs, Value.isInt]
theorem keyIs_str (x : Str) (t : Tok) : keyIs (.inr x) (.str x t) = true := by simp [keyIs, Value.isStrOf]
theorem key_ll (a b : Int) : decide ((Sum.inl a : Key) = Sum.inl b) = (a == b) := by
  by_cases e : a = b
  · subst e; simp
  · have h : ¬ (Sum.inl a : Key) = Sum.inl b := fun q => e (Sum.inl.inj q)
    rw [decide_eq_false h]
    exact (beq_eq_false_iff_ne.mpr e).symm
theorem key_rr (a b : Str) : decide ((Sum.inr a : Key) = Sum.inr b) = decide (a = b) := by
  by_cases e : a = b
  · subst e; simp
  · have h : ¬ (Sum.inr a : Key) = Sum.inr b := fun q => e (Sum.inr.inj q)
    rw [decide_eq_false h, decide_eq_false e]
theorem key_lr (a : Int) (b : Str) : decide ((Sum.inl a : Key) = Sum.inr b) = false := decide_eq_false (fun q => nomatch q)
theorem key_rl (a : Str) (b : Int) : decide ((Sum.inr a : Key) = Sum.inl b) = false := decide_eq_false (fun q => nomatch q)
def mixKind (prog : Program) (w : World) : PySem.KeyKind prog w Key where
  is := keyIs
  hash := keyH w
  inj := fun v a b ha hb => by
    rcases keyIs_shape ha with ⟨i, t, rfl, rfl⟩ | ⟨x, t, rfl, rfl⟩
    · rcases keyIs_shape hb with ⟨j, u, rfl, e⟩ | ⟨y, u, rfl, e⟩
      · injection e with e1 _; rw [e1]
      · exact nomatch e
    · rcases keyIs_shape hb with ⟨j, u, rfl, e⟩ | ⟨y, u, rfl, e⟩
      · exact nomatch e
      · injection e with e1 _; rw [e1]
  byValue := fun k v h => by
    rcases keyIs_shape h with ⟨i, t, rfl, rfl⟩ | ⟨x, t, rfl, rfl⟩ <;> rfl
  pyHash := fun hv h => by
    rcases keyIs_shape hv with ⟨i, t, rfl, rfl⟩ | ⟨x, t, rfl, rfl⟩
    · exact wpAny_pyHash_int h
    · exact wpAny_pyHash_str h
  eqBool := fun hu hv h => by
    rcases keyIs_shape hu with ⟨i, t, rfl, rfl⟩ | ⟨x, t, rfl, rfl⟩
    · rcases keyIs_shape hv with ⟨j, u, rfl, rfl⟩ | ⟨y, u, rfl, rfl⟩
      · rw [key_ll] at h; exact wpAny_eqBool_int h
      · rw [key_lr] at h; exact SeqAt.EqAt.int_str i t y u _ _ _ _ h
    · rcases keyIs_shape hv with ⟨j, u, rfl, rfl⟩ | ⟨y, u, rfl, rfl⟩
      · rw [key_rl] at h; exact SeqAt.EqAt.str_int x t j u _ _ _ _ h
      · rw [key_rr] at h; exact wpAny_eqBool_str h
  «strs» := fun k x t v h => by
    rcases keyIs_shape h with ⟨i, u, rfl, e⟩ | ⟨y, u, rfl, e⟩
    · exact nomatch e
    · injection e with e1 _
      subst e1
      cases v <;> rfl
theorem mixKind_int (prog : Program) (w : World) (i : Int) (t : Tok) : (mixKind prog w).is (.inl i) (.int i t) = true := keyIs_int i t
theorem mixKind_str (prog : Program) (w : World) (x : Str) (t : Tok) : (mixKind prog w).is (.inr x) (.str x t) = true := keyIs_str x t
end L2
namespace L2
open PySem PySem.Spec PyProof.Rows
inductive V where
  | non | bl (b : Bool) | int (i : Int) | str (x : Str) | byt (b : Array UInt8) | flt (b : UInt64) | ref (a : Addr) | ty (n : String)
  deriving DecidableEq
def RelV : V → Value → Prop
  | .non, u => u = Value.none
  | .bl b, u => u = Value.bool b
  | .int i, u => ∃ t, u = Value.int i t
  | .str x, u => ∃ t, u = Value.str x t
  | .byt b, u => ∃ t, u = Value.bytes b t
  | .flt b, u => ∃ t, u = Value.float b t
  | .ref a, u => u = Value.ref a
  | .ty n, u => u = Value.type n
abbrev Vals : List V → List Value → Prop := Paired RelV
theorem Vals.length {xs : List V} {us : List Value} (r : Vals xs us) : xs.length = us.length := Paired.length r
theorem Vals.get : ∀ {xs : List V} {us : List Value} {i : Nat} {x : V}, Vals xs us → xs[i]? = some x → ∃ u, us[i]? = some u ∧ RelV x u
  | _, _, _, _, .nil, e => by simp at e
  | _, _, 0, _, .cons r _, e => by simp at e; subst e; exact ⟨_, rfl, r⟩
  | _, _, i + 1, x, .cons _ t, e => by
    obtain ⟨u, h1, h2⟩ := Vals.get (i := i) (x := x) t (by simpa using e)
    exact ⟨u, by simpa using h1, h2⟩
theorem Vals.set {x : V} {u : Value} (r : RelV x u) : ∀ {xs : List V} {us : List Value} (i : Nat), Vals xs us → Vals (xs.set i x) (us.set i u)
  | _, _, _, .nil => .nil
  | _, _, 0, .cons _ t => .cons r t
  | _, _, i + 1, .cons q t => .cons q (Vals.set r i t)
theorem Vals.append : ∀ {xs ys : List V} {us ws : List Value}, Vals xs us → Vals ys ws → Vals (xs ++ ys) (us ++ ws)
  | _, _, _, _, .nil, s => s
  | _, _, _, _, .cons r t, s => .cons r (Vals.append t s)
theorem Vals.take : ∀ {xs : List V} {us : List Value} (n : Nat), Vals xs us → Vals (xs.take n) (us.take n)
  | _, _, 0, _ => .nil
  | _, _, _ + 1, .nil => .nil
  | _, _, n + 1, .cons r t => .cons r (Vals.take n t)
theorem Vals.drop : ∀ {xs : List V} {us : List Value} (n : Nat), Vals xs us → Vals (xs.drop n) (us.drop n)
  | _, _, 0, r => r
  | _, _, _ + 1, .nil => .nil
  | _, _, n + 1, .cons _ t => Vals.drop n t
def RelO : Option V → Option Value → Prop
  | some v, some u => RelV v u
  | none, none => True
  | _, _ => False
def KV {κ : Type} : List (κ × V) → List (κ × Value) → Prop := Paired fun (p : κ × V) (q : κ × Value) => p.1 = q.1 ∧ RelV p.2 q.2
def kV : Key → V
  | .inl i => .int i
  | .inr x => .str x
inductive HO where
    | lst (xs : List V)
    | tup (xs : List V)
    | dK (kvs : List (Key × V)) | dT (kvs : List (List Key × V))
    | set (S : Int → Bool) (n : Nat)
    | ins (C dx : Addr) (fs : List (Str × V))
    | own (x : Addr)
    | xd (fs : List (Str × V))
    | met (f x : Addr)
    | rng (lo hi : Int)
    | frz (o : Obj) (u : HO)
    | tbl (ps : Array Value)
    | ext (φ : Heap → Prop)
abbrev Hp := Addr → Option HO
def upd (H : Hp) (a : Addr) (o : HO) : Hp := fun b => if b = a then some o else H b
theorem upd_same {H : Hp} {a : Addr} {o : HO} : upd H a o a = some o := by unfold upd; rw [if_pos rfl]
theorem upd_ne {H : Hp} {a b : Addr} {o : HO} (h : b ≠ a) : upd H a o b = H b := by unfold upd; rw [if_neg h]
theorem ne_of {H : Hp} {a b : Addr} {o u : HO} (h : H a = some o) (h' : H b = some u) (d : o ≠ u) : a ≠ b := by
  intro e; subst e; rw [h] at h'; exact d (Option.some.inj h')
theorem ne_of_none {H : Hp} {a b : Addr} {o : HO} (h : H a = some o) (h' : H b = none) : a ≠ b := by
  intro e; subst e; rw [h] at h'; cases h'
section
variable (P : Program) (w : World)
def ObjOk (H : Hp) (h : Heap) (a : Addr) : HO → Prop
  | .lst xs => xs.length ≤ sizeLine ∧ ∃ (its : List Value) (n : Nat), Vals xs its ∧ h.get? a = some { cls := .type "list", data := .seq its.toArray n }
  | .tup xs => xs.length ≤ sizeLine ∧ ∃ its : List Value, Vals xs its ∧ IsTup h a its.toArray ∧ ∀ o, h.get? a = some o → o.dict = none
  | .dK kvs => kvs.length ≤ sizeLine ∧ (a == sysModules) = false ∧ ∃ vs, KV kvs vs ∧ h.DictOf (mixKind P w) a vs
  | .dT kvs => kvs.length ≤ sizeLine ∧ (a == sysModules) = false ∧ ∃ xs : List (List Key × Addr × Value),
      Paired (fun (p : List Key × V) (q : List Key × Addr × Value) => p.1 = q.1 ∧ H q.2.1 = some (.tup (p.1.map kV)) ∧ RelV p.2 q.2.2) kvs xs ∧
      ∃ o es ep, h.get? a = some o ∧ o.ExactDict ∧ o.data = .dict es ep ∧ es.toList = xs.map (entryOfKey (tupleKind (mixKind P w))) ∧ (xs.map (·.1)).Nodup
  | .set S n => h.SetOf (intKind P w) a S n
  | .ins C dx fs => H dx = some (.own a) ∧ fs.length ≤ 1000 ∧ dx ≠ a ∧ h.get? a = some (PySem.W.instObj C dx) ∧
      ∃ mA, h.Ns1 dx mA ∧ (∀ f, RelO (fs.lookup f) (mA f)) ∧ PySem.Within mA (fs.map (·.1))
  | .own _ => ∃ o, h.get? a = some o
  | .xd fs => ∃ mA, h.Ns1 a mA ∧ ∀ f, RelO (fs.lookup f) (mA f)
  | .rng lo hi => ∃ t u v, h.get? a = some { cls := .type "range", data := .fields #[.int lo t, .int hi u, .int 1 v] }
  | .frz o u => h.get? a = some o ∧ ObjOk H h a u
  | .tbl ps => h.get? a = some { cls := .none, data := .fields ps }
  | .met f x => h.get? a = some (PySem.W.methodObj (.ref f) (.ref x))
  | .ext φ => φ h ∧ (∃ o, h.get? a = some o) ∧ ∀ h1 h2 : Heap, φ h1 → (∀ o, h1.get? a = some o → h2.get? a = some o) → φ h2
theorem tup_nodict {h : Heap} {its : Array Value} : ∀ o, (h.push { cls := .type "tuple", data := .seq its }).get? h.objs.size = some o → o.dict = none := by
  intro o e
  rw [Heap.get?_push_size _ rfl] at e
  cases e
  rfl
def HOk (H : Hp) (h : Heap) : Prop := ∀ a o, H a = some o → ObjOk P w H h a o
end
section
variable {P : Program} {w : World} {H H' : Hp} {h h' : Heap} {a : Addr} {o : HO}
theorem ObjOk.lt (x : ObjOk P w H h a o) : a < h.objs.size := by
  cases o with
  | lst xs => obtain ⟨_, _, _, _, e⟩ := x; exact Heap.lt_size e
  | tup xs => obtain ⟨_, _, _, p, _⟩ := x; exact p.lt
  | dK kvs => obtain ⟨_, _, _, _, o, _, _, e, _⟩ := x; exact Heap.lt_size e
  | dT kvs => obtain ⟨_, _, _, _, o, _, _, e, _⟩ := x; exact Heap.lt_size e
  | set S n => obtain ⟨o, _, _, _, e, _⟩ := x; exact Heap.lt_size e
  | ins C dx fs => obtain ⟨_, _, _, e, _⟩ := x; exact Heap.lt_size e
  | own y => obtain ⟨_, e⟩ := x; exact Heap.lt_size e
  | xd fs => obtain ⟨_, ⟨_, _, _, e, _⟩, _⟩ := x; exact Heap.lt_size e
  | rng lo hi => obtain ⟨_, _, _, e⟩ := x; exact Heap.lt_size e
  | frz ob u => obtain ⟨e, _⟩ := x; exact Heap.lt_size e
  | tbl ps => exact Heap.lt_size (show h.get? a = some _ from x)
  | met f y => exact Heap.lt_size (show h.get? a = some _ from x)
  | ext φ => obtain ⟨_, ⟨_, e⟩, _⟩ := x; exact Heap.lt_size e
theorem Paired.mapP {α β : Type} {F G : α → β → Prop} : ∀ {l₁ : List α} {l₂ : List β}, Paired F l₁ l₂ → (∀ a b, F a b → G a b) → Paired G l₁ l₂
  | _, _, .nil, _ => .nil
  | _, _, .cons r t, f => .cons (f _ _ r) (Paired.mapP t f)
theorem ObjOk.stay (x : ObjOk P w H h a o) (k : ∀ b u, (b = a ∨ H b = some (.own a)) → h.get? b = some u → h'.get? b = some u)
    (ho : ∀ b, H b = some (.own a) → H' b = some (.own a)) (ht : ∀ b xs, H b = some (.tup xs) → H' b = some (.tup xs)) : ObjOk P w H' h' a o := by
  induction o with
  | lst xs => obtain ⟨z, its, n, r, e⟩ := x; exact ⟨z, its, n, r, k _ _ (.inl rfl) e⟩
  | tup xs =>
    obtain ⟨z, its, r, ⟨ob, e, c⟩, nd⟩ := x
    have e' := k _ _ (.inl rfl) e
    exact ⟨z, its, r, ⟨ob, e', c⟩, fun o q => by rw [e'] at q; cases q; exact nd ob e⟩
  | dK kvs => obtain ⟨z, y, vs, r, ob, es, ep, e, c⟩ := x; exact ⟨z, y, vs, r, ob, es, ep, k _ _ (.inl rfl) e, c⟩
  | dT kvs =>
    obtain ⟨z, y, xs, r, ob, es, ep, e, c⟩ := x
    exact ⟨z, y, xs, Paired.mapP r fun p q z => ⟨z.1, ht _ _ z.2.1, z.2.2⟩, ob, es, ep, k _ _ (.inl rfl) e, c⟩
  | set S n => obtain ⟨ob, es, ep, t, e, c⟩ := x; exact ⟨ob, es, ep, t, k _ _ (.inl rfl) e, c⟩
  | ins C dx fs =>
    obtain ⟨d, z, ne, e, mA, ⟨od, es, ep, e2, c⟩, r⟩ := x
    exact ⟨ho _ d, z, ne, k _ _ (.inl rfl) e, mA, ⟨od, es, ep, k _ _ (.inr d) e2, c⟩, r⟩
  | own y => obtain ⟨ob, e⟩ := x; exact ⟨ob, k _ _ (.inl rfl) e⟩
  | xd fs => obtain ⟨mA, ⟨od, es, ep, e, c⟩, r⟩ := x; exact ⟨mA, ⟨od, es, ep, k _ _ (.inl rfl) e, c⟩, r⟩
  | rng lo hi => obtain ⟨t, u, v, e⟩ := x; exact ⟨t, u, v, k _ _ (.inl rfl) e⟩
  | frz ob u ih => obtain ⟨e, q⟩ := x; exact ⟨k _ _ (.inl rfl) e, ih q⟩
  | tbl ps =>
    have e : h.get? a = some { cls := .none, data := .fields ps } := x
    show h'.get? a = some { cls := .none, data := .fields ps }
    exact k a _ (.inl rfl) e
  | met f y =>
    have e : h.get? a = some (PySem.W.methodObj (.ref f) (.ref y)) := x
    show h'.get? a = some (PySem.W.methodObj (.ref f) (.ref y))
    exact k a _ (.inl rfl) e
  | ext φ => obtain ⟨p, ⟨o, e⟩, st⟩ := x; exact ⟨st _ _ p fun o q => k _ _ (.inl rfl) q, ⟨o, k _ _ (.inl rfl) e⟩, st⟩
theorem HOk.lt (x : HOk P w H h) (e : H a = some o) : a < h.objs.size := (x a o e).lt
theorem HOk.fresh (x : HOk P w H h) (e : h.objs.size ≤ a) : H a = none := by
  cases q : H a with
  | none => rfl
  | some u => exact absurd (Nat.lt_of_lt_of_le (x.lt q) e) (Nat.lt_irrefl _)
theorem HOk.kept (x : HOk P w H h) (k : ∀ b u, h.get? b = some u → h'.get? b = some u) : HOk P w H h' := fun a o e =>
  (x a o e).stay (fun b u _ q => k b u q) (fun _ q => q) fun _ _ q => q
theorem HOk.laid (x : HOk P w H h) (k : ∀ b u, h.get? b = some u → h'.get? b = some u) (hp : h.objs.size ≤ a) (new : ObjOk P w (upd H a o) h' a o) : HOk P w (upd H a o) h' := fun b u e => by
  have hn := x.fresh hp
  by_cases hb : b = a
  · subst hb; rw [upd_same] at e; cases e; exact new
  · rw [upd_ne hb] at e
    exact (x b u e).stay (fun c v _ q => k c v q) (fun c q => by rw [upd_ne (ne_of_none q hn)]; exact q) fun c xs q => by rw [upd_ne (ne_of_none q hn)]; exact q
end
def Rd (H : Hp) (a : Addr) (u : HO) : Prop := H a = some u ∨ ∃ o, H a = some (.frz o u)
theorem Rd.ok {P : Program} {w : World} {H : Hp} {h : Heap} {a : Addr} {u : HO} (r : Rd H a u) (x : HOk P w H h) : ObjOk P w H h a u := by
  rcases r with r | ⟨o, r⟩
  · exact x a u r
  · obtain ⟨_, q⟩ := x a _ r
    exact q
def Mut : Option HO → Prop
  | some (.lst _) => True
  | some (.dK _) => True
  | some (.dT _) => True
  | some (.set _ _) => True
  | some (.ins _ _ _) => True
  | some (.ext _) => True
  | _ => False
section
variable {P : Program} {w : World} {H : Hp} {h h' : Heap} {x e : Addr} {o' : HO}
theorem HOk.write (ok : HOk P w H h) (mu : Mut (H x)) (he : e = x ∨ H e = some (.own x)) (k : ∀ b u, b ≠ e → h.get? b = some u → h'.get? b = some u) (heo : ∃ u, h'.get? e = some u)
    (new : ObjOk P w (upd H x o') h' x o') : HOk P w (upd H x o') h' := fun b u q => by
  have nown : ∀ c y, H c = some (.own y) → c ≠ x := fun c y r z => by subst z; rw [r] at mu; exact mu
  have ntup : ∀ c xs, H c = some (.tup xs) → c ≠ x := fun c xs r z => by subst z; rw [r] at mu; exact mu
  by_cases hb : b = x
  · subst hb; rw [upd_same] at q; cases q; exact new
  · rw [upd_ne hb] at q
    by_cases hbe : b = e
    · have q' : H b = some (.own x) := by
        rcases he with z | z
        · exact absurd (hbe.trans z) hb
        · rw [hbe]; exact z
      rw [q] at q'; cases q'
      obtain ⟨v, hv⟩ := heo
      exact ⟨v, by rw [hbe]; exact hv⟩
    · refine (ok b u q).stay (fun c v hc r => k c v ?_ r) (fun c r => by rw [upd_ne (nown c b r)]; exact r) fun c xs r => by rw [upd_ne (ntup c xs r)]; exact r
      rcases hc with rfl | hc
      · exact hbe
      · rintro rfl
        rcases he with z | z
        · exact nown c b hc z
        · rw [hc] at z; cases z; exact hb rfl
end
structure Un (fs ex : List Addr) (H H' : Hp) (h h' : Heap) : Prop where
  keep : ∀ b o, h.get? b = some o → H b = none → b ∉ fs → b ∉ ex → h'.get? b = some o
  slot : ∀ b o, h.get? b = some o → H b = none → b ∈ fs → b ∉ ex → ∃ sl, h'.get? b = some { o with slots := sl }
  free : ∀ b o, h.get? b = some o → H b = none → b ∉ ex → H' b = none
  there : ∀ b o, h.get? b = some o → b ∉ ex → ∃ o', h'.get? b = some o'
  tups : ∀ b xs, H b = some (.tup xs) → H' b = some (.tup xs)
  frzs : ∀ b o u, H b = some (.frz o u) → H' b = some (.frz o u)
  tbls : ∀ b ps, H b = some (.tbl ps) → ∃ more, H' b = some (.tbl (ps ++ more))
section
variable {fs fs' ex ex' : List Addr} {H H1 H2 : Hp} {h h1 h2 h' : Heap} {a x e : Addr} {o : HO}
theorem Un.any (u : Un fs ex H H1 h h1) {b : Addr} {ob : Obj} (q : h.get? b = some ob) (n : H b = none) (hx : b ∉ ex) : ∃ sl, h1.get? b = some { ob with slots := sl } := by
  by_cases hb : b ∈ fs
  · exact u.slot b ob q n hb hx
  · exact ⟨ob.slots, u.keep b ob q n hb hx⟩
theorem Un.trans (a : Un fs ex H H1 h h1) (b : Un fs ex H1 H2 h1 h2) : Un fs ex H H2 h h2 where
  keep := fun c ob q n hc hx => b.keep c ob (a.keep c ob q n hc hx) (a.free c ob q n hx) hc hx
  slot := fun c ob q n hc hx => by
    obtain ⟨sl, e1⟩ := a.slot c ob q n hc hx
    obtain ⟨sl', e2⟩ := b.slot c _ e1 (a.free c ob q n hx) hc hx
    exact ⟨sl', e2⟩
  free := fun c ob q n hx => by
    obtain ⟨o', e1⟩ := a.there c ob q hx
    exact b.free c o' e1 (a.free c ob q n hx) hx
  there := fun c ob q hx => by
    obtain ⟨o', e1⟩ := a.there c ob q hx
    exact b.there c o' e1 hx
  tups := fun c xs q => b.tups c xs (a.tups c xs q)
  frzs := fun c ob xs q => b.frzs c ob xs (a.frzs c ob xs q)
  tbls := fun c ps q => by
    obtain ⟨m1, e1⟩ := a.tbls c ps q
    obtain ⟨m2, e2⟩ := b.tbls c _ e1
    exact ⟨m1 ++ m2, by rw [e2, Array.append_assoc]⟩
theorem Un.kept (k : ∀ b u, h.get? b = some u → h'.get? b = some u) : Un fs ex H H h h' :=
  ⟨fun b ob q _ _ _ => k b ob q, fun b ob q _ _ _ => ⟨ob.slots, k b ob q⟩, fun _ _ _ n _ => n, fun b ob q _ => ⟨ob, k b ob q⟩, fun _ _ q => q, fun _ _ _ q => q, fun _ ps q => ⟨#[], by rw [q]; simp⟩⟩
theorem Un.refl : Un fs ex H H h h := Un.kept fun _ _ q => q
theorem Un.laid (k : ∀ b u, h.get? b = some u → h'.get? b = some u) (hp : h.objs.size ≤ a) (hn : H a = none) : Un fs ex H (upd H a o) h h' where
  keep := fun b u q _ _ _ => k b u q
  slot := fun b u q _ _ _ => ⟨u.slots, k b u q⟩
  free := fun b u q n _ => by rw [upd_ne (Nat.ne_of_lt (Nat.lt_of_lt_of_le (Heap.lt_size q) hp))]; exact n
  there := fun b u q _ => ⟨u, k b u q⟩
  tups := fun b xs q => by rw [upd_ne (ne_of_none q hn)]; exact q
  frzs := fun b u xs q => by rw [upd_ne (ne_of_none q hn)]; exact q
  tbls := fun b ps q => ⟨#[], by rw [upd_ne (ne_of_none q hn), q]; simp⟩
theorem Un.write (mu : Mut (H x)) (he : e = x ∨ H e = some (.own x)) (k : ∀ b u, b ≠ e → h.get? b = some u → h'.get? b = some u) (heo : ∃ u, h'.get? e = some u) : Un fs ex H (upd H x o) h h' := by
  have hx : ∀ b, H b = none → b ≠ x := fun b n z => by subst z; rw [n] at mu; exact mu
  have hb : ∀ b, H b = none → b ≠ e := fun b n z => by
    subst z
    rcases he with r | r
    · exact hx b n r
    · rw [n] at r; cases r
  have hm : ∀ b u, H b = some u → ¬ Mut (some u) → b ≠ x := fun b u q nm z => by subst z; rw [q] at mu; exact nm mu
  refine ⟨fun b u q n _ _ => k b u (hb b n) q, fun b u q n _ _ => ⟨u.slots, k b u (hb b n) q⟩, fun b u q n _ => by rw [upd_ne (hx b n)]; exact n, fun b u q _ => ?_,
    fun b xs q => by rw [upd_ne (hm b _ q fun z => z)]; exact q, fun b u xs q => by rw [upd_ne (hm b _ q fun z => z)]; exact q, fun b ps q => ⟨#[], by rw [upd_ne (hm b _ q fun z => z), q]; simp⟩⟩
  by_cases hbe : b = e
  · subst hbe; exact heo
  · exact ⟨u, k b u hbe q⟩
end
def trk (h : Heap) (H : Hp) : List Addr := (List.range h.objs.size).filter fun a => (H a).isSome
def hidT (h : Heap) (H : Hp) : Heap := PySem.W.hideAll h (trk h H)
theorem hidT_size (h : Heap) (H : Hp) : (hidT h H).objs.size = h.objs.size := PySem.W.hideAll_size _ _
theorem hidT_get {h : Heap} {H : Hp} {b : Addr} {o : Obj} (e : h.get? b = some o) (n : H b = none) : (hidT h H).get? b = some o :=
  PySem.W.hideAll_get _ e fun hm => by
    have q : (H b).isSome = true := (List.mem_filter.mp hm).2
    rw [n] at q; simp at q
theorem of_hidT {h : Heap} {H : Hp} {b : Addr} {o : Obj} (e : (hidT h H).get? b = some o) : h.get? b = some o ∧ H b = none := by
  have e' : h.get? b = some o := PySem.W.of_hideAll (trk h H) e
  refine ⟨e', ?_⟩
  cases q : H b with
  | none => rfl
  | some x =>
    have hm : b ∈ trk h H := List.mem_filter.mpr ⟨List.mem_range.mpr (Heap.lt_size e'), by simp [q]⟩
    have z : (hidT h H).get? b = none := PySem.W.hideAll_none (trk h H) hm
    rw [z] at e; cases e
def allNews (g h : Heap) (L : Addr) : List (Addr × Obj) := (List.range h.objs.size).filterMap fun a => if a = L ∨ (g.get? a).isSome = true then none else (h.get? a).map fun o => (a, o)
def rest (g h : Heap) (L d : Addr) : List (Addr × Obj) := (allNews g h L).filter fun p => decide (p.1 ≠ d)
end L2
namespace L2
open PySem PySem.Spec PyProof.Rows
structure Mod (K : PySem.W.Frag) (mg : Str → Option Value) (base : Heap) : Prop where
  kin : K.In base
  glob : base.Ns mainGlobals mg
  blt : ∃ mb, base.Ns builtinsNs mb ∧ ∀ x : Str, x ≠ "__name__" → mb x = bootBuiltins x
  nolimit : base.NoLimit
structure Cx where
  prog : Program
  w : World
  K : PySem.W.Frag
  mg : Str → Option Value
  base : Heap
  A : Around
  N : List Str
  s₀ : Shared
  H₀ : Hp
  env : Env
  outer : List Env
  stack : List Env
  ex : List Addr
  fn : Str → Bool
  calm : Bool
  pn : List (Addr × Obj)
  xe : Value → Shared → Prop
def frs (l : List Env) : List Addr := l.filterMap (·.frame)
abbrev Cx.fs (X : Cx) : List Addr := frs X.outer
def Vis (sc : Scope) (x : Str) : Prop := sc.names.lookup x = some .local ∨ sc.names.lookup x = some .cell ∨ sc.names.lookup x = some .free
def Loc (sc : Scope) (x : Str) : Prop := sc.names.lookup x = some .local ∨ sc.names.lookup x = some .cell
def Look (env : Env) (h : Heap) (m : Str → Option Value) (x : Str) (u : Value) : Prop :=
  (env.kindOf x = some .local ∧ m x = some u) ∨ ((env.kindOf x = some .cell ∨ env.kindOf x = some .free) ∧ ∃ c, env.cells.lookup x = some c ∧ h.IsCell c (some u))
structure Cx.Ok (X : Cx) : Prop where
  mod : Mod X.K X.mg X.base
  kind : X.env.scope.kind = .function
  glob : X.env.globals = mainGlobals
  blt : X.env.builtins = builtinsNs
  above : X.s₀.heap.objs.size ≤ X.env.locals
  inj : ∀ x y c, X.env.cells.lookup x = some c → X.env.cells.lookup y = some c → x = y
  has : ∀ x, (X.env.kindOf x = some .cell ∨ X.env.kindOf x = some .free) → ∃ c, X.env.cells.lookup x = some c
  cab : ∀ x c, X.fn x = true → X.env.cells.lookup x = some c → X.s₀.heap.objs.size ≤ c
  hd : X.calm = true → X.A.handled = none
  frames : X.A.frames = some X.stack
  stk : X.stack = X.outer ∨ (X.stack = X.env :: X.outer ∧ X.env.frame = some X.env.locals)
  exf : ∀ b ∈ X.ex, b ≠ X.env.locals ∧ ∀ x c, X.env.cells.lookup x = some c → c ≠ b
  bs : ∀ b o, X.base.get? b = some o → X.s₀.heap.get? b = some o ∧ X.H₀ b = none
  bsz : X.base.objs.size ≤ X.s₀.heap.objs.size
  noex : ∀ b o, X.base.get? b = some o → b ∉ X.ex
  exfs : ∀ b ∈ X.ex, b ∉ X.fs
  funs : X.s₀.heap.FunFrames X.base X.outer
  frf : ∀ b ∈ X.fs, X.H₀ b = none
structure Inv (X : Cx) (pins : List (Addr × Obj)) (σ : List (Option V)) (H : Hp) (s : Shared) : Prop where
  ok : X.Ok
  os : s.os = X.s₀.os
  bare : AllBare s.gens
  base : Un X.fs X.ex X.H₀ H X.s₀.heap s.heap
  loc : ∃ m, s.heap.Ns X.env.locals m ∧ ∀ (i : Nat) (x : Str) (v : V), X.N[i]? = some x → σ[i]? = some (some v) → Vis X.env.scope x → ∃ u, RelV v u ∧ Look X.env s.heap m x u
  cell : ∀ x c, X.env.cells.lookup x = some c → ∃ v, s.heap.IsCell c v
  free : H X.env.locals = none
  freeC : ∀ x c, X.env.cells.lookup x = some c → H c = none
  pin : ∀ p ∈ X.pn ++ pins, s.heap.get? p.1 = some p.2 ∧ H p.1 = none ∧ p.1 ≠ X.env.locals ∧ p.1 ∉ X.fs ∧ ∀ v, p.2.data ≠ .cell v
  hok : HOk X.prog X.w H s.heap
  len : σ.length = X.N.length
section
variable {X : Cx} {pins : List (Addr × Obj)} {σ : List (Option V)} {H H' : Hp} {s : Shared} {h' : Heap}
theorem Cx.Ok.nofr (ok : X.Ok) {b : Addr} {o : Obj} (e : X.base.get? b = some o) : b ∉ X.fs := fun hb => by
  have := (ok.funs.mem hb).1
  rw [e] at this; cases this
theorem Inv.bs (I : Inv X pins σ H s) : ∀ b o, X.base.get? b = some o → s.heap.get? b = some o ∧ H b = none := fun b o e =>
  ⟨I.base.keep b o (I.ok.bs b o e).1 (I.ok.bs b o e).2 (I.ok.nofr e) (I.ok.noex b o e), I.base.free b o (I.ok.bs b o e).1 (I.ok.bs b o e).2 (I.ok.noex b o e)⟩
theorem Inv.bk (I : Inv X pins σ H s) : ∀ b o, X.base.get? b = some o → s.heap.get? b = some o := fun b o e => (I.bs b o e).1
theorem Inv.mod (I : Inv X pins σ H s) : Mod X.K X.mg X.base := I.ok.mod
theorem Inv.kIn (I : Inv X pins σ H s) : X.K.In s.heap := I.ok.mod.kin.keeps I.bk
theorem Inv.lt (I : Inv X pins σ H s) : X.env.locals < s.heap.objs.size := let ⟨_, hn, _⟩ := I.loc; hn.lt
theorem Inv.sz (I : Inv X pins σ H s) : X.s₀.heap.objs.size ≤ s.heap.objs.size := Nat.le_trans I.ok.above (Nat.le_of_lt I.lt)
theorem Inv.nofs (I : Inv X pins σ H s) {a : Addr} (h : s.heap.objs.size ≤ a) : a ∉ X.fs := fun hb => by
  obtain ⟨_, o, ho, _⟩ := I.ok.funs.mem hb
  exact absurd (Nat.lt_of_lt_of_le (Heap.lt_size ho) (Nat.le_trans I.sz h)) (Nat.lt_irrefl _)
theorem Inv.cne (I : Inv X pins σ H s) : ∀ x c, X.env.cells.lookup x = some c → c ≠ X.env.locals := fun x c e z => by
  obtain ⟨v, o, ho, hd⟩ := I.cell x c e
  obtain ⟨m, ⟨o', es, ep, ho', hd', _⟩, _⟩ := I.loc
  rw [z, ho'] at ho; cases ho; rw [hd'] at hd; cases hd
theorem Inv.funs (I : Inv X pins σ H s) : s.heap.FunFrames X.base X.outer := by
  have all : ∀ (l : List Env), (∀ b ∈ frs l, b ∈ X.fs) → X.s₀.heap.FunFrames X.base l → s.heap.FunFrames X.base l := by
    intro l
    induction l with
    | nil => intro _ _; trivial
    | cons env r ih =>
      intro hs hl
      obtain ⟨hk, ⟨L, o, hf, hn, ho, hd⟩, hr⟩ := hl
      have hL : L ∈ X.fs := hs L (by unfold frs; rw [List.filterMap_cons, hf]; exact List.mem_cons_self)
      obtain ⟨sl, e⟩ := I.base.slot L o ho (I.ok.frf L hL) hL fun z => I.ok.exfs L z hL
      exact ⟨hk, ⟨L, _, hf, hn, e, hd⟩, ih (fun b hb => hs b (by unfold frs; rw [List.filterMap_cons, hf]; exact List.mem_cons_of_mem _ hb)) hr⟩
  exact all X.outer (fun _ hb => hb) I.ok.funs
theorem Inv.stack (I : Inv X pins σ H s) : s.heap.FunFrames X.base X.stack := by
  rcases I.ok.stk with e | ⟨e, hf⟩
  · rw [e]; exact I.funs
  · rw [e]
    obtain ⟨m, hn, _⟩ := I.loc
    refine .cons (by rw [I.ok.kind]; decide) hf hn ?_ I.funs
    exact Heap.get?_none_of_le (Nat.le_trans I.ok.bsz I.ok.above)
theorem Inv.stkSub (I : Inv X pins σ H s) : ∀ b ∈ frs X.stack, b ∈ X.env.locals :: X.fs := fun b hb => by
  rcases I.ok.stk with e | ⟨e, hf⟩
  · rw [e] at hb; exact List.mem_cons_of_mem _ hb
  · rw [e] at hb
    unfold frs at hb
    rw [List.filterMap_cons, hf] at hb
    exact hb
theorem Inv.stkFree (I : Inv X pins σ H s) : ∀ b ∈ frs X.stack, H b = none := fun b hb => by
  rcases List.mem_cons.mp (I.stkSub b hb) with e | hb
  · rw [e]; exact I.free
  · obtain ⟨_, o, ho, _⟩ := I.ok.funs.mem hb
    exact I.base.free b o ho (I.ok.frf b hb) fun z => I.ok.exfs b z hb
theorem Inv.step {g' : Array GenState} {t' : Nat} {d' : Drawn} {ch : List Addr} (I : Inv X pins σ H s)
    (hch : ∀ b ∈ ch, (b ∈ X.ex ∨ X.s₀.heap.objs.size ≤ b) ∧ b ≠ X.env.locals ∧ (∀ x c, X.env.cells.lookup x = some c → c ≠ b) ∧ ∀ p ∈ X.pn ++ pins, p.1 ≠ b)
    (keep : ∀ b o, b ≠ X.env.locals → b ∉ X.fs → b ∉ ch → s.heap.get? b = some o → H b = none → h'.get? b = some o)
    (slot : ∀ b o, b ≠ X.env.locals → b ∈ X.fs → b ∉ ch → s.heap.get? b = some o → H b = none → ∃ sl, h'.get? b = some { o with slots := sl }) (free : ∀ b o, b ∉ ch → s.heap.get? b = some o → H b = none → H' b = none)
    (there : ∀ b o, b ∉ ch → s.heap.get? b = some o → ∃ o', h'.get? b = some o')
    (tups : ∀ b xs, H b = some (.tup xs) → H' b = some (.tup xs)) (frzs : ∀ b o u, H b = some (.frz o u) → H' b = some (.frz o u)) (tbls : ∀ b ps, H b = some (.tbl ps) → ∃ more, H' b = some (.tbl (ps ++ more)))
    (ns : ∀ m, s.heap.Ns X.env.locals m → h'.Ns X.env.locals m) (hok : HOk X.prog X.w H' h') (hg : AllBare g') :
    Inv X pins σ H' { s with heap := h', gens := g', drawn := d', toks := t' } := by
  have neL : ∀ b o, X.s₀.heap.get? b = some o → b ≠ X.env.locals := fun b o e => Nat.ne_of_lt (Nat.lt_of_lt_of_le (Heap.lt_size e) I.ok.above)
  have neC : ∀ b o, X.s₀.heap.get? b = some o → b ∉ X.ex → b ∉ ch := fun b o e hx hb => by
    rcases (hch b hb).1 with z | z
    · exact hx z
    · exact absurd (Nat.lt_of_lt_of_le (Heap.lt_size e) z) (Nat.lt_irrefl _)
  have cellK : ∀ x c, X.env.cells.lookup x = some c → ∀ v, s.heap.IsCell c v → h'.IsCell c v := fun x c e v ⟨o, ho, hd⟩ => by
    have nch : c ∉ ch := fun z => (hch c z).2.2.1 x c e rfl
    by_cases hc : c ∈ X.fs
    · obtain ⟨sl, q⟩ := slot c o (I.cne x c e) hc nch ho (I.freeC x c e)
      exact ⟨_, q, hd⟩
    · exact ⟨o, keep c o (I.cne x c e) hc nch ho (I.freeC x c e), hd⟩
  refine ⟨I.ok, I.os, hg, ⟨fun b o e n hb hx => ?_, fun b o e n hb hx => ?_, fun b o e n hx => ?_, fun b o e hx => ?_, fun b xs e => tups b xs (I.base.tups b xs e), fun b o xs e => frzs b o xs (I.base.frzs b o xs e), fun b ps e => ?_⟩, ?_, fun x c e => ?_, ?_, fun x c e => ?_, fun p hp => ?_, hok, I.len⟩
  · exact keep b o (neL b o e) hb (neC b o e hx) (I.base.keep b o e n hb hx) (I.base.free b o e n hx)
  · obtain ⟨sl, e1⟩ := I.base.slot b o e n hb hx
    obtain ⟨sl', e2⟩ := slot b _ (neL b o e) hb (neC b o e hx) e1 (I.base.free b o e n hx)
    exact ⟨sl', e2⟩
  · obtain ⟨o', e1⟩ := I.base.there b o e hx
    exact free b o' (neC b o e hx) e1 (I.base.free b o e n hx)
  · obtain ⟨o', e1⟩ := I.base.there b o e hx
    exact there b o' (neC b o e hx) e1
  · obtain ⟨m1, e1⟩ := I.base.tbls b ps e
    obtain ⟨m2, e2⟩ := tbls b _ e1
    exact ⟨m1 ++ m2, by rw [e2, Array.append_assoc]⟩
  · obtain ⟨m, hn, hl⟩ := I.loc
    refine ⟨m, ns m hn, fun i x v e1 e2 e3 => ?_⟩
    obtain ⟨u, r, l⟩ := hl i x v e1 e2 e3
    refine ⟨u, r, ?_⟩
    rcases l with l | ⟨k, c, e, z⟩
    · exact .inl l
    · exact .inr ⟨k, c, e, cellK x c e _ z⟩
  · obtain ⟨v, z⟩ := I.cell x c e
    exact ⟨v, cellK x c e v z⟩
  · obtain ⟨m, ⟨o, _, _, ho, _⟩, _⟩ := I.loc
    exact free _ o (fun z => (hch _ z).2.1 rfl) ho I.free
  · obtain ⟨v, o, ho, hd⟩ := I.cell x c e
    exact free c o (fun z => (hch c z).2.2.1 x c e rfl) ho (I.freeC x c e)
  · obtain ⟨e, n, ne, nf, d⟩ := I.pin p hp
    have nch : p.1 ∉ ch := fun z => (hch p.1 z).2.2.2 p hp rfl
    exact ⟨keep p.1 p.2 ne nf nch e n, free p.1 p.2 nch e n, ne, nf, d⟩
theorem Inv.un {t' : Nat} (I : Inv X pins σ H s) (u : Un X.fs [] H H' s.heap h') (hok : HOk X.prog X.w H' h') : Inv X pins σ H' { s with heap := h', toks := t' } := by
  obtain ⟨m, ⟨o, es, ep, ho, r⟩, _⟩ := id I.loc
  obtain ⟨sl, hL⟩ := u.any ho I.free (by simp)
  exact I.step (g' := s.gens) (d' := s.drawn) (ch := []) (fun _ z => nomatch z) (fun b o _ hb _ e n => u.keep b o e n hb (by simp)) (fun b o _ hb _ e n => u.slot b o e n hb (by simp)) (fun b o _ e n => u.free b o e n (by simp)) (fun b o _ e => u.there b o e (by simp)) u.tups u.frzs u.tbls (fun m' hm => by
    obtain ⟨o', es', ep', ho', r'⟩ := hm
    rw [ho] at ho'; cases ho'
    exact ⟨_, es', ep', hL, r'⟩) hok I.bare
theorem Inv.call {g' : Array GenState} {t' : Nat} {d' : Drawn} {ch : List Addr} (I : Inv X pins σ H s) (u : Un (frs X.stack) ch H H' s.heap h') (hok : HOk X.prog X.w H' h') (hg : AllBare g')
    (hch : ∀ b ∈ ch, (b ∈ X.ex ∨ X.s₀.heap.objs.size ≤ b) ∧ b ≠ X.env.locals ∧ (∀ x c, X.env.cells.lookup x = some c → c ≠ b) ∧ ∀ p ∈ X.pn ++ pins, p.1 ≠ b) :
    Inv X pins σ H' { s with heap := h', gens := g', drawn := d', toks := t' } := by
  obtain ⟨m, ⟨o, es, ep, ho, r⟩, _⟩ := id I.loc
  obtain ⟨sl, hL⟩ := u.any ho I.free fun z => (hch _ z).2.1 rfl
  exact I.step (ch := ch) hch (fun b o hL hb hc e n => u.keep b o e n (fun z => (List.mem_cons.mp (I.stkSub b z)).elim hL hb) hc) (fun b o _ _ hc e n => u.any e n hc) (fun b o hc e n => u.free b o e n hc) (fun b o hc e => u.there b o e hc) u.tups u.frzs u.tbls (fun m' hm => by
    obtain ⟨o', es', ep', ho', r'⟩ := hm
    rw [ho] at ho'; cases ho'
    exact ⟨_, es', ep', hL, r'⟩) hok hg
theorem Inv.turned {t' : Nat} {it : Addr} (I : Inv X pins σ H s) (k : ∀ b o, b ≠ it → s.heap.get? b = some o → h'.get? b = some o) (hn : H it = none) (hL : it ≠ X.env.locals)
    (h1 : it ∈ X.ex ∨ X.s₀.heap.objs.size ≤ it) (h2 : ∀ x c, X.env.cells.lookup x = some c → c ≠ it) (h3 : ∀ p ∈ X.pn ++ pins, p.1 ≠ it) : Inv X pins σ H { s with heap := h', toks := t' } := by
  have nit : ∀ b u, H b = some u → b ≠ it := fun b u e z => by rw [z, hn] at e; cases e
  refine I.step (g' := s.gens) (d' := s.drawn) (ch := [it]) (fun b hb => ?_) (fun b o _ _ hc e _ => k b o (fun z => hc (by simp [z])) e) (fun b o _ _ hc e _ => ⟨o.slots, k b o (fun z => hc (by simp [z])) e⟩) (fun _ _ _ _ n => n)
    (fun b o hc e => ⟨o, k b o (fun z => hc (by simp [z])) e⟩) (fun _ _ e => e) (fun _ _ _ e => e) (fun b ps e => ⟨#[], by rw [e]; simp⟩) (fun m hm => ?_) (fun b u e => ?_) I.bare
  · have e : b = it := by simpa using hb
    subst e
    exact ⟨h1, hL, h2, h3⟩
  · obtain ⟨o, es, ep, ho, r⟩ := hm
    exact ⟨o, es, ep, k _ o (Ne.symm hL) ho, r⟩
  · refine (I.hok b u e).stay (fun c v hc q => k c v ?_ q) (fun _ q => q) fun _ _ q => q
    rcases hc with z | z
    · rw [z]; exact nit b u e
    · exact nit c _ z
theorem Inv.tok (I : Inv X pins σ H s) (t : Nat) : Inv X pins σ H { s with toks := t } := I.un (h' := s.heap) (t' := t) Un.refl I.hok
theorem Inv.kept {t' : Nat} (I : Inv X pins σ H s) (k : ∀ b u, s.heap.get? b = some u → h'.get? b = some u) : Inv X pins σ H { s with heap := h', toks := t' } := I.un (Un.kept k) (I.hok.kept k)
theorem Inv.laid {a : Addr} {o : HO} {t' : Nat} (I : Inv X pins σ H s) (k : ∀ b u, s.heap.get? b = some u → h'.get? b = some u) (hp : s.heap.objs.size ≤ a) (new : ObjOk X.prog X.w (upd H a o) h' a o) :
    Inv X pins σ (upd H a o) { s with heap := h', toks := t' } := I.un (Un.laid k hp (I.hok.fresh hp)) (I.hok.laid k hp new)
theorem Inv.write {x e : Addr} {o : HO} {t' : Nat} (I : Inv X pins σ H s) (mu : Mut (H x)) (he : e = x ∨ H e = some (.own x)) (k : ∀ b u, b ≠ e → s.heap.get? b = some u → h'.get? b = some u) (heo : ∃ u, h'.get? e = some u)
    (new : ObjOk X.prog X.w (upd H x o) h' x o) : Inv X pins σ (upd H x o) { s with heap := h', toks := t' } := I.un (Un.write mu he k heo) (I.hok.write mu he k heo new)
theorem Inv.pins_of {pins' : List (Addr × Obj)} (I : Inv X pins σ H s) (h : ∀ p ∈ pins', s.heap.get? p.1 = some p.2 ∧ H p.1 = none ∧ p.1 ≠ X.env.locals ∧ p.1 ∉ X.fs ∧ ∀ v, p.2.data ≠ .cell v) : Inv X pins' σ H s :=
  ⟨I.ok, I.os, I.bare, I.base, I.loc, I.cell, I.free, I.freeC, fun p hp => (List.mem_append.mp hp).elim (fun z => I.pin p (List.mem_append_left _ z)) (h p), I.hok, I.len⟩
theorem nodup_ix {N : List Str} (hN : N.Nodup) {i j : Nat} {x : Str} (a : N[i]? = some x) (b : N[j]? = some x) : i = j := by
  obtain ⟨h1, e1⟩ := List.getElem?_eq_some_iff.mp a
  obtain ⟨h2, e2⟩ := List.getElem?_eq_some_iff.mp b
  exact (List.getElem_inj hN).mp (e1.trans e2.symm)
theorem store_ok2 {M : Model} {A : Around} {E : Value → Shared → Prop} {i : Nat} {x : Str} {v : V} {u : Value} {Q : Unit → Shared → Prop} (I : Inv X pins σ H s) (hN : X.N.Nodup) (hi : X.N[i]? = some x) (hx : Loc X.env.scope x) (r : RelV v u)
    (h : ∀ s', Inv X pins (σ.set i (some v)) H s' → (∃ a, Heap.SameBut a s.heap s'.heap ∧ (a = X.env.locals ∨ X.env.cells.lookup x = some a)) → Q () s') (hf : X.fn x = true ∨ X.env.scope.names.lookup x = some .local := by first | exact .inl rfl | exact .inr rfl | assumption) : wpAny M A (storeName X.env x u) Q E s := by
  obtain ⟨m, hn, hl⟩ := id I.loc
  have hcls : (X.env.scope.kind == .class || (X.env.scope.kind == .module && X.env.locals != X.env.globals)) = false := by rw [I.ok.kind]; rfl
  have hiσ : i < σ.length := by rw [I.len]; exact (List.getElem?_eq_some_iff.mp hi).1
  have cne := I.cne
  have tracked : ∀ {a : Addr} {h' : Heap}, (∃ o, s.heap.get? a = some o ∧ H a = none) → Heap.SameBut a s.heap h' → HOk X.prog X.w H h' := fun {a h'} ha hs b ob e => by
    obtain ⟨_, _, hfree⟩ := ha
    refine (I.hok b ob e).stay (fun c w' hc q => (hs.2 c ?_).trans q) (fun _ q => q) fun _ _ q => q
    rintro rfl
    rcases hc with rfl | hc
    · rw [hfree] at e; cases e
    · rw [hfree] at hc; cases hc
  rcases hx with hk | hk
  · refine wpAny_storeName_local hk hn (fun h' hn' hs => ?_) hcls
    obtain ⟨oL, _, _, hoL, _⟩ := id hn
    refine h _ ⟨I.ok, I.os, I.bare, ⟨fun b o e n hb hx => ?_, fun b o e n hb hx => ?_, I.base.free, fun b o e hx => ?_, I.base.tups, I.base.frzs, I.base.tbls⟩, ⟨_, hn', fun j y v' e1 e2 e3 => ?_⟩, fun y c e => ?_, I.free, I.freeC, fun p hp => ?_, tracked ⟨oL, hoL, I.free⟩ hs, by simpa using I.len⟩ ⟨_, hs, .inl rfl⟩
    · exact (hs.2 b (Nat.ne_of_lt (Nat.lt_of_lt_of_le (Heap.lt_size e) I.ok.above))).trans (I.base.keep b o e n hb hx)
    · obtain ⟨sl, e1⟩ := I.base.slot b o e n hb hx
      exact ⟨sl, (hs.2 b (Nat.ne_of_lt (Nat.lt_of_lt_of_le (Heap.lt_size e) I.ok.above))).trans e1⟩
    · obtain ⟨o', e1⟩ := I.base.there b o e hx
      exact ⟨o', (hs.2 b (Nat.ne_of_lt (Nat.lt_of_lt_of_le (Heap.lt_size e) I.ok.above))).trans e1⟩
    · by_cases hj : j = i
      · subst hj
        rw [hi] at e1; cases e1
        rw [List.getElem?_set_self hiσ] at e2
        cases e2
        exact ⟨u, r, .inl ⟨hk, by simp⟩⟩
      · rw [List.getElem?_set_ne (Ne.symm hj)] at e2
        obtain ⟨u', r', q⟩ := hl j y v' e1 e2 e3
        refine ⟨u', r', ?_⟩
        rcases q with ⟨k, e⟩ | ⟨k, c, e, z⟩
        · refine .inl ⟨k, ?_⟩
          have : y ≠ x := fun e => hj (nodup_ix hN e1 (e ▸ hi))
          simp [this, e]
        · exact .inr ⟨k, c, e, z.sameBut hs (cne y c e)⟩
    · obtain ⟨w', z⟩ := I.cell y c e
      exact ⟨w', z.sameBut hs (cne y c e)⟩
    · obtain ⟨e, n, ne, nf, d⟩ := I.pin p hp
      exact ⟨(hs.2 p.1 ne).trans e, n, ne, nf, d⟩
  · have hfn : X.fn x = true := by
      rcases hf with z | z
      · exact z
      · rw [z] at hk; cases hk
    obtain ⟨c, hc⟩ := I.ok.has x (.inl hk)
    obtain ⟨w', z⟩ := I.cell x c hc
    refine wpAny_storeName_cell I.ok.kind hk hc z (fun h' hc' hs => ?_)
    obtain ⟨oc, hoc, hocd⟩ := id z
    refine h { s with heap := h' } ⟨I.ok, I.os, I.bare, ⟨fun b o e n hb hx => ?_, fun b o e n hb hx => ?_, I.base.free, fun b o e hx => ?_, I.base.tups, I.base.frzs, I.base.tbls⟩, ⟨m, hn.sameBut hs (Ne.symm (cne x c hc)), fun j y v' e1 e2 e3 => ?_⟩, fun y c' e => ?_, I.free, I.freeC, fun p hp => ?_, tracked ⟨oc, hoc, I.freeC x c hc⟩ hs, by simpa using I.len⟩ ⟨c, hs, .inr hc⟩
    · exact (hs.2 b (Nat.ne_of_lt (Nat.lt_of_lt_of_le (Heap.lt_size e) (I.ok.cab x c hfn hc)))).trans (I.base.keep b o e n hb hx)
    · obtain ⟨sl, e1⟩ := I.base.slot b o e n hb hx
      exact ⟨sl, (hs.2 b (Nat.ne_of_lt (Nat.lt_of_lt_of_le (Heap.lt_size e) (I.ok.cab x c hfn hc)))).trans e1⟩
    · obtain ⟨o', e1⟩ := I.base.there b o e hx
      exact ⟨o', (hs.2 b (Nat.ne_of_lt (Nat.lt_of_lt_of_le (Heap.lt_size e) (I.ok.cab x c hfn hc)))).trans e1⟩
    · by_cases hj : j = i
      · subst hj
        rw [hi] at e1; cases e1
        rw [List.getElem?_set_self hiσ] at e2
        cases e2
        exact ⟨u, r, .inr ⟨.inl hk, c, hc, hc'⟩⟩
      · rw [List.getElem?_set_ne (Ne.symm hj)] at e2
        obtain ⟨u', r', q⟩ := hl j y v' e1 e2 e3
        refine ⟨u', r', ?_⟩
        rcases q with q | ⟨k, c', e, z'⟩
        · exact .inl q
        · refine .inr ⟨k, c', e, z'.sameBut hs ?_⟩
          rintro rfl
          exact hj (nodup_ix hN e1 (I.ok.inj _ _ _ e hc ▸ hi))
    · by_cases hcc : c' = c
      · subst hcc; exact ⟨_, hc'⟩
      · obtain ⟨w2, z2⟩ := I.cell y c' e
        exact ⟨w2, z2.sameBut hs hcc⟩
    · obtain ⟨e, n, ne, nf, d⟩ := I.pin p hp
      refine ⟨(hs.2 p.1 ?_).trans e, n, ne, nf, d⟩
      intro q
      rw [q, hoc] at e
      have q' : oc = p.2 := Option.some.inj e
      exact d w' (by rw [← q']; exact hocd)
theorem store_ok {M : Model} {A : Around} {E : Value → Shared → Prop} {i : Nat} {x : Str} {v : V} {u : Value} {Q : Unit → Shared → Prop} (I : Inv X pins σ H s) (hN : X.N.Nodup) (hi : X.N[i]? = some x) (hx : Loc X.env.scope x) (r : RelV v u)
    (h : ∀ s', Inv X pins (σ.set i (some v)) H s' → Q () s') (hf : X.fn x = true ∨ X.env.scope.names.lookup x = some .local := by first | exact .inl rfl | exact .inr rfl | assumption) : wpAny M A (storeName X.env x u) Q E s :=
  store_ok2 I hN hi hx r (fun s' I' _ => h s' I') hf
theorem Inv.call' {s' : Shared} {ch : List Addr} (I : Inv X pins σ H s) (ho : s'.os = s.os) (u : Un (frs X.stack) ch H H' s.heap s'.heap) (hok : HOk X.prog X.w H' s'.heap) (hg : AllBare s'.gens)
    (hch : ∀ b ∈ ch, (b ∈ X.ex ∨ X.s₀.heap.objs.size ≤ b) ∧ b ≠ X.env.locals ∧ (∀ x c, X.env.cells.lookup x = some c → c ≠ b) ∧ ∀ p ∈ X.pn ++ pins, p.1 ≠ b) : Inv X pins σ H' s' := by
  obtain ⟨h', g', d', t', o'⟩ := s'
  have e : o' = s.os := ho
  subst e
  exact I.call (g' := g') (t' := t') (d' := d') u hok hg hch
end
abbrev XK := Value → Option Addr → Hp → Prop
abbrev St := List (Option V)
abbrev VK := V → Hp → Prop
abbrev TE := St → Hp → VK → Prop
abbrev TT := St → Hp → (Bool → Hp → Prop) → Prop
abbrev TA := St → Hp → (List V → Hp → Prop) → Prop
structure Ends where
  nx : St → Hp → Prop
  rt : VK
  bk : St → Hp → Prop := fun _ _ => False
  ct : St → Hp → Prop := fun _ _ => False
abbrev TS := Ends → St → Hp → Prop
def EP (X : Cx) (pins : List (Addr × Obj)) (σ : St) (Q : VK) (u : Value) (s' : Shared) : Prop := ∃ v H', Inv X pins σ H' s' ∧ RelV v u ∧ Q v H'
def TP (X : Cx) (pins : List (Addr × Obj)) (σ : St) (Q : Bool → Hp → Prop) (b : Bool) (s' : Shared) : Prop := ∃ H', Inv X pins σ H' s' ∧ Q b H'
def AP (X : Cx) (pins : List (Addr × Obj)) (σ : St) (Q : List V → Hp → Prop) (us : List Value) (s' : Shared) : Prop := ∃ vs H', Inv X pins σ H' s' ∧ Vals vs us ∧ Q vs H'
def SP (X : Cx) (pins : List (Addr × Obj)) (D : Ends) (f : Flow) (s' : Shared) : Prop :=
  match f with
  | .next => ∃ σ' H', Inv X pins σ' H' s' ∧ D.nx σ' H'
  | .brk => ∃ σ' H', Inv X pins σ' H' s' ∧ D.bk σ' H'
  | .cont => ∃ σ' H', Inv X pins σ' H' s' ∧ D.ct σ' H'
  | .ret u => ∃ v σ' H', Inv X pins σ' H' s' ∧ RelV v u ∧ D.rt v H'
def PE (X : Cx) (e : Expr) (t : TE) : Prop :=
  ∀ (pins : List (Addr × Obj)) (s : Shared) (σ : St) (H : Hp) (Q : VK), Inv X pins σ H s → t σ H Q → wpAny (model X.prog X.w) X.A (eval e X.env) (EP X pins σ Q) X.xe s
def PT (X : Cx) (e : Expr) (t : TT) : Prop :=
  ∀ (pins : List (Addr × Obj)) (s : Shared) (σ : St) (H : Hp) (Q : Bool → Hp → Prop), Inv X pins σ H s → t σ H Q → wpAny (model X.prog X.w) X.A (isTrue e X.env (eval e X.env)) (TP X pins σ Q) X.xe s
def PW (X : Cx) (e : Expr) (t : TT) : Prop :=
  ∀ (whole : Sem Value) (pins : List (Addr × Obj)) (s : Shared) (σ : St) (H : Hp) (Q : Bool → Hp → Prop), Inv X pins σ H s → t σ H Q → wpAny (model X.prog X.w) X.A (isTrue e X.env whole) (TP X pins σ Q) X.xe s
theorem PW.pt {X : Cx} {e : Expr} {t : TT} (h : PW X e t) : PT X e t := h _
def PA (X : Cx) (es : List Expr) (t : TA) : Prop :=
  ∀ (pos : Pos) (pins : List (Addr × Obj)) (s : Shared) (σ : St) (H : Hp) (Q : List V → Hp → Prop), Inv X pins σ H s → t σ H Q → wpAny (model X.prog X.w) X.A (spliced (backTo pos (starEach es X.env))) (AP X pins σ Q) X.xe s
def PS (X : Cx) (st : Stmt) (t : TS) : Prop :=
  ∀ (pins : List (Addr × Obj)) (s : Shared) (σ : St) (H : Hp) (D : Ends), Inv X pins σ H s → t D σ H → wpAny (model X.prog X.w) X.A (exec st X.env) (SP X pins D) X.xe s
def PSs (X : Cx) (st : List Stmt) (t : TS) : Prop :=
  ∀ (pins : List (Addr × Obj)) (s : Shared) (σ : St) (H : Hp) (D : Ends), Inv X pins σ H s → t D σ H → wpAny (model X.prog X.w) X.A (execs st X.env) (SP X pins D) X.xe s
theorem thn {α : Type} {t : Sem α} {Q Q' : α → Shared → Prop} {M : Model} {A : Around} {E : Value → Shared → Prop} {s : Shared} (h : wpAny M A t Q E s) (hQ : ∀ a s, Q a s → Q' a s) : wpAny M A t Q' E s := wpAny_mono h hQ fun _ _ x => x
end L2
namespace L2
open PySem PySem.Spec PyProof.Rows
section
variable {X : Cx}
def tVar (i : Nat) : TE := fun σ H Q => ∃ v, σ[i]? = some (some v) ∧ Q v H
def tC (v : V) : TE := fun _ H Q => Q v H
theorem pe_var {i : Nat} {x : Str} {pos : Pos} (hN : X.N[i]? = some x) (hv : Vis X.env.scope x) (hd : (x == ("__debug__" : Str)) = false := by decide) (hcd : (x == ("__classdict__" : Str)) = false := by decide) : PE X (.Name x pos) (tVar i) := by
  intro pins s σ H Q I h
  obtain ⟨v, e, h⟩ := h
  obtain ⟨m, hn, hl⟩ := I.loc
  obtain ⟨u, r, l⟩ := hl i x v hN e hv
  have fin : EP X pins σ Q u s := ⟨v, H, I, r, h⟩
  rcases l with ⟨hk, hm⟩ | ⟨hk, c, hc, hcell⟩
  · exact wpAny_Name (wpAny_loadName_local I.ok.kind hk hn hm fin) hd
  · rcases hk with hk | hk
    · exact wpAny_Name (wpAny_loadName_cell I.ok.kind hk hc hcell fin) hd
    · exact wpAny_Name (wpAny_loadName_free I.ok.kind hk hc hcell fin hcd) hd
theorem pe_int {i j pos} : PE X (.Constant (.int i) j pos) (tC (.int i)) := fun _ _ _ H _ I h => wpAny_Constant_int ⟨.int i, H, I.tok _, ⟨_, rfl⟩, h⟩
theorem pe_bl {b j pos} : PE X (.Constant (.bool b) j pos) (tC (.bl b)) := fun _ _ _ H _ I h => Constant_bool ⟨.bl b, H, I, rfl, h⟩
theorem pe_non {j pos} : PE X (.Constant .none j pos) (tC .non) := fun _ _ _ H _ I h => Constant_none ⟨.non, H, I, rfl, h⟩
def Gl (X : Cx) (x : Str) : Prop := X.env.kindOf x = some .globalImplicit
theorem ld_glob {E : Value → Shared → Prop} {pins : List (Addr × Obj)} {s : Shared} {σ : St} {H : Hp} {x : Str} {u : Value} {pos : Pos} {Q : Value → Shared → Prop} (I : Inv X pins σ H s) (hg : Gl X x) (hm : X.mg x = some u) (h : Q u s)
    (hd : (x == ("__debug__" : Str)) = false := by decide) : wpAny (model X.prog X.w) X.A (eval (.Name x pos) X.env) Q E s :=
  Calls.Name_function_global I.ok.kind hg (Calls.loadGlobal_global (by rw [I.ok.glob]; exact I.mod.glob.keeps I.bk) hm h) hd
theorem ld_blt {E : Value → Shared → Prop} {pins : List (Addr × Obj)} {s : Shared} {σ : St} {H : Hp} {x : Str} {u : Value} {pos : Pos} {Q : Value → Shared → Prop} (I : Inv X pins σ H s) (hg : Gl X x) (hm : X.mg x = none) (hv : bootBuiltins x = some u) (h : Q u s)
    (hn : x ≠ "__name__" := by decide) (hd : (x == ("__debug__" : Str)) = false := by decide) : wpAny (model X.prog X.w) X.A (eval (.Name x pos) X.env) Q E s := by
  obtain ⟨mb, h1, h2⟩ := I.mod.blt
  exact Calls.Name_function_global I.ok.kind hg (Calls.loadGlobal_builtin (by rw [I.ok.glob]; exact I.mod.glob.keeps I.bk) hm (by rw [I.ok.blt]; exact h1.keeps I.bk) ((h2 x hn).trans hv) h) hd
theorem pe_glob {x : Str} {v : V} {u : Value} {pos : Pos} (hg : Gl X x) (hm : X.mg x = some u) (r : RelV v u) (hd : (x == ("__debug__" : Str)) = false := by decide) : PE X (.Name x pos) (tC v) :=
  fun _ _ _ H _ I h => ld_glob I hg hm ⟨v, H, I, r, h⟩ hd
theorem pe_bltn {x : Str} {v : V} {u : Value} {pos : Pos} (hg : Gl X x) (hm : X.mg x = none) (hv : bootBuiltins x = some u) (r : RelV v u) (hn : x ≠ "__name__" := by decide) (hd : (x == ("__debug__" : Str)) = false := by decide) : PE X (.Name x pos) (tC v) :=
  fun _ _ _ H _ I h => ld_blt I hg hm hv ⟨v, H, I, r, h⟩ hn hd
variable {a b : Expr} {ta tb : TE} {pos : Pos}
variable {tA tB' : TT} {rest : List Expr}
def tAnd (t u : TT) : TT := fun σ H Q => t σ H fun c H1 => if c = true then u σ H1 Q else Q false H1
def tOr (t u : TT) : TT := fun σ H Q => t σ H fun c H1 => if c = true then Q true H1 else u σ H1 Q
def tNot (t : TT) : TT := fun σ H Q => t σ H fun c H1 => Q (!c) H1
theorem pw_and1 (ha : PT X a tA) : PW X (.BoolOp .And [a] pos) tA := by
  intro wh pins s σ H Q I h
  refine isTrue_and (thn (ha pins s σ H Q I h) fun c s1 e => ?_)
  cases c with
  | true => exact isTrue_and_nil e
  | false => exact e
theorem pw_or1 (ha : PT X a tA) : PW X (.BoolOp .Or [a] pos) tA := by
  intro wh pins s σ H Q I h
  refine isTrue_or (thn (ha pins s σ H Q I h) fun c s1 e => ?_)
  cases c with
  | false => exact isTrue_or_nil e
  | true => exact e
theorem pw_and (ha : PT X a tA) (hb : PW X (.BoolOp .And (b :: rest) pos) tB') : PW X (.BoolOp .And (a :: b :: rest) pos) (tAnd tA tB') := by
  intro wh pins s σ H Q I h
  refine isTrue_and (thn (ha pins s σ H _ I h) fun c s1 ⟨H1, I1, q1⟩ => ?_)
  cases c with
  | true => exact hb wh pins s1 σ H1 Q I1 q1
  | false => exact ⟨H1, I1, q1⟩
theorem pw_or (ha : PT X a tA) (hb : PW X (.BoolOp .Or (b :: rest) pos) tB') : PW X (.BoolOp .Or (a :: b :: rest) pos) (tOr tA tB') := by
  intro wh pins s σ H Q I h
  refine isTrue_or (thn (ha pins s σ H _ I h) fun c s1 ⟨H1, I1, q1⟩ => ?_)
  cases c with
  | true => exact ⟨H1, I1, q1⟩
  | false => exact hb wh pins s1 σ H1 Q I1 q1
theorem pt_not (ha : PT X a tA) : PT X (.UnaryOp .Not a pos) (tNot tA) := by
  intro pins s σ H Q I h
  exact isTrue_not (ha pins s σ H (fun c H1 => Q (!c) H1) I h)
def tAndV (ta tb : TE) : TE := fun σ H Q => ta σ H fun x H1 => ∃ c, x = .bl c ∧ if c = true then tb σ H1 Q else Q (.bl false) H1
def tNotV (ta : TE) : TE := fun σ H Q => ta σ H fun x H1 => ∃ c, x = .bl c ∧ Q (.bl (!c)) H1
theorem pe_one {op} {t : TE} (h : PE X a t) : PE X (.BoolOp op [a] pos) t := fun pins s σ H Q I hw => BoolOp_one (h pins s σ H Q I hw)
theorem pe_and (ha : PE X a ta) (hb : PE X (.BoolOp .And (b :: rest) pos) tb) : PE X (.BoolOp .And (a :: b :: rest) pos) (tAndV ta tb) := by
  intro pins s σ H Q I h
  refine BoolOp_and (thn (ha pins s σ H _ I h) fun v s1 ⟨x, H1, I1, r1, q1⟩ => ?_)
  obtain ⟨c, rfl, q1⟩ := q1
  cases r1
  refine wpAny_truthy_bool ?_
  cases c with
  | true => exact hb pins s1 σ H1 Q I1 q1
  | false => exact ⟨.bl false, H1, I1, rfl, q1⟩
theorem pe_not (ha : PE X a ta) : PE X (.UnaryOp .Not a pos) (tNotV ta) := by
  intro pins s σ H Q I h
  refine UnaryOp_ (thn (ha pins s σ H _ I h) fun v s1 ⟨x, H1, I1, r1, q1⟩ => ?_)
  obtain ⟨c, rfl, q1⟩ := q1
  cases r1
  exact not_of (wpAny_truthy_bool ⟨.bl (!c), H1, I1, rfl, q1⟩)
def tIf (t : TT) (ta tb : TE) : TE := fun σ H Q => t σ H fun c H1 => if c = true then ta σ H1 Q else tb σ H1 Q
theorem pe_ifExp {c : Expr} (hc : PT X c tA) (ha : PE X a ta) (hb : PE X b tb) : PE X (.IfExp c a b pos) (tIf tA ta tb) := by
  intro pins s σ H Q I h
  refine wpAny_IfExp (thn (hc pins s σ H _ I h) fun d s1 ⟨H1, I1, q1⟩ => ?_)
  cases d with
  | true => exact ha pins s1 σ H1 Q I1 q1
  | false => exact hb pins s1 σ H1 Q I1 q1
end
end L2
namespace L2
open PySem PySem.Spec PyProof.Rows
def SqL (K : PySem.W.Frag) (H : Hp) (a : Addr) (xs : List V) : Prop :=
  Rd H a (.lst xs) ∨
    ∃ (o : Obj) (its : Array Value) (n : Nat), K.lookup a = some o ∧ o.cls = .type "list" ∧ o.dict = none ∧ o.data = .seq its n ∧ its.size ≤ sizeLine ∧ Vals xs its.toList
def SqT (K : PySem.W.Frag) (H : Hp) (a : Addr) (xs : List V) : Prop :=
  Rd H a (.tup xs) ∨
    ∃ (o : Obj) (its : Array Value) (n : Nat), K.lookup a = some o ∧ o.cls = .type "tuple" ∧ o.data = .seq its n ∧ its.size ≤ sizeLine ∧ Vals xs its.toList
def absV : Value → Option V
  | .none => some .non
  | .bool b => some (.bl b)
  | .int i _ => some (.int i)
  | .str x _ => some (.str x)
  | .bytes b _ => some (.byt b)
  | .float b _ => some (.flt b)
  | .ref a => some (.ref a)
  | .type n => some (.ty n)
  | _ => none
theorem RelV.abs {x : V} {u : Value} (r : RelV x u) : absV u = some x := by
  cases x with
  | non => cases r; rfl
  | bl _ => cases r; rfl
  | int _ => obtain ⟨t, rfl⟩ := r; rfl
  | str _ => obtain ⟨t, rfl⟩ := r; rfl
  | byt _ => obtain ⟨t, rfl⟩ := r; rfl
  | flt _ => obtain ⟨t, rfl⟩ := r; rfl
  | ref _ => cases r; rfl
  | ty _ => cases r; rfl
theorem RelV.inj {x y : V} {u : Value} (r : RelV x u) (q : RelV y u) : x = y := Option.some.inj (r.abs.symm.trans q.abs)
theorem Vals.inj : ∀ {xs ys : List V} {us : List Value}, Vals xs us → Vals ys us → xs = ys
  | _, _, _, .nil, .nil => rfl
  | _, _, _, .cons r t, .cons r' t' => by rw [r.inj r', Vals.inj t t']
section
variable {X : Cx} {pins : List (Addr × Obj)} {σ : St} {H : Hp} {s : Shared} {a : Addr} {xs ys : List V}
theorem SqL.of {K : PySem.W.Frag} (h : H a = some (.lst xs)) : SqL K H a xs := .inl (.inl h)
theorem SqT.of {K : PySem.W.Frag} (h : H a = some (.tup xs)) : SqT K H a xs := .inl (.inl h)
theorem Inv.list (I : Inv X pins σ H s) (h : SqL X.K H a xs) : ∃ its : List Value, Vals xs its ∧ PlainL s.heap a its.toArray ∧ xs.length ≤ sizeLine := by
  rcases h with h | ⟨o, its, n, hk, hc, hd, hs, hz, r⟩
  · obtain ⟨z, its, n, r, e⟩ := h.ok I.hok
    exact ⟨its, r, ⟨_, n, e, rfl, rfl, rfl⟩, z⟩
  · refine ⟨its.toList, r, ⟨o, n, I.kIn a o hk, hc, hd, by simpa using hs⟩, ?_⟩
    have e := r.length
    simp only [Array.length_toList] at e
    omega
theorem Inv.tuple (I : Inv X pins σ H s) (h : SqT X.K H a xs) : ∃ its : List Value, Vals xs its ∧ IsTup s.heap a its.toArray ∧ xs.length ≤ sizeLine := by
  rcases h with h | ⟨o, its, n, hk, hc, hs, hz, r⟩
  · obtain ⟨z, its, r, p, _⟩ := h.ok I.hok
    exact ⟨its, r, p, z⟩
  · refine ⟨its.toList, r, ⟨o, I.kIn a o hk, hc, n, by simpa using hs⟩, ?_⟩
    have e := r.length
    simp only [Array.length_toList] at e
    omega
theorem Inv.list_inj (I : Inv X pins σ H s) (h : SqL X.K H a xs) (h' : SqL X.K H a ys) : xs = ys := by
  obtain ⟨its, r, ⟨o, n, e, _, _, d⟩, _⟩ := I.list h
  obtain ⟨its', r', ⟨o', n', e', _, _, d'⟩, _⟩ := I.list h'
  rw [e] at e'; cases e'
  rw [d] at d'
  injection d' with d1 _
  have : its = its' := by simpa using congrArg Array.toList d1
  subst this
  exact r.inj r'
theorem Inv.tuple_inj (I : Inv X pins σ H s) (h : SqT X.K H a xs) (h' : SqT X.K H a ys) : xs = ys := by
  obtain ⟨its, r, ⟨o, e, _, n, d⟩, _⟩ := I.tuple h
  obtain ⟨its', r', ⟨o', e', _, n', d'⟩, _⟩ := I.tuple h'
  rw [e] at e'; cases e'
  rw [d] at d'
  injection d' with d1 _
  have : its = its' := by simpa using congrArg Array.toList d1
  subst this
  exact r.inj r'
end
abbrev Cx.wish (X : Cx) (E : Value → Shared → Prop) : Cx := { X with xe := E }
abbrev Cx.nox (X : Cx) : Cx := X.wish fun _ _ => False
theorem Cx.Ok.wish {X : Cx} (ok : X.Ok) (E : Value → Shared → Prop) : (X.wish E).Ok :=
  ⟨ok.mod, ok.kind, ok.glob, ok.blt, ok.above, ok.inj, ok.has, ok.cab, ok.hd, ok.frames, ok.stk, ok.exf, ok.bs, ok.bsz, ok.noex, ok.exfs, ok.funs, ok.frf⟩
theorem Cx.Ok.unwish {X : Cx} {E : Value → Shared → Prop} (ok : (X.wish E).Ok) : X.Ok :=
  ⟨ok.mod, ok.kind, ok.glob, ok.blt, ok.above, ok.inj, ok.has, ok.cab, ok.hd, ok.frames, ok.stk, ok.exf, ok.bs, ok.bsz, ok.noex, ok.exfs, ok.funs, ok.frf⟩
section
variable {X : Cx} {pins : List (Addr × Obj)} {σ : St} {H : Hp} {s : Shared} {E : Value → Shared → Prop}
theorem Inv.wish (I : Inv X pins σ H s) (E : Value → Shared → Prop) : Inv (X.wish E) pins σ H s := ⟨I.ok.wish E, I.os, I.bare, I.base, I.loc, I.cell, I.free, I.freeC, I.pin, I.hok, I.len⟩
theorem Inv.unwish (I : Inv (X.wish E) pins σ H s) : Inv X pins σ H s := ⟨I.ok.unwish, I.os, I.bare, I.base, I.loc, I.cell, I.free, I.freeC, I.pin, I.hok, I.len⟩
theorem SP.unwish {D : Ends} {f : Flow} {s' : Shared} (h : SP (X.wish E) pins D f s') : SP X pins D f s' := by
  cases f with
  | next => obtain ⟨σ', H', I, q⟩ := h; exact ⟨σ', H', I.unwish, q⟩
  | brk => obtain ⟨σ', H', I, q⟩ := h; exact ⟨σ', H', I.unwish, q⟩
  | cont => obtain ⟨σ', H', I, q⟩ := h; exact ⟨σ', H', I.unwish, q⟩
  | ret u => obtain ⟨v, σ', H', I, r, q⟩ := h; exact ⟨v, σ', H', I.unwish, r, q⟩
theorem PSs.nox {st : List Stmt} {t : TS} (h : PSs X.nox st t) : PSs X st t := fun pins s σ H D I hw =>
  wpAny_mono (h pins s σ H D (I.wish _) hw) (fun _ _ q => q.unwish) fun _ _ z => False.elim z
end
section
variable {X : Cx} {st : Stmt} {rest : List Stmt} {t u : TS} {e : Expr} {te : TE} {pos : Pos}
def tNext : TS := fun D σ H => D.nx σ H
def tSeq (t u : TS) : TS := fun D σ H => t { D with nx := u D } σ H
theorem pss_nil : PSs X [] tNext := fun _ _ σ H _ I h => wpAny_execs_nil ⟨σ, H, I, h⟩
theorem pss_cons (h1 : PS X st t) (h2 : PSs X rest u) : PSs X (st :: rest) (tSeq t u) := by
  intro pins s σ H D I h
  refine wpAny_execs_cons (thn (h1 pins s σ H { D with nx := u D } I h) fun f s1 q => ?_)
  cases f with
  | next =>
    obtain ⟨σ', H', I', q⟩ := q
    exact h2 pins s1 σ' H' D I' q
  | ret v => exact q
  | brk => exact q
  | cont => exact q
theorem pss_one (h1 : PS X st t) : PSs X [st] t := by
  intro pins s σ H D I h
  refine wpAny_execs_cons (thn (h1 pins s σ H D I h) fun f s1 q => ?_)
  cases f with
  | next => exact wpAny_execs_nil q
  | ret v => exact q
  | brk => exact q
  | cont => exact q
theorem Inv.quiet {pins : List (Addr × Obj)} {σ : St} {H : Hp} {s : Shared} (I : Inv X pins σ H s) : interactive X.env = false := by simp [interactive, I.ok.kind]
def tDrop (te : TE) : TS := fun D σ H => te σ H fun _ H1 => D.nx σ H1
theorem ps_expr (he : PE X e te) (hs : swapsWith e none pos.line X.env = pure false := by rfl) : PS X (.Expr e pos) (tDrop te) := by
  intro pins s σ H D I h
  exact wpAny_Expr_any (thn (he pins s σ H _ I h) fun v s1 ⟨x, H1, I1, r1, q1⟩ => ⟨σ, H1, I1, q1⟩) I.quiet hs
def tRet (te : TE) : TS := fun D σ H => te σ H D.rt
theorem ps_ret (he : PE X e te) : PS X (.Return (some e) pos) (tRet te) := by
  intro pins s σ H D I h
  exact wpAny_Return_some (thn (he pins s σ H _ I h) fun v s1 ⟨x, H1, I1, r1, q1⟩ => ⟨x, σ, H1, I1, r1, q1⟩)
def tIfS (c : TT) (t u : TS) : TS := fun D σ H => c σ H fun b H1 => if b = true then t D σ H1 else u D σ H1
theorem ps_if {c : Expr} {a b : List Stmt} {tc : TT} (hc : PT X c tc) (ha : PSs X a t) (hb : PSs X b u) : PS X (.If c a b pos) (tIfS tc t u) := by
  intro pins s σ H D I h
  refine wpAny_If (thn (hc pins s σ H _ I h) fun d s1 ⟨H1, I1, q1⟩ => ?_)
  cases d with
  | true => exact ha pins s1 σ H1 D I1 q1
  | false => exact hb pins s1 σ H1 D I1 q1
def tNever : TS := fun _ _ _ => False
theorem ps_never : PS X st tNever := fun _ _ _ _ _ _ h => h.elim
end
abbrev TG := V → St → Hp → (St → Hp → Prop) → Prop
abbrev TGs := List V → St → Hp → (St → Hp → Prop) → Prop
def PG (X : Cx) (target : Expr) (t : TG) : Prop :=
  ∀ (pins : List (Addr × Obj)) (s : Shared) (σ : St) (H : Hp) (v : V) (u : Value) (Q : St → Hp → Prop), Inv X pins σ H s → RelV v u → t v σ H Q →
    wpAny (model X.prog X.w) X.A (assign target X.env u) (fun _ s' => ∃ σ' H', Inv X pins σ' H' s' ∧ Q σ' H') X.xe s
def PGs (X : Cx) (ts : List Expr) (t : TGs) : Prop :=
  ∀ (pins : List (Addr × Obj)) (s : Shared) (σ : St) (H : Hp) (vs : List V) (us : List Value) (Q : St → Hp → Prop), Inv X pins σ H s → Vals vs us → t vs σ H Q →
    wpAny (model X.prog X.w) X.A (assignInOrder ((assignEach ts X.env).map (·.2)) us) (fun _ s' => ∃ σ' H', Inv X pins σ' H' s' ∧ Q σ' H') X.xe s
abbrev TSet := V → V → V → Hp → (Hp → Prop) → Prop
def PSet (X : Cx) (t : TSet) : Prop :=
  ∀ (pins : List (Addr × Obj)) (s : Shared) (σ : St) (H : Hp) (o i v : V) (ov iv u : Value) (Q : Hp → Prop), Inv X pins σ H s → RelV o ov → RelV i iv → RelV v u → t o i v H Q →
    wpAny (model X.prog X.w) X.A (setItem ov iv u) (fun _ s' => ∃ H', Inv X pins σ H' s' ∧ Q H') X.xe s
abbrev TIp := V → V → Hp → VK → Prop
def PIp (X : Cx) (op : Operator) (t : TIp) : Prop :=
  ∀ (pins : List (Addr × Obj)) (s : Shared) (σ : St) (H : Hp) (x y : V) (v u : Value) (Q : VK), Inv X pins σ H s → RelV x v → RelV y u → t x y H Q →
    wpAny (model X.prog X.w) X.A (inplaceOp op v u) (EP X pins σ Q) X.xe s
section
variable {X : Cx} {pos : Pos}
def gName (i : Nat) : TG := fun v σ H Q => Q (σ.set i (some v)) H
theorem pg_name {i : Nat} {x : Str} (hN : X.N.Nodup) (hi : X.N[i]? = some x) (hx : Loc X.env.scope x) (hf : X.fn x = true ∨ X.env.scope.names.lookup x = some .local := by first | exact .inl rfl | exact .inr rfl | assumption) : PG X (.Name x pos) (gName i) := by
  intro pins s σ H v u Q I r h
  exact wpAny_assign_Name (store_ok I hN hi hx r (fun s' I' => ⟨_, H, I', h⟩) hf)
def gNil : TGs := fun vs σ H Q => vs = [] ∧ Q σ H
def gCons (t : TG) (u : TGs) : TGs := fun vs σ H Q => ∃ v r, vs = v :: r ∧ t v σ H fun σ' H' => u r σ' H' Q
theorem pgs_nil : PGs X [] gNil := by
  intro pins s σ H vs us Q I r h
  obtain ⟨e, h⟩ := h
  subst e
  cases r
  exact assignInOrder_nil ⟨σ, H, I, h⟩
theorem pgs_cons {e : Expr} {es : List Expr} {t : TG} {u : TGs} (h1 : PG X e t) (h2 : PGs X es u)
    (hs : (assignEach (e :: es) X.env).map (·.2) = assign e X.env :: (assignEach es X.env).map (·.2) := by rfl) : PGs X (e :: es) (gCons t u) := by
  intro pins s σ H vs us Q I r h
  obtain ⟨v, vr, e1, h⟩ := h
  subst e1
  cases r with
  | cons r rr =>
    rw [hs]
    refine assignInOrder_cons (thn (h1 pins s σ H _ _ _ I r h) fun _ s1 ⟨σ1, H1, I1, q1⟩ => ?_)
    exact h2 pins s1 σ1 H1 _ _ Q I1 rr q1
def gTup (K : PySem.W.Frag) (n : Nat) (t : TGs) : TG := fun v σ H Q => ∃ a xs, v = .ref a ∧ SqT K H a xs ∧ xs.length = n ∧ t xs σ H Q
theorem pg_tup {es : List Expr} {k : Nat} {t : TGs} {n : Nat} (hc : X.calm = true) (h : PGs X es t)
    (hn : (assignEach es X.env).length = n := by rfl) (hst : (assignEach es X.env).findIdx? (·.1) = none := by rfl) : PG X (.Tuple es k pos) (gTup X.K n t) := by
  intro pins s σ H v u Q I r hw
  obtain ⟨a, xs, e1, hq, hl, hw⟩ := hw
  subst e1
  cases r
  obtain ⟨its, rv, ht, hz⟩ := I.tuple hq
  refine assign_Tuple_tuple (I.ok.hd hc) ht (by simp [hn, ← hl, rv.length]) hst fun h' hx => ?_
  have I1 : Inv X pins σ H { s with heap := h' } := I.kept (t' := s.toks) fun b o e => hx b o (Nat.ne_of_lt (Heap.lt_size e)) e
  exact h pins _ σ H xs _ Q I1 (by simpa using rv) hw
def gSub (to ti : TE) (t : TSet) : TG := fun v σ H Q => to σ H fun o H1 => ti σ H1 fun i H2 => t o i v H2 fun H3 => Q σ H3
theorem pg_sub {o i : Expr} {to ti : TE} {t : TSet} (ho : PE X o to) (hi : PE X i ti) (hs : PSet X t)
    (ha : ∀ v, assign (.Subscript o i pos) X.env v = (do
      let ov ← holding [v] (eval o X.env)
      let iv ← holding [v, ov] (eval i X.env)
      standAt pos
      holding [v, ov, iv] (setItem ov iv v)
      release [v, ov, iv] []) := by intro _; rfl) : PG X (.Subscript o i pos) (gSub to ti t) := by
  intro pins s σ H v u Q I r h
  rw [ha]
  refine wpAny_bind (wpAny_holding (thn (ho pins s σ H _ I h) fun ov s1 ⟨x, H1, I1, r1, q1⟩ => ?_))
  refine wpAny_bind (wpAny_holding (thn (hi pins s1 σ H1 _ I1 q1) fun iv s2 ⟨y, H2, I2, r2, q2⟩ => ?_))
  refine wpAny_bind (wpAny_standAt (wpAny_bind (wpAny_holding (thn (hs pins s2 σ H2 x y v ov iv u _ I2 r1 r2 r q2) fun _ s3 ⟨H3, I3, q3⟩ => ?_))))
  exact wpAny_release ⟨σ, H3, I3, q3⟩
def tAsg (te : TE) (g : TG) : TS := fun D σ H => te σ H fun x H1 => g x σ H1 D.nx
theorem ps_asg {tg e : Expr} {te : TE} {g : TG} (he : PE X e te) (hg : PG X tg g) (hs : swapsWithSole [tg] e pos.line X.env = pure false := by rfl) (hw : swappedStores [tg] e X.env = pure none := by rfl)
    (h1 : (assignEach [tg] X.env).map (·.2) = [assign tg X.env] := by rfl) : PS X (.Assign [tg] e pos) (tAsg te g) := by
  intro pins s σ H D I h
  refine wpAny_Assign_stores (thn (he pins s σ H _ I h) fun v s1 ⟨x, H1, I1, r1, q1⟩ => ?_) hs hw
  rw [h1]
  exact thn (hg pins s1 σ H1 x v _ I1 r1 q1) fun _ s2 q => q
theorem ps_set {i : Nat} {x : Str} {e : Expr} {te : TE} {pos' : Pos} (hN : X.N.Nodup) (hi : X.N[i]? = some x) (hx : Loc X.env.scope x) (he : PE X e te) (hs : swapsWith e (some (.Name x pos')) pos.line X.env = pure false := by rfl) (hf : X.fn x = true ∨ X.env.scope.names.lookup x = some .local := by first | exact .inl rfl | exact .inr rfl | assumption) :
    PS X (.Assign [.Name x pos'] e pos) (tAsg te (gName i)) := by
  intro pins s σ H D I h
  refine wpAny_Assign_Name (thn (he pins s σ H _ I h) fun v s1 ⟨y, H1, I1, r1, q1⟩ => ?_) hs
  exact store_ok I1 hN hi hx r1 (fun s2 I2 => ⟨_, H1, I2, q1⟩) hf
def tPar (i j : Nat) (ta : TA) : TS := fun D σ H => ta σ H fun vs H1 => ∃ v w, vs = [v, w] ∧ D.nx ((σ.set i (some v)).set j (some w)) H1
theorem ps_par {i j : Nat} {x y : Str} {a b : Expr} {ta : TA} {px py pt : Pos} {kt k2 pt2} (hc : X.calm = true) (hN : X.N.Nodup) (hi : X.N[i]? = some x) (hj : X.N[j]? = some y) (hij : i ≠ j)
    (hx : X.env.scope.names.lookup x = some .local) (hy : X.env.scope.names.lookup y = some .local) (ha : PA X [a, b] ta)
    (hw : swappedStores [.Tuple [.Name x px, .Name y py] kt pt] (.Tuple [a, b] k2 pt2) X.env = pure (some [x, y]))
    (hs : swapsWithSole [.Tuple [.Name x px, .Name y py] kt pt] (.Tuple [a, b] k2 pt2) pos.line X.env = pure false := by rfl) :
    PS X (.Assign [.Tuple [.Name x px, .Name y py] kt pt] (.Tuple [a, b] k2 pt2) pos) (tPar i j ta) := by
  intro pins s σ H D I h
  rw [exec_Assign_arm]
  refine wpAny_bind (wpAny_standAt ?_)
  rw [hs]
  refine wpAny_bind (wpAny_pure ?_)
  rw [if_neg (by decide)]
  refine wpAny_bind (Tuple_ (thn (ha _ pins s σ H _ I h) fun us s1 ⟨vs, H1, I1, r1, q1⟩ => ?_))
  obtain ⟨v, w, e1, q1⟩ := q1
  subst e1
  obtain ⟨u1, u2, rfl, rv, rw'⟩ : ∃ u1 u2, us = [u1, u2] ∧ RelV v u1 ∧ RelV w u2 := by
    cases r1 with
    | cons p q =>
      cases q with
      | cons p' q' =>
        cases q'
        exact ⟨_, _, rfl, p, p'⟩
  refine wpAny_newObj_type ?_ (by show 2 ≤ sizeLine; decide)
  have I2 : Inv X pins σ H1 { s1 with heap := s1.heap.push { cls := .type "tuple", data := .seq [u1, u2].toArray } } := I1.kept (t' := s1.toks) fun b o e => Heap.get?_push_of_some _ e
  rw [hw]
  refine wpAny_bind (wpAny_pure ?_)
  show wpAny (model X.prog X.w) X.A (do rule "assign.swapped-stores"; let items ← unpackItems (.ref s1.heap.objs.size) 2 none; assignInOrder [fun v => bindName X.env y v, fun v => bindName X.env x v] items.reverse; pure Flow.next) _ _ _
  refine wpAny_bind (wpAny_rule (wpAny_bind (unpackItems_tuple (items := #[u1, u2]) (I.ok.hd hc) (IsTup.new s1.heap _) fun h' hx' => ?_)))
  have I3 := I2.kept (h' := h') (t' := s1.toks) fun b o e => hx' b o (Nat.ne_of_lt (Heap.lt_size e)) e
  show wpAny _ _ (assignInOrder [fun v => bindName X.env y v, fun v => bindName X.env x v] [u2, u1] >>= fun _ => pure Flow.next) _ _ _
  refine wpAny_bind (assignInOrder_cons (wpAny_bindName (store_ok I3 hN hj (.inl hy) rw' (fun s2 I4 => ?_) (.inr hy))))
  refine assignInOrder_cons (wpAny_bindName (store_ok I4 hN hi (.inl hx) rv (fun s3 I5 => assignInOrder_nil (wpAny_pure ?_)) (.inr hx)))
  rw [List.set_comm _ _ (Ne.symm hij)] at I5
  exact ⟨_, H1, I5, q1⟩
def tAug (i : Nat) (te : TE) (ti : TIp) : TS := fun D σ H => ∃ x, σ[i]? = some (some x) ∧ te σ H fun y H1 => ti x y H1 fun z H2 => D.nx (σ.set i (some z)) H2
theorem ps_aug {i : Nat} {x : Str} {e : Expr} {te : TE} {op : Operator} {ti : TIp} {pos' : Pos} (hN : X.N.Nodup) (hi : X.N[i]? = some x) (hx : Loc X.env.scope x) (he : PE X e te) (ho : PIp X op ti) (hf : X.fn x = true ∨ X.env.scope.names.lookup x = some .local := by first | exact .inl rfl | exact .inr rfl | assumption) :
    PS X (.AugAssign (.Name x pos') op e pos) (tAug i te ti) := by
  intro pins s σ H D I h
  obtain ⟨v, e1, h⟩ := h
  obtain ⟨m, hn, hl⟩ := I.loc
  have vis : Vis X.env.scope x := by rcases hx with k | k; exact .inl k; exact .inr (.inl k)
  obtain ⟨u, r, l⟩ := hl i x v hi e1 vis
  refine wpAny_AugAssign_Name ?_
  have go : wpAny (model X.prog X.w) X.A (eval e X.env) (fun w s₂ => wpAny (model X.prog X.w) X.A (inplaceOp op u w) (fun r s₃ => wpAny (model X.prog X.w) X.A (storeName X.env x r) (fun _ => SP X pins D .next) X.xe s₃) X.xe s₂) X.xe s := by
    refine thn (he pins s σ H _ I h) fun w s1 ⟨y, H1, I1, r1, q1⟩ => ?_
    refine thn (ho pins s1 σ H1 v y u w _ I1 r r1 q1) fun z s2 ⟨zv, H2, I2, r2, q2⟩ => ?_
    exact store_ok I2 hN hi hx r2 (fun s3 I3 => ⟨_, H2, I3, q2⟩) hf
  rcases l with ⟨hk, hm⟩ | ⟨hk, c, hc, hcell⟩
  · exact wpAny_loadName_local I.ok.kind hk hn hm go
  · rcases hk with hk | hk
    · exact wpAny_loadName_cell I.ok.kind hk hc hcell go
    · rcases hx with k | k
      · have : X.env.scope.names.lookup x = some .free := hk
        rw [k] at this; cases this
      · have : X.env.scope.names.lookup x = some .free := hk
        rw [k] at this; cases this
def tAugS (to ti te : TE) (tget : V → V → Hp → VK → Prop) (tip : TIp) (tset : TSet) : TS := fun D σ H => to σ H fun o H1 => ti σ H1 fun i H2 => tget o i H2 fun x H3 => te σ H3 fun y H4 => tip x y H4 fun z H5 => tset o i z H5 fun H6 => D.nx σ H6
def PGet (X : Cx) (t : V → V → Hp → VK → Prop) : Prop :=
  ∀ (pins : List (Addr × Obj)) (s : Shared) (σ : St) (H : Hp) (o i : V) (ov iv : Value) (Q : VK), Inv X pins σ H s → RelV o ov → RelV i iv → t o i H Q →
    wpAny (model X.prog X.w) X.A (getItem ov iv) (EP X pins σ Q) X.xe s
theorem ps_augS {o i e : Expr} {to ti te : TE} {tget : V → V → Hp → VK → Prop} {tip : TIp} {tset : TSet} {op : Operator} {tpos : Pos} (ho : PE X o to) (hi : PE X i ti) (hg : PGet X tget) (he : PE X e te) (hp : PIp X op tip) (hs : PSet X tset)
    (ha : ∀ ov iv new, augStore i ov iv new = (do holding [new, ov, iv] (setItem ov iv new); release [new, ov, iv] []; pure .next) := by intros; rfl) : PS X (.AugAssign (.Subscript o i tpos) op e pos) (tAugS to ti te tget tip tset) := by
  intro pins s σ H D I h
  refine wpAny_AugAssign_SubscriptAny (thn (ho pins s σ H _ I h) fun ov s1 ⟨x1, H1, I1, r1, q1⟩ => ?_) ha
  refine thn (hi pins s1 σ H1 _ I1 q1) fun iv s2 ⟨x2, H2, I2, r2, q2⟩ => ?_
  refine thn (hg pins s2 σ H2 x1 x2 ov iv _ I2 r1 r2 q2) fun old s3 ⟨x3, H3, I3, r3, q3⟩ => ?_
  refine thn (he pins s3 σ H3 _ I3 q3) fun v s4 ⟨x4, H4, I4, r4, q4⟩ => ?_
  refine thn (hp pins s4 σ H4 x3 x4 old v _ I4 r3 r4 q4) fun new s5 ⟨x5, H5, I5, r5, q5⟩ => ?_
  exact thn (hs pins s5 σ H5 x1 x2 x5 ov iv new _ I5 r1 r2 r5 q5) fun _ s6 ⟨H6, I6, q6⟩ => ⟨σ, H6, I6, q6⟩
def ipI (f : Int → Int → Int) : TIp := fun x y H Q => ∃ i j, x = .int i ∧ y = .int j ∧ Q (.int (f i j)) H
theorem ip_add : PIp X .Add (ipI fun i j => i + j) := by
  intro pins s σ H x y v u Q I r1 r2 h
  obtain ⟨i, j, e1, e2, q⟩ := h
  subst e1; subst e2
  obtain ⟨t, rfl⟩ := r1
  obtain ⟨t', rfl⟩ := r2
  exact iadd_int ⟨.int _, H, I.tok _, ⟨_, rfl⟩, q⟩
end
section
variable {X : Cx} {pos : Pos}
def tWhile (c : TT) (tb : TS) : TS := fun D σ H => ∃ W : Nat → St → Hp → Prop, (∃ m, W m σ H) ∧ ∀ m σ H, W m σ H →
  c σ H fun b H1 => if b = true then ∃ N : St → Hp → Prop, (∀ σ' H', N σ' H' → ∃ m', m' < m ∧ W m' σ' H') ∧ tb { D with nx := N, ct := N, bk := D.nx } σ H1 else D.nx σ H1
theorem ps_while {c : Expr} {body : List Stmt} {tc : TT} {tb : TS} (hp : PassesOwn (model X.prog X.w) X.A X.env X.xe) (hc : PT X c tc) (hb : PSs X body tb) : PS X (.While c body [] pos) (tWhile tc tb) := by
  intro pins s σ H D I h
  obtain ⟨W, ⟨m0, w0⟩, turn⟩ := h
  refine wpAny_While (codeAny_whileLoop (fun n s' => ∃ σ' H', Inv X pins σ' H' s' ∧ W n σ' H') ?_ m0 ⟨σ, H, I, w0⟩)
  rintro n s1 ⟨σ1, H1, I1, w1⟩
  refine wpAny_passesOwn hp (thn (hc pins s1 σ1 H1 _ I1 (turn n σ1 H1 w1)) fun b s2 ⟨H2, I2, q2⟩ => ?_)
  cases b with
  | true =>
    obtain ⟨N, hN, q2⟩ := q2
    rw [if_pos rfl]
    refine wpAny_passesOwn hp (thn (hb pins s2 σ1 H2 _ I2 q2) fun f s3 q3 => ?_)
    cases f with
    | next =>
      obtain ⟨σ3, H3, I3, n3⟩ := q3
      obtain ⟨m', hm, w3⟩ := hN σ3 H3 n3
      exact ⟨m', hm, σ3, H3, I3, w3⟩
    | cont =>
      obtain ⟨σ3, H3, I3, n3⟩ := q3
      obtain ⟨m', hm, w3⟩ := hN σ3 H3 n3
      exact ⟨m', hm, σ3, H3, I3, w3⟩
    | brk => exact q3
    | ret v => exact q3
  | false =>
    rw [if_neg Bool.false_ne_true]
    exact wpAny_execs_nil ⟨σ1, H2, I2, q2⟩
end
structure It where
  go : Nat → Hp → Prop
  yld : Nat → Hp → V → Hp → Prop
  stop : Nat → Hp → Prop
def FpOk (X : Cx) (pins : List (Addr × Obj)) (H : Hp) (b : Addr) : Prop :=
  H b = none ∧ b ≠ X.env.locals ∧ b ∉ X.fs ∧ (b ∈ X.ex ∨ X.s₀.heap.objs.size ≤ b) ∧ (∀ x c, X.env.cells.lookup x = some c → c ≠ b) ∧ ∀ p ∈ X.pn ++ pins, p.1 ≠ b
theorem Inv.fpOk {X : Cx} {pins : List (Addr × Obj)} {σ : St} {H H' : Hp} {s : Shared} {b : Addr} (I : Inv X pins σ H s) (hb : s.heap.objs.size ≤ b) (hn : H' b = none) : FpOk X pins H' b := by
  refine ⟨hn, Nat.ne_of_gt (Nat.lt_of_lt_of_le I.lt hb), I.nofs hb, .inr (Nat.le_trans I.sz hb), fun x c e z => ?_, fun p hp z => ?_⟩
  · obtain ⟨v, q⟩ := I.cell x c e
    exact absurd (Nat.lt_of_lt_of_le q.lt (by rw [z]; exact hb)) (Nat.lt_irrefl _)
  · exact absurd (Nat.lt_of_lt_of_le (Heap.lt_size (I.pin p hp).1) (by rw [z]; exact hb)) (Nat.lt_irrefl _)
structure Turn (P : Program) (w : World) (K : PySem.W.Frag) (tg : Expr) (J : It) (fp : List Addr) (it : Addr) (tn : Nat → Heap → Prop) : Prop where
  mem : it ∈ fp
  obj : ∀ i h, tn i h → ∀ b ∈ fp, ∃ o, h.get? b = some o ∧ ∀ v, o.data ≠ .cell v
  keep : ∀ i h h', tn i h → (∀ b ∈ fp, ∀ o, h.get? b = some o → h'.get? b = some o) → tn i h'
  item : ∀ (X : Cx), X.prog = P → X.w = w → X.K = K → X.calm = true → ∀ (i : Nat) (pins : List (Addr × Obj)) (s : Shared) (σ : St) (H : Hp) (E : Value → Shared → Prop), Inv X pins σ H s → (∀ b ∈ fp, FpOk X pins H b) → tn i s.heap → J.go i H →
    wpAny (model P w) X.A (pyNext (.ref it)) (fun r s1 => ∃ u, r = some u ∧
      wpAny (model P w) X.A (letOwnedTupleGo tg (.ref it) u) (fun _ s2 => ∃ x H', Inv X pins σ H' s2 ∧ RelV x u ∧ J.yld i H x H' ∧ tn (i + 1) s2.heap ∧ ∀ b ∈ fp, H' b = none) E s1) E s
  done : ∀ (X : Cx), X.prog = P → X.w = w → X.K = K → X.calm = true → ∀ (i : Nat) (pins : List (Addr × Obj)) (s : Shared) (σ : St) (H : Hp) (E : Value → Shared → Prop), Inv X pins σ H s → (∀ b ∈ fp, FpOk X pins H b) → tn i s.heap → J.stop i H →
    wpAny (model P w) X.A (pyNext (.ref it)) (fun r s1 => r = none ∧ Inv X pins σ H s1) E s
  self : ∀ (A : Around) (i : Nat) (s : Shared) (Q : Value → Shared → Prop) (E : Value → Shared → Prop), tn i s.heap → Q (.ref it) s → wpAny (model P w) A (pyIter (.ref it)) Q E s
abbrev TI := St → Hp → (It → Hp → Prop) → Prop
def PIE (X : Cx) (pins : List (Addr × Obj)) (σ : St) (tg : Expr) (R : It → Hp → Prop) (itv : Value) (s2 : Shared) : Prop :=
  ∃ (it : Addr) (fp : List Addr) (tn : Nat → Heap → Prop) (J : It) (H' : Hp), itv = .ref it ∧ Inv X pins σ H' s2 ∧ Turn X.prog X.w X.K tg J fp it tn ∧ tn 0 s2.heap ∧ (∀ b ∈ fp, FpOk X pins H' b) ∧ R J H'
def PI (X : Cx) (tg iter : Expr) (wi : TI) : Prop :=
  ∀ (pins : List (Addr × Obj)) (s : Shared) (σ : St) (H : Hp) (R : It → Hp → Prop), Inv X pins σ H s → wi σ H R →
    wpAny (model X.prog X.w) X.A (eval iter X.env) (fun v s1 => wpAny (model X.prog X.w) X.A (pyIter v) (PIE X pins σ tg R) X.xe s1) X.xe s
theorem go_of {M : Model} {A : Around} {E : Value → Shared → Prop} {s : Shared} {tg : Expr} {it : Addr} {u : Value} {o : Obj} {n : String} {vs : Array Value} {Q : Unit → Shared → Prop} (ho : s.heap.get? it = some o) (hc : o.cls = .type n) (hd : o.data = .fields vs)
    (hn : ["enumerate", "zip", "dict_itemiterator", "dict_reverseitemiterator", "odict_iterator", "itertools.zip_longest", "itertools.pairwise"].contains n = false) (hQ : Q () s) : wpAny M A (letOwnedTupleGo tg (.ref it) u) Q E s := by
  unfold letOwnedTupleGo
  cases tg <;> first
    | exact wpAny_pure hQ
    | (cases u <;> first
        | exact wpAny_pure hQ
        | (refine wpAny_bind (wpAny_load ho ?_)
           rw [hc, hd]
           show wpAny M A (if (["enumerate", "zip", "dict_itemiterator", "dict_reverseitemiterator", "odict_iterator", "itertools.zip_longest", "itertools.pairwise"].contains n && vs[0]? == some (rawInt _)) = true then _ else _) Q E s
           rw [if_neg (by intro h; rw [hn, Bool.false_and] at h; cases h)]
           exact wpAny_pure hQ))
def Itl (K : PySem.W.Frag) (a : Addr) : It :=
  ⟨fun i H => ∃ xs x, SqL K H a xs ∧ xs[i]? = some x, fun i H x H' => H' = H ∧ ∀ xs, SqL K H a xs → xs[i]? = some x, fun i H => ∃ xs, SqL K H a xs ∧ xs.length ≤ i⟩
def Itt (K : PySem.W.Frag) (a : Addr) : It :=
  ⟨fun i H => ∃ xs x, SqT K H a xs ∧ xs[i]? = some x, fun i H x H' => H' = H ∧ ∀ xs, SqT K H a xs → xs[i]? = some x, fun i H => ∃ xs, SqT K H a xs ∧ xs.length ≤ i⟩
def Itr (lo : Int) (n : Nat) : It := ⟨fun i _ => i < n, fun i H x H' => H' = H ∧ x = .int (lo + i), fun i _ => n ≤ i⟩
theorem turn_list {P : Program} {w : World} {K : PySem.W.Frag} {tg : Expr} (a it : Addr) : Turn P w K tg (Itl K a) [it] it (fun i h => h.IsListIter it a i) where
  mem := by simp
  obj := fun i h st b hb => by
    have e : b = it := by simpa using hb
    subst e
    obtain ⟨o, e, c, d⟩ := st
    exact ⟨o, e, fun v z => by rw [d] at z; cases z⟩
  keep := fun i h h' st k => st.at fun o e => k it (by simp) o e
  item := by
    intro X hP hw hK hc i pins s σ H E I hf st hg
    subst hP hw hK
    obtain ⟨xs, x, hq, hx⟩ := hg
    obtain ⟨its, rv, p, hz⟩ := I.list hq
    obtain ⟨u, hu, ru⟩ := rv.get hx
    obtain ⟨f0, f1, f2, f3, f4, f5⟩ := hf it (by simp)
    refine wpAny_pyNext_list_item st p.isList (x := u) (by simpa using hu) fun h' st' sb => ?_
    have I1 : Inv X pins σ H { s with heap := h' } := I.turned (t' := s.toks) (fun b o hb e => (sb.2 b hb).trans e) f0 f1 f3 f4 f5
    obtain ⟨o, e, c, d⟩ := id st'
    exact ⟨u, rfl, go_of (s := { s with heap := h' }) e c d (by decide) ⟨x, H, I1, ru, ⟨rfl, fun ys hy => by rw [I.list_inj hy hq]; exact hx⟩, st', fun b hb => (hf b hb).1⟩⟩
  done := by
    intro X hP hw hK hc i pins s σ H E I hf st hg
    subst hP hw hK
    obtain ⟨xs, hq, hx⟩ := hg
    obtain ⟨its, rv, p, hz⟩ := I.list hq
    obtain ⟨f0, f1, f2, f3, f4, f5⟩ := hf it (by simp)
    have hl := rv.length
    exact wpAny_pyNext_list_end (I.ok.hd hc) st p.isList (by simp; omega) fun h' eb => ⟨rfl, I.turned (t' := s.toks) (fun b o hb e => eb b o hb e) f0 f1 f3 f4 f5⟩
  self := fun _ _ _ _ _ st h => wpAny_pyIter_listiter st h
theorem turn_tuple {P : Program} {w : World} {K : PySem.W.Frag} {tg : Expr} (a it : Addr) : Turn P w K tg (Itt K a) [it] it (fun i h => h.IsTupleIter it a i) where
  mem := by simp
  obj := fun i h st b hb => by
    have e : b = it := by simpa using hb
    subst e
    obtain ⟨o, e, c, d⟩ := st
    exact ⟨o, e, fun v z => by rw [d] at z; cases z⟩
  keep := fun i h h' st k => st.at fun o e => k it (by simp) o e
  item := by
    intro X hP hw hK hc i pins s σ H E I hf st hg
    subst hP hw hK
    obtain ⟨xs, x, hq, hx⟩ := hg
    obtain ⟨its, rv, p, hz⟩ := I.tuple hq
    obtain ⟨u, hu, ru⟩ := rv.get hx
    obtain ⟨f0, f1, f2, f3, f4, f5⟩ := hf it (by simp)
    refine wpAny_pyNext_tuple_item st (show s.heap.IsTuple a its.toArray from p) (x := u) (by simpa using hu) fun h' st' sb => ?_
    have I1 : Inv X pins σ H { s with heap := h' } := I.turned (t' := s.toks) (fun b o hb e => (sb.2 b hb).trans e) f0 f1 f3 f4 f5
    obtain ⟨o, e, c, d⟩ := id st'
    exact ⟨u, rfl, go_of (s := { s with heap := h' }) e c d (by decide) ⟨x, H, I1, ru, ⟨rfl, fun ys hy => by rw [I.tuple_inj hy hq]; exact hx⟩, st', fun b hb => (hf b hb).1⟩⟩
  done := by
    intro X hP hw hK hc i pins s σ H E I hf st hg
    subst hP hw hK
    obtain ⟨xs, hq, hx⟩ := hg
    obtain ⟨its, rv, p, hz⟩ := I.tuple hq
    obtain ⟨f0, f1, f2, f3, f4, f5⟩ := hf it (by simp)
    have hl := rv.length
    exact wpAny_pyNext_tuple_end (I.ok.hd hc) st (show s.heap.IsTuple a its.toArray from p) (by simp; omega) fun h' eb => ⟨rfl, I.turned (t' := s.toks) (fun b o hb e => eb b o hb e) f0 f1 f3 f4 f5⟩
  self := fun _ _ _ _ _ st h => wpAny_pyIter_tupleiter st h
theorem turn_range {P : Program} {w : World} {K : PySem.W.Frag} {tg : Expr} (it : Addr) (lo : Int) (n : Nat) : Turn P w K tg (Itr lo n) [it] it (fun i h => IsRangeIter h it (lo + (i : Nat) * 1) ((n : Int) - (i : Nat)) 1) where
  mem := by simp
  obj := fun i h st b hb => by
    have e : b = it := by simpa using hb
    subst e
    exact ⟨_, st, fun v z => by
      have z' : Data.fields _ = Data.cell v := z
      cases z'⟩
  keep := fun i h h' st k => k it (by simp) _ st
  item := by
    intro X hP hw hK hc i pins s σ H E I hf st hg
    subst hP hw hK
    obtain ⟨f0, f1, f2, f3, f4, f5⟩ := hf it (by simp)
    have W := Walks.range (prog := X.prog) (w := X.w) (I.ok.hd hc) it lo 1 n
    refine W.item i s _ _ hg st fun v h' tk hv st' kk => ?_
    obtain ⟨t, rfl⟩ := hv
    have I1 : Inv X pins σ H { s with heap := h', toks := tk } := I.turned (fun b o hb e => kk b o (by simpa using hb) e) f0 f1 f3 f4 f5
    refine ⟨_, rfl, go_of (s := { s with heap := h', toks := tk }) (n := "range_iterator") st' rfl rfl (by decide) ⟨.int (lo + i), H, I1, ⟨t, ?_⟩, ⟨rfl, rfl⟩, st', fun b hb => (hf b hb).1⟩⟩
    rw [Int.mul_one]
  done := by
    intro X hP hw hK hc i pins s σ H E I hf st hg
    subst hP hw hK
    obtain ⟨f0, f1, f2, f3, f4, f5⟩ := hf it (by simp)
    exact wpAny_pyNext_range_end (I.ok.hd hc) st (by have : n ≤ i := hg; omega) fun h' eb => ⟨rfl, I.turned (t' := s.toks) (fun b o hb e => eb b o hb e) f0 f1 f3 f4 f5⟩
  self := fun _ _ _ _ _ st h => wpAny_pyIter_rangeiter st h
end L2
namespace L2
open PySem PySem.Spec PyProof.Rows
section
variable {X : Cx} {tg : Expr}
def iList (K : PySem.W.Frag) (tl : TE) : TI := fun σ H R => tl σ H fun x H1 => ∃ a, x = .ref a ∧ (∃ xs, SqL K H1 a xs) ∧ R (Itl K a) H1
def iTup (K : PySem.W.Frag) (tl : TE) : TI := fun σ H R => tl σ H fun x H1 => ∃ a, x = .ref a ∧ (∃ xs, SqT K H1 a xs) ∧ R (Itt K a) H1
theorem pi_list {l : Expr} {tl : TE} (hl : PE X l tl) : PI X tg l (iList X.K tl) := by
  intro pins s σ H R I h
  refine thn (hl pins s σ H _ I h) fun v s1 ⟨x, H1, I1, r1, q1⟩ => ?_
  obtain ⟨a, e, ⟨xs, hq⟩, q⟩ := q1
  subst e
  cases r1
  obtain ⟨its, rv, p, hz⟩ := I1.list hq
  refine wpAny_pyIter_list p.isList ?_
  refine ⟨s1.heap.objs.size, [s1.heap.objs.size], _, _, H1, rfl, I1.kept (t' := s1.toks) fun b o e => Heap.get?_push_of_some _ e, turn_list a _, ⟨_, Heap.get?_push_size _ rfl, rfl, rfl⟩, fun b hb => ?_, q⟩
  have e : b = s1.heap.objs.size := by simpa using hb
  subst e
  exact I1.fpOk (Nat.le_refl _) (I1.hok.fresh (Nat.le_refl _))
theorem pi_tup {l : Expr} {tl : TE} (hl : PE X l tl) : PI X tg l (iTup X.K tl) := by
  intro pins s σ H R I h
  refine thn (hl pins s σ H _ I h) fun v s1 ⟨x, H1, I1, r1, q1⟩ => ?_
  obtain ⟨a, e, ⟨xs, hq⟩, q⟩ := q1
  subst e
  cases r1
  obtain ⟨its, rv, p, hz⟩ := I1.tuple hq
  refine wpAny_pyIter_tuple (show s1.heap.IsTuple a its.toArray from p) ?_
  refine ⟨s1.heap.objs.size, [s1.heap.objs.size], _, _, H1, rfl, I1.kept (t' := s1.toks) fun b o e => Heap.get?_push_of_some _ e, turn_tuple a _, ⟨_, Heap.get?_push_size _ rfl, rfl, rfl⟩, fun b hb => ?_, q⟩
  have e : b = s1.heap.objs.size := by simpa using hb
  subst e
  exact I1.fpOk (Nat.le_refl _) (I1.hok.fresh (Nat.le_refl _))
theorem range_it {pins : List (Addr × Obj)} {σ : St} {H : Hp} {s : Shared} {R : It → Hp → Prop} {E : Value → Shared → Prop} {lo hi : Int} {t u v : Tok} {tk : Nat} (I : Inv X pins σ H s) (h1 : -(2 ^ 62) ≤ lo) (h2 : lo < 2 ^ 62) (h3 : -(2 ^ 62) ≤ hi) (h4 : hi < 2 ^ 62)
    (q : R (Itr lo (hi - lo).toNat) H) : wpAny (model X.prog X.w) X.A (pyIter (.ref s.heap.objs.size)) (PIE X pins σ tg R) E { s with heap := s.heap.push { cls := .type "range", data := .fields #[.int lo t, .int hi u, .int 1 v] }, toks := tk } := by
  refine wpAny_pyIter_range (IsRange.new ..) (small_one h1 h2 h3 h4) ?_
  have I1 : Inv X pins σ H { s with heap := s.heap.push { cls := .type "range", data := .fields #[.int lo t, .int hi u, .int 1 v] }, toks := tk } := I.kept fun b o e => Heap.get?_push_of_some _ e
  refine ⟨(s.heap.push { cls := .type "range", data := .fields #[.int lo t, .int hi u, .int 1 v] }).objs.size, [(s.heap.push { cls := .type "range", data := .fields #[.int lo t, .int hi u, .int 1 v] }).objs.size], _, _, H, rfl,
    I1.kept (t' := tk) fun b o e => Heap.get?_push_of_some _ e, turn_range _ lo (hi - lo).toNat, ?_, fun b hb => ?_, q⟩
  · have e1 : lo + ((0 : Nat) : Int) * 1 = lo := by simp
    have e2 : (((hi - lo).toNat : Nat) : Int) - ((0 : Nat) : Int) = Builtin.Range.rangeSize lo hi 1 := by rw [rangeSize_one]; split <;> omega
    show IsRangeIter _ _ (lo + ((0 : Nat) : Int) * 1) ((((hi - lo).toNat : Nat) : Int) - ((0 : Nat) : Int)) 1
    rw [e1, e2]
    exact Heap.get?_push_size _ rfl
  · have e : b = (s.heap.push { cls := .type "range", data := .fields #[.int lo t, .int hi u, .int 1 v] }).objs.size := by simpa using hb
    subst e
    exact I1.fpOk (Nat.le_refl _) (I1.hok.fresh (Nat.le_refl _))
def iRng1 (ta : TA) : TI := fun σ H R => ta σ H fun vs H1 => ∃ j : Int, vs = [.int j] ∧ -(2 ^ 62) ≤ j ∧ j < 2 ^ 62 ∧ R (Itr 0 j.toNat) H1
def iRng2 (ta : TA) : TI := fun σ H R => ta σ H fun vs H1 => ∃ i j : Int, vs = [.int i, .int j] ∧ (-(2 ^ 62) ≤ i ∧ i < 2 ^ 62 ∧ -(2 ^ 62) ≤ j ∧ j < 2 ^ 62) ∧ R (Itr i (j - i).toNat) H1
theorem pi_range1 {a : Expr} {ta : TA} {p pos : Pos} (hg : Gl X "range") (hm : X.mg "range" = none) (ha : PA X [a] ta) (hs : starEach [a] X.env = [(false, eval a X.env)] := by rfl) : PI X tg (.Call (.Name "range" p) [a] [] pos) (iRng1 ta) := by
  intro pins s σ H R I h
  refine Call_ (ld_blt I hg hm boot_range (PyProof.Rows.callWith_type1 (thn (ha pos pins s σ H _ I h) fun us s1 ⟨vs, H1, I1, r1, q1⟩ => ?_) hs rfl))
  obtain ⟨j, e, q1, q2, q⟩ := q1
  subst e
  cases r1 with
  | cons r rr =>
    cases rr
    obtain ⟨t, rfl⟩ := r
    exact call_range_1 (range_it I1 (by omega) (by omega) q1 q2 (by simpa using q))
theorem pi_range2 {a b : Expr} {ta : TA} {p pos : Pos} (hg : Gl X "range") (hm : X.mg "range" = none) (ha : PA X [a, b] ta) (hs : starEach [a, b] X.env = [(false, eval a X.env), (false, eval b X.env)] := by rfl) (hs2 : starEach [b] X.env = [(false, eval b X.env)] := by rfl) :
    PI X tg (.Call (.Name "range" p) [a, b] [] pos) (iRng2 ta) := by
  intro pins s σ H R I h
  refine Call_ (ld_blt I hg hm boot_range (PyProof.Rows.callWith_type1 (thn (ha pos pins s σ H _ I h) fun us s1 ⟨vs, H1, I1, r1, q1⟩ => ?_) (by rw [hs, hs2]) (by rw [hs2]; rfl)))
  obtain ⟨i, j, e, ⟨q1, q2, q3, q4⟩, q⟩ := q1
  subst e
  cases r1 with
  | cons r rr =>
    cases rr with
    | cons r' rr =>
      cases rr
      obtain ⟨t, rfl⟩ := r
      obtain ⟨t', rfl⟩ := r'
      exact call_range_2 (range_it I1 q1 q2 q3 q4 q)
def tFor (wi : TI) (g : TG) (tb : TS) : TS := fun D σ H => wi σ H fun J H1 => ∃ W : Nat → Nat → St → Hp → Prop, (∃ m, W 0 m σ H1) ∧ ∀ i m σ H, W i m σ H →
  (J.stop i H ∧ D.nx σ H) ∨ (J.go i H ∧ ∃ N : St → Hp → Prop, (∀ σ' H', N σ' H' → ∃ m', m' < m ∧ W (i + 1) m' σ' H') ∧ ∀ x H', J.yld i H x H' → g x σ H' fun σ2 H2 => tb { D with nx := N, ct := N, bk := D.nx } σ2 H2)
def pinsAt (fp : List Addr) (h : Heap) : List (Addr × Obj) := fp.filterMap fun b => (h.get? b).map fun o => (b, o)
theorem mem_pinsAt {fp : List Addr} {h : Heap} {b : Addr} {o : Obj} (hb : b ∈ fp) (e : h.get? b = some o) : (b, o) ∈ pinsAt fp h := List.mem_filterMap.mpr ⟨b, hb, by rw [e]; rfl⟩
theorem of_pinsAt {fp : List Addr} {h : Heap} {p : Addr × Obj} (hp : p ∈ pinsAt fp h) : p.1 ∈ fp ∧ h.get? p.1 = some p.2 := by
  obtain ⟨b, hb, e⟩ := List.mem_filterMap.mp hp
  cases q : h.get? b with
  | none => rw [q] at e; cases e
  | some o =>
    rw [q] at e
    have e' : (b, o) = p := Option.some.inj e
    subst e'
    exact ⟨hb, q⟩
theorem Inv.pinned {pins : List (Addr × Obj)} {σ : St} {H : Hp} {s : Shared} {fp : List Addr} (I : Inv X pins σ H s) (hf : ∀ b ∈ fp, FpOk X pins H b) (ho : ∀ b ∈ fp, ∃ o, s.heap.get? b = some o ∧ ∀ v, o.data ≠ .cell v) : Inv X (pins ++ pinsAt fp s.heap) σ H s :=
  I.pins_of fun p hp => (List.mem_append.mp hp).elim (fun z => I.pin p (List.mem_append_right _ z)) fun z => by
    obtain ⟨hb, e⟩ := of_pinsAt z
    obtain ⟨f0, f1, f2, _⟩ := hf p.1 hb
    obtain ⟨o, e', d⟩ := ho p.1 hb
    rw [e] at e'; cases e'
    exact ⟨e, f0, f1, f2, d⟩
theorem Inv.unpinned {pins pl : List (Addr × Obj)} {σ : St} {H : Hp} {s : Shared} (I : Inv X (pins ++ pl) σ H s) : Inv X pins σ H s := I.pins_of fun p hp => I.pin p (List.mem_append_right _ (List.mem_append_left _ hp))
theorem ps_for {iter : Expr} {body : List Stmt} {wi : TI} {g : TG} {tb : TS} {pos : Pos} (hp : PassesOwn (model X.prog X.w) X.A X.env X.xe) (hc : X.calm = true) (hi : PI X tg iter wi) (hg : PG X tg g) (hb : PSs X body tb)
    (hs : ∀ x, foldedSetIterable iter X.env x = pure x := by intro _; rfl) : PS X (.For tg iter body [] pos) (tFor wi g tb) := by
  intro pins s σ H D I h
  refine wpAny_For (thn (hi pins s σ H _ I h) fun v s1 h1 => thn h1 fun itv s2 h2 => ?_) hs
  obtain ⟨it, fp, tn, J, H2, e, I2, T, st2, f2, W, ⟨m0, w0⟩, turn⟩ := h2
  subst e
  -- what stays true of the iterator's objects through the loop
  have stat : ∀ {H' : Hp}, (∀ b ∈ fp, H' b = none) → ∀ b ∈ fp, FpOk X pins H' b := fun hn b hb => ⟨hn b hb, (f2 b hb).2⟩
  refine codeAny_forLoop_any (fun n s' => ∃ i σ' H', Inv X pins σ' H' s' ∧ tn i s'.heap ∧ (∀ b ∈ fp, H' b = none) ∧ W i n σ' H') ?_ m0 ⟨0, σ, H2, I2, st2, fun b hb => (f2 b hb).1, w0⟩
  rintro n s3 ⟨i, σ3, H3, I3, st3, fr3, w3⟩
  rcases turn i n σ3 H3 w3 with ⟨stop, qn⟩ | ⟨go, N, hN, step⟩
  · refine wpAny_passesOwn hp (thn (T.done X rfl rfl rfl hc i pins s3 σ3 H3 X.xe I3 (stat fr3) st3 stop) fun r s4 ⟨hr, I4⟩ => ?_)
    subst hr
    exact wpAny_execs_nil ⟨σ3, H3, I4, qn⟩
  · refine wpAny_passesOwn hp (thn (T.item X rfl rfl rfl hc i pins s3 σ3 H3 X.xe I3 (stat fr3) st3 go) fun r s4 ⟨u, hr, h4⟩ => ?_)
    subst hr
    refine wpAny_passesOwn hp (thn h4 fun _ s5 ⟨x, H5, I5, r5, y5, st5, fr5⟩ => ?_)
    have I5' := I5.pinned (stat fr5) (T.obj _ _ st5)
    refine wpAny_passesOwn hp (thn (hg _ s5 σ3 H5 x u _ I5' r5 (step x H5 y5)) fun _ s6 ⟨σ6, H6, I6, q6⟩ => ?_)
    refine wpAny_passesOwn hp (thn (hb _ s6 σ6 H6 _ I6 q6) fun f s7 q7 => ?_)
    have again : ∀ {σ7 : St} {H7 : Hp}, Inv X (pins ++ pinsAt fp s5.heap) σ7 H7 s7 → N σ7 H7 → ∃ m, m < n ∧ ∃ i σ' H', Inv X pins σ' H' s7 ∧ tn i s7.heap ∧ (∀ b ∈ fp, H' b = none) ∧ W i m σ' H' := fun {σ7 H7} I7 n7 => by
      obtain ⟨m', hm, w7⟩ := hN σ7 H7 n7
      refine ⟨m', hm, i + 1, σ7, H7, I7.unpinned, T.keep _ _ _ st5 fun b hb o e => (I7.pin (b, o) (List.mem_append_right _ (List.mem_append_right _ (mem_pinsAt hb e)))).1, fun b hb => ?_, w7⟩
      obtain ⟨o, e, d⟩ := T.obj _ _ st5 b hb
      exact (I7.pin (b, o) (List.mem_append_right _ (List.mem_append_right _ (mem_pinsAt hb e)))).2.1
    cases f with
    | next => obtain ⟨σ7, H7, I7, n7⟩ := q7; exact again I7 n7
    | cont => obtain ⟨σ7, H7, I7, n7⟩ := q7; exact again I7 n7
    | brk => obtain ⟨σ7, H7, I7, q7⟩ := q7; exact ⟨σ7, H7, I7.unpinned, q7⟩
    | ret v => obtain ⟨x7, σ7, H7, I7, r7, q7⟩ := q7; exact ⟨x7, σ7, H7, I7.unpinned, r7, q7⟩
end
theorem for_list {K : PySem.W.Frag} {a : Addr} {xs : List V} {g : TG} {tb : TS} {D : Ends} {σ : St} {H : Hp} (Pv : Nat → St → Hp → Prop) (h0 : Pv 0 σ H) (hl : ∀ i σ H, i ≤ xs.length → Pv i σ H → SqL K H a xs)
    (hs : ∀ i x σ H, xs[i]? = some x → Pv i σ H → g x σ H fun σ2 H2 => tb { D with nx := Pv (i + 1), ct := Pv (i + 1), bk := D.nx } σ2 H2) (hd : ∀ σ H, Pv xs.length σ H → D.nx σ H) :
    ∃ W : Nat → Nat → St → Hp → Prop, (∃ m, W 0 m σ H) ∧ ∀ i m σ H, W i m σ H →
      ((Itl K a).stop i H ∧ D.nx σ H) ∨ ((Itl K a).go i H ∧ ∃ N : St → Hp → Prop, (∀ σ' H', N σ' H' → ∃ m', m' < m ∧ W (i + 1) m' σ' H') ∧ ∀ x H', (Itl K a).yld i H x H' → g x σ H' fun σ2 H2 => tb { D with nx := N, ct := N, bk := D.nx } σ2 H2) := by
  refine ⟨fun i m σ H => m = xs.length - i ∧ i ≤ xs.length ∧ Pv i σ H, ⟨xs.length, by simp, Nat.zero_le _, h0⟩, ?_⟩
  rintro i m σ H ⟨rfl, hi, p⟩
  have q := hl i σ H hi p
  by_cases hlt : i < xs.length
  · refine .inr ⟨⟨xs, xs[i], q, by simp [hlt]⟩, Pv (i + 1), fun σ' H' p' => ⟨xs.length - (i + 1), by omega, rfl, hlt, p'⟩, fun x H' y => ?_⟩
    obtain ⟨e, y⟩ := y
    subst e
    exact hs i x σ _ (y xs q) p
  · have e : i = xs.length := by omega
    subst e
    exact .inl ⟨⟨xs, q, Nat.le_refl _⟩, hd σ H p⟩
theorem for_tup {K : PySem.W.Frag} {a : Addr} {xs : List V} {g : TG} {tb : TS} {D : Ends} {σ : St} {H : Hp} (Pv : Nat → St → Hp → Prop) (h0 : Pv 0 σ H) (hl : ∀ i σ H, i ≤ xs.length → Pv i σ H → SqT K H a xs)
    (hs : ∀ i x σ H, xs[i]? = some x → Pv i σ H → g x σ H fun σ2 H2 => tb { D with nx := Pv (i + 1), ct := Pv (i + 1), bk := D.nx } σ2 H2) (hd : ∀ σ H, Pv xs.length σ H → D.nx σ H) :
    ∃ W : Nat → Nat → St → Hp → Prop, (∃ m, W 0 m σ H) ∧ ∀ i m σ H, W i m σ H →
      ((Itt K a).stop i H ∧ D.nx σ H) ∨ ((Itt K a).go i H ∧ ∃ N : St → Hp → Prop, (∀ σ' H', N σ' H' → ∃ m', m' < m ∧ W (i + 1) m' σ' H') ∧ ∀ x H', (Itt K a).yld i H x H' → g x σ H' fun σ2 H2 => tb { D with nx := N, ct := N, bk := D.nx } σ2 H2) := by
  refine ⟨fun i m σ H => m = xs.length - i ∧ i ≤ xs.length ∧ Pv i σ H, ⟨xs.length, by simp, Nat.zero_le _, h0⟩, ?_⟩
  rintro i m σ H ⟨rfl, hi, p⟩
  have q := hl i σ H hi p
  by_cases hlt : i < xs.length
  · refine .inr ⟨⟨xs, xs[i], q, by simp [hlt]⟩, Pv (i + 1), fun σ' H' p' => ⟨xs.length - (i + 1), by omega, rfl, hlt, p'⟩, fun x H' y => ?_⟩
    obtain ⟨e, y⟩ := y
    subst e
    exact hs i x σ _ (y xs q) p
  · have e : i = xs.length := by omega
    subst e
    exact .inl ⟨⟨xs, q, Nat.le_refl _⟩, hd σ H p⟩
theorem for_range {lo : Int} {n : Nat} {g : TG} {tb : TS} {D : Ends} {σ : St} {H : Hp} (Pv : Nat → St → Hp → Prop) (h0 : Pv 0 σ H)
    (hs : ∀ i σ H, i < n → Pv i σ H → g (.int (lo + i)) σ H fun σ2 H2 => tb { D with nx := Pv (i + 1), ct := Pv (i + 1), bk := D.nx } σ2 H2) (hd : ∀ σ H, Pv n σ H → D.nx σ H) :
    ∃ W : Nat → Nat → St → Hp → Prop, (∃ m, W 0 m σ H) ∧ ∀ i m σ H, W i m σ H →
      ((Itr lo n).stop i H ∧ D.nx σ H) ∨ ((Itr lo n).go i H ∧ ∃ N : St → Hp → Prop, (∀ σ' H', N σ' H' → ∃ m', m' < m ∧ W (i + 1) m' σ' H') ∧ ∀ x H', (Itr lo n).yld i H x H' → g x σ H' fun σ2 H2 => tb { D with nx := N, ct := N, bk := D.nx } σ2 H2) := by
  refine ⟨fun i m σ H => m = n - i ∧ i ≤ n ∧ Pv i σ H, ⟨n, by simp, Nat.zero_le _, h0⟩, ?_⟩
  rintro i m σ H ⟨rfl, hi, p⟩
  by_cases hlt : i < n
  · refine .inr ⟨hlt, Pv (i + 1), fun σ' H' p' => ⟨n - (i + 1), by omega, rfl, hlt, p'⟩, fun x H' y => ?_⟩
    obtain ⟨e, y⟩ := y
    subst e y
    exact hs i σ _ hlt p
  · have e : i = n := by omega
    subst e
    exact .inl ⟨Nat.le_refl _, hd σ H p⟩
end L2
namespace L2
open PySem PySem.Spec PyProof.Rows
abbrev R2 := V → V → Hp → VK → Prop
def OpR (X : Cx) (f : Value → Value → Sem Value) (r : R2) : Prop :=
  ∀ (pins : List (Addr × Obj)) (s : Shared) (σ : St) (H : Hp) (x y : V) (v u : Value) (Q : VK), Inv X pins σ H s → RelV x v → RelV y u → r x y H Q →
    wpAny (model X.prog X.w) X.A (f v u) (EP X pins σ Q) X.xe s
def UnR (X : Cx) (f : Value → Sem Value) (r : V → Hp → VK → Prop) : Prop :=
  ∀ (pins : List (Addr × Obj)) (s : Shared) (σ : St) (H : Hp) (x : V) (v : Value) (Q : VK), Inv X pins σ H s → RelV x v → r x H Q →
    wpAny (model X.prog X.w) X.A (f v) (EP X pins σ Q) X.xe s
def CallR (X : Cx) (f : Value) (r : List V → Hp → VK → Prop) : Prop :=
  ∀ (pins : List (Addr × Obj)) (s : Shared) (σ : St) (H : Hp) (xs : List V) (us : List Value) (Q : VK), Inv X pins σ H s → Vals xs us → r xs H Q →
    wpAny (model X.prog X.w) X.A (call f us) (EP X pins σ Q) X.xe s
def TruR (X : Cx) (r : V → Hp → (Bool → Hp → Prop) → Prop) : Prop :=
  ∀ (pins : List (Addr × Obj)) (s : Shared) (σ : St) (H : Hp) (x : V) (v : Value) (Q : Bool → Hp → Prop), Inv X pins σ H s → RelV x v → r x H Q →
    wpAny (model X.prog X.w) X.A (truthy v) (TP X pins σ Q) X.xe s
def tOp (r : R2) (ta tb : TE) : TE := fun σ H Q => ta σ H fun x H1 => tb σ H1 fun y H2 => r x y H2 Q
def tUn (r : V → Hp → VK → Prop) (ta : TE) : TE := fun σ H Q => ta σ H fun x H1 => r x H1 Q
def rI (C : Int → Int → Prop) (g : Int → Int → V) : R2 := fun x y H Q => ∃ i j, x = .int i ∧ y = .int j ∧ C i j ∧ Q (g i j) H
def rI0 (g : Int → Int → V) : R2 := fun x y H Q => ∃ i j, x = .int i ∧ y = .int j ∧ Q (g i j) H
def rU (g : Int → V) : V → Hp → VK → Prop := fun x H Q => ∃ i, x = .int i ∧ Q (g i) H
section
variable {X : Cx} {a b c : Expr} {ta tb tc : TE} {pos : Pos}
theorem binT (ha : PE X a ta) (hb : PE X b tb) {pins : List (Addr × Obj)} {s : Shared} {σ : St} {H : Hp} {R : V → V → Hp → Prop} (I : Inv X pins σ H s)
    (h : ta σ H fun x H1 => tb σ H1 fun y H2 => R x y H2) {Q : Value → Shared → Prop} {f : Value → Value → Sem Value}
    (hf : ∀ v u s2 x y H2, Inv X pins σ H2 s2 → RelV x v → RelV y u → R x y H2 → wpAny (model X.prog X.w) X.A (f v u) Q X.xe s2) :
    wpAny (model X.prog X.w) X.A (eval a X.env) (fun v s₁ => wpAny (model X.prog X.w) X.A (eval b X.env) (fun u s₂ => wpAny (model X.prog X.w) X.A (f v u) Q X.xe s₂) X.xe s₁) X.xe s := by
  refine thn (ha pins s σ H _ I h) fun v s1 ⟨x, H1, I1, r1, q1⟩ => ?_
  refine thn (hb pins s1 σ H1 _ I1 q1) fun u s2 ⟨y, H2, I2, r2, q2⟩ => ?_
  exact hf v u s2 x y H2 I2 r1 r2 q2
theorem pe_op {op : Operator} {r : R2} (ho : OpR X (binaryOp op) r) (ha : PE X a ta) (hb : PE X b tb) : PE X (.BinOp a op b pos) (tOp r ta tb) := by
  intro pins s σ H Q I h
  exact wpAny_BinOp (binT ha hb I h fun v u s2 x y H2 I2 rx ry q => ho pins s2 σ H2 x y v u Q I2 rx ry q)
theorem pe_un {op : UnaryOp} {r : V → Hp → VK → Prop} (ho : UnR X (unaryOp op) r) (ha : PE X a ta) : PE X (.UnaryOp op a pos) (tUn r ta) := by
  intro pins s σ H Q I h
  exact UnaryOp_ (thn (ha pins s σ H _ I h) fun v s1 ⟨x, H1, I1, r1, q1⟩ => ho pins s1 σ H1 x v Q I1 r1 q1)
theorem opI {f : Value → Value → Sem Value} {C : Int → Int → Prop} {g : Int → Int → Int}
    (rule : ∀ (i j : Int) (t u : Tok) (s : Shared) (Q : Value → Shared → Prop) (E : Value → Shared → Prop), C i j → Q (.int (g i j) s.toks) { s with toks := s.toks + 1 } → wpAny (model X.prog X.w) X.A (f (.int i t) (.int j u)) Q E s) :
    OpR X f (rI C fun i j => .int (g i j)) := by
  intro pins s σ H x y v u Q I rx ry h
  obtain ⟨i, j, rfl, rfl, hc, q⟩ := h
  obtain ⟨t, rfl⟩ := rx
  obtain ⟨t', rfl⟩ := ry
  exact rule i j t t' s _ _ hc ⟨.int (g i j), H, I.tok _, ⟨_, rfl⟩, q⟩
theorem opI0 {f : Value → Value → Sem Value} {g : Int → Int → Int}
    (rule : ∀ (i j : Int) (t u : Tok) (s : Shared) (Q : Value → Shared → Prop) (E : Value → Shared → Prop), Q (.int (g i j) s.toks) { s with toks := s.toks + 1 } → wpAny (model X.prog X.w) X.A (f (.int i t) (.int j u)) Q E s) :
    OpR X f (rI0 fun i j => .int (g i j)) := by
  intro pins s σ H x y v u Q I rx ry h
  obtain ⟨i, j, rfl, rfl, q⟩ := h
  obtain ⟨t, rfl⟩ := rx
  obtain ⟨t', rfl⟩ := ry
  exact rule i j t t' s _ _ ⟨.int (g i j), H, I.tok _, ⟨_, rfl⟩, q⟩
theorem opB0 {f : Value → Value → Sem Value} {g : Int → Int → Bool}
    (rule : ∀ (i j : Int) (t u : Tok) (s : Shared) (Q : Value → Shared → Prop) (E : Value → Shared → Prop), Q (.bool (g i j)) s → wpAny (model X.prog X.w) X.A (f (.int i t) (.int j u)) Q E s) :
    OpR X f (rI0 fun i j => .bl (g i j)) := by
  intro pins s σ H x y v u Q I rx ry h
  obtain ⟨i, j, rfl, rfl, q⟩ := h
  obtain ⟨t, rfl⟩ := rx
  obtain ⟨t', rfl⟩ := ry
  exact rule i j t t' s _ _ ⟨.bl (g i j), H, I, rfl, q⟩
def CPow (i j : Int) : Prop := 0 ≤ j ∧ j ≤ 1000000 ∧ i.natAbs < 2 ^ 64
def CMul (i j : Int) : Prop := (-(2 ^ 64) < i ∧ i < 2 ^ 64) ∨ (-(2 ^ 64) < j ∧ j < 2 ^ 64)
theorem CMul.ok {i j : Int} (h : CMul i j) : IntMulOk i j := by
  rcases h with ⟨h1, h2⟩ | ⟨h1, h2⟩
  · exact .of_left (intBits_le_64 h1 h2)
  · exact .of_right (intBits_le_64 h1 h2)
theorem op_add : OpR X (binaryOp .Add) (rI0 fun i j => .int (i + j)) := opI0 fun _ _ _ _ _ _ _ q => add_int q
theorem op_sub : OpR X (binaryOp .Sub) (rI0 fun i j => .int (i - j)) := opI0 fun _ _ _ _ _ _ _ q => sub_int q
theorem op_mul : OpR X (binaryOp .Mult) (rI CMul fun i j => .int (i * j)) := opI fun _ _ _ _ _ _ _ hc q => mul_int q hc.ok
theorem op_mod : OpR X (binaryOp .Mod) (rI (fun _ j => 0 < j) fun i j => .int (i % j)) := opI fun i j _ _ _ _ _ hc q => by
  have h1 : (0 : Int) < j := hc
  exact mod_int' (by omega) (by rw [Int.fmod_eq_emod_of_nonneg i (by omega)]; exact q)
theorem op_pow : OpR X (binaryOp .Pow) (rI CPow fun i j => .int (i ^ j.toNat)) := opI fun _ _ _ _ _ _ _ hc q => pow_int_small hc.1 hc.2.1 hc.2.2 q
theorem unI {f : Value → Sem Value} {g : Int → Int}
    (rule : ∀ (i : Int) (t : Tok) (s : Shared) (Q : Value → Shared → Prop) (E : Value → Shared → Prop), Q (.int (g i) s.toks) { s with toks := s.toks + 1 } → wpAny (model X.prog X.w) X.A (f (.int i t)) Q E s) :
    UnR X f (rU fun i => .int (g i)) := by
  intro pins s σ H x v Q I rx h
  obtain ⟨i, rfl, q⟩ := h
  obtain ⟨t, rfl⟩ := rx
  exact rule i t s _ _ ⟨.int (g i), H, I.tok _, ⟨_, rfl⟩, q⟩
theorem un_neg : UnR X (unaryOp .USub) (rU fun i => .int (-i)) := unI fun _ _ _ _ _ q => neg_int q
end
def scal : V → V → Bool
  | .non, .non => true | .non, .int _ => true | .int _, .non => true | .non, .bl _ => true | .bl _, .non => true | .non, .str _ => true | .str _, .non => true
  | .int _, .int _ => true | .bl _, .bl _ => true | .str _, .str _ => true | .byt _, .byt _ => true
  | .int _, .str _ => true | .str _, .int _ => true | .bl _, .str _ => true | .str _, .bl _ => true
  | _, _ => false
def rEq : R2 := fun x y H Q => scal x y = true ∧ Q (.bl (decide (x = y))) H
def rNe : R2 := fun x y H Q => scal x y = true ∧ Q (.bl (!decide (x = y))) H
theorem dec_int {i j : Int} : decide (V.int i = V.int j) = (i == j) := by
  rw [Bool.eq_iff_iff]
  simp
theorem dec_bl {i j : Bool} : decide (V.bl i = V.bl j) = (i == j) := by
  rw [Bool.eq_iff_iff]
  simp
theorem dec_str {i j : Str} : decide (V.str i = V.str j) = (i == j) := by
  rw [Bool.eq_iff_iff]
  simp
theorem dec_byt {i j : Array UInt8} : decide (V.byt i = V.byt j) = (i.toList == j.toList) := by
  rw [Bool.eq_iff_iff]
  cases i
  cases j
  simp
section
variable {X : Cx} {a b c : Expr} {ta tb tc : TE} {pos : Pos}
theorem fin_bl {pins : List (Addr × Obj)} {σ : St} {H : Hp} {s : Shared} {Q : VK} {k k' : Bool} (I : Inv X pins σ H s) (q : Q (.bl k) H) (e : k = k') : EP X pins σ Q (.bool k') s := by
  subst e
  exact ⟨.bl k, H, I, rfl, q⟩
theorem op_eq : OpR X (compareOp .Eq) rEq := by
  intro pins s σ H x y v u Q I rx ry h
  obtain ⟨hs, q⟩ := h
  cases x with
  | non =>
    cases rx
    cases y with
    | non => cases ry; exact PySem.EqNone.eq_none_none (fin_bl I q (by simp))
    | bl j => cases ry; exact PySem.EqNone.eq_none_bool (fin_bl I q (by simp))
    | int j => obtain ⟨t', rfl⟩ := ry; exact PySem.EqNone.eq_none_int (fin_bl I q (by simp))
    | str j => obtain ⟨t', rfl⟩ := ry; exact PySem.EqNone.eq_none_str (fin_bl I q (by simp))
    | _ => exact absurd (show false = true from hs) Bool.false_ne_true
  | bl i =>
    cases rx
    cases y with
    | non => cases ry; exact PySem.EqNone.eq_bool_none (fin_bl I q (by simp))
    | bl j => cases ry; exact eq_bool (fin_bl I q dec_bl)
    | str j => obtain ⟨t', rfl⟩ := ry; exact PySem.EqMixed.eq_bool_str (fin_bl I q (by simp))
    | _ => exact absurd (show false = true from hs) Bool.false_ne_true
  | int i =>
    obtain ⟨t, rfl⟩ := rx
    cases y with
    | non => cases ry; exact PySem.EqNone.eq_int_none (fin_bl I q (by simp))
    | int j => obtain ⟨t', rfl⟩ := ry; exact eq_int (fin_bl I q dec_int)
    | str j => obtain ⟨t', rfl⟩ := ry; exact PySem.EqMixed.eq_int_str (fin_bl I q (by simp))
    | _ => exact absurd (show false = true from hs) Bool.false_ne_true
  | str i =>
    obtain ⟨t, rfl⟩ := rx
    cases y with
    | non => cases ry; exact PySem.EqNone.eq_str_none (fin_bl I q (by simp))
    | bl j => cases ry; exact PySem.EqMixed.eq_str_bool (fin_bl I q (by simp))
    | int j => obtain ⟨t', rfl⟩ := ry; exact PySem.EqMixed.eq_str_int (fin_bl I q (by simp))
    | str j => obtain ⟨t', rfl⟩ := ry; exact eq_str (fin_bl I q dec_str)
    | _ => exact absurd (show false = true from hs) Bool.false_ne_true
  | byt i =>
    obtain ⟨t, rfl⟩ := rx
    cases y with
    | byt j => obtain ⟨t', rfl⟩ := ry; exact PySem.W.eq_bytes (fin_bl I q dec_byt)
    | _ => exact absurd (show false = true from hs) Bool.false_ne_true
  | _ => cases y <;> exact absurd (show false = true from hs) Bool.false_ne_true
theorem op_ne : OpR X (compareOp .NotEq) rNe := by
  intro pins s σ H x y v u Q I rx ry h
  obtain ⟨hs, q⟩ := h
  cases x with
  | non =>
    cases rx
    cases y with
    | non => cases ry; exact PySem.EqNone.ne_none_none (fin_bl I q (by simp))
    | bl j => cases ry; exact PySem.EqNone.ne_none_bool (fin_bl I q (by simp))
    | int j => obtain ⟨t', rfl⟩ := ry; exact PySem.EqNone.ne_none_int (fin_bl I q (by simp))
    | str j => obtain ⟨t', rfl⟩ := ry; exact PySem.EqNone.ne_none_str (fin_bl I q (by simp))
    | _ => exact absurd (show false = true from hs) Bool.false_ne_true
  | bl i =>
    cases rx
    cases y with
    | non => cases ry; exact PySem.EqNone.ne_bool_none (fin_bl I q (by simp))
    | bl j => cases ry; exact ne_bool (fin_bl I q (congrArg not dec_bl))
    | str j => obtain ⟨t', rfl⟩ := ry; exact PySem.EqMixed.ne_bool_str (fin_bl I q (by simp))
    | _ => exact absurd (show false = true from hs) Bool.false_ne_true
  | int i =>
    obtain ⟨t, rfl⟩ := rx
    cases y with
    | non => cases ry; exact PySem.EqNone.ne_int_none (fin_bl I q (by simp))
    | int j => obtain ⟨t', rfl⟩ := ry; exact ne_int (fin_bl I q (congrArg not dec_int))
    | str j => obtain ⟨t', rfl⟩ := ry; exact PySem.EqMixed.ne_int_str (fin_bl I q (by simp))
    | _ => exact absurd (show false = true from hs) Bool.false_ne_true
  | str i =>
    obtain ⟨t, rfl⟩ := rx
    cases y with
    | non => cases ry; exact PySem.EqNone.ne_str_none (fin_bl I q (by simp))
    | bl j => cases ry; exact PySem.EqMixed.ne_str_bool (fin_bl I q (by simp))
    | int j => obtain ⟨t', rfl⟩ := ry; exact PySem.EqMixed.ne_str_int (fin_bl I q (by simp))
    | str j => obtain ⟨t', rfl⟩ := ry; exact ne_str (fin_bl I q (congrArg not dec_str))
    | _ => exact absurd (show false = true from hs) Bool.false_ne_true
  | byt i =>
    obtain ⟨t, rfl⟩ := rx
    cases y with
    | byt j => obtain ⟨t', rfl⟩ := ry; exact PySem.W.ne_bytes (fin_bl I q (congrArg not dec_byt))
    | _ => exact absurd (show false = true from hs) Bool.false_ne_true
  | _ => cases y <;> exact absurd (show false = true from hs) Bool.false_ne_true
theorem op_lt : OpR X (compareOp .Lt) (rI0 fun i j => .bl (decide (i < j))) := opB0 fun _ _ _ _ _ _ _ q => lt_int q
theorem op_le : OpR X (compareOp .LtE) (rI0 fun i j => .bl (decide (i ≤ j))) := opB0 fun _ _ _ _ _ _ _ q => le_int q
theorem op_gt : OpR X (compareOp .Gt) (rI0 fun i j => .bl (decide (j < i))) := opB0 fun _ _ _ _ _ _ _ q => gt_int q
theorem op_ge : OpR X (compareOp .GtE) (rI0 fun i j => .bl (decide (j ≤ i))) := opB0 fun _ _ _ _ _ _ _ q => ge_int q
theorem op_isN : OpR X (compareOp .Is) (fun x y H Q => y = .non ∧ Q (.bl (decide (x = .non))) H) := by
  intro pins s σ H x y v u Q I rx ry h
  obtain ⟨rfl, q⟩ := h
  cases ry
  refine is_none_gen (fin_bl I q ?_)
  cases x <;> first
    | (cases rx; rfl)
    | (obtain ⟨t, rfl⟩ := rx; rfl)
theorem op_notN : OpR X (compareOp .IsNot) (fun x y H Q => y = .non ∧ Q (.bl (!decide (x = .non))) H) := by
  intro pins s σ H x y v u Q I rx ry h
  obtain ⟨rfl, q⟩ := h
  cases ry
  refine isnot_none_gen (fin_bl I q ?_)
  cases x <;> first
    | (cases rx; rfl)
    | (obtain ⟨t, rfl⟩ := rx; rfl)
theorem nomark (b : Expr) {op : CmpOp} (h : op ≠ .In := by decide) (h2 : op ≠ .NotIn := by decide) : behindInMarks op b = false := by
  have e1 : (op == CmpOp.In) = false := by cases op <;> first | rfl | exact absurd rfl h
  have e2 : (op == CmpOp.NotIn) = false := by cases op <;> first | rfl | exact absurd rfl h2
  cases b <;> simp [behindInMarks, e1, e2]
theorem pe_cmpR {op : CmpOp} {r : R2} (ho : OpR X (compareOp op) r) (ha : PE X a ta) (hb : PE X b tb) (hm : behindInMarks op b = false) : PE X (.Compare a [op] [b] pos) (tOp r ta tb) := by
  intro pins s σ H Q I h
  exact wpAny_Compare1 (binT ha hb I h fun v u s2 x y H2 I2 rx ry q => ho pins s2 σ H2 x y v u Q I2 rx ry q) hm
def tTest (t : TE) : TT := fun σ H Q => t σ H fun x H' => ∃ k, x = .bl k ∧ Q k H'
theorem pt_cmpR {op : CmpOp} {r : R2} (ho : OpR X (compareOp op) r) (ha : PE X a ta) (hb : PE X b tb) (hm : behindInMarks op b = false) : PT X (.Compare a [op] [b] pos) (tTest (tOp r ta tb)) := by
  intro pins s σ H Q I h
  refine wpAny_isTrue_Compare1 (thn (ha pins s σ H _ I h) fun v s1 ⟨x, H1, I1, r1, q1⟩ => thn (hb pins s1 σ H1 _ I1 q1) fun u s2 ⟨y, H2, I2, r2, q2⟩ =>
    thn (ho pins s2 σ H2 x y v u _ I2 r1 r2 q2) fun c s3 ⟨z, H3, I3, r3, k, e, q3⟩ => ?_) hm
  subst e
  cases r3
  exact wpAny_truthy_bool ⟨H3, I3, q3⟩
def TruV (K : PySem.W.Frag) (x : V) (H : Hp) (k : Bool) : Prop :=
  match x with
  | .non => k = false
  | .bl b => k = b
  | .int i => k = (i != 0)
  | .str y => y.length ≤ sizeLine ∧ k = ((y.length : Int) != 0)
  | .byt y => y.size ≤ sizeLine ∧ k = ((y.size : Int) != 0)
  | .ref p => (∃ xs, SqL K H p xs ∧ k = !xs.isEmpty) ∨ (∃ xs, SqT K H p xs ∧ k = !xs.isEmpty) ∨ ∃ kvs, H p = some (.dK kvs) ∧ k = !kvs.isEmpty
  | _ => False
theorem isEmpty_kv {κ : Type} {kvs : List (κ × V)} {vs : List (κ × Value)} (r : KV kvs vs) : (!vs.isEmpty) = !kvs.isEmpty := by
  cases r <;> rfl
theorem isEmpty_of {xs : List V} {its : List Value} (r : Vals xs its) : (!its.toArray.isEmpty) = !xs.isEmpty := by
  cases r <;> simp
theorem line63 : (sizeLine : Nat) < 2 ^ 63 := by rw [sizeLine_eq]; decide
theorem tru_ok : TruR X (fun x H Q => ∃ k, TruV X.K x H k ∧ Q k H) := by
  intro pins s σ H x v Q I rx h
  obtain ⟨k, e, q⟩ := h
  have hl := line63
  have hs : sizeLine = 16777216 := sizeLine_eq
  cases x with
  | non =>
    cases rx
    have e' : k = false := e
    subst e'
    exact truthy_none ⟨H, I, q⟩
  | bl b =>
    cases rx
    have e' : k = b := e
    subst e'
    exact wpAny_truthy_bool ⟨H, I, q⟩
  | int i =>
    obtain ⟨t, rfl⟩ := rx
    have e' : k = (i != 0) := e
    subst e'
    exact PySem.P.truthy_int ⟨H, I, q⟩
  | str y =>
    obtain ⟨t, rfl⟩ := rx
    obtain ⟨hy, e'⟩ : y.length ≤ sizeLine ∧ k = ((y.length : Int) != 0) := e
    subst e'
    exact PySem.P.truthy_str (by omega) ⟨H, I.tok _, q⟩
  | byt y =>
    obtain ⟨t, rfl⟩ := rx
    obtain ⟨hy, e'⟩ : y.size ≤ sizeLine ∧ k = ((y.size : Int) != 0) := e
    subst e'
    exact PySem.W.truthy_bytes (by omega) ⟨H, I.tok _, q⟩
  | ref p =>
    cases rx
    have e' : (∃ xs, SqL X.K H p xs ∧ k = !xs.isEmpty) ∨ (∃ xs, SqT X.K H p xs ∧ k = !xs.isEmpty) ∨ ∃ kvs, H p = some (.dK kvs) ∧ k = !kvs.isEmpty := e
    rcases e' with ⟨xs, hx, e'⟩ | ⟨xs, hx, e'⟩ | ⟨kvs, hx, e'⟩
    · subst e'
      obtain ⟨its, r, pl, hz⟩ := I.list hx
      have hlen := r.length
      exact wpAny_truthy_list pl.isList (by simp only [List.size_toArray]; omega) ⟨H, I.tok _, by rw [isEmpty_of r]; exact q⟩
    · subst e'
      obtain ⟨its, r, pl, hz⟩ := I.tuple hx
      have hlen := r.length
      exact truthy_tuple pl (by simp only [List.size_toArray]; omega) ⟨H, I.tok _, by rw [isEmpty_of r]; exact q⟩
    · subst e'
      obtain ⟨hz, hS, vs, r, m⟩ : kvs.length ≤ sizeLine ∧ (p == sysModules) = false ∧ ∃ vs, KV kvs vs ∧ s.heap.DictOf (mixKind X.prog X.w) p vs := I.hok p _ hx
      have hlen : kvs.length = vs.length := Paired.length r
      exact wpAny_truthy_dict hS m (by omega) ⟨H, I.tok _, by rw [isEmpty_kv r]; exact q⟩
  | _ => exact (show False from e).elim
theorem pt_truth (ha : PE X a ta) (he : ∀ whole, isTrue a X.env whole = (do let v ← whole; standAt a.pos; holding [v] (truthy v))) :
    PT X a (fun σ H Q => ta σ H fun x H' => ∃ k, TruV X.K x H' k ∧ Q k H') := by
  intro pins s σ H Q I h
  exact isTrue_plain (thn (ha pins s σ H _ I h) fun v s1 ⟨x, H1, I1, r1, q1⟩ => tru_ok pins s1 σ H1 x v Q I1 r1 q1) (he _)
theorem vals1 {x : V} {us : List Value} (r : Vals [x] us) : ∃ u, us = [u] ∧ RelV x u := by
  cases r with
  | cons r1 r2 => cases r2; exact ⟨_, rfl, r1⟩
theorem vals2 {x y : V} {us : List Value} (r : Vals [x, y] us) : ∃ u w', us = [u, w'] ∧ RelV x u ∧ RelV y w' := by
  cases r with
  | cons r1 r2 =>
    cases r2 with
    | cons r3 r4 => cases r4; exact ⟨_, _, rfl, r1, r3⟩
theorem call_min2 (hc : X.calm = true) : CallR X (.builtin "min") (fun xs H Q => ∃ i j, xs = [.int i, .int j] ∧ Q (.int (if j < i then j else i)) H) := by
  intro pins s σ H xs us Q I r h
  obtain ⟨i, j, rfl, q⟩ := h
  obtain ⟨u, w', rfl, ⟨t, rfl⟩, ⟨t', rfl⟩⟩ := vals2 r
  refine min_two_ints (I.ok.hd hc) fun h' tk k => ⟨_, H, I.kept k, ?_, q⟩
  by_cases hj : j < i
  · rw [if_pos hj, if_pos hj]; exact ⟨_, rfl⟩
  · rw [if_neg hj, if_neg hj]; exact ⟨_, rfl⟩
end
end L2
namespace L2
open PySem PySem.Spec PyProof.Rows
structure ObjM (h : Heap) (x dx C : Addr) (mA : Str → Option Value) : Prop where
  obj : h.get? x = some (PySem.W.instObj C dx)
  ns : h.Ns1 dx mA
  ne : dx ≠ x
theorem lookIn_ns {h : Heap} {dx : Addr} {mA : Str → Option Value} (n : h.Ns1 dx mA) : ∃ od, h.get? dx = some od ∧ ∀ name, PySem.W.lookIn name od = some (mA name) := by
  obtain ⟨o, es, ep, ho, hd, hk, _, hm⟩ := n
  refine ⟨o, ho, fun name => ?_⟩
  have e := hm name
  unfold nsFind findBy at e
  rw [← Array.find?_toList] at e
  unfold PySem.W.lookIn
  rw [hd]
  dsimp only
  split
  · rename_i y q
    rw [q] at e
    exact congrArg some e
  · rename_i q
    rw [q] at e
    have a : es.toList.any (·.refKey) = false := by
      rw [List.any_eq_false]
      intro y hy
      obtain ⟨z, t, hkey⟩ := hk y (Array.mem_toList_iff.mp hy)
      simp [DictEntry.refKey, hkey]
    have a' : ¬ es.toList.any (·.refKey) = true := by rw [a]; exact Bool.false_ne_true
    rw [if_neg a']
    exact congrArg some e
theorem ObjM.look {h : Heap} {x dx C : Addr} {mA : Str → Option Value} (I : ObjM h x dx C mA) : ∃ od, PySem.W.InstAt h x (PySem.W.instObj C dx) C (some od) ∧ ∀ name, PySem.W.lookIn name od = some (mA name) :=
  let ⟨od, ho, hl⟩ := lookIn_ns I.ns
  ⟨od, ⟨I.obj, rfl, rfl, ho⟩, hl⟩
section
variable {prog : Program} {w : World} {A : Around} {E : Value → Shared → Prop} {s : Shared} {K : PySem.W.Frag} {x dx C f : Addr} {mA : Str → Option Value} {name : Str} {v : Value}
end
section
variable {P : Program} {w : World} {H H' : Hp} {h h' : Heap} {a C dx : Addr} {fs fs' : List (Str × V)}
theorem ins_get (hok : HOk P w H h) (e : H a = some (.ins C dx fs)) : ∃ mA, ObjM h a dx C mA ∧ (∀ f, RelO (fs.lookup f) (mA f)) ∧ PySem.Within mA (fs.map (·.1)) ∧ fs.length ≤ 1000 ∧ H dx = some (.own a) := by
  obtain ⟨d, z, ne, ob, mA, n, r, q⟩ := (show ObjOk P w H h a (.ins C dx fs) from hok a _ e)
  exact ⟨mA, ⟨ob, n, ne⟩, r, q, z, d⟩
end
structure Cls (K : PySem.W.Frag) (C : Addr) : Prop where
  pg : PySem.W.plainGet K C Str.empty = true
  hd : PySem.W.hasDictIn K C = true
  po : PySem.W.plainOver K C = true
  sa : PySem.W.findIn K (.ref C) "__setattr__" = some (some (.builtin "object.__setattr__"))
theorem Cls.get {K : PySem.W.Frag} {C : Addr} (c : Cls K C) (f : Str) : PySem.W.plainGet K C f = true := c.pg
section
variable {X : Cx} {pins : List (Addr × Obj)} {σ : St} {H : Hp} {s : Shared} {a C dx : Addr} {fs : List (Str × V)} {f : Str} {v : V} {A : Around} {E : Value → Shared → Prop}
end
section
variable {X : Cx} {o e value : Expr} {f : Str} {pos pos' tpos : Pos} {ta tv : TE}
end
section
variable {X : Cx} {pins : List (Addr × Obj)} {σ : St} {H : Hp} {s : Shared} {A : Around} {E : Value → Shared → Prop} {Q : Value → Shared → Prop} {c : Value} {b : Bool}
inductive TyOf (K : PySem.W.Frag) (H : Hp) : V → Value → Prop where
  | non : TyOf K H .non (.type "NoneType")
  | bl (x : Bool) : TyOf K H (.bl x) (.type "bool")
  | int (i : Int) : TyOf K H (.int i) (.type "int")
  | str (x : Str) : TyOf K H (.str x) (.type "str")
  | flt (x : UInt64) : TyOf K H (.flt x) (.type "float")
  | lst {a : Addr} {xs : List V} (e : H a = some (.lst xs)) : TyOf K H (.ref a) (.type "list")
  | frz {a : Addr} {o : Obj} {xs : List V} (e : H a = some (.frz o (.lst xs))) : TyOf K H (.ref a) (.type "list")
  | tup {a : Addr} {xs : List V} (e : H a = some (.tup xs)) : TyOf K H (.ref a) (.type "tuple")
  | dK {a : Addr} {kvs : List (Key × V)} (e : H a = some (.dK kvs)) : TyOf K H (.ref a) (.type "dict")
  | dT {a : Addr} {kvs : List (List Key × V)} (e : H a = some (.dT kvs)) : TyOf K H (.ref a) (.type "dict")
  | ins {a C dx : Addr} {fs : List (Str × V)} (e : H a = some (.ins C dx fs)) (cl : Cls K C) (ha : PySem.W.findIn K (.ref C) "__class__" = some (some (.builtin "object.__class__")))
      (hn : PySem.W.specialIn K (.builtin "object.__class__") "__get__" = some (some (.builtin "getset_descriptor.__get__"))) (htk : PySem.W.takesIn K (.builtin "object.__class__") = some true)
      (hm : PySem.W.mroIn K C (.type "object") = some true) : TyOf K H (.ref a) (.ref C)
theorem isinst_ok {x : V} {u t : Value} (I : Inv X pins σ H s) (rx : RelV x u) (ty : TyOf X.K H x t) (e : PySem.W.kitOne X.K t c = some b) (h : ∀ tk, Q (.bool b) { s with toks := tk }) :
    wpAny (model X.prog X.w) A (call (.builtin "isinstance") [u, c]) Q E s := by
  cases ty with
  | non => cases (show u = Value.none from rx); exact PySem.W.kia_one PySem.W.kitx_none I.kIn True.intro e (fun z => nomatch z) h
  | bl y => cases (show u = Value.bool y from rx); exact PySem.W.kia_one PySem.W.kitx_bool I.kIn True.intro e (fun z => nomatch z) h
  | int i => obtain ⟨t, q⟩ := (show ∃ t, u = Value.int i t from rx); cases q; exact PySem.W.kia_one PySem.W.kitx_int I.kIn True.intro e (fun z => nomatch z) h
  | str y => obtain ⟨t, q⟩ := (show ∃ t, u = Value.str y t from rx); cases q; exact PySem.W.kia_one PySem.W.kitx_str I.kIn True.intro e (fun z => nomatch z) h
  | flt y => obtain ⟨t, q⟩ := (show ∃ t, u = Value.float y t from rx); cases q; exact PySem.W.kia_one PySem.W.kitx_float I.kIn True.intro e (fun z => nomatch z) h
  | @lst a xs ea =>
    cases (show u = Value.ref a from rx)
    obtain ⟨_, _, n, _, h1⟩ := (show ObjOk X.prog X.w H s.heap a (.lst xs) from I.hok a _ ea)
    exact PySem.W.kia_one PySem.W.kitx_list I.kIn ⟨_, h1, rfl⟩ e (fun z => nomatch z) h
  | @frz a ob xs ea =>
    cases (show u = Value.ref a from rx)
    obtain ⟨_, _, _, n, _, h1⟩ := (show ObjOk X.prog X.w H s.heap a (.frz ob (.lst xs)) from I.hok a _ ea)
    exact PySem.W.kia_one PySem.W.kitx_list I.kIn ⟨_, h1, rfl⟩ e (fun z => nomatch z) h
  | @tup a xs ea =>
    cases (show u = Value.ref a from rx)
    obtain ⟨_, _, _, p, _⟩ := (show ObjOk X.prog X.w H s.heap a (.tup xs) from I.hok a _ ea)
    obtain ⟨o, h1, h2, _⟩ := p
    exact PySem.W.kia_one PySem.W.kitx_tuple I.kIn ⟨o, h1, h2⟩ e (fun z => nomatch z) h
  | @dK a kvs ea =>
    cases (show u = Value.ref a from rx)
    obtain ⟨_, _, vs, _, p⟩ := (show ObjOk X.prog X.w H s.heap a (.dK kvs) from I.hok a _ ea)
    obtain ⟨o, es, ep, h1, h2, _⟩ := p
    exact PySem.W.kia_one PySem.W.kitx_dict I.kIn ⟨o, h1, h2.1⟩ e (fun z => nomatch z) h
  | @dT a kvs ea =>
    cases (show u = Value.ref a from rx)
    obtain ⟨_, _, xs, _, o, es, ep, h1, h2, _⟩ := (show ObjOk X.prog X.w H s.heap a (.dT kvs) from I.hok a _ ea)
    exact PySem.W.kia_one PySem.W.kitx_dict I.kIn ⟨o, h1, h2.1⟩ e (fun z => nomatch z) h
  | @ins a C dx fs ea cl ha hn htk hm =>
    cases (show u = Value.ref a from rx)
    obtain ⟨mA, O, _⟩ := ins_get I.hok ea
    obtain ⟨od, J, _⟩ := O.look
    exact PySem.W.kia_one (PySem.W.kitx_own (cl.get _) cl.hd ha hn htk hm) I.kIn J e (fun z => nomatch z) h
end
end L2
namespace L2
open PySem PySem.Spec PyProof.Rows
structure Room (k : Nat) (A : Around) (cm : Bool := true) : Prop where
  hd : cm = true → A.handled = none
  dp : A.depth + 3 * k + 5 < recursionLimit
  un : A.units + 16 * k + 200 < cLine
theorem Room.mono {j k : Nat} {A : Around} {cm : Bool} (r : Room k A cm) (h : j ≤ k) : Room j A cm := ⟨r.hd, by have := r.dp; omega, by have := r.un; omega⟩
theorem Room.deeper {k : Nat} {A : Around} {cm : Bool} (r : Room (k + 1) A cm) (env : Env) : Room k (A.deeper env) cm :=
  ⟨r.hd, by have := r.dp; show A.depth + 1 + 3 * k + 5 < _; omega, by have := r.un; show A.units + 3 + 16 * k + 200 < _; omega⟩
theorem Room.depth {k : Nat} {A : Around} {cm : Bool} (r : Room k A cm) : A.depth < recursionLimit := by have := r.dp; omega
theorem Room.units {k : Nat} {A : Around} {cm : Bool} (r : Room k A cm) : A.units + 64 < cLine := by have := r.un; omega
theorem Room.units0 {k : Nat} {A : Around} {cm : Bool} (r : Room k A cm) : A.units < cLine := by have := r.un; omega
def tNil : TA := fun _ H Q => Q [] H
def tCons (ta : TE) (tr : TA) : TA := fun σ H Q => ta σ H fun x H1 => tr σ H1 fun xs H2 => Q (x :: xs) H2
section
variable {X : Cx} {e : Expr} {es : List Expr} {te : TE} {t : TA} {pos : Pos}
theorem pa_nil : PA X [] tNil := fun _ _ _ _ H Q I h => Calls.spliced_nil ⟨[], H, I, .nil, h⟩
theorem pa_cons (ha : PE X e te) (hr : PA X es t) (hs : starEach (e :: es) X.env = (false, eval e X.env) :: starEach es X.env := by rfl) : PA X (e :: es) (tCons te t) := by
  intro pos pins s σ H Q I h
  rw [hs]
  show wpAny _ _ (spliced ((false, eval e X.env) :: backTo pos (starEach es X.env))) _ _ s
  refine Calls.spliced_cons (thn (ha pins s σ H _ I h) fun u s1 ⟨x, H1, I1, r1, q1⟩ => ?_)
  exact thn (hr pos pins s1 σ H1 _ I1 q1) fun us s2 ⟨xs, H2, I2, r2, q2⟩ => ⟨x :: xs, H2, I2, .cons r1 r2, q2⟩
def tTup (t : TA) : TE := fun σ H Q => t σ H fun xs H1 => xs.length ≤ sizeLine ∧ ∀ p, H1 p = none → Q (.ref p) (upd H1 p (.tup xs))
def tLst (t : TA) : TE := fun σ H Q => t σ H fun xs H1 => xs.length ≤ sizeLine ∧ ∀ p, H1 p = none → Q (.ref p) (upd H1 p (.lst xs))
theorem pe_tup {x1} (h : PA X es t) : PE X (.Tuple es x1 pos) (tTup t) := by
  intro pins s σ H Q I hq
  refine wpAny_Tuple_spliced (thn (h pos pins s σ H _ I hq) fun us s1 ⟨xs, H1, I1, r, z, q⟩ => ⟨by rw [← r.length]; exact z, ?_⟩)
  have hf : H1 s1.heap.objs.size = none := I1.hok.fresh (Nat.le_refl _)
  refine ⟨.ref s1.heap.objs.size, upd H1 s1.heap.objs.size (.tup xs), I1.laid (t' := s1.toks) (fun b u e => Heap.get?_push_of_some _ e) (Nat.le_refl _) ?_, rfl, q _ hf⟩
  exact ⟨z, us, r, ⟨_, Heap.get?_push_size _ rfl, rfl, _, rfl⟩, tup_nodict⟩
theorem pe_lst (h : PA X es t) : PE X (.List es pos) (tLst t) := by
  intro pins s σ H Q I hq
  refine wpAny_List_spliced (thn (h pos pins s σ H _ I hq) fun us s1 ⟨xs, H1, I1, r, z, q⟩ => ⟨by rw [← r.length]; exact z, ?_⟩)
  have hf : H1 s1.heap.objs.size = none := I1.hok.fresh (Nat.le_refl _)
  refine ⟨.ref s1.heap.objs.size, upd H1 s1.heap.objs.size (.lst xs), I1.laid (t' := s1.toks) (fun b u e => Heap.get?_push_of_some _ e) (Nat.le_refl _) ?_, rfl, q _ hf⟩
  exact ⟨z, us, 0, r, Heap.get?_push_size _ rfl⟩
end
abbrev Sp := List V → Hp → VK → XK → Prop
abbrev CXT := List Env → Hp → Shared → XK → Value → Shared → Prop
structure Env0 (P : Program) (w : World) (K : PySem.W.Frag) (mg : Str → Option Value) (base : Heap) (A : Around) (outer : List Env) (s : Shared) (H : Hp) : Prop where
  frames : A.frames = some outer
  mod : Mod K mg base
  bs : ∀ b o, base.get? b = some o → s.heap.get? b = some o ∧ H b = none
  bsz : base.objs.size ≤ s.heap.objs.size
  funs : s.heap.FunFrames base outer
  frf : ∀ b ∈ frs outer, H b = none
  hok : HOk P w H s.heap
  bare : AllBare s.gens
def CE (outer : List Env) (P : Program) (w : World) (H : Hp) (s : Shared) (Q : VK) (u : Value) (s' : Shared) : Prop :=
  ∃ v H', s'.os = s.os ∧ AllBare s'.gens ∧ Un (frs outer) [] H H' s.heap s'.heap ∧ HOk P w H' s'.heap ∧ RelV v u ∧ Q v H'
def CR (CX : CXT) (outer : List Env) (P : Program) (w : World) (H : Hp) (s : Shared) (Q : VK) (E : XK) (r : Result) (s' : Shared) : Prop :=
  match r with
  | .ok (.ret u) => CE outer P w H s Q u s'
  | .ok _ => False
  | .error e => CX outer H s E e s'
structure FnOk (P : Program) (w : World) (K : PySem.W.Frag) (mg : Str → Option Value) (base : Heap) (CX : CXT) (k : Nat) (f : Addr) (fd : FuncData) (ps : List Str) (sp : Sp) (cm : Bool := true) : Prop where
  len : ∀ vs H Q E, sp vs H Q E → vs.length = ps.length
  run : ∀ (A : Around) (outer : List Env) (s : Shared) (H : Hp) (args : Args) (us : List Value) (vs : List V) (Q : VK) (E : XK), Room k A cm → Env0 P w K mg base A outer s H → BindsTo s fd args (ps.zip us) → Vals vs us → sp vs H Q E →
    codeAny (model P w) A (.call (.ref f) args) (CR CX outer P w H s Q E) s
section
variable {X : Cx} {pins : List (Addr × Obj)} {σ : St} {H : Hp} {s s' : Shared}
theorem Inv.env0 (I : Inv X pins σ H s) : Env0 X.prog X.w X.K X.mg X.base X.A X.stack s H :=
  ⟨I.ok.frames, I.ok.mod, I.bs, Nat.le_trans I.ok.bsz I.sz, I.stack, I.stkFree, I.hok, I.bare⟩
theorem Inv.after {Q : VK} {u : Value} (I : Inv X pins σ H s) (h : CE X.stack X.prog X.w H s Q u s') : EP X pins σ Q u s' := by
  obtain ⟨v, H', os, bare, un, hok, r, q⟩ := h
  obtain ⟨hh, g, d, t, os'⟩ := s'
  obtain rfl : os' = s.os := os
  exact ⟨v, H', I.call (h' := hh) (g' := g) (d' := d) (t' := t) (ch := []) un hok bare (fun b z => absurd z (by simp)), r, q⟩
end
def tCall (sp : Sp) (dvs : List V) (E : XK) (t : TA) : TE := fun σ H Q => t σ H fun vs H1 => sp (vs ++ dvs) H1 Q E
def Binds (K : PySem.W.Frag) (fd : FuncData) (ps : List Str) (ds : List Value) : Prop :=
  ∀ (s : Shared) (us : List Value), K.In s.heap → (us ++ ds).length = ps.length → BindsTo s fd ⟨us, []⟩ (ps.zip (us ++ ds))
theorem Binds.all {K : PySem.W.Frag} {fd : FuncData} {ps : List Str} (h : ∀ us : List Value, us.length = ps.length → bindArgs fd ⟨us, []⟩ = pure (ps.zip us)) : Binds K fd ps [] := fun s us _ hl => by
  rw [List.append_nil] at hl ⊢
  exact .of_eq (h us hl)
def Passes (CX : CXT) (X : Cx) (E : XK) : Prop := ∀ (pins : List (Addr × Obj)) (σ : St) (H : Hp) (s : Shared) (e : Value) (s' : Shared), Inv X pins σ H s → CX X.stack H s E e s' → X.xe e s'
section
variable {cm : Bool} {X : Cx} {CX : CXT} {k : Nat} {f C : Addr} {fd : FuncData} {ps : List Str} {sp : Sp} {dvs : List V} {ds : List Value} {E : XK} {x m : Str} {p pos apos : Pos} {e o : Expr} {es : List Expr} {ta : TE} {t : TA}
theorem run_fn {pins : List (Addr × Obj)} {σ : St} {H : Hp} {s : Shared} {Q : VK} {us : List Value} {vs : List V} (F : FnOk X.prog X.w X.K X.mg X.base CX k f fd ps sp cm) (hr : Room k X.A cm) (hb : Binds X.K fd ps ds) (hd : Vals dvs ds) (hx : Passes CX X E)
    (I : Inv X pins σ H s) (r : Vals vs us) (h : sp (vs ++ dvs) H Q E) : wpAny (model X.prog X.w) X.A (call (.ref f) us) (EP X pins σ Q) X.xe s := by
  have r2 : Vals (vs ++ dvs) (us ++ ds) := r.append hd
  have hl : (us ++ ds).length = ps.length := by rw [← r2.length]; exact F.len _ _ _ _ h
  refine wpAny_call (codeAny_mono (F.run X.A X.stack s H ⟨us, []⟩ (us ++ ds) (vs ++ dvs) Q E hr I.env0 (hb s us I.kIn hl) r2 h) fun r s' hq => ?_)
  cases r with
  | error e => exact hx pins σ H s e s' I hq
  | ok fl =>
    cases fl with
    | ret u => exact I.after hq
    | next => exact False.elim hq
    | brk => exact False.elim hq
    | cont => exact False.elim hq
theorem pe_call (F : FnOk X.prog X.w X.K X.mg X.base CX k f fd ps sp cm) (hr : Room k X.A cm) (hg : Gl X x) (hm : X.mg x = some (.ref f)) (hk : PySem.W.keepIn X.K (.ref f) = true) (hb : Binds X.K fd ps ds) (hd : Vals dvs ds) (hx : Passes CX X E)
    (ha : PA X (e :: es) t) (hdb : (x == ("__debug__" : Str)) = false := by decide) (he : starEach (e :: es) X.env = (false, eval e X.env) :: starEach es X.env := by rfl) (hpl : (backTo pos (starEach es X.env)).any (·.1) = false := by rfl) :
    PE X (.Call (.Name x p) (e :: es) [] pos) (tCall sp dvs E t) := by
  intro pins s σ H Q I h
  refine wpAny_Call_Name_kw (ld_glob I hg hm ?_ hdb)
  refine PySem.W.callWith_K (h₀ := X.base) I.ok.mod.kin hk (thn (ha pos pins s σ H _ I h) fun us s1 ⟨vs, H1, I1, r, q⟩ => ⟨I1.kIn, ?_⟩) he hpl
  exact run_fn F hr hb hd hx I1 r q
end
section
variable {cm : Bool} {X : Cx} {CX : CXT} {k : Nat} {f C : Addr} {fd : FuncData} {ps ks : List Str} {sp : Sp} {E : XK} {x m : Str} {p pos apos kpos : Pos} {e o : Expr} {es : List Expr} {kws : List Keyword} {te ta : TE} {t tk : TA} {nm : Option Str}
variable {g : List Value → List Value → List Value} {gV : List V → List V → List V}
end
structure FnScope (N P : List Str) (sc : Scope) : Prop where
  kind : sc.kind = .function
  co : sc.isCoroutine = false
  gen : sc.isGenerator = false
  nd : N.Nodup
  pre : N.take P.length = P
  par : ∀ x ∈ P, sc.names.lookup x = some .local ∨ sc.names.lookup x = some .cell
  nofree : ∀ y ∈ sc.names, y.2 ≠ .free
theorem bindL_out {kindOf : Str → Option NameKind} {x : Str} : ∀ {binds : List (Str × Value)} {m : Str → Option Value}, (∀ v, (x, v) ∉ binds) → bindL kindOf binds m x = m x
  | [], _, _ => rfl
  | (n, v) :: r, m, h => by
    unfold bindL
    rw [bindL_out fun w hw => h w (List.mem_cons_of_mem _ hw)]
    split
    · have : x ≠ n := by rintro rfl; exact h v List.mem_cons_self
      simp [this]
    · rfl
theorem bindC_out {kindOf : Str → Option NameKind} {x : Str} : ∀ {binds : List (Str × Value)} {m : Str → Option Value}, (∀ v, (x, v) ∉ binds) → bindC kindOf binds m x = m x
  | [], _, _ => rfl
  | (n, v) :: r, m, h => by
    unfold bindC
    rw [bindC_out fun w hw => h w (List.mem_cons_of_mem _ hw)]
    split
    · rfl
    · have : x ≠ n := by rintro rfl; exact h v List.mem_cons_self
      simp [this]
theorem bindL_get {kindOf : Str → Option NameKind} {x : Str} {v : Value} : ∀ {P : List Str} {vs : List Value} {i : Nat} {m : Str → Option Value}, P.Nodup → P[i]? = some x → vs[i]? = some v → kindOf x = some .local →
    bindL kindOf (P.zip vs) m x = some v
  | [], _, _, _, _, h, _, _ => by simp at h
  | _ :: _, [], _, _, _, _, h, _ => by simp at h
  | p :: P, w :: vs, 0, m, nd, h1, h2, hk => by
    simp at h1 h2; subst h1; subst h2
    show bindL kindOf ((p, w) :: P.zip vs) m p = _
    unfold bindL
    rw [bindL_out fun v hv => (List.nodup_cons.mp nd).1 (List.of_mem_zip hv).1, if_pos hk]
    simp
  | p :: P, w :: vs, i + 1, m, nd, h1, h2, hk => by
    show bindL kindOf ((p, w) :: P.zip vs) m x = _
    unfold bindL
    exact bindL_get (i := i) (List.nodup_cons.mp nd).2 (by simpa using h1) (by simpa using h2) hk
theorem bindC_get {kindOf : Str → Option NameKind} {x : Str} {v : Value} : ∀ {P : List Str} {vs : List Value} {i : Nat} {m : Str → Option Value}, P.Nodup → P[i]? = some x → vs[i]? = some v → kindOf x ≠ some .local →
    bindC kindOf (P.zip vs) m x = some v
  | [], _, _, _, _, h, _, _ => by simp at h
  | _ :: _, [], _, _, _, _, h, _ => by simp at h
  | p :: P, w :: vs, 0, m, nd, h1, h2, hk => by
    simp at h1 h2; subst h1; subst h2
    show bindC kindOf ((p, w) :: P.zip vs) m p = _
    unfold bindC
    rw [bindC_out fun v hv => (List.nodup_cons.mp nd).1 (List.of_mem_zip hv).1, if_neg hk]
    simp
  | p :: P, w :: vs, i + 1, m, nd, h1, h2, hk => by
    show bindC kindOf ((p, w) :: P.zip vs) m x = _
    unfold bindC
    exact bindC_get (i := i) (List.nodup_cons.mp nd).2 (by simpa using h1) (by simpa using h2) hk
def start (N : List Str) (vs : List V) : St := vs.map some ++ List.replicate (N.length - vs.length) none
def cxOf (CX : CXT) (P : Program) (w : World) (K : PySem.W.Frag) (mg : Str → Option Value) (base : Heap) (N : List Str) (qual : Str) (scope : Scope) (f : Addr) (cd : Value) (A : Around) (outer : List Env) (s : Shared) (H : Hp) (E : XK) (cm : Bool := true) : Cx where
  prog := P
  w := w
  K := K
  mg := mg
  base := base
  A := A.deeper (envOfC qual scope s.heap.objs.size f cd)
  N := N
  s₀ := s
  H₀ := H
  env := envOfC qual scope s.heap.objs.size f cd
  outer := outer
  stack := envOfC qual scope s.heap.objs.size f cd :: outer
  ex := []
  calm := cm
  fn := fun _ => true
  pn := []
  xe := fun e s' => wpAny (model P w) (A.deeper (envOfC qual scope s.heap.objs.size f cd)) (leaving (envOfC qual scope s.heap.objs.size f cd) e) (fun _ s'' => CX outer H s E e s'') (fun e' s'' => CX outer H s E e' s'') s'
theorem cell_has {sc : Scope} {n : Nat} {x : Str} (h : sc.names.lookup x = some .cell) : ∃ c, (cellsFrom n sc.names []).lookup x = some c := by
  have q := PySem.W.cellsFrom_some sc.names n [] (.inl h)
  exact Option.isSome_iff_exists.mp q
theorem inv_start {CX : CXT} {P : Program} {w : World} {K : PySem.W.Frag} {mg : Str → Option Value} {base : Heap} {N ps : List Str} {qual : Str} {scope : Scope} {f : Addr} {cd : Value} {A : Around} {outer : List Env} {s s1 : Shared} {H : Hp} {E : XK} {cm : Bool} {us : List Value} {vs : List V}
    (S : FnScope N ps scope) (hd : cm = true → A.handled = none) (e0 : Env0 P w K mg base A outer s H) (hl : vs.length = ps.length) (r : Vals vs us)
    (x : InCallC s s.heap.objs.size (bindL (envOfC qual scope s.heap.objs.size f cd).kindOf (ps.zip us) fun _ => none) (cellsFrom (s.heap.objs.size + 1) scope.names []) (bindC (envOfC qual scope s.heap.objs.size f cd).kindOf (ps.zip us) fun _ => none) s1) :
    Inv (cxOf CX P w K mg base N qual scope f cd A outer s H E cm) [] (start N vs) H s1 := by
  have hpl : ps.length ≤ N.length := by have := congrArg List.length S.pre; rw [List.length_take] at this; omega
  obtain ⟨h1, tk, rfl, hk⟩ := x.done
  have noA : ∀ b : Addr, b ∉ (cxOf CX P w K mg base N qual scope f cd A outer s H E cm).ex := fun b z => absurd (show b ∈ ([] : List Addr) from z) (by simp)
  refine ⟨⟨e0.mod, S.kind, rfl, rfl, Nat.le_refl _, fun y z c h1 h2 => ?_, fun y hy => ?_, fun y c _ h => ?_, hd, Around.frames_deeper e0.frames, .inr ⟨rfl, rfl⟩, fun b z => absurd z (noA b), e0.bs, e0.bsz, fun b _ _ => noA b, fun b z => absurd z (noA b), e0.funs, e0.frf⟩,
    rfl, e0.bare, Un.kept hk, ⟨_, x.toInCall.ns, fun i y v h1 h2 h3 => ?_⟩, fun y c h => ⟨_, x.cell y c h⟩, e0.hok.fresh (Nat.le_refl _), fun y c h => ?_, fun p hp => absurd (show p ∈ ([] : List (Addr × Obj)) from hp) (by simp), e0.hok.kept hk, ?_⟩
  · exact name_of_addr x.apart (PySem.mem_of_lookup h1) (PySem.mem_of_lookup h2)
  · have hy : scope.names.lookup y = some .cell ∨ scope.names.lookup y = some .free := hy
    rcases hy with hy | hy
    · exact cell_has hy
    · exact absurd rfl (S.nofree _ (PySem.mem_of_lookup hy))
  · exact Nat.le_of_lt (x.above y c (PySem.mem_of_lookup h))
  · have hi : i < vs.length := by
      unfold start at h2
      by_cases hi : i < vs.length
      · exact hi
      · rw [List.getElem?_append_right (by simpa using hi)] at h2
        rw [List.getElem?_replicate] at h2
        split at h2 <;> cases h2
    have ha : vs[i]? = some v := by
      unfold start at h2
      rw [List.getElem?_append_left (by simpa using hi), List.getElem?_map] at h2
      cases e : vs[i]? with
      | none => rw [e] at h2; cases h2
      | some a => rw [e] at h2; cases h2; rfl
    obtain ⟨u, hu, rv⟩ := r.get ha
    have hp : ps[i]? = some y := by
      rw [← S.pre, List.getElem?_take_of_lt (by omega)]; exact h1
    have ndP : ps.Nodup := by rw [← S.pre]; exact S.nd.sublist (List.take_sublist _ _)
    refine ⟨u, rv, ?_⟩
    rcases S.par y (List.mem_of_getElem? hp) with k | k
    · exact .inl ⟨k, bindL_get ndP hp hu k⟩
    · obtain ⟨c, e⟩ := cell_has (n := s.heap.objs.size + 1) k
      refine .inr ⟨.inl k, c, e, ?_⟩
      have q := x.cell y c e
      rw [bindC_get ndP hp hu (by show scope.names.lookup y ≠ _; rw [k]; decide)] at q
      exact q
  · exact e0.hok.fresh (Nat.le_of_lt (x.above y c (PySem.mem_of_lookup h)))
  · unfold start
    show _ = N.length
    rw [List.length_append, List.length_map, List.length_replicate]
    omega
theorem fn_of {CX : CXT} {P : Program} {w : World} {K : PySem.W.Frag} {mg : Str → Option Value} {base : Heap} {k : Nat} {f : Addr} {name qual : Str} {params : Arguments} {body : List Stmt} {scope : Scope} {dV kV doc pm cdv ct oc : Value} {an od : Option Addr}
    {osl : Array (Option Value)} {N ps : List Str} {sp : Sp} {cm : Bool} (lk : K.lookup f = some ⟨oc, od, .func (PySem.W.fnOf name qual params body scope dV kV doc pm an cdv ct), osl⟩) (hcd : PySem.W.codeIn K cdv qual = true) (S : FnScope N ps scope)
    (len : ∀ vs H Q E, sp vs H Q E → vs.length = ps.length)
    (hbody : ∀ (A : Around) (outer : List Env) (s : Shared) (H : Hp) (vs : List V) (Q : VK) (E : XK), Room k (A.deeper (envOfC qual scope s.heap.objs.size f cdv)) cm → sp vs H Q E →
      ∃ t, PSs (cxOf CX P w K mg base N qual scope f cdv A outer s H E cm) body t ∧ t { nx := fun _ H' => Q .non H', rt := Q } (start N vs) H) :
    FnOk P w K mg base CX (k + 1) f (PySem.W.fnOf name qual params body scope dV kV doc pm an cdv ct) ps sp cm := by
  refine ⟨len, fun A outer s H args us vs Q E hr e0 hb r hsp => ?_⟩
  have hl := len _ _ _ _ hsp
  have KX : K.In s.heap := e0.mod.kin.keeps fun b o e => (e0.bs b o e).1
  have lim : s.heap.NoLimit := e0.mod.nolimit.keeps fun b o e => (e0.bs b o e).1
  have hkind : ∀ y ∈ ps.zip us, scope.names.lookup y.1 = some .local ∨ (scope.names.lookup y.1 = some .cell ∧ ((cellsFrom (s.heap.objs.size + 1) scope.names []).lookup y.1).isSome = true) := fun ⟨n, v⟩ hy => by
    rcases S.par n (List.of_mem_zip hy).1 with q | q
    · exact .inl q
    · exact .inr ⟨q, PySem.W.cellsFrom_some _ _ _ (.inl q)⟩
  refine codeAny_call_function hr.depth (KX _ _ lk) rfl S.co S.gen rfl (PySem.W.codeRec_of KX hcd) (hb _ _ _ _ ?_)
  refine wpAny_newFunctionEnv_cells S.kind hkind fun env he s1 x => ?_
  subst he
  refine ⟨lim.keeps x.toInCall.keep, codeAny_func ?_⟩
  obtain ⟨t, ht, hq⟩ := hbody A outer s H vs Q E (hr.deeper _) hsp
  have I : Inv (cxOf CX P w K mg base N qual scope f cdv A outer s H E cm) [] (start N vs) H s1 := inv_start S hr.hd e0 hl r x
  refine wpAny_mono (ht [] s1 (start N vs) H _ I hq) (fun fl s' hs => ?_) fun e s' hs => hs
  have fin : ∀ {σ' : St} {H' : Hp} {v : V} {u : Value}, Inv (cxOf CX P w K mg base N qual scope f cdv A outer s H E cm) [] σ' H' s' → RelV v u → Q v H' → CE outer P w H s Q u s' :=
    fun {σ' H' v u} J rv q => ⟨v, H', J.os, J.bare, J.base, J.hok, rv, q⟩
  cases fl with
  | ret u =>
    obtain ⟨v, σ', H', J, rv, q⟩ := hs
    exact fin J rv q
  | next =>
    obtain ⟨σ', H', J, q⟩ := hs
    exact fin (v := V.non) (u := Value.none) J rfl q
  | brk =>
    obtain ⟨_, _, _, q⟩ := hs
    exact False.elim q
  | cont =>
    obtain ⟨_, _, _, q⟩ := hs
    exact False.elim q
end L2
namespace L2
open PySem PySem.Spec PyProof.Rows
section
variable {X : Cx} {x : Str} {p pos : Pos} {e : Expr} {es : List Expr} {t : TA} {id T : String} {r : List V → Hp → VK → Prop}
def tCB (r : List V → Hp → VK → Prop) (t : TA) : TE := fun σ H Q => t σ H fun vs H1 => r vs H1 Q
theorem pe_callB (hc : CallR X (.builtin id) r) (hg : Gl X x) (hm : X.mg x = none) (hv : bootBuiltins x = some (.builtin id)) (ha : PA X (e :: es) t) (hn : x ≠ "__name__" := by decide) (hdb : (x == ("__debug__" : Str)) = false := by decide)
    (he : starEach (e :: es) X.env = (false, eval e X.env) :: starEach es X.env := by rfl) (hpl : (backTo pos (starEach es X.env)).any (·.1) = false := by rfl) : PE X (.Call (.Name x p) (e :: es) [] pos) (tCB r t) := by
  intro pins s σ H Q I h
  refine wpAny_Call_Name_kw (ld_blt I hg hm hv ?_ hn hdb)
  exact PyProof.Rows.callWith_builtin1 (thn (ha pos pins s σ H _ I h) fun us s1 ⟨vs, H1, I1, r1, q1⟩ => hc pins s1 σ H1 vs us Q I1 r1 q1) he hpl
theorem pe_callTy (hc : CallR X (.type T) r) (hg : Gl X x) (hm : X.mg x = none) (hv : bootBuiltins x = some (.type T)) (ha : PA X (e :: es) t) (hn : x ≠ "__name__" := by decide) (hdb : (x == ("__debug__" : Str)) = false := by decide)
    (he : starEach (e :: es) X.env = (false, eval e X.env) :: starEach es X.env := by rfl) (hpl : (backTo pos (starEach es X.env)).any (·.1) = false := by rfl) : PE X (.Call (.Name x p) (e :: es) [] pos) (tCB r t) := by
  intro pins s σ H Q I h
  refine wpAny_Call_Name_kw (ld_blt I hg hm hv ?_ hn hdb)
  exact PyProof.Rows.callWith_type1 (thn (ha pos pins s σ H _ I h) fun us s1 ⟨vs, H1, I1, r1, q1⟩ => hc pins s1 σ H1 vs us Q I1 r1 q1) he hpl
end
end L2
namespace HT
open PySem PyProof.Rows
theorem eqAt_int (A : Around) (s : Shared) (a : Int) (t : Tok) (c : Int) (u : Tok) : ∃ e, SeqAt.EqAt A s (.int a t) (.int c u) e ∧ (e = true ↔ a = c) :=
  ⟨(a == c), SeqAt.EqAt.int_int a t c u, by simp⟩
section
open PySem.SeqAt
open PySem.AutoSeq1 (wpAny_loadPart')
open PySem.MeetsSeq PySem.MeetsSeq2 PySem.MeetsSeq3
end
section
variable {prog : Program} {w : World} {A : Around} {E : Value → Shared → Prop} {s : Shared}
theorem cat_tup {t b : Addr} {vs ws : List Value} {Q : Value → Shared → Prop} (ht : IsTup s.heap t vs.toArray) (hb : IsTup s.heap b ws.toArray) (hv : vs ≠ [])
    (h1 : ws = [] → Q (.ref t) s) (h2 : ws ≠ [] → Q (.ref s.heap.objs.size) { s with heap := s.heap.push { cls := .type "tuple", data := .seq (vs ++ ws).toArray } })
    (hsz : vs.length + ws.length ≤ sizeLine) : wpAny (model prog w) A (binaryOp .Add (.ref t) (.ref b)) Q E s := by
  obtain ⟨⟨cls, dd, data, sl⟩, ho, hc, n, hd⟩ := id ht
  obtain ⟨⟨cls2, dd2, data2, sl2⟩, ho2, hc2, n2, hd2⟩ := id hb
  simp only at hc hd hc2 hd2
  subst hc hd hc2 hd2
  have e : vs.toArray ++ ws.toArray = (vs ++ ws).toArray := by simp
  by_cases hw : ws = []
  · exact concat_meets ⟨_, ho, rfl⟩ ⟨_, ho2, rfl⟩ noFill_tuple_add seq_tuple_add PySem.F.slot_tuple_add PySem.F.entry_tuple_add (PySem.F.args_tuple_add_2 _ _)
      (tuple_addW1 t b vs.toArray ws.toArray n n2 dd dd2 sl sl2 (by simpa using hv) (by simp [hw])) ⟨ho, ho2, h1 hw⟩
  · refine concat_meets ⟨_, ho, rfl⟩ ⟨_, ho2, rfl⟩ noFill_tuple_add seq_tuple_add PySem.F.slot_tuple_add PySem.F.entry_tuple_add (PySem.F.args_tuple_add_2 _ _)
      (tuple_addW2 t b vs.toArray ws.toArray n n2 dd dd2 sl sl2 (by simpa using hv) (by simpa using hw) (by rw [List.size_toArray, List.size_toArray]; exact hsz)) ⟨ho, ho2, ?_⟩
    rw [e]
    exact h2 hw
def sIx (n d : Nat) : Option Int → Nat
  | none => d
  | some v => if v < 0 then (v + (n : Int)).toNat else min v.toNat n
theorem sIx_none (n d : Nat) : sIx n d none = d := rfl
theorem sIx_nat (n d k : Nat) : sIx n d (some (k : Int)) = min k n := by
  show (if (k : Int) < 0 then ((k : Int) + (n : Int)).toNat else min (k : Int).toNat n) = min k n
  rw [if_neg (by omega), Int.toNat_natCast]
end
end HT
namespace L2
open PySem PySem.Spec PyProof.Rows
abbrev TO := St → Hp → (Option Int → Hp → Prop) → Prop
def PO (X : Cx) (e : Option Expr) (t : TO) : Prop :=
  ∀ (pins : List (Addr × Obj)) (s : Shared) (σ : St) (H : Hp) (Q : Option Int → Hp → Prop), Inv X pins σ H s → t σ H Q →
    wpAny (model X.prog X.w) X.A (evalPart e X.env) (fun u s' => ∃ o H', Inv X pins σ H' s' ∧ IsPart u o ∧ Q o H') X.xe s
def tNoPart : TO := fun _ H Q => Q none H
def tPart (t : TE) : TO := fun σ H Q => t σ H fun x H1 => ∃ i, x = .int i ∧ Q (some i) H1
theorem intsAre_of {ns : List Int} : ∀ {us : List Value}, Vals (ns.map V.int) us → IntsAre us ns := by
  induction ns with
  | nil => intro us r; rw [List.map_nil] at r; cases r; exact .nil
  | cons n ns ih =>
    intro us r
    rw [List.map_cons] at r
    cases r with
    | cons r1 r2 =>
      obtain ⟨t, e⟩ := r1
      subst e
      exact .cons n t (ih r2)
section
variable {X : Cx} {e : Expr} {te : TE} {lo hi : Option Expr} {tl th : TO} {pos p2 : Pos}
theorem po_none : PO X none tNoPart := by
  intro pins s σ H Q I h
  rw [evalPart_none]
  exact wpAny_pure ⟨none, H, I, .none, h⟩
theorem po_some (h : PE X e te) : PO X (some e) (tPart te) := by
  intro pins s σ H Q I hw
  rw [evalPart_some]
  refine thn (h pins s σ H _ I hw) fun u s1 ⟨x, H1, I1, r1, q1⟩ => ?_
  obtain ⟨i, rfl, q⟩ := q1
  obtain ⟨t, rfl⟩ := r1
  exact ⟨some i, H1, I1, .int i t, q⟩
def SlR (X : Cx) (r : V → Option Int → Option Int → Hp → VK → Prop) : Prop :=
  ∀ (pins : List (Addr × Obj)) (s : Shared) (σ : St) (H : Hp) (x : V) (v vl vu : Value) (lo hi : Option Int) (sl : Addr) (Q : VK), Inv X pins σ H s → RelV x v → s.heap.IsSliceOf sl vl vu .none → IsPart vl lo → IsPart vu hi → r x lo hi H Q →
    ∃ T id, typeLookup (.type T) "__getitem__" = pure (some (.builtin id)) ∧ s.TypeIs v T ∧ wpAny (model X.prog X.w) X.A (getItem v (.ref sl)) (EP X pins σ Q) X.xe s
def tSl (r : V → Option Int → Option Int → Hp → VK → Prop) (te : TE) (tl th : TO) : TE := fun σ H Q => te σ H fun x H1 => tl σ H1 fun l H2 => th σ H2 fun u H3 => r x l u H3 Q
theorem pe_slice {r : V → Option Int → Option Int → Hp → VK → Prop} (hr : SlR X r) (he : PE X e te) (hl : PO X lo tl) (hu : PO X hi th) : PE X (.Subscript e (.Slice lo hi none p2) pos) (tSl r te tl th) := by
  intro pins s σ H Q I h
  refine Subscript_ (thn (he pins s σ H _ I h) fun v s1 ⟨x, H1, I1, r1, q1⟩ => ?_)
  refine wpAny_Slice (thn (hl pins s1 σ H1 _ I1 q1) fun vl s2 ⟨l, H2, I2, pl, q2⟩ => thn (hu pins s2 σ H2 _ I2 q2) fun vu s3 ⟨u, H3, I3, pu, q3⟩ => ?_)
  rw [evalPart_none]
  refine wpAny_pure ?_
  have I4 : Inv X pins σ H3 { s3 with heap := s3.heap.push { cls := .type "slice", data := .fields #[vl, vu, .none] } } := I3.kept (t' := s3.toks) fun b ob q => Heap.get?_push_of_some _ q
  obtain ⟨T, id, hT, ht, hg⟩ := hr pins { s3 with heap := s3.heap.push { cls := .type "slice", data := .fields #[vl, vu, .none] } } σ H3 x v vl vu l u s3.heap.objs.size Q I4 r1 (Heap.IsSliceOf.new ..) pl pu q3
  show wpAny (model X.prog X.w) X.A (subscriptTail e (.Slice lo hi none p2) v (.ref s3.heap.objs.size)) (EP X pins σ Q) X.xe { s3 with heap := s3.heap.push { cls := .type "slice", data := .fields #[vl, vu, .none] } }
  exact tail_any (ops := [.ref s3.heap.objs.size, v]) ht hT hg (by with_unfolding_all rfl)
def cutV (xs : List V) (lo hi : Option Int) : List V := (xs.drop (HT.sIx xs.length 0 lo)).take (HT.sIx xs.length xs.length hi - HT.sIx xs.length 0 lo)
theorem cutV_length (xs : List V) (lo hi : Option Int) : (cutV xs lo hi).length ≤ xs.length := by
  unfold cutV
  rw [List.length_take, List.length_drop]
  omega
def rCatT (K : PySem.W.Frag) : R2 := fun x y H Q => ∃ a b xs ys, x = .ref a ∧ y = .ref b ∧ SqT K H a xs ∧ SqT K H b ys ∧ xs ≠ [] ∧ xs.length + ys.length ≤ sizeLine ∧
  (ys = [] → Q (.ref a) H) ∧ (ys ≠ [] → ∀ p, H p = none → Q (.ref p) (upd H p (.tup (xs ++ ys))))
theorem Vals.nil_iff {xs : List V} {us : List Value} (r : Vals xs us) : us = [] ↔ xs = [] := by
  cases r with
  | nil => simp
  | cons _ _ => simp
theorem op_catT : OpR X (binaryOp .Add) (rCatT X.K) := by
  intro pins s σ H x y v u Q I rx ry h
  obtain ⟨a, b, xs, ys, rfl, rfl, ha, hb, hx, hz, q1, q2⟩ := h
  cases rx
  cases ry
  obtain ⟨its, r1, p1, _⟩ := I.tuple ha
  obtain ⟨its2, r2, p2, _⟩ := I.tuple hb
  refine HT.cat_tup p1 p2 (fun z => hx (r1.nil_iff.mp z)) (fun z => ⟨.ref a, H, I, rfl, q1 (r2.nil_iff.mp z)⟩) (fun z => ?_) (by rw [← r1.length, ← r2.length]; exact hz)
  refine ⟨.ref s.heap.objs.size, _, I.laid (t' := s.toks) (o := .tup (xs ++ ys)) (fun b ob q => Heap.get?_push_of_some _ q) (Nat.le_refl _) ?_, rfl, q2 (fun w => z (r2.nil_iff.mpr w)) _ (I.hok.fresh (Nat.le_refl _))⟩
  exact ⟨by rw [List.length_append]; exact hz, _, r1.append r2, IsTup.new _ _, tup_nodict⟩
end
end L2
namespace L2
open PySem PySem.Spec PyProof.Rows
def ixN (n : Nat) (i : Int) : Option Nat := if 0 ≤ i then (if i < n then some i.toNat else none) else if -(n : Int) ≤ i then some (i + n).toNat else none
def atI {α : Type} (xs : List α) (i : Int) : Option α := (ixN xs.length i).bind fun j => xs[j]?
theorem ixN_seq {n : Nat} {i : Int} {j : Nat} (h : ixN n i = some j) : seqIndex? i n = some j ∧ j < n ∧ -(n : Int) ≤ i ∧ i < n := by
  unfold ixN at h
  by_cases h0 : 0 ≤ i
  · rw [if_pos h0] at h
    by_cases h1 : i < n
    · rw [if_pos h1] at h
      have e : i.toNat = j := Option.some.inj h
      exact ⟨by rw [seqIndex_of h0 h1, e], by omega, by omega, h1⟩
    · rw [if_neg h1] at h; cases h
  · rw [if_neg h0] at h
    by_cases h1 : -(n : Int) ≤ i
    · rw [if_pos h1] at h
      have e : (i + n).toNat = j := Option.some.inj h
      exact ⟨by rw [seqIndex_neg (by omega) h1, e], by omega, h1, by omega⟩
    · rw [if_neg h1] at h; cases h
theorem atI_get {α : Type} {xs : List α} {i : Int} {v : α} (h : atI xs i = some v) : ∃ j, seqIndex? i xs.length = some j ∧ xs[j]? = some v ∧ j < xs.length ∧ -(xs.length : Int) ≤ i ∧ i < xs.length := by
  unfold atI at h
  cases e : ixN xs.length i with
  | none => rw [e] at h; cases h
  | some j =>
    rw [e] at h
    obtain ⟨h1, h2, h3, h4⟩ := ixN_seq e
    exact ⟨j, h1, h, h2, h3, h4⟩
theorem atI_nat {α : Type} {xs : List α} {j : Nat} {v : α} (h : xs[j]? = some v) : atI xs (j : Int) = some v := by
  have hj : j < xs.length := (List.getElem?_eq_some_iff.mp h).1
  have e : ixN xs.length (j : Int) = some j := by
    unfold ixN
    rw [if_pos (by omega), if_pos (by omega)]; simp
  unfold atI; rw [e]; exact h
def PlainIx (b : Expr) : Prop := ∀ o i, subscripted b false o i = operate [o, i] (getItem o i)
def IxR (X : Cx) (r : R2) : Prop :=
  ∀ (value slice : Expr) (pins : List (Addr × Obj)) (s : Shared) (σ : St) (H : Hp) (x y : V) (v u : Value) (Q : VK), Inv X pins σ H s → RelV x v → RelV y u → r x y H Q →
    subscripted slice false v u = operate [v, u] (getItem v u) → wpAny (model X.prog X.w) X.A (subscriptTail value slice v u) (EP X pins σ Q) X.xe s
def MtR (X : Cx) (id : String) (r : V → List V → Hp → VK → Prop) : Prop :=
  ∀ (pins : List (Addr × Obj)) (s : Shared) (σ : St) (H : Hp) (x : V) (xs : List V) (v : Value) (us : List Value) (Q : VK), Inv X pins σ H s → RelV x v → Vals xs us → r x xs H Q →
    wpAny (model X.prog X.w) X.A (call (.builtin id) (v :: us)) (EP X pins σ Q) X.xe s
section
variable {X : Cx} {a b : Expr} {ta tb : TE} {pos : Pos}
theorem pe_ix {r : R2} (hr : IxR X r) (ha : PE X a ta) (hb : PE X b tb) (hs : PlainIx b) : PE X (.Subscript a b pos) (tOp r ta tb) := by
  intro pins s σ H Q I h
  exact Subscript_ (binT ha hb I h fun v u s2 x y H2 I2 rx ry q => hr a b pins s2 σ H2 x y v u Q I2 rx ry q (hs _ _))
def rIxL (K : PySem.W.Frag) : R2 := fun x y H Q => ∃ p xs i v, x = .ref p ∧ y = .int i ∧ SqL K H p xs ∧ atI xs i = some v ∧ Q v H
def rIxT (K : PySem.W.Frag) : R2 := fun x y H Q => ∃ p xs i v, x = .ref p ∧ y = .int i ∧ SqT K H p xs ∧ atI xs i = some v ∧ Q v H
theorem ix_list : IxR X (rIxL X.K) := by
  intro value slice pins s σ H x y v u Q I rx ry h hs
  obtain ⟨p, xs, i, z, rfl, rfl, hq, he, q⟩ := h
  cases rx
  obtain ⟨t, rfl⟩ := ry
  obtain ⟨its, r, pl, hz⟩ := I.list hq
  obtain ⟨j, h1, h2, h3, h4, h5⟩ := atI_get he
  obtain ⟨w, ew, rw'⟩ := r.get h2
  have hl := r.length
  have hn := line63
  have fin : EP X pins σ Q w s := ⟨z, H, I, rw', q⟩
  by_cases h0 : 0 ≤ i
  · have hj : i.toNat = j := by
      rw [seqIndex_of h0 h5] at h1
      exact Option.some.inj h1
    exact item_listR pl.isList h0 (by omega) (by rw [hj]; simpa using ew) fin hs
  · have hj : (i + (its.toArray.size : Int)).toNat = j := by
      rw [seqIndex_neg (by omega) h4] at h1
      rw [List.size_toArray, ← hl]
      exact Option.some.inj h1
    exact subscriptTail_builtinR (x := w) pl.isList.typeIs slot_list_getitem.lookup
      (wpAny_getItem_list_neg (Q := fun r s' => r = w ∧ EP X pins σ Q r s') pl.isList (by omega) (by rw [List.size_toArray] <;> omega) (by omega) (by rw [hj]; simpa using ew) ⟨rfl, fin⟩) hs
theorem ix_tup : IxR X (rIxT X.K) := by
  intro value slice pins s σ H x y v u Q I rx ry h hs
  obtain ⟨p, xs, i, z, rfl, rfl, hq, he, q⟩ := h
  cases rx
  obtain ⟨t, rfl⟩ := ry
  obtain ⟨its, r, pl, hz⟩ := I.tuple hq
  obtain ⟨j, h1, h2, h3, h4, h5⟩ := atI_get he
  obtain ⟨w, ew, rw'⟩ := r.get h2
  have hl := r.length
  have hn := line63
  have fin : EP X pins σ Q w s := ⟨z, H, I, rw', q⟩
  exact subscriptTail_builtinR (x := w) pl.typeIs slot_tuple_getitem.lookup
    (getItem_tuple (j := j) (Q := fun r s' => r = w ∧ EP X pins σ Q r s') pl (by omega) (by omega) (by rw [List.size_toArray, ← hl]; exact h1) (by simpa using ew) ⟨rfl, fin⟩) hs
theorem mapSeq_set (its : List Value) (n j : Nat) (u : Value) : Obj.mapSeq (·.setIfInBounds j u) { cls := .type "list", data := .seq its.toArray n } = { cls := .type "list", data := .seq (its.set j u).toArray n } := by
  simp [Obj.mapSeq]
theorem Inv.lst {pins : List (Addr × Obj)} {σ : St} {H : Hp} {s : Shared} {p : Addr} {xs : List V} (I : Inv X pins σ H s) (h : H p = some (.lst xs)) :
    ∃ (its : List Value) (n : Nat), Vals xs its ∧ s.heap.get? p = some { cls := .type "list", data := .seq its.toArray n } ∧ xs.length ≤ sizeLine := by
  obtain ⟨z, its, n, r, e⟩ := I.hok p _ h
  exact ⟨its, n, r, e, z⟩
theorem Inv.lstUpd {pins : List (Addr × Obj)} {σ : St} {H : Hp} {s : Shared} {p : Addr} {xs ys : List V} {its its' : List Value} {n n' : Nat} {f : Obj → Obj} (I : Inv X pins σ H s) (h : H p = some (.lst xs))
    (ho : s.heap.get? p = some { cls := .type "list", data := .seq its.toArray n }) (hf : f { cls := .type "list", data := .seq its.toArray n } = { cls := .type "list", data := .seq its'.toArray n' }) (r : Vals ys its') (hz : ys.length ≤ sizeLine) (t : Nat) :
    Inv X pins σ (upd H p (.lst ys)) { s with heap := s.heap.update p f, toks := t } := by
  have e : (s.heap.update p f).get? p = some { cls := .type "list", data := .seq its'.toArray n' } := by
    rw [Heap.get?_update_self f ho (by rw [hf] <;> rfl), hf]
  refine I.write (x := p) (e := p) (by rw [h]; trivial) (.inl rfl) (fun b u hb q => (Heap.get?_update_other _ _ (Ne.symm hb)).trans q) ⟨_, e⟩ ?_
  exact ⟨hz, its', n', r, e⟩
def rSetL : V → V → V → Hp → (Hp → Prop) → Prop := fun o i v H Q => ∃ p xs k j, o = .ref p ∧ i = .int k ∧ H p = some (.lst xs) ∧ ixN xs.length k = some j ∧ Q (upd H p (.lst (xs.set j v)))
theorem set_list : PSet X rSetL := by
  intro pins s σ H o i v ov iv u Q I ro ri rv h
  obtain ⟨p, xs, k, j, rfl, rfl, hp, hj, q⟩ := h
  cases ro
  obtain ⟨t, rfl⟩ := ri
  obtain ⟨its, n, r, ho, hz⟩ := I.lst hp
  obtain ⟨h1, h2, h3, h4⟩ := ixN_seq hj
  have hl := r.length
  have hn := line63
  have I' : Inv X pins σ (upd H p (.lst (xs.set j v))) { s with heap := s.heap.update p (Obj.mapSeq (·.setIfInBounds j u)) } :=
    I.lstUpd hp ho (mapSeq_set its n j u) (r.set rv j) (by rw [List.length_set]; exact hz) s.toks
  by_cases h0 : 0 ≤ k
  · have hk : k.toNat = j := by
      rw [seqIndex_of h0 h4] at h1
      exact Option.some.inj h1
    exact PySem.W.ki_setAt ho h0 (by omega) (by rw [List.size_toArray, ← hl]; exact h4) (by rw [hk]; exact ⟨_, I', q⟩)
  · have hk : (k + (its.toArray.size : Int)).toNat = j := by
      rw [seqIndex_neg (by omega) h3] at h1
      rw [List.size_toArray, ← hl]
      exact Option.some.inj h1
    exact PySem.W.ki_setBack ho (by omega) (by rw [List.size_toArray, ← hl]; exact h3) (by omega) (by rw [hk]; exact ⟨_, I', q⟩)
theorem slice_bounds (lo hi : Option Int) (n : Nat) : (sliceBounds lo hi none n).1 = ((HT.sIx n 0 lo : Nat) : Int) ∧ (sliceBounds lo hi none n).2.1 = ((HT.sIx n n hi : Nat) : Int) ∧ (sliceBounds lo hi none n).2.2 = 1 := by
  refine ⟨?_, ?_, rfl⟩
  · cases lo with
    | none => simp [sliceBounds, HT.sIx]
    | some i =>
      simp only [sliceBounds, HT.sIx, Option.getD_none, show (1 : Int) > 0 by decide, if_true]
      by_cases h : i < 0
      · simp only [h, if_true] <;> omega
      · simp only [h, if_false] <;> omega
  · cases hi with
    | none => simp [sliceBounds, HT.sIx]
    | some i =>
      simp only [sliceBounds, HT.sIx, Option.getD_none, show (1 : Int) > 0 by decide, if_true]
      by_cases h : i < 0
      · simp only [h, if_true] <;> omega
      · simp only [h, if_false] <;> omega
theorem slicePick_cut (its : List Value) (lo hi : Option Int) : slicePick its.toArray lo hi none = ((its.drop (HT.sIx its.length 0 lo)).take (HT.sIx its.length its.length hi - HT.sIx its.length 0 lo)).toArray := by
  obtain ⟨h1, h2, h3⟩ := slice_bounds lo hi its.toArray.size
  unfold slicePick
  rw [h1, h2, h3]
  simp only [sliceRange_one, pick_run, List.size_toArray] <;> rfl
def rSlL (K : PySem.W.Frag) : V → Option Int → Option Int → Hp → VK → Prop := fun x lo hi H Q => ∃ a xs, x = .ref a ∧ SqL K H a xs ∧ ∀ p, H p = none → Q (.ref p) (upd H p (.lst (cutV xs lo hi)))
theorem sl_list : SlR X (rSlL X.K) := by
  intro pins s σ H x v vl vu lo hi sl Q I rx hs pl pu h
  obtain ⟨a, xs, rfl, hx, q⟩ := h
  cases rx
  obtain ⟨its, r, ht, hz⟩ := I.list hx
  have hlen := r.length
  refine ⟨"list", _, slot_list_getitem.lookup, ht.isList.typeIs, ?_⟩
  refine wpAny_getItem_list_slice ht.isList hs pl pu .none (by simp) ?_ (by rw [List.size_toArray] <;> omega)
  rw [slicePick_cut, ← hlen]
  refine ⟨.ref s.heap.objs.size, _, I.laid (t' := s.toks) (o := .lst (cutV xs lo hi)) (fun b ob q => Heap.get?_push_of_some _ q) (Nat.le_refl _) ?_, rfl, q _ (I.hok.fresh (Nat.le_refl _))⟩
  exact ⟨Nat.le_trans (cutV_length xs lo hi) hz, _, 0, (r.drop (HT.sIx xs.length 0 lo)).take (HT.sIx xs.length xs.length hi - HT.sIx xs.length 0 lo), Heap.get?_push_size _ rfl⟩
def flatV : V → Bool
  | .non => true
  | .bl _ => true
  | .int _ => true
  | .str _ => true
  | _ => false
def eqV : V → V → Bool
  | .non, .non => true
  | .bl a, .bl b => a == b
  | .bl a, .int b => (if a then 1 else 0) == b
  | .int a, .bl b => a == (if b then 1 else 0)
  | .int a, .int b => a == b
  | .str a, .str b => a == b
  | _, _ => false
theorem eqAt_V {A : Around} {s : Shared} {y x : V} {u v : Value} (ry : RelV y u) (rx : RelV x v) (fy : flatV y = true) (fx : flatV x = true) : SeqAt.EqAt A s u v (eqV y x) := by
  cases y with
  | non =>
    cases ry
    cases x with
    | non => cases rx; exact SeqAt.EqAt.same _
    | bl b => cases rx; exact SeqAt.EqAt.none_bool b
    | int b => obtain ⟨t, rfl⟩ := rx; exact SeqAt.EqAt.none_int b t
    | str b => obtain ⟨t, rfl⟩ := rx; exact SeqAt.EqAt.none_str b t
    | _ => exact absurd (show false = true from fx) Bool.false_ne_true
  | bl a =>
    cases ry
    cases x with
    | non => cases rx; exact SeqAt.EqAt.bool_none a
    | bl b => cases rx; exact SeqAt.EqAt.bool_bool a b
    | int b => obtain ⟨t, rfl⟩ := rx; exact SeqAt.EqAt.bool_int a b t
    | str b => obtain ⟨t, rfl⟩ := rx; exact SeqAt.EqAt.bool_str a b t
    | _ => exact absurd (show false = true from fx) Bool.false_ne_true
  | int a =>
    obtain ⟨t', rfl⟩ := ry
    cases x with
    | non => cases rx; exact SeqAt.EqAt.int_none a t'
    | bl b => cases rx; exact SeqAt.EqAt.int_bool a t' b
    | int b => obtain ⟨t, rfl⟩ := rx; exact SeqAt.EqAt.int_int a t' b t
    | str b => obtain ⟨t, rfl⟩ := rx; exact SeqAt.EqAt.int_str a t' b t
    | _ => exact absurd (show false = true from fx) Bool.false_ne_true
  | str a =>
    obtain ⟨t', rfl⟩ := ry
    cases x with
    | non => cases rx; exact SeqAt.EqAt.str_none a t'
    | bl b => cases rx; exact SeqAt.EqAt.str_bool a t' b
    | int b => obtain ⟨t, rfl⟩ := rx; exact SeqAt.EqAt.str_int a t' b t
    | str b => obtain ⟨t, rfl⟩ := rx; exact SeqAt.EqAt.str_str a t' b t
    | _ => exact absurd (show false = true from fx) Bool.false_ne_true
  | _ => exact absurd (show false = true from fy) Bool.false_ne_true
def eqU (x : V) (u : Value) : Bool := match u with
  | .none => eqV .non x
  | .bool b => eqV (.bl b) x
  | .int i _ => eqV (.int i) x
  | .str z _ => eqV (.str z) x
  | _ => false
theorem eqU_of {x y : V} {u : Value} (r : RelV y u) (f : flatV y = true) : eqU x u = eqV y x := by
  cases y with
  | non => cases r; rfl
  | bl b => cases r; rfl
  | int i => obtain ⟨t, rfl⟩ := r; rfl
  | str z => obtain ⟨t, rfl⟩ := r; rfl
  | _ => exact absurd (show false = true from f) Bool.false_ne_true
theorem any_eqU {x : V} : ∀ {xs : List V} {us : List Value}, Vals xs us → xs.all flatV = true → us.any (eqU x) = xs.any fun y => eqV y x
  | _, _, .nil, _ => rfl
  | y :: xs, u :: us, .cons r t, f => by
    rw [List.all_cons, Bool.and_eq_true] at f
    rw [List.any_cons, List.any_cons, eqU_of r f.1, any_eqU t f.2]
theorem mem_eqAt {A : Around} {s : Shared} {x : V} {v : Value} (rx : RelV x v) (fx : flatV x = true) : ∀ {xs : List V} {us : List Value}, Vals xs us → xs.all flatV = true → ∀ u ∈ us, SeqAt.EqAt A s u v (eqU x u)
  | _, _, .nil, _ => fun u hu => by cases hu
  | y :: xs, u :: us, .cons r t, f => fun u' hu => by
    rw [List.all_cons, Bool.and_eq_true] at f
    rcases List.mem_cons.mp hu with rfl | hu
    · rw [eqU_of r f.1]; exact eqAt_V r rx f.1 fx
    · exact mem_eqAt rx fx t f.2 u' hu
def inV (x : V) (xs : List V) : Bool := xs.any fun y => eqV y x
def rIn (K : PySem.W.Frag) (neg : Bool) : R2 := fun x y H Q => ∃ p xs, y = .ref p ∧ (SqL K H p xs ∨ SqT K H p xs) ∧ flatV x = true ∧ xs.all flatV = true ∧ Q (.bl (if neg then !inV x xs else inV x xs)) H
theorem op_notIn_seq : OpR X (compareOp .NotIn) (rIn X.K true) := by
  intro pins s σ H x y v u Q I rx ry h
  obtain ⟨p, xs, rfl, hq, fx, fs, q⟩ := h
  cases ry
  rcases hq with hq | hq
  · obtain ⟨its, r, pl, hz⟩ := I.list hq
    refine SeqAt.notIn_listAt (eqU x) pl.isList (fun w hw => mem_eqAt rx fx r fs w (by simpa using hw)) ⟨.bl _, H, I, rfl, ?_⟩
    rw [show its.toArray.any (eqU x) = its.any (eqU x) by simp, any_eqU r fs]
    exact q
  · obtain ⟨its, r, pl, hz⟩ := I.tuple hq
    refine SeqAt.notIn_tupleAt (eqU x) pl (fun w hw => mem_eqAt rx fx r fs w (by simpa using hw)) ⟨.bl _, H, I, rfl, ?_⟩
    rw [show its.toArray.any (eqU x) = its.any (eqU x) by simp, any_eqU r fs]
    exact q
theorem call_len_seq : CallR X (.builtin "len") (fun xs H Q => ∃ p ys, xs = [.ref p] ∧ (SqL X.K H p ys ∨ SqT X.K H p ys) ∧ Q (.int ys.length) H) := by
  intro pins s σ H xs us Q I r h
  obtain ⟨p, ys, rfl, hq, q⟩ := h
  obtain ⟨u, rfl, rx⟩ := vals1 r
  cases rx
  have hn := line63
  rcases hq with hq | hq
  · obtain ⟨its, r', pl, hz⟩ := I.list hq
    have hlen := r'.length
    exact Calls.call_len_list pl.isList (by simp only [List.size_toArray] <;> omega) ⟨.int ys.length, H, I.tok _, ⟨s.toks + 1, by rw [List.size_toArray, hlen]⟩, q⟩
  · obtain ⟨its, r', pl, hz⟩ := I.tuple hq
    have hlen := r'.length
    exact len_tuple pl (by simp only [List.size_toArray] <;> omega) ⟨.int ys.length, H, I.tok _, ⟨s.toks + 1, by rw [List.size_toArray, hlen]⟩, q⟩
theorem call_tuple_of : CallR X (.type "tuple") (fun xs H Q => ∃ p ys, xs = [.ref p] ∧ ((SqL X.K H p ys ∧ ∀ l, H l = none → Q (.ref l) (upd H l (.tup ys))) ∨ (SqT X.K H p ys ∧ Q (.ref p) H))) := by
  intro pins s σ H xs us Q I r h
  obtain ⟨p, ys, rfl, h⟩ := h
  obtain ⟨u, rfl, rx⟩ := vals1 r
  cases rx
  rcases h with ⟨hq, q⟩ | ⟨hq, q⟩
  · obtain ⟨its, r', pl, hz⟩ := I.list hq
    have hlen := r'.length
    refine call_tuple_list pl.isList (fun h' kp => ?_) (by simp only [List.size_toArray] <;> omega)
    have I1 : Inv X pins σ H { s with heap := h' } := I.kept (t' := s.toks) kp
    have I2 : Inv X pins σ (upd H h'.objs.size (.tup ys)) { s with heap := h'.push { cls := .type "tuple", data := .seq its.toArray } } :=
      I1.laid (t' := s.toks) (fun b o e => Heap.get?_push_of_some _ e) (Nat.le_refl _) (show ObjOk X.prog X.w _ _ _ (.tup ys) from ⟨hz, its, r', IsTup.new _ _, tup_nodict⟩)
    exact ⟨.ref h'.objs.size, _, I2, rfl, q _ (I1.hok.fresh (Nat.le_refl _))⟩
  · obtain ⟨its, r', pl, hz⟩ := I.tuple hq
    exact call_tuple_same pl ⟨.ref p, H, I, rfl, q⟩
def tyV (K : PySem.W.Frag) (T : String) (x : V) (H : Hp) : Prop := match x with
  | .str _ => T = "str"
  | .int _ => T = "int"
  | .ref p => (T = "list" ∧ ∃ xs, SqL K H p xs) ∨ (T = "tuple" ∧ ((∃ o, K.lookup p = some o ∧ o.cls = .type "tuple" ∧ o.dict = none) ∨ ∃ xs, H p = some (.tup xs))) ∨
      (T = "dict" ∧ ((∃ kvs, H p = some (.dK kvs)) ∨ ∃ kvs, H p = some (.dT kvs))) ∨ (T = "set" ∧ ∃ S n, H p = some (.set S n))
  | _ => False
theorem tyV_is {pins : List (Addr × Obj)} {σ : St} {H : Hp} {s : Shared} {T : String} {x : V} {v : Value} (I : Inv X pins σ H s) (r : RelV x v) (ty : tyV X.K T x H) :
    s.TypeIs v T ∧ ∀ a, v = .ref a → ∃ ob, s.heap.get? a = some ob ∧ ob.dict = none := by
  cases x with
  | str z =>
    obtain ⟨t, rfl⟩ := r
    cases (show T = "str" from ty)
    exact ⟨typeIs_str s z t, fun _ e => nomatch e⟩
  | int i =>
    obtain ⟨t, rfl⟩ := r
    cases (show T = "int" from ty)
    exact ⟨typeIs_int s i t, fun _ e => nomatch e⟩
  | ref p =>
    cases r
    rcases ty with ⟨rfl, xs, hq⟩ | ⟨rfl, ⟨o, hk, hc, hd⟩ | ⟨xs, hk⟩⟩ | ⟨rfl, hk⟩ | ⟨rfl, S, n, hk⟩
    · obtain ⟨its, _, pl, _⟩ := I.list hq
      refine ⟨pl.isList.typeIs, fun a e => ?_⟩
      cases e
      obtain ⟨o, n, e, c, hd, _⟩ := pl
      exact ⟨o, e, hd⟩
    · refine ⟨⟨o, I.kIn p o hk, hc⟩, fun a e => ?_⟩
      cases e
      exact ⟨o, I.kIn _ o hk, hd⟩
    · obtain ⟨_, _, _, ⟨o, e, hc, _⟩, nd⟩ := (show ObjOk X.prog X.w H s.heap p (.tup xs) from I.hok p _ hk)
      refine ⟨⟨o, e, hc⟩, fun a e2 => ?_⟩
      cases e2
      exact ⟨o, e, nd o e⟩
    · have z : ∃ o, s.heap.get? p = some o ∧ o.ExactDict := by
        rcases hk with ⟨kvs, hk⟩ | ⟨kvs, hk⟩
        · obtain ⟨_, _, _, _, o, _, _, e, ex, _⟩ := I.hok p _ hk
          exact ⟨o, e, ex⟩
        · obtain ⟨_, _, _, _, o, _, _, e, ex, _⟩ := I.hok p _ hk
          exact ⟨o, e, ex⟩
      obtain ⟨o, e, ex⟩ := z
      refine ⟨⟨o, e, ex.1⟩, fun a e2 => ?_⟩
      cases e2
      exact ⟨o, e, ex.2.1⟩
    · obtain ⟨o, _, _, _, e, ex, _⟩ := I.hok p _ hk
      refine ⟨⟨o, e, ex.1⟩, fun a e2 => ?_⟩
      cases e2
      exact ⟨o, e, ex.2.1⟩
  | _ => exact False.elim ty
def tBM (K : PySem.W.Frag) (T : String) (r : V → List V → Hp → VK → Prop) (to : TE) (t : TA) : TE := fun σ H Q => to σ H fun x H1 => tyV K T x H1 ∧ t σ H1 fun xs H2 => r x xs H2 Q
variable {o e : Expr} {es : List Expr} {to : TE} {t : TA} {name : Str} {apos cpos : Pos} {T id : String} {r : V → List V → Hp → VK → Prop}
theorem pe_bm (pa : PlainAttrs T) (slot : Slot T name id) (hty : typeOf (.builtin id) = pure (.type "method_descriptor")) (hm : MtR X id r) (ho : PE X o to) (ha : PA X (e :: es) t)
    (hbase : attributeBase o name X.env (eval o X.env) = eval o X.env := by rfl)
    (hfew : ((backTo cpos (starEach (e :: es) X.env)).all (fun x => !x.1) && (backToKw cpos (keywordEach [] X.env)).all (fun x => x.1.isSome)
      && decide ((e :: es).length + ([] : List Keyword).length + (if ([] : List Keyword).isEmpty then 0 else 1) < 30)) = true := by rfl)
    (hline : (apos.endLine == cpos.line) = true := by rfl) (hs : starEach (e :: es) X.env = (false, eval e X.env) :: starEach es X.env := by rfl) (hplain : (backTo cpos (starEach es X.env)).any (·.1) = false := by rfl) :
    PE X (.Call (.Attribute o name apos) (e :: es) [] cpos) (tBM X.K T r to t) := by
  intro pins s σ H Q I h
  refine wpAny_Call_method_late hbase hfew hline rfl (thn (ho pins s σ H _ I h) fun v s1 ⟨x, H1, I1, r1, ty, q1⟩ => ?_)
  obtain ⟨h1, h2⟩ := tyV_is I1 r1 ty
  refine ⟨T, id, pa, slot, hty, h1, h2, ?_⟩
  have hA := ha cpos pins s1 σ H1 _ I1 q1
  rw [hs] at hA ⊢
  refine Calls.callWith_builtin (by show (false || (backTo cpos (starEach es X.env)).any (·.1)) = false; rw [hplain] <;> rfl) (Calls.evalArgs_plain ?_)
  exact thn hA fun us s2 ⟨vs, H2, I2, r2, q2⟩ => hm pins s2 σ H2 x vs v us Q I2 r1 r2 q2
/- xs.append(e), list.index on a module's tuple .. are MtR facts of 06m -/
end
end L2
namespace L2
open PySem PySem.Spec PyProof.Rows
def MtM (X : Cx) (id : String) (r : V → List V → Hp → VK → Prop) : Prop :=
  ∀ (pins : List (Addr × Obj)) (s : Shared) (σ : St) (H : Hp) (x : V) (xs : List V) (v : Value) (us : List Value) (Q : VK), Inv X pins σ H s → RelV x v → Vals xs us → r x xs H Q →
    wpAny (model X.prog X.w) X.A (call (.builtin id) (v :: us)) (EP X pins σ Q) X.xe s
theorem Vals.one : ∀ {x : V} {us : List Value}, Vals [x] us → ∃ u, us = [u] ∧ RelV x u
  | _, _, .cons r .nil => ⟨_, rfl, r⟩
theorem Vals.eraseIdx : ∀ {xs : List V} {us : List Value} (i : Nat), Vals xs us → Vals (xs.eraseIdx i) (us.eraseIdx i)
  | _, _, _, .nil => .nil
  | _, _, 0, .cons _ t => t
  | _, _, i + 1, .cons r t => .cons r (Vals.eraseIdx i t)
theorem Vals.rep {xs : List V} {us : List Value} (h : Vals xs us) : ∀ k : Nat, Vals (List.replicate k xs).flatten (List.replicate k us).flatten
  | 0 => .nil
  | k + 1 => by
    rw [List.replicate_succ, List.replicate_succ, List.flatten_cons, List.flatten_cons]
    exact Vals.append h (Vals.rep h k)
theorem len_erase {α : Type} : ∀ (l : List α) (i : Nat), (l.eraseIdx i).length ≤ l.length
  | [], _ => Nat.le_refl _
  | _ :: _, 0 => Nat.le_succ _
  | _ :: r, i + 1 => Nat.succ_le_succ (len_erase r i)
theorem foldl_rep (its : List Value) : ∀ (k : Nat) (acc : List Value),
    List.foldl (fun x1 x2 => x1 ++ x2) acc.toArray (List.replicate k its.toArray) = (acc ++ (List.replicate k its).flatten).toArray
  | 0, acc => by simp
  | k + 1, acc => by
    have e : acc.toArray ++ its.toArray = (acc ++ its).toArray := by simp
    have e2 : (acc ++ its) ++ (List.replicate k its).flatten = acc ++ (List.replicate (k + 1) its).flatten := by
      rw [List.replicate_succ, List.flatten_cons, List.append_assoc]
    rw [← e2, ← foldl_rep its k (acc ++ its), ← e, List.replicate_succ, List.foldl_cons]
section
variable {X : Cx} {pins : List (Addr × Obj)} {σ : St} {H : Hp} {s : Shared} {l b : Addr} {xs ys zs : List V}
theorem Inv.lset {its its' : List Value} {n : Nat} {f : Array Value → Array Value} {t' : Nat} (I : Inv X pins σ H s) (hH : H l = some (.lst xs))
    (e : s.heap.get? l = some { cls := .type "list", data := .seq its.toArray n }) (hf : f its.toArray = its'.toArray) (hv : Vals ys its') (hz : ys.length ≤ sizeLine) :
    Inv X pins σ (upd H l (.lst ys)) { s with heap := s.heap.update l (Obj.mapSeq f), toks := t' } := by
  have q := PySem.IsL.update e f
  rw [hf] at q
  refine I.write (x := l) (e := l) (by rw [hH]; exact trivial) (.inl rfl) (fun b' u hb hu => (Heap.get?_update_other s.heap (Obj.mapSeq f) (Ne.symm hb)).trans hu) ⟨_, q⟩ ?_
  exact ⟨hz, its', _, hv, q⟩
theorem Inv.lnew {its : List Value} {t' : Nat} (I : Inv X pins σ H s) (hv : Vals ys its) (hz : ys.length ≤ sizeLine) :
    Inv X pins σ (upd H s.heap.objs.size (.lst ys)) { s with heap := s.heap.push { cls := .type "list", data := .seq its.toArray }, toks := t' } :=
  I.laid (fun _ _ q => Heap.get?_push_of_some _ q) (Nat.le_refl _) ⟨hz, its, 0, hv, Heap.get?_push_size _ rfl⟩
theorem Inv.fresh (I : Inv X pins σ H s) : H s.heap.objs.size = none := I.hok.fresh (Nat.le_refl _)
theorem Inv.lstM (I : Inv X pins σ H s) (hH : H l = some (.lst xs)) : xs.length ≤ sizeLine ∧ ∃ (its : List Value) (n : Nat), Vals xs its ∧ xs.length = its.length ∧ s.heap.get? l = some { cls := .type "list", data := .seq its.toArray n } := by
  obtain ⟨z, its, n, r, e⟩ := I.hok l _ hH
  exact ⟨z, its, n, r, r.length, e⟩
theorem notLongL {n : Nat} (h : n ≤ sizeLine) : Builtin.List.listTooLong n = false := by
  unfold Builtin.List.listTooLong
  exact decide_eq_false (by omega)
end
section
variable {X : Cx}
def rAppend : V → List V → Hp → VK → Prop := fun x vs H Q => ∃ l xs y, x = .ref l ∧ vs = [y] ∧ H l = some (.lst xs) ∧ xs.length < sizeLine ∧ Q .non (upd H l (.lst (xs ++ [y])))
theorem mt_append : MtM X "list.append" rAppend := by
  intro pins s σ H x vs v us Q I rx rv h
  obtain ⟨l, xs, y, rfl, rfl, hH, hz, q⟩ := h
  cases rx
  obtain ⟨u, rfl, ru⟩ := rv.one
  obtain ⟨z, its, n, r, hl, e⟩ := I.lstM hH
  refine call_meets F.slot_list_append ⟨_, e, rfl⟩ F.entry_list_append (F.args_list_append_2 _ _) (PySem.list_append l its.toArray n u (by rw [List.size_toArray]; omega)) ⟨e, ?_⟩
  refine ⟨.non, _, I.lset (its' := its ++ [u]) hH e (by simp) (r.append (.cons ru .nil)) ?_, rfl, q⟩
  rw [List.length_append, List.length_singleton]
  omega
def rExtend : V → List V → Hp → VK → Prop := fun x vs H Q => ∃ l b xs zs, x = .ref l ∧ vs = [.ref b] ∧ H l = some (.lst xs) ∧ H b = some (.lst zs) ∧ xs.length + zs.length ≤ sizeLine ∧ Q .non (upd H l (.lst (xs ++ zs)))
theorem mt_extend : MtM X "list.extend" rExtend := by
  intro pins s σ H x vs v us Q I rx rv h
  obtain ⟨l, b, xs, zs, rfl, rfl, hH, hB, hz, q⟩ := h
  cases rx
  obtain ⟨u, rfl, ru⟩ := rv.one
  cases ru
  obtain ⟨z, its, n, r, hl, e⟩ := I.lstM hH
  obtain ⟨z2, its2, n2, r2, hl2, e2⟩ := I.lstM hB
  have hsz : its.toArray.size + its2.toArray.size ≤ sizeLine := by rw [List.size_toArray, List.size_toArray]; omega
  have hlong : ¬ (!its.toArray.isEmpty && Builtin.List.listTooLong (its.toArray.size + its2.toArray.size)) = true := by
    rw [notLongL hsz, Bool.and_false]
    exact Bool.false_ne_true
  refine call_meets F.slot_list_extend ⟨_, e, rfl⟩ F.entry_list_extend (F.args_list_extend_2 _ _)
    (AutoSeq1.list_extend_list_list_0 l its.toArray n b its2.toArray n2 hlong (by rw [List.size_toArray]; omega) (by omega)) ⟨e, e2, ?_⟩
  refine ⟨.non, _, I.lset (its' := its ++ its2) hH e (by simp) (r.append r2) ?_, rfl, q⟩
  rw [List.length_append]
  omega
def rPopAt : V → List V → Hp → VK → Prop := fun x vs H Q => ∃ l xs i k y, x = .ref l ∧ vs = [.int i] ∧ H l = some (.lst xs) ∧ -(2 ^ 63) ≤ i ∧ i < 2 ^ 63 ∧ seqIndex? i xs.length = some k ∧ xs[k]? = some y ∧ Q y (upd H l (.lst (xs.eraseIdx k)))
theorem mt_popAt : MtM X "list.pop" rPopAt := by
  intro pins s σ H x vs v us Q I rx rv h
  obtain ⟨l, xs, i, k, y, rfl, rfl, hH, h1, h2, hk, hy, q⟩ := h
  cases rx
  obtain ⟨u, rfl, ru⟩ := rv.one
  obtain ⟨t, rfl⟩ := ru
  obtain ⟨z, its, n, r, hl, e⟩ := I.lstM hH
  obtain ⟨w, hw, rw'⟩ := r.get hy
  refine call_meets F.slot_list_pop ⟨_, e, rfl⟩ F.entry_list_pop (F.args_list_pop_2 _ _)
    (MeetsSeq.list_pop_at l its.toArray n i t k w (fitsIndex_both h1 h2) (by rw [List.size_toArray, ← hl]; exact hk) (by rw [← Array.getElem?_toList]; exact hw) (by rw [List.size_toArray]; omega)) ⟨e, ?_⟩
  refine ⟨y, _, I.lset (its' := its.eraseIdx k) hH e ?_ (r.eraseIdx k) ?_, rw', q⟩
  · show its.toArray.eraseIdxIfInBounds k = (its.eraseIdx k).toArray
    rw [List.eraseIdxIfInBounds_toArray]
  · have := len_erase xs k
    omega
def rCat : R2 := fun x y H Q => ∃ l b xs zs, x = .ref l ∧ y = .ref b ∧ H l = some (.lst xs) ∧ H b = some (.lst zs) ∧ xs.length + zs.length ≤ sizeLine ∧ ∀ p, H p = none → Q (.ref p) (upd H p (.lst (xs ++ zs)))
theorem op_cat : OpR X (binaryOp .Add) rCat := by
  intro pins s σ H x y v u Q I rx ry h
  obtain ⟨l, b, xs, zs, rfl, rfl, hH, hB, hz, q⟩ := h
  cases rx
  cases ry
  obtain ⟨z, its, n, r, hl, e⟩ := I.lstM hH
  obtain ⟨z2, its2, n2, r2, hl2, e2⟩ := I.lstM hB
  refine PySem.P.add_list e e2 ?_ (by rw [List.size_toArray, List.size_toArray]; omega)
  have ea : its.toArray ++ its2.toArray = (its ++ its2).toArray := by simp
  rw [ea]
  exact ⟨.ref _, _, I.lnew (t' := s.toks) (r.append r2) (by rw [List.length_append]; omega), rfl, q _ I.fresh⟩
def rRep : R2 := fun x y H Q => ∃ l k xs, x = .ref l ∧ y = .int k ∧ H l = some (.lst xs) ∧ -(2 ^ 63) ≤ k ∧ k < 2 ^ 63 ∧ xs.length * k.toNat ≤ sizeLine ∧
  ∀ p, H p = none → Q (.ref p) (upd H p (.lst (List.replicate k.toNat xs).flatten))
theorem len_rep {α : Type} (xs : List α) (k : Nat) : (List.replicate k xs).flatten.length = k * xs.length := by
  induction k with
  | zero => simp
  | succ k ih => rw [List.replicate_succ, List.flatten_cons, List.length_append, ih, Nat.succ_mul, Nat.add_comm]
theorem op_rep : OpR X (binaryOp .Mult) rRep := by
  intro pins s σ H x y v u Q I rx ry h
  obtain ⟨l, k, xs, rfl, rfl, hH, h1, h2, hz, q⟩ := h
  cases rx
  obtain ⟨t, rfl⟩ := ry
  obtain ⟨z, its, n, r, hl, e⟩ := I.lstM hH
  have hlen : its.toArray.size * k.toNat ≤ sizeLine := by rw [List.size_toArray, ← hl]; exact hz
  have hcap : ¬ its.toArray.size * k.toNat > (2 ^ 63 - 1) / 8 := by
    have : (sizeLine : Nat) ≤ (2 ^ 63 - 1) / 8 := by decide
    omega
  have hfit : ¬ (!Builtin.List.listFitsIndex k) = true := by
    rw [fitsIndex_both h1 h2]
    exact Bool.false_ne_true
  have hlong : ¬ Builtin.List.listTooLong (its.toArray.size * k.toNat) = true := by
    rw [notLongL hlen]
    exact Bool.false_ne_true
  have hnew : List.foldl (fun x1 x2 => x1 ++ x2) #[] (List.replicate (if its.toArray.isEmpty = true then 0 else k.toNat) its.toArray) = (List.replicate k.toNat its).flatten.toArray := by
    have f0 : ∀ m : Nat, List.foldl (fun x1 x2 => x1 ++ x2) #[] (List.replicate m its.toArray) = (List.replicate m its).flatten.toArray := fun m => by
      have := foldl_rep its m []
      rw [List.nil_append] at this
      exact this
    rw [f0]
    cases its with
    | nil => simp
    | cons a r' => rw [if_neg (by simp)]
  refine wpAny_binaryOp_repeat_ref (T := "list") (U := "int") (by decide) ⟨_, e, rfl⟩ (fun s' => typeIs_int s' k t) noFill_list_mul F.fills_int_mul F.slot_int_rmul repeat_list F.slot_int_index.lookup
    (call_meets F.slot_int_rmul (typeIs_int s k t) F.entry_int_rmul (F.args_int_rmul_2 _ _) (int___rmul___int_list k t l its.toArray n)
      ⟨e, rfl, ⟨_, e, rfl⟩, call_meets F.slot_list_mul ⟨_, e, rfl⟩ F.entry_list_mul (F.args_list_mul_2 _ _) (AutoListH.list___mul___list_int_3 l its.toArray n k t hfit hcap hlong) ⟨e, ?_⟩⟩)
  rw [hnew]
  exact ⟨.ref _, _, I.lnew (t' := s.toks) (r.rep k.toNat) (by rw [len_rep, Nat.mul_comm]; exact hz), rfl, q _ I.fresh⟩
end
section
variable {prog : Program} {w : World} {A : Around} {E : Value → Shared → Prop} {s : Shared}
end
section
variable {X : Cx}
end
end L2
namespace Att
open PySem PySem.W PySem.Calls PyProof.Rows
theorem ints_of_wellAll {P : Params} {h : Heap} : ∀ (ns : List Int) (vs : List Value), WellAll P h vs (ns.map WData.int) → IntsAre vs ns := by
  intro ns
  induction ns with
  | nil =>
    intro vs w
    rw [List.map_nil] at w
    cases w
    exact .nil
  | cons n ns ih =>
    intro vs w
    rw [List.map_cons] at w
    cases w with
    | cons a b =>
      cases a
      exact .cons _ _ (ih _ b)
theorem script_of {l : OpenLaw} {n : Nat} (hn : l.most = some n) {P : Params} {h : Heap} {args : List WData} {vals : List Value}
    (hpre : l.row.toRowW.claim.pre args = true) (hwl : WellAll P h vals args) :
    ∃ a vs ns, vals = [Value.ref a] ∧ args = [WData.list (ns.map WData.int)] ∧ h.get? a = some { cls := .type "list", data := .seq vs.toArray } ∧ IntsAre vs ns ∧ ns.length ≤ n := by
  have hsh : WShape.hasAll [] args [.list .int] = true := (pre_splitW hpre).1
  have hc : l.pre.holds [] { args := args } = true := (pre_splitW hpre).2
  obtain ⟨d, r, rfl, h1, h2⟩ := hasAllW_cons hsh
  obtain rfl := hasAllW_nil h2
  obtain ⟨xs, rfl, h3⟩ := hasW_list h1
  obtain ⟨ns, rfl⟩ := items_int h3
  have hlen : ns.length ≤ n := by
    unfold OpenLaw.pre at hc
    have h4 : (WTm.not (.lt (.lit (.int (n : Int))) (.len (.arg 0)))).holds [] { args := [.list (ns.map .int)] } = true := by
      have h4 := (holds_andW hc).1
      rw [hn] at h4
      exact h4
    have h5 := condW_of h4 (w_not (w_lt w_lit (w_len_list (w_arg rfl))))
    rw [List.length_map] at h5
    refine Nat.le_of_not_lt fun q => ?_
    have q' : (n : Int) < ((ns.length : Nat) : Int) := by omega
    first
      | (rw [decide_eq_true q'] at h5; exact absurd h5 (by decide))
      | (simp at h5; omega)
  cases hwl with
  | cons w1 w2 =>
    cases w2
    cases w1 with
    | list ho hall => exact ⟨_, _, ns, rfl, rfl, ho, ints_of_wellAll ns _ hall, hlen⟩
theorem post_true (l : OpenLaw) (args : List WData) : l.row.toRowW.claim.post args (.bool true) args = true :=
  postW_of (r := l.row.toRowW) (X := (true == true))
    (show WShape.has [] (.bool true) .bool = true by first | rfl | decide | simp [WShape.has, WShape.arms, WShape.armsAll])
    (show (WTm.eq .res (.lit (.bool true))).value [] { args := args, res := some (.bool true), after := args } = some (.bool (true == true)) from w_eq_bool (w_res rfl) w_lit) rfl
theorem attach_call {l : OpenLaw} {n : Nat} {q : Program} {loose : List Str} {XP : (Str → Option Value) → Heap → Prop} {YP : World → Heap → Prop} {d : DefRec}
    (hn : l.most = some n) (hdf : d.params.defaults = [])
    (call : ∀ (w : World) (s₀ s₁ : Shared) (mg mb : Str → Option Value) (fa : Addr) (o : Obj) (pm cd doc : Value) (a : Addr) (vs : List Value) (ns : List Int),
      Ground q loose [] XP w s₀ mg mb s₁.heap → YP w s₁.heap →
      s₁.heap.get? fa = some o → o.data = .func (docDef d.name d.params d.body d.scope pm cd doc) → s₁.heap.CodeRec cd d.name → mg d.name = some (.ref fa) →
      s₁.heap.get? a = some { cls := .type "list", data := .seq vs.toArray } → IntsAre vs ns → ns.length ≤ n → s₁.gens = #[] →
      codeAny (model l.prog w) callerA (.call (.ref fa) ⟨[.ref a], []⟩) (fun r s' => r = .ok (.ret (.bool true)) ∧ OldK s₁.heap s'.heap ∧ s'.os = s₁.os ∧ AllBare s'.gens) s₁) :
    WalkO q loose XP YP l.row.toRowW d [] (fun f vs => PySem.call f vs) := by
  intro w s₀ s₁ mg mb G Y fa o pm cd doc dV kV ho hd hcd hD hmg hg args vals as hpre hlay hrd hwl hlo
  obtain rfl : dV = .none := Dflts.none hD hdf
  obtain rfl : kV = .none := Dflts.noKw hD
  obtain ⟨a, vs, ns, rfl, rfl, hobj, hints, hlen⟩ := script_of hn hpre hwl
  refine enter_call (codeAny_mono (call w s₀ s₁ mg mb fa o pm cd doc a vs ns G Y ho (fd_plain hd) hcd hmg hobj hints hlen hg) fun r s' hq => ?_)
  obtain ⟨rfl, h2, h3, h4⟩ := hq
  exact ⟨.inl ⟨.bool true, .bool true, [], rfl, fun _ => rfl, .bool true, post_true l _, fun _ => ⟨List.Pairwise.nil, fun _ hm => (nomatch hm)⟩⟩, h2, h3, h4⟩
section
variable {prog : Program} {w : World} {A : Around} {E : Value → Shared → Prop} {s : Shared} {K : Frag}
def ledger (h : Heap) (L d : Addr) : List (Addr × Obj) := (List.range h.objs.size).filterMap fun a => if a = L ∨ a = d then none else (h.get? a).map fun o => (a, o)
end
end Att
namespace L2
open PySem PySem.Spec PyProof.Rows
theorem vals_ints : ∀ {vs : List Value} {ns : List Int}, IntsAre vs ns → Vals (ns.map V.int) vs
  | _, _, .nil => .nil
  | _, _, .cons n t h => .cons ⟨t, rfl⟩ (vals_ints h)
def Only (H : Hp) : Prop := ∀ b, H b = none ∨ ∃ o xs, H b = some (.frz o (.lst xs))
theorem law_call {P : Program} {w : World} {K : PySem.W.Frag} {mg mb : Str → Option Value} {CX : CXT} {k : Nat} {fa a : Addr} {fd : FuncData} {x : Str} {sp : Sp} {s₁ : Shared} {vs : List Value} {ns : List Int}
    (KX : K.In s₁.heap) (hns : s₁.heap.Ns mainGlobals mg) (hb : s₁.heap.Ns builtinsNs mb) (hbb : ∀ x : Str, x ≠ "__name__" → mb x = bootBuiltins x) (hlim : s₁.heap.NoLimit) (hg : s₁.gens = #[])
    (ha : s₁.heap.get? a = some { cls := .type "list", data := .seq vs.toArray }) (hi : IntsAre vs ns) (hl : ns.length ≤ sizeLine) (hr : Room k callerA)
    (F : ∀ base : Heap, K.In base → base.Ns mainGlobals mg → FnOk P w K mg base CX k fa fd [x] sp) (hbind : ∀ (s : Shared) (u : Value), BindsTo s fd ⟨[u], []⟩ [(x, u)])
    (hsp : ∀ H : Hp, Only H → SqL K H a (ns.map V.int) → sp [.ref a] H (fun v _ => v = .bl true) fun _ _ _ => False)
    (hCX : ∀ H e s', CX [] H s₁ (fun _ _ _ => False) e s' → False) :
    codeAny (model P w) callerA (.call (.ref fa) ⟨[.ref a], []⟩) (fun r s' => r = .ok (.ret (.bool true)) ∧ OldK s₁.heap s'.heap ∧ s'.os = s₁.os ∧ AllBare s'.gens) s₁ := by
  have rv := vals_ints hi
  have lenV := hi.length
  -- from an abstract heap in which nothing but the script may be tracked
  have core : ∀ H : Hp, Only H → SqL K H a (ns.map V.int) → HOk P w H s₁.heap → (∀ b, H b ≠ none → b = a) → (H a ≠ none → K.lookup a = none) →
      codeAny (model P w) callerA (.call (.ref fa) ⟨[.ref a], []⟩) (fun r s' => r = .ok (.ret (.bool true)) ∧ OldK s₁.heap s'.heap ∧ s'.os = s₁.os ∧ AllBare s'.gens) s₁ := by
    intro H hO hS hok hA hK
    have base_of : ∀ {b : Addr} {o : Obj}, s₁.heap.get? b = some o → H b = none → (hidT s₁.heap H).get? b = some o := fun e n => hidT_get e n
    have noA : ∀ {b : Addr} {o : Obj} {es : Array DictEntry} {ep : Nat}, s₁.heap.get? b = some o → o.data = .dict es ep → H b = none := fun {b o es ep} e d => by
      cases q : H b with
      | none => rfl
      | some u =>
        have e' : b = a := hA b (by rw [q]; simp)
        subst e'
        rw [ha] at e; cases e
        have d' : Data.seq vs.toArray _ = Data.dict es ep := d
        cases d'
    have nsK : ∀ {b : Addr} {m : Str → Option Value}, s₁.heap.Ns b m → (hidT s₁.heap H).Ns b m := fun {b m} ⟨o, es, ep, e, d, r⟩ => ⟨o, es, ep, base_of e (noA e d), d, r⟩
    have hKb : K.In (hidT s₁.heap H) := fun b o e => base_of (KX b o e) (by
      cases q : H b with
      | none => rfl
      | some u =>
        have e' : b = a := hA b (by rw [q]; simp)
        subst e'
        rw [hK (by rw [q]; simp)] at e; cases e)
    have hM : Mod K mg (hidT s₁.heap H) := ⟨hKb, nsK hns, ⟨mb, nsK hb, hbb⟩, let ⟨mc, h1, h2⟩ := hlim; ⟨mc, nsK h1, h2⟩⟩
    have e0 : Env0 P w K mg (hidT s₁.heap H) callerA [] s₁ H := ⟨rfl, hM, fun b o e => of_hidT e, Nat.le_of_eq (hidT_size _ _), trivial, fun b hb => absurd (show b ∈ ([] : List Addr) from hb) (by simp), hok, .of_eq hg⟩
    refine codeAny_mono ((F _ hKb (nsK hns)).run callerA [] s₁ H ⟨[.ref a], []⟩ [.ref a] [.ref a] _ _ hr e0 (hbind s₁ (.ref a)) (.cons rfl .nil) (hsp H hO hS)) fun r s' h => ?_
    cases r with
    | error e => exact (hCX H e s' h).elim
    | ok fl =>
      cases fl with
      | next => exact False.elim h
      | brk => exact False.elim h
      | cont => exact False.elim h
      | ret u =>
        obtain ⟨v, H', os, bare, un, hok', r', q⟩ := h
        have q' : v = .bl true := q
        subst q'
        obtain rfl : u = Value.bool true := r'
        refine ⟨rfl, OldK.of_keep fun b o e => ?_, os, bare⟩
        cases q : H b with
        | none => exact un.keep b o e q (by intro z; exact absurd (show b ∈ ([] : List Addr) from z) (by simp)) (by simp)
        | some u =>
          rcases hO b with z | ⟨ob, xs, z⟩
          · rw [q] at z; cases z
          · have z2 := un.frzs b ob _ z
            obtain ⟨e1, _⟩ := hok b _ z
            obtain ⟨e2, _⟩ := hok' b _ z2
            rw [e] at e1; cases e1
            exact e2
  cases hk : K.lookup a with
  | some o =>
    -- the script is one of the module's own objects
    have e := KX a o hk
    rw [ha] at e
    cases e
    refine core (fun _ => none) (fun _ => .inl rfl) (.inr ⟨_, vs.toArray, _, hk, rfl, rfl, rfl, by rw [List.size_toArray, lenV]; exact hl, by simpa using rv⟩) (fun b u z => by have z' : (none : Option HO) = some u := z; cases z') (fun b z => absurd rfl z) fun z => absurd rfl z
  | none =>
    refine core (fun b => if b = a then some (.frz { cls := .type "list", data := .seq vs.toArray } (.lst (ns.map V.int))) else none) (fun b => ?_) (.inl (.inr ⟨{ cls := .type "list", data := .seq vs.toArray }, if_pos rfl⟩)) (fun b u z => ?_) (fun b z => ?_) fun _ => hk
    · by_cases hb : b = a
      · exact .inr ⟨_, _, if_pos hb⟩
      · exact .inl (if_neg hb)
    · by_cases hb : b = a
      · have z' := (if_pos hb).symm.trans z
        cases z'
        subst hb
        exact ⟨ha, by rw [List.length_map]; exact hl, vs, _, rv, ha⟩
      · have z' := (if_neg hb).symm.trans z
        cases z'
    · by_cases hb : b = a
      · exact hb
      · exact absurd (if_neg hb) z
end L2
namespace L2
open PySem PySem.Spec PyProof.Rows
theorem walk_of {l : PySem.W.OpenLaw} {n k : Nat} {q : Program} {loose : List Str} {XP : (Str → Option Value) → Heap → Prop} {YP : World → Heap → Prop} {d : DefRec} {K : Params → PySem.W.Frag} {CX : World → CXT} {sp : World → Sp} {x : Str}
    (hn : l.most = some n) (hn2 : n ≤ sizeLine) (hdf : d.params.defaults = []) (hr : Room k callerA)
    (hY : ∀ (w : World) (h : Heap), YP w h → (K w.params).In h)
    (F : ∀ (w : World) (mg : Str → Option Value) (fa : Addr) (h : Heap), (K w.params).In h → h.Ns mainGlobals mg → mg d.name = some (.ref fa) →
      ∃ fd : FuncData, (∀ (s : Shared) (u : Value), BindsTo s fd ⟨[u], []⟩ [(x, u)]) ∧
        ∀ base : Heap, (K w.params).In base → base.Ns mainGlobals mg → FnOk l.prog w (K w.params) mg base (CX w) k fa fd [x] (sp w))
    (hsp : ∀ (w : World) (H : Hp) (a : Addr) (ns : List Int), ns.length ≤ n → Only H → SqL (K w.params) H a (ns.map V.int) → sp w [.ref a] H (fun v _ => v = .bl true) fun _ _ _ => False)
    (hCX : ∀ (w : World) (H : Hp) (s : Shared) (e : Value) (s' : Shared), CX w [] H s (fun _ _ _ => False) e s' → False) :
    PySem.W.WalkO q loose XP YP l.row.toRowW d [] (fun f vs => PySem.call f vs) := by
  refine Att.attach_call hn hdf fun w s₀ s₁ mg mb fa o pm cd doc a vs ns G Y ho hd hcd hmg hobj hints hlen hg => ?_
  have KX := hY w _ Y
  obtain ⟨fd, hb, hF⟩ := F w mg fa _ KX G.T.g hmg
  exact law_call KX G.T.g G.T.b G.T.builtins G.T.nolimit hg hobj hints (Nat.le_trans hlen hn2) hr hF hb (fun H hO hS => hsp w H a ns hlen hO hS) fun H e s' => hCX w H s₁ e s'
end L2
/- THE LAST THEOREM (shape; LID, My.* are yours):
   My.Adr: a structure of the addresses that your layer names (classes, functions); My.Txt K t: a structure (Prop) of the equations over K;
   My.txt_mk : {K} {implicit addresses ..} (e1 : nsIn K mainGlobals "law" = some (some (.ref f))) (e2 : K.lookup f = some ⟨oc, od, .func (fnOf "law" "law" params body scope dV kV doc pm an cdv ct), sl⟩) (e3 : codeIn K cdv "law" = true) .. : ∃ t, My.Txt K t
(the tactic k_is has no namespace: write k_is) -/
namespace L2
open PySem PySem.Spec PyProof.Rows
def defArgs (s : Stmt) : Arguments := match s with
  | .FunctionDef _ a _ _ _ _ _ _ _ _ => a
  | _ => { posonlyargs := [], args := [], vararg := none, kwonlyargs := [], kw_defaults := [], kwarg := none, defaults := [] }
def defBody (s : Stmt) : List Stmt := match s with
  | .FunctionDef _ _ b _ _ _ _ _ _ _ => b
  | _ => []
def defScope (s : Stmt) : Scope := match s with
  | .FunctionDef _ _ _ _ _ _ sc _ _ _ => sc
  | _ => { kind := .function, names := [], isGenerator := false, isCoroutine := false }
abbrev CX0 : CXT := fun _ _ _ _ _ _ => False
abbrev E0 : XK := fun _ _ _ => False
theorem pass0 {X : Cx} : Passes CX0 X E0 := fun _ _ _ _ _ _ _ h => h.elim
structure Fun (K : PySem.W.Frag) (x qual : Str) (st : Stmt) (f : Addr) (fd : FuncData) : Prop where
  ex : ∃ (oc : Value) (od : Option Addr) (kV doc pm : Value) (an : Option Addr) (cdv ct : Value) (osl : Array (Option Value)),
    fd = PySem.W.fnOf x qual (defArgs st) (defBody st) (defScope st) .none kV doc pm an cdv ct ∧ K.lookup f = some ⟨oc, od, .func fd, osl⟩ ∧ PySem.W.codeIn K cdv qual = true
  kp : PySem.W.keepIn K (.ref f) = true
section
variable {P : Program} {w : World} {K : PySem.W.Frag} {mg : Str → Option Value} {base : Heap}
theorem Fun.ok {x qual : Str} {st : Stmt} {f : Addr} {fd : FuncData} {N ps : List Str} {k : Nat} {sp : Sp} {cm : Bool} (F : Fun K x qual st f fd) (S : FnScope N ps (defScope st)) (len : ∀ vs H Q E, sp vs H Q E → vs.length = ps.length)
    (hbody : ∀ (cdv : Value) (A : Around) (outer : List Env) (s : Shared) (H : Hp) (vs : List V) (Q : VK) (E : XK), Room k (A.deeper (envOfC qual (defScope st) s.heap.objs.size f cdv)) cm → sp vs H Q E →
      ∃ t, PSs (cxOf CX0 P w K mg base N qual (defScope st) f cdv A outer s H E cm).nox (defBody st) t ∧ t { nx := fun _ H' => Q .non H', rt := Q } (start N vs) H) : FnOk P w K mg base CX0 (k + 1) f fd ps sp cm := by
  obtain ⟨oc, od, kV, doc, pm, an, cdv, ct, osl, rfl, lk, hcd⟩ := F.ex
  refine fn_of lk hcd S len fun A outer s H vs Q E hr hsp => ?_
  obtain ⟨t, h, q⟩ := hbody cdv A outer s H vs Q E hr hsp
  exact ⟨t, h.nox, q⟩
theorem Fun.binds {x qual : Str} {st : Stmt} {f : Addr} {fd : FuncData} {ps : List Str} (F : Fun K x qual st f fd)
    (h : ∀ (kV doc pm : Value) (an : Option Addr) (cdv ct : Value) (us : List Value), us.length = ps.length → bindArgs (PySem.W.fnOf x qual (defArgs st) (defBody st) (defScope st) .none kV doc pm an cdv ct) ⟨us, []⟩ = pure (ps.zip us)) : Binds K fd ps [] := by
  obtain ⟨oc, od, kV, doc, pm, an, cdv, ct, osl, rfl, lk, hcd⟩ := F.ex
  exact .all (h kV doc pm an cdv ct)
theorem fun_mk {x qual : Str} {st : Stmt} {f : Addr} {oc : Value} {od an : Option Addr} {osl : Array (Option Value)} {kV doc pm cdv ct : Value} (l : K.lookup f = some ⟨oc, od, .func (PySem.W.fnOf x qual (defArgs st) (defBody st) (defScope st) .none kV doc pm an cdv ct), osl⟩)
    (c : PySem.W.codeIn K cdv qual = true) (k : PySem.W.keepIn K (.ref f) = true) : Fun K x qual st f (PySem.W.fnOf x qual (defArgs st) (defBody st) (defScope st) .none kV doc pm an cdv ct) := ⟨⟨oc, od, kV, doc, pm, an, cdv, ct, osl, rfl, l, c⟩, k⟩
end
section
variable {X : Cx}
theorem pv (i : Nat) {x : Str} {pos : Pos} (hN : X.N[i]? = some x := by rfl) (hv : Vis X.env.scope x := by first | exact Or.inl rfl | exact Or.inr (Or.inl rfl) | exact Or.inr (Or.inr rfl)) (hd : (x == ("__debug__" : Str)) = false := by decide)
    (hcd : (x == ("__classdict__" : Str)) = false := by decide) : PE X (.Name x pos) (tVar i) := pe_var hN hv hd hcd
end
theorem iteF {A B : Prop} (h : B) : if false = true then A else B := by
  rw [if_neg Bool.false_ne_true]
  exact h
theorem iteT {A B : Prop} (h : A) : if true = true then A else B := by
  rw [if_pos rfl]
  exact h
theorem ite2 {c A B : Prop} [Decidable c] (h1 : c → A) (h2 : ¬ c → B) : if c then A else B := by
  by_cases h : c
  · rw [if_pos h]
    exact h1 h
  · rw [if_neg h]
    exact h2 h
theorem iteNS {c A B : Prop} [Decidable c] (hc : c) (h : B) : if (!decide c) = true then A else B := by
  rw [decide_eq_true hc]
  exact iteF h
def Same (H H' : Hp) : Prop := ∀ b o, H b = some o → H' b = some o
theorem Same.refl (H : Hp) : Same H H := fun _ _ h => h
theorem Same.trans {H H1 H2 : Hp} (a : Same H H1) (b : Same H1 H2) : Same H H2 := fun c o h => b c o (a c o h)
theorem Same.free {H H' : Hp} (e : Same H H') {l : Addr} (h : H' l = Option.none) : H l = Option.none := by
  cases q : H l with
  | none => rfl
  | some o =>
    rw [e l o q] at h
    cases h
theorem Same.seq {K : PySem.W.Frag} {H H' : Hp} {a : Addr} {xs : List V} (e : Same H H') (h : SqL K H a xs) : SqL K H' a xs := by
  rcases h with (h | ⟨o, h⟩) | h
  · exact .inl (.inl (e _ _ h))
  · exact .inl (.inr ⟨o, e _ _ h⟩)
  · exact .inr h
end L2
set_option Elab.async false
set_option linter.all false
set_option maxRecDepth 100000
namespace L2
open PySem PySem.Spec PyProof.Rows
section
variable {prog : Program} {w : World} {A : Around} {R : Result → Shared → Prop} {s : Shared}
theorem comp_loop_any {elt target iter : Expr} {ifs : List Expr} {scope : Scope} {pos : Pos} {it acc : Value} {env : Env} (I : Nat → Shared → Prop)
    (turn : ∀ n s, I n s → wpAny (model prog w) A (pyNext it) (fun r s₁ => match r with
      | none => R (.ok .next) s₁
      | some v => wpAny (model prog w) A (letOwnedTupleGo target it v) (fun _ s₁' => wpAny (model prog w) A (assign target env v) (fun _ s₂ =>
          wpAny (model prog w) A (forIn ifs true fun c r => if r = true then do let ok ← isTrue c env (eval c env); pure (ForInStep.yield ok) else pure (ForInStep.yield r)) (fun ok s₃ =>
            if ok = true then wpAny (model prog w) A (eval elt env) (fun x s₄ =>
              wpAny (model prog w) A (call (.builtin "list.append") [acc, x]) (fun _ s₅ => ∃ m, m < n ∧ I m s₅) (notedBy (model prog w) A env fun e s' => R (.error e) s') s₄) (notedBy (model prog w) A env fun e s' => R (.error e) s') s₃
            else ∃ m, m < n ∧ I m s₃) (notedBy (model prog w) A env fun e s' => R (.error e) s') s₂) (notedBy (model prog w) A env fun e s' => R (.error e) s') s₁') (notedBy (model prog w) A env fun e s' => R (.error e) s') s₁) (notedBy (model prog w) A env fun e s' => R (.error e) s') s)
    (n : Nat) (h : I n s) :
    codeAny (model prog w) A (.compLoop (.ListComp elt [⟨target, iter, ifs, 0⟩] scope pos) 0 it acc env) R s := by
  refine codeAny_loop rfl I (fun n s hI => ?_) n h
  show wpAny _ A ((compTurn (.ListComp elt [⟨target, iter, ifs, 0⟩] scope pos) 0 it acc env).onRaise (fun x => do noteFrame x env; theTreesLotGoes x)) _ _ s
  refine wpAny_noted ?_
  rw [compTurn_list]
  refine wpAny_bind (wpAny_standAt (wpAny_bind (wpAny_mono (turn n s hI) (fun r s₁ h₁ => ?_) fun _ _ h' => h')))
  cases r with
  | none => exact wpAny_pure h₁
  | some v =>
    refine wpAny_bind (wpAny_mono h₁ (fun _ s₁' h₁ => ?_) fun _ _ h' => h')
    refine wpAny_bind (wpAny_mono h₁ (fun _ s₂ h₂ => wpAny_bind (wpAny_mono h₂ (fun ok s₃ h₃ => ?_) fun _ _ h' => h')) fun _ _ h' => h')
    cases ok with
    | false => exact wpAny_pure ⟨rfl, h₃⟩
    | true =>
      exact wpAny_bind (wpAny_bind (wpAny_mono h₃ (fun x s₄ h₄ => wpAny_bind (wpAny_mono h₄ (fun _ s₅ h₅ => wpAny_pure (wpAny_pure ⟨rfl, h₅⟩)) fun _ _ h' => h')) fun _ _ h' => h'))
end
def closL (env : Env) : List (Str × NameKind) → List (Str × Addr) → List (Str × Addr)
  | [], cs => cs
  | (n, k) :: r, cs => closL env r (if k == .free then (n, (env.cells.lookup n).getD 0) :: cs else cs)
def clos (scope : Scope) (env : Env) : List (Str × Addr) := closL env scope.names []
theorem forIn_closL {env : Env} : ∀ (ns : List (Str × NameKind)) (cs : List (Str × Addr)), (∀ x ∈ ns, x.2 = .free → ∃ c, env.cells.lookup x.1 = some c) →
    (forIn ns cs fun (x : Str × NameKind) (r : List (Str × Addr)) => (match x with | (name, kind) => if kind == .free then do let c ← cellOf env name; pure (ForInStep.yield ((name, c) :: r)) else pure (ForInStep.yield r) : Sem (ForInStep (List (Str × Addr))))) = (pure (closL env ns cs) : Sem (List (Str × Addr)))
  | [], cs, _ => rfl
  | (n, k) :: r, cs, h => by
    rw [List.forIn_cons]
    by_cases hk : k = .free
    · subst hk
      obtain ⟨c, hc⟩ := h (n, .free) List.mem_cons_self rfl
      have e : cellOf env n = pure c := by
        have hc' : env.cells.lookup n = some c := hc
        unfold cellOf; rw [hc']
      simp only [beq_self_eq_true, if_true, e, pure_bind]
      rw [forIn_closL r _ fun x hx => h x (List.mem_cons_of_mem _ hx)]
      have hc' : env.cells.lookup n = some c := hc
      simp [closL, hc']
    · have hb : (k == NameKind.free) = false := by simpa using hk
      simp only [hb, Bool.false_eq_true, if_false, pure_bind]
      rw [forIn_closL r _ fun x hx => h x (List.mem_cons_of_mem _ hx)]
      simp [closL, hb]
theorem closureFor_eq {scope : Scope} {env : Env} (h : ∀ x ∈ scope.names, x.2 = .free → ∃ c, env.cells.lookup x.1 = some c) : closureFor scope env = pure (clos scope env) := by
  unfold closureFor clos
  have := forIn_closL (env := env) scope.names [] h
  simp only [bind_pure]
  exact this
theorem closL_look {env : Env} {x : Str} {c : Addr} : ∀ (ns : List (Str × NameKind)) (cs : List (Str × Addr)), (∀ y ∈ ns, y.2 = .free → ∃ c, env.cells.lookup y.1 = some c) → (∀ c, cs.lookup x = some c → env.cells.lookup x = some c) →
    (closL env ns cs).lookup x = some c → env.cells.lookup x = some c
  | [], cs, _, hc, e => hc c e
  | (n, k) :: r, cs, h, hc, e => by
    refine closL_look r _ (fun y hy => h y (List.mem_cons_of_mem _ hy)) (fun c' e' => ?_) e
    by_cases hk : k = .free
    · subst hk
      obtain ⟨c₁, h₁⟩ := h (n, .free) List.mem_cons_self rfl
      have h₁' : env.cells.lookup n = some c₁ := h₁
      simp only [beq_self_eq_true, if_true, List.lookup_cons] at e'
      cases hx : x == n with
      | true =>
        rw [hx] at e'
        have hxn : x = n := by simpa using hx
        subst hxn
        rw [h₁'] at e' ⊢
        exact e'
      | false => rw [hx] at e'; exact hc c' e'
    · have hb : (k == NameKind.free) = false := by simpa using hk
      simp only [hb, Bool.false_eq_true, if_false] at e'
      exact hc c' e'
theorem closL_has {env : Env} {x : Str} : ∀ (ns : List (Str × NameKind)) (cs : List (Str × Addr)), ((x, NameKind.free) ∈ ns ∨ ∃ c, cs.lookup x = some c) → ∃ c, (closL env ns cs).lookup x = some c
  | [], cs, h => h.elim (fun z => nomatch z) fun z => z
  | (n, k) :: r, cs, h => by
    refine closL_has r _ ?_
    rcases h with h | ⟨c, h⟩
    · rcases List.mem_cons.mp h with e | h
      · cases e
        right
        simp
      · exact .inl h
    · right
      by_cases hk : k = .free
      · subst hk
        simp only [beq_self_eq_true, if_true, List.lookup_cons]
        cases x == n with
        | true => exact ⟨_, rfl⟩
        | false => exact ⟨c, h⟩
      · have hb : (k == NameKind.free) = false := by simpa using hk
        simp only [hb, Bool.false_eq_true, if_false]
        exact ⟨c, h⟩
theorem relabel_back {env : Env} {x : Str} {k' : NameKind} : ∀ {names : List (Str × NameKind)},
    (names.map fun (n, k) => if (k == NameKind.free && env.scope.kind == .function && env.kindOf n == some .cell) then (n, NameKind.cell) else (n, k)).lookup x = some k' →
    ∃ k, names.lookup x = some k ∧ (x, k) ∈ names ∧ (k' = k ∨ (k = .free ∧ k' = .cell))
  | [], h => by simp at h
  | (n, k) :: r, h => by
    have ih := @relabel_back env x k' r
    have h' : List.lookup x ((if (k == NameKind.free && env.scope.kind == .function && env.kindOf n == some .cell) = true then (n, NameKind.cell) else (n, k)) :: r.map fun (n, k) => if (k == NameKind.free && env.scope.kind == .function && env.kindOf n == some .cell) then (n, NameKind.cell) else (n, k)) = some k' := h
    cases hx : x == n with
    | true =>
      have hxn : x = n := by simpa using hx
      subst hxn
      refine ⟨k, by simp, List.mem_cons_self, ?_⟩
      by_cases hc : (k == NameKind.free && env.scope.kind == .function && env.kindOf x == some .cell) = true
      · rw [if_pos hc] at h'
        simp at h'
        have hk : k = .free := by
          cases k <;> simp at hc ⊢
        exact .inr ⟨hk, h'.symm⟩
      · rw [if_neg hc] at h'
        simp at h'
        exact .inl h'.symm
    | false =>
      have h2 : (r.map fun (n, k) => if (k == NameKind.free && env.scope.kind == .function && env.kindOf n == some .cell) then (n, NameKind.cell) else (n, k)).lookup x = some k' := by
        by_cases hc : (k == NameKind.free && env.scope.kind == .function && env.kindOf n == some .cell) = true
        · rw [if_pos hc] at h'; simp only [List.lookup_cons, hx] at h'; exact h'
        · rw [if_neg hc] at h'; simp only [List.lookup_cons, hx] at h'; exact h'
      obtain ⟨k0, e1, e2, e3⟩ := ih h2
      exact ⟨k0, by simp only [List.lookup_cons, hx]; exact e1, List.mem_cons_of_mem _ e2, e3⟩
def cxC (X : Cx) (scope : Scope) (N : List Str) (C : Addr) (s : Shared) (H : Hp) (ex : List Addr) : Cx :=
  { X with N := N, s₀ := s, H₀ := H, env := compEnvC scope (clos scope X.env) C X.env, outer := X.stack, stack := X.stack, ex := ex, fn := fun _ => false, pn := [], xe := fun _ _ => False }
structure CScope (X : Cx) (scope : Scope) (ls : List Str) (fr : List (Str × Nat)) : Prop where
  kind : scope.kind = .function
  nocell : ∀ y ∈ scope.names, y.2 ≠ .cell
  names : ∀ y ∈ scope.names, y.2 = .local → scope.names.lookup y.1 = some .local
  free : ∀ y ∈ scope.names, y.2 = .free → X.env.kindOf y.1 = some .cell ∨ X.env.kindOf y.1 = some .free
  slots : ∀ p ∈ fr, X.N[p.2]? = some p.1 ∧ scope.names.lookup p.1 = some .free
def startC (ls : List Str) (fr : List (Str × Nat)) (σ : St) : St := ls.map (fun _ => none) ++ fr.map fun p => (σ[p.2]?).join
section
variable {X : Cx} {scope : Scope} {ls : List Str} {fr : List (Str × Nat)}
theorem CScope.cells {pins : List (Addr × Obj)} {σ : St} {H : Hp} {s : Shared} (S : CScope X scope ls fr) (I : Inv X pins σ H s) : ∀ x ∈ scope.names, x.2 = .free → ∃ c, X.env.cells.lookup x.1 = some c :=
  fun x hx hk => I.ok.has x.1 (S.free x hx hk)
theorem CScope.look {pins : List (Addr × Obj)} {σ : St} {H : Hp} {s : Shared} (S : CScope X scope ls fr) (I : Inv X pins σ H s) {x : Str} {c : Addr} (e : (clos scope X.env).lookup x = some c) : X.env.cells.lookup x = some c :=
  closL_look scope.names [] (S.cells I) (fun _ z => by simp at z) e
theorem comp_ok {pins : List (Addr × Obj)} {σ : St} {H : Hp} {s : Shared} {C : Addr} {ex : List Addr} (S : CScope X scope ls fr) (I : Inv X pins σ H s) (hC : s.heap.objs.size ≤ C) (hex : ∀ b ∈ ex, FpOk X pins H b ∧ b < s.heap.objs.size) :
    (cxC X scope (ls ++ fr.map (·.1)) C s H ex).Ok where
  mod := I.ok.mod
  kind := S.kind
  glob := I.ok.glob
  blt := I.ok.blt
  above := hC
  inj := fun x y c e1 e2 => I.ok.inj x y c (S.look I e1) (S.look I e2)
  has := fun x h => by
    have h' : ∃ k', (relabel scope X.env).names.lookup x = some k' ∧ (k' = .cell ∨ k' = .free) := h.elim (fun z => ⟨_, z, .inl rfl⟩) fun z => ⟨_, z, .inr rfl⟩
    obtain ⟨k', e, hk⟩ := h'
    obtain ⟨k, e1, e2, e3⟩ := relabel_back e
    refine closL_has scope.names [] (.inl ?_)
    have hn := S.nocell _ e2
    rcases e3 with rfl | ⟨rfl, _⟩
    · rcases hk with rfl | rfl
      · exact absurd rfl hn
      · exact e2
    · exact e2
  cab := fun x c h => nomatch h
  hd := I.ok.hd
  frames := I.ok.frames
  stk := .inl rfl
  exf := fun b hb => by
    obtain ⟨⟨f0, f1, f2, f3, f4, f5⟩, hl⟩ := hex b hb
    exact ⟨Nat.ne_of_lt (Nat.lt_of_lt_of_le hl hC), fun x c e => f4 x c (S.look I e)⟩
  bs := I.bs
  bsz := Nat.le_trans I.ok.bsz I.sz
  noex := fun b o e hb => by
    obtain ⟨⟨f0, f1, f2, f3, f4, f5⟩, hl⟩ := hex b hb
    rcases f3 with z | z
    · exact I.ok.noex b o e z
    · exact absurd (Nat.lt_of_lt_of_le (Heap.lt_size e) (Nat.le_trans I.ok.bsz z)) (Nat.lt_irrefl _)
  exfs := fun b hb hf => by
    obtain ⟨⟨f0, f1, f2, f3, f4, f5⟩, hl⟩ := hex b hb
    exact (List.mem_cons.mp (I.stkSub b hf)).elim f1 f2
  funs := I.stack
  frf := I.stkFree
theorem comp_inv {pins : List (Addr × Obj)} {σ : St} {H : Hp} {s s' : Shared} {C : Addr} {m : Str → Option Value} {ex : List Addr} (S : CScope X scope ls fr) (I : Inv X pins σ H s) (hC : s.heap.objs.size ≤ C) (hex : ∀ b ∈ ex, FpOk X pins H b ∧ b < s.heap.objs.size)
    (ho : s'.os = s.os) (hg : AllBare s'.gens) (k : ∀ b o, s.heap.get? b = some o → s'.heap.get? b = some o) (hn : s'.heap.Ns C m) : Inv (cxC X scope (ls ++ fr.map (·.1)) C s H ex) [] (startC ls fr σ) H s' where
  ok := comp_ok S I hC hex
  os := ho
  bare := hg
  base := Un.kept k
  loc := by
    refine ⟨m, hn, fun i x v e1 e2 e3 => ?_⟩
    have e2' : (ls.map (fun _ => (none : Option V)) ++ fr.map fun p => (σ[p.2]?).join)[i]? = some (some v) := e2
    have e1' : (ls ++ fr.map (·.1))[i]? = some x := e1
    by_cases hi : i < ls.length
    · rw [List.getElem?_append_left (by simpa using hi), List.getElem?_map] at e2'
      cases q : ls[i]? with
      | none => rw [q] at e2'; cases e2'
      | some y => rw [q] at e2'; cases e2'
    · have hi' : ls.length ≤ i := Nat.le_of_not_lt hi
      rw [List.getElem?_append_right (by simpa using hi'), List.getElem?_map, List.length_map] at e2'
      rw [List.getElem?_append_right hi', List.getElem?_map] at e1'
      cases q : fr[i - ls.length]? with
      | none => rw [q] at e1'; cases e1'
      | some p =>
        rw [q] at e1' e2'
        have ex1 : p.1 = x := Option.some.inj e1'
        have hp : p ∈ fr := List.mem_of_getElem? q
        obtain ⟨hsl, hfree⟩ := S.slots p hp
        subst ex1
        have hv : σ[p.2]? = some (some v) := by
          have z : (σ[p.2]?).join = some v := Option.some.inj e2'
          cases w : σ[p.2]? with
          | none => rw [w] at z; cases z
          | some o => rw [w] at z; exact congrArg some z
        obtain ⟨m0, hn0, hl⟩ := id I.loc
        have vis' : ∃ k', (relabel scope X.env).names.lookup p.1 = some k' ∧ (k' = .local ∨ k' = .cell ∨ k' = .free) := by
          rcases e3 with z | z | z
          · exact ⟨_, z, .inl rfl⟩
          · exact ⟨_, z, .inr (.inl rfl)⟩
          · exact ⟨_, z, .inr (.inr rfl)⟩
        obtain ⟨k', ek, _⟩ := vis'
        obtain ⟨k0, f1, f2, f3⟩ := relabel_back ek
        rw [hfree] at f1
        cases f1
        have hk := S.free _ f2 rfl
        have hk' : k' = .cell ∨ k' = .free := f3.elim .inr fun z => .inl z.2
        have hvis : Vis X.env.scope p.1 := hk.elim (fun z => .inr (.inl z)) fun z => .inr (.inr z)
        obtain ⟨u, ru, lk⟩ := hl p.2 p.1 v hsl hv hvis
        obtain ⟨c', hc'⟩ : ∃ c, (clos scope X.env).lookup p.1 = some c := closL_has scope.names [] (.inl f2)
        refine ⟨u, ru, .inr ⟨hk'.elim (fun z => .inl (z ▸ ek)) fun z => .inr (z ▸ ek), c', hc', ?_⟩⟩
        rcases lk with ⟨z, _⟩ | ⟨_, c, ec, ic⟩
        · rcases hk with y | y <;> (rw [y] at z; cases z)
        · have := S.look I hc'
          rw [ec] at this
          cases this
          exact ic.keeps k
  cell := fun x c e => by
    obtain ⟨v, z⟩ := I.cell x c (S.look I e)
    exact ⟨v, z.keeps k⟩
  free := I.hok.fresh hC
  freeC := fun x c e => I.freeC x c (S.look I e)
  pin := fun p hp => nomatch hp
  hok := I.hok.kept k
  len := by simp [startC, cxC]
def PF (X : Cx) (ifs : List Expr) (t : TT) : Prop :=
  ∀ (pins : List (Addr × Obj)) (s : Shared) (σ : St) (H : Hp) (Q : Bool → Hp → Prop), Inv X pins σ H s → t σ H Q →
    wpAny (model X.prog X.w) X.A (forIn ifs true fun c r => if r = true then do let ok ← isTrue c X.env (eval c X.env); pure (ForInStep.yield ok) else pure (ForInStep.yield r)) (TP X pins σ Q) X.xe s
def tYes : TT := fun _ H Q => Q true H
theorem pf_nil {X : Cx} : PF X [] tYes := fun pins s σ H Q I h => wpAny_tests_nil ⟨H, I, h⟩
theorem pf_one {X : Cx} {c : Expr} {t : TT} (h : PT X c t) : PF X [c] t := fun pins s σ H Q I hw => wpAny_tests_one (h pins s σ H Q I hw)
theorem HOk.add {P : Program} {w : World} {H : Hp} {h : Heap} {a : Addr} {o : HO} (x : HOk P w H h) (hn : H a = none) (new : ObjOk P w (upd H a o) h a o) : HOk P w (upd H a o) h := fun b u e => by
  by_cases hb : b = a
  · subst hb; rw [upd_same] at e; cases e; exact new
  · rw [upd_ne hb] at e
    exact (x b u e).stay (fun _ _ _ q => q) (fun c q => by rw [upd_ne (ne_of_none q hn)]; exact q) fun c xs q => by rw [upd_ne (ne_of_none q hn)]; exact q
theorem Un.add {fs ex : List Addr} {H H' : Hp} {h h' : Heap} {a : Addr} {o : HO} (u : Un fs ex H H' h h') (ha : h.objs.size ≤ a) (hn : H' a = none) : Un fs ex H (upd H' a o) h h' where
  keep := u.keep
  slot := u.slot
  free := fun b ob q n hx => by rw [upd_ne (Nat.ne_of_lt (Nat.lt_of_lt_of_le (Heap.lt_size q) ha))]; exact u.free b ob q n hx
  there := u.there
  tups := fun b xs q => by
    have z := u.tups b xs q
    rw [upd_ne (ne_of_none z hn)]; exact z
  frzs := fun b ob xs q => by
    have z := u.frzs b ob xs q
    rw [upd_ne (ne_of_none z hn)]; exact z
  tbls := fun b ps q => by
    obtain ⟨more, z⟩ := u.tbls b ps q
    exact ⟨more, by rw [upd_ne (ne_of_none z hn)]; exact z⟩
def tCompK (g : TG) (tf : TT) (te : TE) (σ0 : St) (J : It) (H : Hp) (Q : VK) : Prop :=
  ∃ W : Nat → Nat → List V → St → Hp → Prop, (∃ m, W 0 m [] σ0 H) ∧ ∀ i m ys σ H, W i m ys σ H →
    (J.stop i H ∧ ys.length ≤ sizeLine ∧ ∀ p, H p = none → Q (.ref p) (upd H p (.lst ys))) ∨
    (J.go i H ∧ ys.length ≤ sizeLine ∧ ∃ N : List V → St → Hp → Prop, (∀ ys σ' H', N ys σ' H' → ∃ m', m' < m ∧ W (i + 1) m' ys σ' H') ∧ ∀ x H1, J.yld i H x H1 → g x σ H1 fun σ2 H2 => tf σ2 H2 fun b H3 => if b = true then te σ2 H3 fun v H4 => N (ys ++ [v]) σ2 H4 else N ys σ2 H3)
def tComp (wi : TI) (ls : List Str) (fr : List (Str × Nat)) (g : TG) (tf : TT) (te : TE) : TE := fun σ H Q => wi σ H fun J H1 => tCompK g tf te (startC ls fr σ) J H1 Q
theorem comp_block {pins : List (Addr × Obj)} {σ : St} {H : Hp} {s : Shared} {it : Addr} {fp : List Addr} {tn : Nat → Heap → Prop} {J : It} {tg elt iter : Expr} {ifs : List Expr} {pos : Pos} {g : TG} {tf : TT} {te : TE} {Q : VK} {E : Value → Shared → Prop} {RR : Value → Addr → Result → Shared → Prop}
    (S : CScope X scope ls fr) (hc : X.calm = true) (I : Inv X pins σ H s) (T : Turn X.prog X.w X.K tg J fp it tn) (st : tn 0 s.heap) (hf : ∀ b ∈ fp, FpOk X pins H b) (hq : tCompK g tf te (startC ls fr σ) J H Q)
    (hg : ∀ C s H ex, PG (cxC X scope (ls ++ fr.map (·.1)) C s H ex) tg g) (ht : ∀ C s H ex, PF (cxC X scope (ls ++ fr.map (·.1)) C s H ex) ifs tf) (he : ∀ C s H ex, PE (cxC X scope (ls ++ fr.map (·.1)) C s H ex) elt te)
    (hRR : ∀ (D C : Addr) (s' : Shared) (H' : Hp) (m : Str → Option Value), Inv X pins σ H' s' → s'.heap.Ns C m → s.heap.objs.size ≤ C → H' C = none → Q (.ref D) H' → RR (.ref D) C (.ok .next) s') :
    wpAny (model X.prog X.w) X.A (newList []) (fun acc s₃ => wpAny (model X.prog X.w) X.A (newFunctionEnv scope X.env.globals (clos scope X.env) [] X.env.qual none .none (some X.env)) (fun cenv s₄ =>
      codeAny (model X.prog X.w) X.A (.compStart (.ListComp elt [⟨tg, iter, ifs, 0⟩] scope pos) 0 (.ref it) acc { cenv with scope := relabel scope X.env }) (RR acc cenv.locals) s₄) E s₃) E s := by
  refine wpAny_newObj_type (wpAny_newFunctionEnv S.nocell (by intro y hy; simp at hy) (fun h₁ hns₁ hsb₁ => ?_) S.kind)
  dsimp only at hns₁ hsb₁ ⊢
  generalize hH2 : s.heap.push { cls := .type "list", dict := none, data := .seq ([] : List Value).toArray } = H2 at hns₁ hsb₁ ⊢
  have hC : H2.objs.size = s.heap.objs.size + 1 := by rw [← hH2, Heap.size_push]
  have hDC : s.heap.objs.size ≠ H2.objs.size := by rw [hC]; exact Nat.ne_of_lt (Nat.lt_succ_self _)
  have hCle : s.heap.objs.size ≤ H2.objs.size := by rw [hC]; exact Nat.le_succ _
  have below : ∀ b, b < s.heap.objs.size → b ≠ H2.objs.size ∧ b ≠ s.heap.objs.size := fun b hb => ⟨by rw [hC]; exact Nat.ne_of_lt (Nat.lt_succ_of_lt hb), Nat.ne_of_lt hb⟩
  have old : ∀ b o, s.heap.get? b = some o → h₁.get? b = some o := fun b o e => hsb₁.extBut b o (below b (Heap.lt_size e)).1 (Heap.get?_push_of_some _ (hH2 ▸ Heap.get?_push_of_some _ e))
  have hacc : h₁.PlainList s.heap.objs.size #[] := ⟨_, hsb₁.extBut _ _ hDC (Heap.get?_push_of_some _ (hH2 ▸ Heap.get?_push_size _ rfl))⟩
  have hfl : ∀ b ∈ fp, b < s.heap.objs.size := fun b hb => by
    obtain ⟨o, e, _⟩ := T.obj _ _ st b hb
    exact Heap.lt_size e
  have hex : ∀ b ∈ fp, FpOk X pins H b ∧ b < s.heap.objs.size := fun b hb => ⟨hf b hb, hfl b hb⟩
  generalize hs4 : ({ s with heap := h₁, toks := s.toks + ([] : List (Str × Value)).length } : Shared) = s4
  generalize hX : cxC X scope (ls ++ fr.map (·.1)) H2.objs.size s H fp = Y
  have I4 : Inv Y [] (startC ls fr σ) H s4 := by
    rw [← hX, ← hs4]
    exact comp_inv S I hCle hex rfl I.bare old hns₁
  have YP : Y.prog = X.prog := by rw [← hX]; rfl
  have Yw : Y.w = X.w := by rw [← hX]; rfl
  have YK : Y.K = X.K := by rw [← hX]; rfl
  have YA : Y.A = X.A := by rw [← hX]; rfl
  have Yc : Y.calm = true := by rw [← hX]; exact hc
  have Yx : Y.xe = fun _ _ => False := by rw [← hX]; rfl
  have Yl : Y.env.locals = H2.objs.size := by rw [← hX]; rfl
  have Yok : (cxC X scope (ls ++ fr.map (·.1)) H2.objs.size s H fp).Ok := comp_ok S I hCle hex
  have fpY : ∀ {H' : Hp} {o : Obj}, (∀ b ∈ fp, H' b = none) → ∀ b ∈ fp, FpOk Y [(s.heap.objs.size, o)] H' b := fun {H' o} hn b hb => by
    rw [← hX]
    obtain ⟨f0, f1, f2, f3, f4, f5⟩ := hf b hb
    refine ⟨hn b hb, (below b (hfl b hb)).1, fun z => Yok.exfs b hb z, .inl hb, fun x c e => f4 x c (S.look I e), fun p hp => ?_⟩
    have e : p = (s.heap.objs.size, o) := by simpa [cxC] using hp
    subst e
    exact Ne.symm (below b (hfl b hb)).2
  have pinD : ∀ {σ' : St} {H' : Hp} {s' : Shared} {its : Array Value} {n : Nat}, Inv Y [] σ' H' s' → H' s.heap.objs.size = none → s'.heap.get? s.heap.objs.size = some { cls := .type "list", data := .seq its n } →
      Inv Y [(s.heap.objs.size, { cls := .type "list", data := .seq its n })] σ' H' s' := fun {σ' H' s' its n} I' hn e => I'.pins_of fun p hp => by
    have ep : p = (s.heap.objs.size, { cls := .type "list", data := .seq its n }) := by simpa using hp
    subst ep
    refine ⟨e, hn, by rw [Yl]; exact hDC, ?_, fun v z => nomatch z⟩
    rw [← hX]
    exact fun hb => I.nofs (Nat.le_refl _) ((List.mem_cons.mp (I.stkSub _ hb)).resolve_left fun z => absurd I.lt (by rw [← z]; exact Nat.lt_irrefl _))
  obtain ⟨W, ⟨m0, w0⟩, turn⟩ := hq
  have E1 : ∀ {α : Type} {t : Sem α} {Q1 : α → Shared → Prop} {s1 : Shared} {E1 : Value → Shared → Prop}, wpAny (model X.prog X.w) X.A t Q1 Y.xe s1 → wpAny (model X.prog X.w) X.A t Q1 E1 s1 := fun h => wpAny_mono h (fun _ _ z => z) fun _ _ z => by rw [Yx] at z; exact z.elim
  have endC : ∀ {σ' : St} {H' : Hp} {s' : Shared} {its : List Value} {ys : List V}, Inv Y [] σ' H' s' → H' s.heap.objs.size = none → s'.heap.PlainList s.heap.objs.size its.toArray → Vals ys its → ys.length ≤ sizeLine →
      (∀ p, H' p = none → Q (.ref p) (upd H' p (.lst ys))) → RR (.ref s.heap.objs.size) H2.objs.size (.ok .next) s' := fun {σ' H' s' its ys} I' hn ⟨n, e⟩ rv hz q => by
    subst hX
    obtain ⟨m, hm, _⟩ := id I'.loc
    have hCn : H' H2.objs.size = none := I'.free
    refine hRR _ _ s' (upd H' s.heap.objs.size (.lst ys)) m (I.call' I'.os (Un.add I'.base (Nat.le_refl _) hn) (I'.hok.add hn ⟨hz, its, n, rv, e⟩) I'.bare fun b hb => ?_) hm hCle (by rw [upd_ne (Ne.symm hDC)]; exact hCn) (q _ hn)
    obtain ⟨f0, f1, f2, f3, f4, f5⟩ := hf b hb
    exact ⟨f3, f1, f4, f5⟩
  have loop : codeAny (model X.prog X.w) X.A (.compLoop (.ListComp elt [⟨tg, iter, ifs, 0⟩] scope pos) 0 (.ref it) (.ref s.heap.objs.size) Y.env) (RR (.ref s.heap.objs.size) H2.objs.size) s4 := by
    refine comp_loop_any (fun n s' => ∃ (i : Nat) (σ' : St) (H' : Hp) (ys : List V) (its : List Value), Inv Y [] σ' H' s' ∧ tn i s'.heap ∧ (∀ b ∈ fp, H' b = none) ∧ H' s.heap.objs.size = none ∧ s'.heap.PlainList s.heap.objs.size its.toArray ∧ Vals ys its ∧ W i n ys σ' H') ?_ m0
      ⟨0, startC ls fr σ, H, [], [], I4, T.keep _ _ _ st fun b _ o e => by rw [← hs4]; exact old b o e, fun b hb => (hf b hb).1, I.hok.fresh (Nat.le_refl _), by rw [← hs4]; exact hacc, .nil, w0⟩
    rintro n s5 ⟨i, σ5, H5, ys, its, I5, st5, fr5, hn5, ⟨nn, e5⟩, rv, w5⟩
    have I5p := pinD I5 hn5 e5
    rcases turn i n ys σ5 H5 w5 with ⟨stop, hz, qn⟩ | ⟨go, hz, NN, hNN, step⟩
    · rw [← YA]
      refine thn (T.done Y YP Yw YK Yc i _ s5 σ5 H5 _ I5p (fpY fr5) st5 stop) fun r s6 ⟨hr, I6⟩ => ?_
      subst hr
      exact endC (I6.pins_of fun p hp => nomatch hp) hn5 ⟨nn, (I6.pin _ (List.mem_append_right _ List.mem_cons_self)).1⟩ rv hz qn
    · have hit := T.item Y YP Yw YK Yc i _ s5 σ5 H5 (notedBy (model X.prog X.w) X.A Y.env fun e s' => RR (Value.ref s.heap.objs.size) H2.objs.size (Except.error e) s') I5p (fpY fr5) st5 go
      rw [YA] at hit
      refine thn hit fun r s6 ⟨u, hr, h6⟩ => ?_
      subst hr
      refine thn h6 fun _ s7 ⟨x, H7, I7, r7, y7, st7, fr7⟩ => ?_
      have I7' := I7.pinned (fpY fr7) (T.obj _ _ st7)
      have h8 := hg H2.objs.size s H fp
      have h9 := ht H2.objs.size s H fp
      have h10 := he H2.objs.size s H fp
      rw [hX] at h8 h9 h10
      have a8 := h8 _ s7 σ5 H7 x u _ I7' r7 (step x H7 y7)
      rw [YP, Yw, YA] at a8
      refine thn (E1 a8) fun _ s8 ⟨σ8, H8, I8, q8⟩ => ?_
      have a9 := h9 _ s8 σ8 H8 _ I8 q8
      rw [YP, Yw, YA] at a9
      refine thn (E1 a9) fun b s9 ⟨H9, I9, q9⟩ => ?_
      have back : ∀ {σ' : St} {H' : Hp} {s' : Shared}, Inv Y ([(s.heap.objs.size, { cls := .type "list", data := .seq its.toArray nn })] ++ pinsAt fp s7.heap) σ' H' s' →
          tn (i + 1) s'.heap ∧ (∀ b ∈ fp, H' b = none) ∧ H' s.heap.objs.size = none ∧ s'.heap.PlainList s.heap.objs.size its.toArray := fun {σ' H' s'} I' => by
        have hp := I'.pin (s.heap.objs.size, { cls := .type "list", data := .seq its.toArray nn }) (List.mem_append_right _ (List.mem_append_left _ List.mem_cons_self))
        refine ⟨T.keep _ _ _ st7 fun b hb o e => (I'.pin (b, o) (List.mem_append_right _ (List.mem_append_right _ (mem_pinsAt hb e)))).1, fun b hb => ?_, hp.2.1, ⟨nn, hp.1⟩⟩
        obtain ⟨o, e, d⟩ := T.obj _ _ st7 b hb
        exact (I'.pin (b, o) (List.mem_append_right _ (List.mem_append_right _ (mem_pinsAt hb e)))).2.1
      cases b with
      | false =>
        rw [if_neg Bool.false_ne_true] at q9 ⊢
        obtain ⟨m', hm, w9⟩ := hNN _ _ _ q9
        obtain ⟨z1, z2, z3, z4⟩ := back I9
        exact ⟨m', hm, i + 1, σ8, H9, ys, its, I9.pins_of (fun p hp => nomatch hp), z1, z2, z3, z4, rv, w9⟩
      | true =>
        rw [if_pos rfl] at q9 ⊢
        have a10 := h10 _ s9 σ8 H9 _ I9 q9
        rw [YP, Yw, YA] at a10
        refine thn (E1 a10) fun xv s10 ⟨v, H10, I10, rx, q10⟩ => ?_
        obtain ⟨m', hm, w10⟩ := hNN _ _ _ q10
        obtain ⟨z1, z2, z3, z4⟩ := back I10
        have hlen : its.length = ys.length := (rv.length).symm
        refine wpAny_list_append_plain z4 (fun h' pl sb => ?_) (by rw [List.size_toArray, hlen]; exact hz)
        refine ⟨m', hm, i + 1, σ8, H10, ys ++ [v], its ++ [xv], ?_, ?_, z2, z3, ?_, rv.append (.cons rx .nil), w10⟩
        · have I10' : Inv Y [] σ8 H10 s10 := I10.pins_of fun p hp => nomatch hp
          refine I10'.turned (t' := s10.toks) (it := s.heap.objs.size) (fun b o hb e => (sb.2 b hb).trans e) z3 (by rw [Yl]; exact hDC) (.inr ?_) (fun x c e => ?_) fun p hp => ?_
          · rw [← hX]; exact Nat.le_refl _
          · rw [← hX] at e
            intro z
            obtain ⟨v0, q0⟩ := I.cell x c (S.look I e)
            exact absurd q0.lt (by rw [z]; exact Nat.lt_irrefl _)
          · rw [← hX] at hp; exact nomatch hp
        · refine T.keep _ _ _ z1 fun b hb o e => (sb.2 b (below b (hfl b hb)).2).trans e
        · have : (its ++ [xv]).toArray = its.toArray.push xv := by simp
          rw [this]; exact pl
  have hYe : Y.env = { newEnv scope H2.objs.size X.env.globals (clos scope X.env) X.env.qual none .none (some X.env) builtinsNs with scope := relabel scope X.env } := by rw [← hX]; rfl
  rw [← hYe]
  rw [hYe] at loop ⊢
  refine codeAny_compStart_list loop ?_
  exact T.self _ 0 _ _ _ (T.keep _ _ _ st fun b _ o e => by rw [← hs4]; exact old b o e) loop
theorem pe_comp {wi : TI} {tg elt iter : Expr} {ifs : List Expr} {pos : Pos} {g : TG} {tf : TT} {te : TE} (S : CScope X scope ls fr) (hc : X.calm = true) (hi : PI X tg iter wi)
    (hg : ∀ C s H ex, PG (cxC X scope (ls ++ fr.map (·.1)) C s H ex) tg g) (ht : ∀ C s H ex, PF (cxC X scope (ls ++ fr.map (·.1)) C s H ex) ifs tf) (he : ∀ C s H ex, PE (cxC X scope (ls ++ fr.map (·.1)) C s H ex) elt te)
    (hs : ∀ x, foldedSetIterable iter X.env x = pure x := by intro _; rfl) : PE X (.ListComp elt [⟨tg, iter, ifs, 0⟩] scope pos) (tComp wi ls fr g tf te) := by
  intro pins s σ H Q I h
  rw [eval_ListComp]
  refine wpAny_comprehension_free (use := none) rfl hs (closureFor_eq (S.cells I)) S.kind S.names (thn (hi pins s σ H _ I h) fun xv s₁ h₁ => thn h₁ fun itv s₂ h₂ => ?_)
  obtain ⟨it, fp, tn, J, H2, rfl, I2, T, st, hf, q⟩ := h₂
  refine comp_block (RR := fun acc C => compPost (model X.prog X.w) X.A X.xe none (EP X pins σ Q) acc C) S hc I2 T st hf q hg ht he ?_
  intro D C s' H' m I' hn hC hCn hq
  refine ⟨m, hn, fun h' sb => ?_⟩
  have nC : ∀ {b : Addr}, b < s₂.heap.objs.size → b ≠ C := fun hb => Nat.ne_of_lt (Nat.lt_of_lt_of_le hb hC)
  refine ⟨.ref D, H', I'.turned (t' := s'.toks) (it := C) (fun b o hb e => (sb.2 b hb).trans e) hCn (Ne.symm (nC I2.lt)) (.inr (Nat.le_trans I2.sz hC)) (fun x c e => ?_) fun p hp => ?_, rfl, hq⟩
  · obtain ⟨v0, q0⟩ := I2.cell x c e
    exact nC q0.lt
  · exact nC (Heap.lt_size (I2.pin p hp).1)
theorem ps_comp {wi : TI} {tg elt iter : Expr} {ifs : List Expr} {pos spos py : Pos} {y : Str} {i : Nat} {g : TG} {tf : TT} {te : TE} (S : CScope X scope ls fr) (hc : X.calm = true) (hi : PI X tg iter wi)
    (hg : ∀ C s H ex, PG (cxC X scope (ls ++ fr.map (·.1)) C s H ex) tg g) (ht : ∀ C s H ex, PF (cxC X scope (ls ++ fr.map (·.1)) C s H ex) ifs tf) (he : ∀ C s H ex, PE (cxC X scope (ls ++ fr.map (·.1)) C s H ex) elt te)
    (hN : X.N.Nodup) (hy : X.N[i]? = some y) (hl : X.env.scope.names.lookup y = some .local) (hsw : swapsWith (.ListComp elt [⟨tg, iter, ifs, 0⟩] scope pos) (some (.Name y py)) spos.line X.env = pure true)
    (hs : ∀ x, foldedSetIterable iter X.env x = pure x := by intro _; rfl) : PS X (.Assign [.Name y py] (.ListComp elt [⟨tg, iter, ifs, 0⟩] scope pos) spos) (tAsg (tComp wi ls fr g tf te) (gName i)) := by
  intro pins s σ H D I h
  rw [exec_Assign_Name_used _ _ _ _ hsw]
  refine wpAny_bind (wpAny_standAt (wpAny_bind ?_))
  show wpAny _ X.A (do let _ ← comprehension (.ListComp elt [⟨tg, iter, ifs, 0⟩] scope pos) scope X.env _ (newList []) false (eval iter X.env) (some (assign (.Name y py) X.env))) _ _ s
  refine wpAny_bind (wpAny_mono (wpAny_comprehension_free (use := some (assign (.Name y py) X.env)) (Q := fun _ s' => SP X pins D .next s') rfl hs (closureFor_eq (S.cells I)) S.kind S.names
    (thn (hi pins s σ H _ I h) fun xv s₁ h₁ => thn h₁ fun itv s₂ h₂ => ?_)) (fun _ s' hq => wpAny_pure (wpAny_pure hq)) fun _ _ e => e)
  obtain ⟨it, fp, tn, J, H2, rfl, I2, T, st, hf, q⟩ := h₂
  refine comp_block (RR := fun acc C => compPost (model X.prog X.w) X.A X.xe (some (assign (.Name y py) X.env)) (fun _ s' => SP X pins D .next s') acc C) S hc I2 T st hf q hg ht he ?_
  intro D1 C s' H' m I' hn hC hCn hq
  have nC : ∀ {b : Addr}, b < s₂.heap.objs.size → b ≠ C := fun hb => Nat.ne_of_lt (Nat.lt_of_lt_of_le hb hC)
  have cC : ∀ x c, X.env.cells.lookup x = some c → c ≠ C := fun x c e => by
    obtain ⟨v0, q0⟩ := I2.cell x c e
    exact nC q0.lt
  show wpAny _ X.A (assign (.Name y py) X.env (.ref D1)) _ _ _
  refine wpAny_assign_Name (store_ok2 I' hN hy (.inl hl) (v := .ref D1) rfl (fun s3 I3 hsb => ?_) (.inr hl))
  obtain ⟨a, sb1, ha⟩ := hsb
  have haC : C ≠ a := by
    rcases ha with rfl | e
    · exact Ne.symm (nC I2.lt)
    · exact Ne.symm (cC _ _ e)
  refine ⟨m, hn.sameBut sb1 haC, fun h' sb => ⟨_, H', I3.turned (t' := s3.toks) (it := C) (fun b o hb e => (sb.2 b hb).trans e) hCn (Ne.symm (nC I2.lt)) (.inr (Nat.le_trans I2.sz hC)) cC fun p hp => nC (Heap.lt_size (I2.pin p hp).1), hq⟩⟩
end
theorem comp_list {K : PySem.W.Frag} {a : Addr} {xs : List V} {g : TG} {tf : TT} {te : TE} {σ : St} {H : Hp} {Q : VK} (Pv : Nat → List V → St → Hp → Prop) (h0 : Pv 0 [] σ H) (hl : ∀ i ys σ H, i ≤ xs.length → Pv i ys σ H → SqL K H a xs ∧ ys.length ≤ sizeLine)
    (hs : ∀ i x ys σ H, xs[i]? = some x → Pv i ys σ H → g x σ H fun σ2 H2 => tf σ2 H2 fun b H3 => if b = true then te σ2 H3 fun v H4 => Pv (i + 1) (ys ++ [v]) σ2 H4 else Pv (i + 1) ys σ2 H3)
    (hd : ∀ ys σ H, Pv xs.length ys σ H → ∀ p, H p = none → Q (.ref p) (upd H p (.lst ys))) : tCompK g tf te σ (Itl K a) H Q := by
  refine ⟨fun i m ys σ H => m = xs.length - i ∧ i ≤ xs.length ∧ Pv i ys σ H, ⟨xs.length, by simp, Nat.zero_le _, h0⟩, ?_⟩
  rintro i m ys σ H ⟨rfl, hi, p⟩
  obtain ⟨q, hz⟩ := hl i ys σ H hi p
  by_cases hlt : i < xs.length
  · refine .inr ⟨⟨xs, xs[i], q, by simp [hlt]⟩, hz, Pv (i + 1), fun ys' σ' H' p' => ⟨xs.length - (i + 1), by omega, rfl, hlt, p'⟩, fun x H' y => ?_⟩
    obtain ⟨e, y⟩ := y
    subst e
    exact hs i x ys σ _ (y xs q) p
  · have e : i = xs.length := by omega
    subst e
    exact .inl ⟨⟨xs, q, Nat.le_refl _⟩, hz, hd ys σ H p⟩
theorem comp_tup {K : PySem.W.Frag} {a : Addr} {xs : List V} {g : TG} {tf : TT} {te : TE} {σ : St} {H : Hp} {Q : VK} (Pv : Nat → List V → St → Hp → Prop) (h0 : Pv 0 [] σ H) (hl : ∀ i ys σ H, i ≤ xs.length → Pv i ys σ H → SqT K H a xs ∧ ys.length ≤ sizeLine)
    (hs : ∀ i x ys σ H, xs[i]? = some x → Pv i ys σ H → g x σ H fun σ2 H2 => tf σ2 H2 fun b H3 => if b = true then te σ2 H3 fun v H4 => Pv (i + 1) (ys ++ [v]) σ2 H4 else Pv (i + 1) ys σ2 H3)
    (hd : ∀ ys σ H, Pv xs.length ys σ H → ∀ p, H p = none → Q (.ref p) (upd H p (.lst ys))) : tCompK g tf te σ (Itt K a) H Q := by
  refine ⟨fun i m ys σ H => m = xs.length - i ∧ i ≤ xs.length ∧ Pv i ys σ H, ⟨xs.length, by simp, Nat.zero_le _, h0⟩, ?_⟩
  rintro i m ys σ H ⟨rfl, hi, p⟩
  obtain ⟨q, hz⟩ := hl i ys σ H hi p
  by_cases hlt : i < xs.length
  · refine .inr ⟨⟨xs, xs[i], q, by simp [hlt]⟩, hz, Pv (i + 1), fun ys' σ' H' p' => ⟨xs.length - (i + 1), by omega, rfl, hlt, p'⟩, fun x H' y => ?_⟩
    obtain ⟨e, y⟩ := y
    subst e
    exact hs i x ys σ _ (y xs q) p
  · have e : i = xs.length := by omega
    subst e
    exact .inl ⟨⟨xs, q, Nat.le_refl _⟩, hz, hd ys σ H p⟩
theorem comp_range {lo : Int} {n : Nat} {g : TG} {tf : TT} {te : TE} {σ : St} {H : Hp} {Q : VK} (Pv : Nat → List V → St → Hp → Prop) (h0 : Pv 0 [] σ H) (hl : ∀ i ys σ H, i ≤ n → Pv i ys σ H → ys.length ≤ sizeLine)
    (hs : ∀ i ys σ H, i < n → Pv i ys σ H → g (.int (lo + i)) σ H fun σ2 H2 => tf σ2 H2 fun b H3 => if b = true then te σ2 H3 fun v H4 => Pv (i + 1) (ys ++ [v]) σ2 H4 else Pv (i + 1) ys σ2 H3)
    (hd : ∀ ys σ H, Pv n ys σ H → ∀ p, H p = none → Q (.ref p) (upd H p (.lst ys))) : tCompK g tf te σ (Itr lo n) H Q := by
  refine ⟨fun i m ys σ H => m = n - i ∧ i ≤ n ∧ Pv i ys σ H, ⟨n, by simp, Nat.zero_le _, h0⟩, ?_⟩
  rintro i m ys σ H ⟨rfl, hi, p⟩
  have hz := hl i ys σ H hi p
  by_cases hlt : i < n
  · refine .inr ⟨hlt, hz, Pv (i + 1), fun ys' σ' H' p' => ⟨n - (i + 1), by omega, rfl, hlt, p'⟩, fun x H' y => ?_⟩
    obtain ⟨e, y⟩ := y
    subst e y
    exact hs i ys σ _ hlt p
  · have e : i = n := by omega
    subst e
    exact .inl ⟨Nat.le_refl _, hz, hd ys σ H p⟩
def cscopeB (sc : Scope) (N : List Str) (scope : Scope) (fr : List (Str × Nat)) : Bool :=
  (scope.kind == .function) && scope.names.all (fun y => y.2 != .cell) && scope.names.all (fun y => y.2 != .local || scope.names.lookup y.1 == some .local) &&
  scope.names.all (fun y => y.2 != .free || sc.names.lookup y.1 == some .cell || sc.names.lookup y.1 == some .free) && fr.all (fun p => N[p.2]? == some p.1 && scope.names.lookup p.1 == some .free)
theorem cs_of {X : Cx} {scope : Scope} {ls : List Str} {fr : List (Str × Nat)} (sc : Scope) (N : List Str) (h1 : X.env.scope = sc) (h2 : X.N = N) (h : cscopeB sc N scope fr = true) : CScope X scope ls fr := by
  subst h1 h2
  simp only [cscopeB, Bool.and_eq_true, List.all_eq_true, Bool.or_eq_true, bne_iff_ne, beq_iff_eq, ne_eq] at h
  obtain ⟨⟨⟨⟨a, b⟩, c⟩, d⟩, e⟩ := h
  refine ⟨a, b, fun y hy hk => (c y hy).resolve_left fun z => z hk, fun y hy hk => ?_, e⟩
  rcases d y hy with (z | z) | z
  · exact absurd hk z
  · exact .inl z
  · exact .inr z
theorem pgc {X : Cx} {scope : Scope} {ls : List Str} {fr : List (Str × Nat)} {C : Addr} {s : Shared} {H : Hp} {ex : List Addr} {x : Str} {pos : Pos} (i : Nat) (hN : (ls ++ fr.map (·.1)).Nodup) (hi : (ls ++ fr.map (·.1))[i]? = some x) (hx : scope.names.lookup x = some .local) :
    PG (cxC X scope (ls ++ fr.map (·.1)) C s H ex) (.Name x pos) (gName i) :=
  pg_name hN hi (.inl (lookup_relabel_local hx)) (.inr (lookup_relabel_local hx))
def relN (scope sc : Scope) : List (Str × NameKind) := scope.names.map fun (n, k) => if (k == .free && sc.kind == .function && sc.names.lookup n == some .cell) then (n, .cell) else (n, k)
def visB (scope sc : Scope) (x : Str) : Bool := match (relN scope sc).lookup x with | some .local => true | some .cell => true | some .free => true | _ => false
theorem pvc (sc : Scope) (i : Nat) {X : Cx} {scope : Scope} {N : List Str} {C : Addr} {s : Shared} {H : Hp} {ex : List Addr} {x : Str} {pos : Pos} (hN : N[i]? = some x := by rfl) (hs : X.env.scope = sc := by rfl) (hv : visB scope sc x = true := by decide +kernel)
    (hd : (x == ("__debug__" : Str)) = false := by decide +kernel) (hcd : (x == ("__classdict__" : Str)) = false := by decide +kernel) : PE (cxC X scope N C s H ex) (.Name x pos) (tVar i) := by
  subst hs
  refine pe_var hN ?_ hd hcd
  have hv' : visB scope X.env.scope x = true := hv
  unfold visB at hv'
  show (relN scope X.env.scope).lookup x = some .local ∨ (relN scope X.env.scope).lookup x = some .cell ∨ (relN scope X.env.scope).lookup x = some .free
  split at hv'
  · rename_i e; exact .inl e
  · rename_i e; exact .inr (.inl e)
  · rename_i e; exact .inr (.inr e)
  · cases hv'
theorem glc (sc : Scope) {X : Cx} {scope : Scope} {N : List Str} {C : Addr} {s : Shared} {H : Hp} {ex : List Addr} {x : Str} (hs : X.env.scope = sc := by rfl) (h : ((relN scope sc).lookup x == some .globalImplicit) = true := by decide +kernel) : Gl (cxC X scope N C s H ex) x := by
  subst hs
  exact eq_of_beq h
end L2
set_option Elab.async false
set_option linter.all false
set_option maxRecDepth 100000
namespace L2
open PySem PySem.Spec PyProof.Rows
def insD (x : Int) : List Int → List Int
  | [] => [x]
  | y :: r => if y ≤ x then x :: y :: r else y :: insD x r
def sortD : List Int → List Int
  | [] => []
  | x :: r => insD x (sortD r)
theorem insD_perm (x : Int) : ∀ l : List Int, (insD x l).Perm (x :: l)
  | [] => .refl _
  | y :: r => by
    unfold insD
    split
    · exact .refl _
    · exact ((insD_perm x r).cons y).trans (.swap x y r)
theorem sortD_perm : ∀ l : List Int, (sortD l).Perm l
  | [] => .refl _
  | x :: r => (insD_perm x _).trans ((sortD_perm r).cons x)
theorem insD_pw (x : Int) : ∀ {l : List Int}, l.Pairwise (· ≥ ·) → (insD x l).Pairwise (· ≥ ·)
  | [], _ => by simp [insD]
  | y :: r, h => by
    obtain ⟨h1, h2⟩ := List.pairwise_cons.mp h
    unfold insD
    split
    · rename_i hy
      refine List.pairwise_cons.mpr ⟨fun z hz => ?_, h⟩
      rcases List.mem_cons.mp hz with rfl | hz
      · exact hy
      · exact Int.le_trans (h1 z hz) hy
    · rename_i hy
      refine List.pairwise_cons.mpr ⟨fun z hz => ?_, insD_pw x h2⟩
      rcases List.mem_cons.mp ((insD_perm x r).mem_iff.mp hz) with rfl | hz
      · show z ≤ y
        omega
      · exact h1 z hz
theorem sortD_pw : ∀ l : List Int, (sortD l).Pairwise (· ≥ ·)
  | [] => .nil
  | x :: r => insD_pw x (sortD_pw r)
theorem perm_ge_eq {a b : List Int} (ha : a.Pairwise (· ≥ ·)) (hb : b.Pairwise (· ≥ ·)) (p : a.Perm b) : a = b :=
  p.eq_of_pairwise (le := fun x y => x ≥ y) (fun x y _ _ h1 h2 => Int.le_antisymm h2 h1) ha hb
theorem sortD_eq {a l : List Int} (p : a.Perm l) (h : a.Pairwise (· ≥ ·)) : a = sortD l := perm_ge_eq h (sortD_pw l) (p.trans (sortD_perm l).symm)
section
variable {prog : Program} {w : World} {A : Around} {E : Value → Shared → Prop} {s : Shared}
end
section
variable {X : Cx}
theorem small64 {n : Nat} (h : n < 64) : n ≤ sizeLine := Nat.le_trans (Nat.le_of_lt h) (by decide)
theorem preSum_list (ns : List Int) : ∀ j, preSum (fun i => ns.getD i 0) j = (ns.take j).sum
  | 0 => by simp [preSum]
  | j + 1 => by
    rw [preSum, preSum_list ns j]
    by_cases h : j < ns.length
    · rw [List.take_succ_eq_append_getElem h, List.sum_append, List.sum_cons, List.sum_nil]
      have e : ns.getD j 0 = ns[j] := by simp [h]
      rw [e]
      omega
    · rw [List.take_of_length_le (by omega), List.take_of_length_le (by omega)]
      have : ns[j]? = none := List.getElem?_eq_none (by omega)
      simp [List.getD, this]
theorem vals_int_at {ns : List Int} {its : List Value} (r : Vals (ns.map V.int) its) (i : Nat) (v : Value) (e : its.toArray[i]? = some v) : ∃ t, v = .int (ns.getD i 0) t := by
  have e' : its[i]? = some v := by simpa using e
  have hi : i < its.length := (List.getElem?_eq_some_iff.mp e').1
  have hl := r.length
  rw [List.length_map] at hl
  have hx : (ns.map V.int)[i]? = some (V.int (ns.getD i 0)) := by
    have hi' : i < ns.length := by omega
    simp [hi']
  obtain ⟨u, hu, t, rfl⟩ := r.get hx
  rw [e'] at hu
  cases hu
  exact ⟨t, rfl⟩
theorem call_sum_ints (hc : X.calm = true) : CallR X (.builtin "sum") (fun xs H Q => ∃ (a : Addr) (ns : List Int), xs = [.ref a] ∧ (SqL X.K H a (ns.map V.int) ∨ SqT X.K H a (ns.map V.int)) ∧ Q (.int ns.sum) H) := by
  intro pins s σ H xs us Q I r h
  obtain ⟨a, ns, rfl, hq, q⟩ := h
  obtain ⟨u, rfl, ru⟩ := vals1 r
  cases ru
  have hh : X.A.in1.handled = none := I.ok.hd hc
  have fin : ∀ {its : List Value} (h' : Heap) (tk : Nat) (t' : Tok), Vals (ns.map V.int) its → (∀ b o, s.heap.get? b = some o → h'.get? b = some o) → EP X pins σ Q (.int (preSum (fun i => ns.getD i 0) its.toArray.size) t') { s with heap := h', toks := tk } := fun {its} h' tk t' r' hk => by
    have hl := r'.length
    rw [List.length_map] at hl
    refine ⟨.int ns.sum, H, I.kept hk, ⟨t', ?_⟩, q⟩
    rw [preSum_list, List.size_toArray, ← hl, List.take_length]
  rcases hq with hq | hq
  · obtain ⟨its, r', pl, hz⟩ := I.list hq
    have hlt : a < s.heap.objs.size := by obtain ⟨_, e, _⟩ := pl.isList; exact Heap.lt_size e
    refine call_sum_walkG (wpAny_pyIter_list pl.isList ⟨_, _, _, _, _, _, fun i => ns.getD i 0, rfl, Walks.list (A := X.A.in1) hh _ a (Nat.ne_of_lt hlt) its.toArray, ⟨⟨_, Heap.get?_push_size _ rfl, rfl, rfl⟩, pl.isList.push _⟩, fun b hb => ?_, vals_int_at r', fun h' tk t' hk => fin h' tk t' r' fun b o e => hk b o (by simpa using Nat.ne_of_lt (Heap.lt_size e)) (Heap.get?_push_of_some _ e)⟩)
    show b < (s.heap.push _).objs.size
    rw [Heap.size_push]
    rcases List.mem_cons.mp hb with rfl | hb
    · exact Nat.lt_succ_self _
    · rcases List.mem_cons.mp hb with rfl | hb
      · exact Nat.lt_succ_of_lt hlt
      · cases hb
  · obtain ⟨its, r', pl, hz⟩ := I.tuple hq
    have pl' : s.heap.IsTuple a its.toArray := pl
    have hlt : a < s.heap.objs.size := by obtain ⟨_, e, _⟩ := pl; exact Heap.lt_size e
    refine call_sum_walkG (wpAny_pyIter_tuple pl' ⟨_, _, _, _, _, _, fun i => ns.getD i 0, rfl, Walks.tuple (A := X.A.in1) hh _ a (Nat.ne_of_lt hlt) its.toArray, ⟨⟨_, Heap.get?_push_size _ rfl, rfl, rfl⟩, pl'.at fun o e => Heap.get?_push_of_some _ e⟩, fun b hb => ?_, vals_int_at r', fun h' tk t' hk => fin h' tk t' r' fun b o e => hk b o (by simpa using Nat.ne_of_lt (Heap.lt_size e)) (Heap.get?_push_of_some _ e)⟩)
    show b < (s.heap.push _).objs.size
    rw [Heap.size_push]
    rcases List.mem_cons.mp hb with rfl | hb
    · exact Nat.lt_succ_self _
    · rcases List.mem_cons.mp hb with rfl | hb
      · exact Nat.lt_succ_of_lt hlt
      · cases hb
def cntV (y : V) (xs : List V) : Nat := xs.countP fun x => eqV x y
theorem cnt_eqU {x : V} : ∀ {xs : List V} {us : List Value}, Vals xs us → xs.all flatV = true → us.countP (eqU x) = cntV x xs
  | _, _, .nil, _ => rfl
  | y :: xs, u :: us, .cons r t, f => by
    rw [List.all_cons, Bool.and_eq_true] at f
    unfold cntV
    rw [List.countP_cons, List.countP_cons, eqU_of r f.1, cnt_eqU t f.2]
    rfl
def rCount (K : PySem.W.Frag) (SQ : PySem.W.Frag → Hp → Addr → List V → Prop) : V → List V → Hp → VK → Prop := fun x vs H Q => ∃ a xs y, x = .ref a ∧ vs = [y] ∧ SQ K H a xs ∧ flatV y = true ∧ xs.all flatV = true ∧ Q (.int (cntV y xs)) H
theorem mt_countT : MtR X "tuple.count" (rCount X.K SqT) := by
  intro pins s σ H x vs v us Q I rx rv h
  obtain ⟨a, xs, y, rfl, rfl, hq, fy, fs, q⟩ := h
  cases rx
  obtain ⟨u, rfl, ru⟩ := rv.one
  obtain ⟨its, r, pl, hz⟩ := I.tuple hq
  obtain ⟨o, ho, hc, n, hd⟩ := pl
  obtain ⟨c, dd, dt, sl⟩ := o
  cases hc
  cases hd
  refine call_meets F.slot_tuple_count ⟨_, ho, rfl⟩ F.entry_tuple_count (F.args_tuple_count_2 _ _) (SeqAt.tuple_countAt a its.toArray n dd sl u (eqU y)) ⟨ho, fun w hw => mem_eqAt ru fy r fs w (by simpa using hw), ?_⟩
  refine ⟨.int _, H, I.tok _, ⟨s.toks, ?_⟩, q⟩
  rw [show its.toArray.toList = its from rfl, cnt_eqU r fs]
theorem mt_countL : MtR X "list.count" (rCount X.K SqL) := by
  intro pins s σ H x vs v us Q I rx rv h
  obtain ⟨a, xs, y, rfl, rfl, hq, fy, fs, q⟩ := h
  cases rx
  obtain ⟨u, rfl, ru⟩ := rv.one
  obtain ⟨its, r, pl, hz⟩ := I.list hq
  obtain ⟨o, ho, hc, n, hd⟩ := pl.isList
  obtain ⟨c, dd, dt, sl⟩ := o
  cases hc
  cases hd
  refine call_meets F.slot_list_count ⟨_, ho, rfl⟩ F.entry_list_count (F.args_list_count_2 _ _) (SeqAt.list_countAt a its.toArray n dd sl u (eqU y)) ⟨ho, fun w hw => mem_eqAt ru fy r fs w (by simpa using hw), ?_⟩
  refine ⟨.int _, H, I.tok _, ⟨s.toks, ?_⟩, q⟩
  rw [show its.toArray.toList = its from rfl, cnt_eqU r fs]
theorem cntV_ints (k : Int) (ns : List Int) : cntV (.int k) (ns.map V.int) = ns.count k := by
  unfold cntV
  rw [List.countP_map, List.count_eq_countP]
  congr 1
theorem flat_ints (ns : List Int) : (ns.map V.int).all flatV = true := by
  rw [List.all_map]; simp [flatV]
theorem call_isi : CallR X (.builtin "isinstance") (fun xs H Q => ∃ x T t b, xs = [x, .ty T] ∧ TyOf X.K H x t ∧ PySem.W.kitOne X.K t (.type T) = some b ∧ Q (.bl b) H) := by
  intro pins s σ H xs us Q I r h
  obtain ⟨x, T, t, b, rfl, ty, hk, q⟩ := h
  obtain ⟨u, v, rfl, ru, rv⟩ := vals2 r
  cases (show v = Value.type T from rv)
  exact isinst_ok I ru ty hk fun tk => ⟨.bl b, H, I.tok tk, rfl, q⟩
end
theorem kit_int_int {K : PySem.W.Frag} : PySem.W.kitOne K (.type "int") (.type "int") = some true := by unfold PySem.W.kitOne; rw [if_pos (by decide +kernel)]
theorem kit_int_bool {K : PySem.W.Frag} : PySem.W.kitOne K (.type "int") (.type "bool") = some false := by
  unfold PySem.W.kitOne
  rw [if_neg (by decide +kernel)]
  rfl
theorem kit_tup_tup {K : PySem.W.Frag} : PySem.W.kitOne K (.type "tuple") (.type "tuple") = some true := by unfold PySem.W.kitOne; rw [if_pos (by decide +kernel)]
theorem kit_list_list {K : PySem.W.Frag} : PySem.W.kitOne K (.type "list") (.type "list") = some true := by unfold PySem.W.kitOne; rw [if_pos (by decide +kernel)]
end L2
set_option Elab.async false
set_option linter.all false
set_option maxRecDepth 100000
namespace L2
open PySem PySem.Spec PyProof.Rows
theorem noPylong_big {x y : Int} (h0 : 0 < y) (h : y ≤ 10 ^ 100) : Builtin.divisionGoesByPylong x y = false := by
  refine PyProof.noPylong_of_log2 ?_
  have hn : y.natAbs ≠ 0 := by omega
  have h1 : y.natAbs ≤ 10 ^ 100 := by omega
  refine (Nat.log2_lt hn).mpr (Nat.lt_of_le_of_lt h1 (by decide +kernel))
def CDivB (i j : Int) : Prop := 0 < j ∧ j ≤ 10 ^ 100
theorem op_fdivB {X : Cx} : OpR X (binaryOp .FloorDiv) (rI CDivB fun i j => .int (i / j)) := opI fun i j _ _ _ _ _ hc q => by
  refine floordiv_int (by have := hc.1; omega) ?_ (.inl (noPylong_big hc.1 hc.2))
  rw [Int.fdiv_eq_ediv_of_nonneg _ (Int.le_of_lt hc.1)]
  exact q
theorem get_list {X : Cx} : PGet X (fun x y H Q => ∃ p xs i v, x = .ref p ∧ y = .int i ∧ SqL X.K H p xs ∧ 0 ≤ i ∧ xs[i.toNat]? = some v ∧ Q v H) := by
  intro pins s σ H o i ov iv Q I ro ri h
  obtain ⟨p, xs, k, v, rfl, rfl, hq, h0, hv, q⟩ := h
  cases ro
  obtain ⟨t, rfl⟩ := ri
  obtain ⟨its, r, pl, hz⟩ := I.list hq
  have hlen := r.length
  have hn := line63
  obtain ⟨u, hu, ru⟩ := r.get hv
  have hk := (List.getElem?_eq_some_iff.mp hv).1
  exact wpAny_getItem_list pl.isList h0 (by omega) (by simpa using hu) ⟨v, H, I, ru, q⟩
theorem seqJoin {A B : TS} {D : Ends} {σ : St} {H : Hp} (R : St → Hp → Prop) (h : ∀ nx : St → Hp → Prop, (∀ σ' H', R σ' H' → nx σ' H') → A { D with nx := nx } σ H) (hR : ∀ σ' H', R σ' H' → B D σ' H') : tSeq A B D σ H := h (B D) hR
def Keep (S : List Addr) (H H' : Hp) : Prop := ∀ b o, H b = some o → b ∉ S → H' b = some o
theorem Keep.refl (S : List Addr) (H : Hp) : Keep S H H := fun _ _ h _ => h
theorem Keep.trans {S : List Addr} {H H1 H2 : Hp} (a : Keep S H H1) (b : Keep S H1 H2) : Keep S H H2 := fun c o h n => b c o (a c o h n) n
theorem Keep.set {S : List Addr} {H : Hp} {p : Addr} {o : HO} (h : p ∈ S) : Keep S H (upd H p o) := fun b u e n => by
  have hb : b ≠ p := fun z => n (by rw [z]; exact h)
  rw [upd_ne hb]; exact e
theorem Same.keep {S : List Addr} {H H' : Hp} (h : Same H H') : Keep S H H' := fun b o e _ => h b o e
structure StAt (H : Hp) (st ga ca : Addr) (N : Nat) : Prop where
  ex : ∃ (gs cs : List Int) (q n : Int), H st = some (.lst [.ref ga, .int q, .ref ca, .int n]) ∧ H ga = some (.lst (gs.map V.int)) ∧ H ca = some (.lst (cs.map V.int)) ∧
    gs.length ≤ 63 ∧ (∀ x ∈ gs, 0 < x) ∧ 0 ≤ q ∧ 0 ≤ n ∧ n ≤ N
  gc : ga ≠ ca
  sg : st ≠ ga
  sc : st ≠ ca
theorem StAt.nin {H : Hp} {st ga ca : Addr} {N : Nat} (S : StAt H st ga ca N) {p : Addr} (h : H p = none) : p ∉ [st, ga] := by
  obtain ⟨gs, cs, q, n, h1, h2, _⟩ := S.ex
  intro z
  rcases List.mem_cons.mp z with rfl | z
  · rw [h1] at h; cases h
  · rcases List.mem_cons.mp z with rfl | z
    · rw [h2] at h; cases h
    · cases z
theorem StAt.mono {H : Hp} {st ga ca : Addr} {N M : Nat} (S : StAt H st ga ca N) (h : N ≤ M) : StAt H st ga ca M := by
  obtain ⟨gs, cs, q, n, h1, h2, h3, h4, h5, h6, h7, h8⟩ := S.ex
  exact ⟨⟨gs, cs, q, n, h1, h2, h3, h4, h5, h6, h7, by omega⟩, S.gc, S.sg, S.sc⟩
theorem StAt.same {H H' : Hp} {st ga ca : Addr} {N : Nat} (S : StAt H st ga ca N) (h : Same H H') : StAt H' st ga ca N := by
  obtain ⟨gs, cs, q, n, h1, h2, h3, r⟩ := S.ex
  exact ⟨⟨gs, cs, q, n, h _ _ h1, h _ _ h2, h _ _ h3, r⟩, S.gc, S.sg, S.sc⟩
theorem Same.new {H : Hp} {p : Addr} {o : HO} (h : H p = none) : Same H (upd H p o) := fun b u e => by rw [upd_ne (ne_of_none e h)]; exact e
theorem pick {ns : List Int} {r : Int} (h0 : 0 ≤ r) (h1 : r < ns.length) : ∃ v, v ∈ ns ∧ atI (ns.map V.int) r = some (.int v) := by
  obtain ⟨j, rfl⟩ : ∃ j : Nat, r = (j : Int) := ⟨r.toNat, by omega⟩
  have hj : j < ns.length := by omega
  exact ⟨ns[j], List.getElem_mem hj, atI_nat (by rw [List.getElem?_map, List.getElem?_eq_getElem hj]; rfl)⟩
theorem Keep.at {S : List Addr} {H H' : Hp} (k : Keep S H H') {b : Addr} {o : HO} (h : H b = some o) (n : b ∉ S) : H' b = some o := k b o h n
theorem Keep.free {S : List Addr} {H H' : Hp} (k : Keep S H H') {b : Addr} (h : H' b = none) (n : b ∉ S) : H b = none := by
  cases q : H b with
  | none => rfl
  | some o => rw [k b o q n] at h; cases h
theorem map_at {ns : List Int} {i : Nat} {x : V} (h : (ns.map V.int)[i]? = some x) : ∃ z, ns[i]? = some z ∧ x = .int z := by
  rw [List.getElem?_map] at h
  cases hn : ns[i]? with
  | none => rw [hn] at h; cases h
  | some z => rw [hn] at h; exact ⟨z, rfl, (Option.some.inj h).symm⟩
def lies (ns ms : List Int) : Bool := ns.all fun x => decide (ns.count x ≤ ms.count x)
theorem all_take {α : Type} {p : α → Bool} {l : List α} {i : Nat} {x : α} (hx : l[i]? = some x) : (l.take (i + 1)).all p = ((l.take i).all p && p x) := by
  have hi := (List.getElem?_eq_some_iff.mp hx).1
  have ex := (List.getElem?_eq_some_iff.mp hx).2
  rw [List.take_succ_eq_append_getElem hi, List.all_append, ex]
  simp
theorem all_false {α : Type} {p : α → Bool} {l : List α} {x : α} (hx : x ∈ l) (h : p x = false) : l.all p = false := by
  rw [List.all_eq_false]
  exact ⟨x, hx, by simp [h]⟩
theorem StAt.nin3 {H : Hp} {st ga ca : Addr} {N : Nat} (S : StAt H st ga ca N) {p : Addr} (h : H p = none) : p ∉ [st, ga, ca] := by
  obtain ⟨gs, cs, q, n, h1, h2, h3, _⟩ := S.ex
  intro z
  simp only [List.mem_cons, List.not_mem_nil, or_false] at z
  rcases z with rfl | rfl | rfl
  · rw [h1] at h; cases h
  · rw [h2] at h; cases h
  · rw [h3] at h; cases h
theorem nin2 {st ga ca p : Addr} (h : p ∉ [st, ga, ca]) : p ∉ [st, ga] := fun z => h (by
  simp only [List.mem_cons, List.not_mem_nil, or_false] at z ⊢
  rcases z with z | z
  · exact .inl z
  · exact .inr (.inl z))
end L2
set_option Elab.async false
set_option linter.all false
set_option maxRecDepth 100000
namespace L2
open PySem PySem.Spec PyProof.Rows
def EqK (X : Cx) (α : Type) [DecidableEq α] (R : α → V → Hp → Prop) (n : Nat) : Prop :=
  ∀ (pins : List (Addr × Obj)) (σ : St) (H : Hp) (s : Shared) (A : Around) (a b : α) (v w : V) (u u' : Value), Inv X pins σ H s → A.units + n < cLine → R a v H → R b w H → RelV v u → RelV w u' → SeqAt.EqAt A s u u' (decide (a = b))
inductive All2 {α : Type} (R : α → V → Hp → Prop) (H : Hp) : List α → List V → Prop
  | nil : All2 R H [] []
  | cons {a : α} {v : V} {l : List α} {xs : List V} : R a v H → All2 R H l xs → All2 R H (a :: l) (v :: xs)
theorem All2.length {α : Type} {R : α → V → Hp → Prop} {H : Hp} : ∀ {l : List α} {xs : List V}, All2 R H l xs → l.length = xs.length
  | _, _, .nil => rfl
  | _, _, .cons _ t => by simp [t.length]
theorem All2.get {α : Type} {R : α → V → Hp → Prop} {H : Hp} : ∀ {l : List α} {xs : List V} {i : Nat} {x : V}, All2 R H l xs → xs[i]? = some x → ∃ a, l[i]? = some a ∧ R a x H
  | _, _, _, _, .nil, e => by simp at e
  | _, _, 0, _, .cons r _, e => by simp at e; subst e; exact ⟨_, rfl, r⟩
  | _, _, i + 1, x, .cons _ t, e => by
    obtain ⟨u, h1, h2⟩ := All2.get (i := i) (x := x) t (by simpa using e)
    exact ⟨u, by simpa using h1, h2⟩
theorem All2.append {α : Type} {R : α → V → Hp → Prop} {H : Hp} : ∀ {l l' : List α} {xs xs' : List V}, All2 R H l xs → All2 R H l' xs' → All2 R H (l ++ l') (xs ++ xs')
  | _, _, _, _, .nil, s => s
  | _, _, _, _, .cons r t, s => .cons r (t.append s)
theorem All2.imp {α : Type} {R : α → V → Hp → Prop} {H H' : Hp} (f : ∀ a v, R a v H → R a v H') : ∀ {l : List α} {xs : List V}, All2 R H l xs → All2 R H' l xs
  | _, _, .nil => .nil
  | _, _, .cons r t => .cons (f _ _ r) (t.imp f)
def RInt : Int → V → Hp → Prop := fun i v _ => v = .int i
theorem all2_ints {H : Hp} : ∀ (ns : List Int), All2 RInt H ns (ns.map V.int)
  | [] => .nil
  | _ :: r => .cons rfl (all2_ints r)
def RTup (K : PySem.W.Frag) {α : Type} (R : α → V → Hp → Prop) : List α → V → Hp → Prop := fun l v H => ∃ p xs, v = .ref p ∧ SqT K H p xs ∧ All2 R H l xs
theorem all_range_eq {α : Type} [DecidableEq α] {l m : List α} {e : Nat → Bool} (h : ∀ j a b, l[j]? = some a → m[j]? = some b → e j = decide (a = b)) : ((List.range (min l.length m.length)).all e && l.length == m.length) = decide (l = m) := by
  rw [Bool.eq_iff_iff]
  simp only [Bool.and_eq_true, List.all_eq_true, List.mem_range, beq_iff_eq, decide_eq_true_eq]
  constructor
  · rintro ⟨h1, h2⟩
    refine List.ext_getElem h2 fun j j1 j2 => ?_
    have := h1 j (by omega)
    rw [h j _ _ (List.getElem?_eq_getElem j1) (List.getElem?_eq_getElem j2)] at this
    exact of_decide_eq_true this
  · rintro rfl
    refine ⟨fun j hj => ?_, rfl⟩
    have hj' : j < l.length := by omega
    rw [h j _ _ (List.getElem?_eq_getElem hj') (List.getElem?_eq_getElem hj')]
    exact decide_eq_true rfl
section
variable {X : Cx}
theorem eqk_int : EqK X Int RInt 0 := fun pins σ H s A a b v w u u' I hu r1 r2 q1 q2 => by
  unfold RInt at r1 r2
  subst r1 r2
  obtain ⟨t, rfl⟩ := q1
  obtain ⟨t', rfl⟩ := q2
  have := SeqAt.EqAt.int_int (A := A) (s := s) a t b t'
  rwa [show (a == b) = decide (a = b) from rfl] at this
variable {α : Type} [DecidableEq α] {R : α → V → Hp → Prop} {n : Nat}
theorem eqk_items (h : EqK X α R n) {pins : List (Addr × Obj)} {σ : St} {H : Hp} {s : Shared} {A : Around} {l m : List α} {xs ys : List V} {us ws : List Value} (I : Inv X pins σ H s) (hu : A.units + (n + 1) < cLine)
    (r1 : All2 R H l xs) (r2 : All2 R H m ys) (q1 : Vals xs us) (q2 : Vals ys ws) :
    ∃ e : Nat → Bool, (∀ j (h1 : j < us.toArray.size) (h2 : j < ws.toArray.size), SeqAt.EqAt A.in1 s us.toArray[j] ws.toArray[j] (e j)) ∧ (∀ j a b, l[j]? = some a → m[j]? = some b → e j = decide (a = b)) := by
  refine ⟨fun j => match l[j]?, m[j]? with | some a, some b => decide (a = b) | _, _ => false, fun j h1 h2 => ?_, fun j a b e1 e2 => by simp only [e1, e2]⟩
  have l1 := q1.length
  have l2 := q2.length
  have l3 := r1.length
  have l4 := r2.length
  simp only [List.size_toArray] at h1 h2
  have hx : xs[j]? = some xs[j] := List.getElem?_eq_getElem (by omega)
  have hy : ys[j]? = some ys[j] := List.getElem?_eq_getElem (by omega)
  obtain ⟨a, ea, ra⟩ := r1.get hx
  obtain ⟨b, eb, rb⟩ := r2.get hy
  obtain ⟨u, eu, ru⟩ := q1.get hx
  obtain ⟨w, ew, rw'⟩ := q2.get hy
  have e1 : us.toArray[j]'(by simpa using h1) = u := by
    have := (List.getElem?_eq_some_iff.mp eu).2
    simpa using this
  have e2 : ws.toArray[j]'(by simpa using h2) = w := by
    have := (List.getElem?_eq_some_iff.mp ew).2
    simpa using this
  rw [e1, e2]
  simp only [ea, eb]
  exact h pins σ H s A.in1 a b _ _ u w I (by show A.units + 1 + n < cLine; omega) ra rb ru rw'
theorem rc_tup (h : EqK X α R n) {pins : List (Addr × Obj)} {σ : St} {H : Hp} {s : Shared} {A : Around} {l m : List α} {p q : Addr} (I : Inv X pins σ H s) (hu : A.units + (n + 1) < cLine) (r1 : RTup X.K R l (.ref p) H) (r2 : RTup X.K R m (.ref q) H) :
    SeqAt.RcAt A s (.ref p) (.ref q) (decide (l = m)) := by
  obtain ⟨_, xs, e1, h1, a1⟩ := r1
  obtain ⟨_, ys, e2, h2, a2⟩ := r2
  cases e1
  cases e2
  obtain ⟨us, v1, t1, z1⟩ := I.tuple h1
  obtain ⟨ws, v2, t2, z2⟩ := I.tuple h2
  obtain ⟨e, he, hd⟩ := eqk_items h I hu a1 a2 v1 v2
  have := SeqAt.RcAt.tuples (e := e) t1 t2 (by omega) he
  rw [List.size_toArray, List.size_toArray, ← v1.length, ← v2.length, ← a1.length, ← a2.length, all_range_eq hd] at this
  exact this
theorem eqk_tup (h : EqK X α R n) (det : ∀ (pins : List (Addr × Obj)) (σ : St) (H : Hp) (s : Shared) (a b : α) (v : V), Inv X pins σ H s → R a v H → R b v H → a = b) : EqK X (List α) (RTup X.K R) (n + 1) := fun pins σ H s A a b v w u u' I hu r1 r2 q1 q2 => by
  obtain ⟨p, xs, rfl, h1, a1⟩ := id r1
  obtain ⟨q, ys, rfl, h2, a2⟩ := id r2
  cases q1
  cases q2
  by_cases hpq : p = q
  · subst hpq
    have e := I.tuple_inj h1 h2
    subst e
    have : a = b := by
      clear r1 r2 h1 h2 hu
      induction a1 generalizing b with
      | nil => cases a2; rfl
      | cons r t ih =>
        cases a2 with
        | cons r' t' => rw [det pins σ H s _ _ _ I r r', ih _ t']
    rw [decide_eq_true this]
    exact SeqAt.EqAt.same _
  · exact SeqAt.EqAt.of_refs hpq (rc_tup h I hu r1 r2)
theorem det_int (pins : List (Addr × Obj)) (σ : St) (H : Hp) (s : Shared) (a b : Int) (v : V) (I : Inv X pins σ H s) (h1 : RInt a v H) (h2 : RInt b v H) : a = b := by
  unfold RInt at h1 h2
  rw [h1] at h2
  cases h2
  rfl
theorem op_neT' (h : EqK X α R n) (hu : X.A.units + (n + 1) < cLine) : OpR X (compareOp .NotEq) (fun x y H Q => ∃ l m, RTup X.K R l x H ∧ RTup X.K R m y H ∧ Q (.bl (!decide (l = m))) H) := by
  intro pins s σ H x y v u Q I rx ry hq
  obtain ⟨l, m, r1, r2, q⟩ := hq
  obtain ⟨p, xs, rfl, h1, a1⟩ := r1
  obtain ⟨p', ys, rfl, h2, a2⟩ := r2
  cases rx
  cases ry
  obtain ⟨us, v1, t1, z1⟩ := I.tuple h1
  obtain ⟨ws, v2, t2, z2⟩ := I.tuple h2
  obtain ⟨e, he, hd⟩ := eqk_items h I hu a1 a2 v1 v2
  have ee := all_range_eq hd
  have this := SeqAt.RcNeAt.tuples (e := e) t1 t2 (by omega) he
  rw [List.size_toArray, List.size_toArray, ← v1.length, ← v2.length, ← a1.length, ← a2.length, ee] at this
  exact this X.prog X.w X.xe _ ⟨.bl _, H, I, rfl, q⟩
end
end L2
namespace L2
open PySem PySem.Spec PyProof.Rows
theorem huR {A : Around} {k n : Nat} {cm : Bool} (hr : Room k A cm) (h : n ≤ 64 := by decide) : A.units + n < cLine := Nat.lt_of_le_of_lt (Nat.add_le_add_left h _) hr.units
end L2
namespace HT
open PySem PySem.Spec PyProof.Rows
section
variable {prog : Program} {w : World} {A : Around} {E : Value → Shared → Prop} {s : Shared}
end
end HT
namespace L2
open PySem PySem.Spec PyProof.Rows
section
variable {X : Cx}
end
end L2
set_option Elab.async false
set_option linter.all false
set_option maxRecDepth 100000
namespace HT
open PySem PySem.Spec PyProof.Rows
def lexGt : List Int → List Int → Bool
  | [], [] => false
  | [], _ :: _ => false
  | _ :: _, [] => true
  | x :: xs, y :: ys => if x = y then lexGt xs ys else decide (y < x)
theorem lexGt_cons (x y : Int) (xs ys : List Int) : lexGt (x :: xs) (y :: ys) = if x = y then lexGt xs ys else decide (y < x) := rfl
theorem lexGt_nil_nil : lexGt [] [] = false := rfl
theorem lexGt_nil_cons (y : Int) (ys : List Int) : lexGt [] (y :: ys) = false := rfl
theorem lexGt_cons_nil (x : Int) (xs : List Int) : lexGt (x :: xs) [] = true := rfl
theorem rcGt_int (A : Around) (s : Shared) (a : Int) (t : Tok) (c : Int) (u : Tok) (prog : Program) (w : World) (E : Value → Shared → Prop) (Q : Value → Shared → Prop) (h : Q (.bool (decide (c < a))) s) :
    wpAny (model prog w) A (richCompare .Gt (.int a t) (.int c u)) Q E s :=
  (PyProof.Rows.gt_int h : wpAny (model prog w) A (compareOp .Gt (.int a t) (.int c u)) Q E s)
section
open PySem.SeqAt
open PySem.AutoSeq1 (wpAny_loadPart')
open PySem.MeetsSeq PySem.MeetsSeq2 PySem.MeetsSeq3
theorem tuple_gt_ints (l b : Addr) (items items2 : Array Value) (n n2 : Nat) (dd dd2 : Option Addr) (sl sl2 : Array (Option Value)) (ns ms : List Int) (hi : IntsAre items.toList ns) (hj : IntsAre items2.toList ms) :
    Meets (Builtin.«tuple.__gt__» ⟨[.ref l, .ref b], []⟩)
      (fun _ R s => s.heap.get? l = some { cls := .type "tuple", dict := dd, data := .seq items n, slots := sl } ∧ s.heap.get? b = some { cls := .type "tuple", dict := dd2, data := .seq items2 n2, slots := sl2 } ∧
        R (.ok (.ret (.bool (lexGt ns ms)))) s) :=
  .of_wp fun prog w A R s h => by
    obtain ⟨hp, g, d, tk, os⟩ := s; obtain ⟨hl, hb, h⟩ := h
    have f2 := AutoSeq1.sub_tuple_tuple
    have z1 : items.size = ns.length := by rw [← hi.length]; simp
    have z2 : items2.size = ms.length := by rw [← hj.length]; simp
    wp_walk using wpAny_loadPart' hl, wpAny_loadPart' hb, wpAny_forIn_list _ (fun rest b s' => b.1 = none ∧ s' = ⟨hp, g, d, tk, os⟩ ∧ ∃ (vs ws : List Value) (ns' ms' : List Int), rest = vs.zip ws ∧
      IntsAre vs ns' ∧ IntsAre ws ms' ∧ ns'.length + items2.size = ms'.length + items.size ∧ R (.ok (.ret (.bool (lexGt ns' ms')))) ⟨hp, g, d, tk, os⟩) _
    case turn =>
      rintro ⟨y, x⟩ rest b s' ⟨hb', rfl, vs, ws, ns', ms', hz, hvi, hwi, hlen, hR⟩
      cases hvi with
      | nil => rw [List.zip_nil_left] at hz; cases hz
      | cons a t hvi' =>
        cases hwi with
        | nil => rw [List.zip_nil_right] at hz; cases hz
        | cons c u hwi' =>
          rw [List.zip_cons_cons] at hz
          injection hz with hyx hrest
          injection hyx with hy hx
          subst hy hx
          rw [lexGt_cons] at hR
          simp only [List.length_cons] at hlen
          obtain ⟨e, he, hiff⟩ := eqAt_int A.in1 ⟨hp, g, d, tk, os⟩ a t c u
          refine wpAny_bind (he prog w _ _ ?_)
          cases e with
          | true =>
            rw [if_pos (hiff.mp rfl)] at hR
            wp_walk
            exact ⟨rfl, rfl, _, _, _, _, hrest, hvi', hwi', by omega, hR⟩
          | false =>
            rw [if_neg (fun q => absurd (hiff.mpr q) Bool.false_ne_true)] at hR
            have hri := rcGt_int A.in1 ⟨hp, g, d, tk, os⟩ a t c u prog w
            wp_walk using hri
            exact ⟨_, rfl, by simpa using hR⟩
    case fin =>
      rintro ⟨b1, b2⟩ s' ⟨hb', rfl, vs, ws, ns', ms', hz, hvi, hwi, hlen, hR⟩
      simp only at hb'
      subst hb'
      have hv : lexGt ns' ms' = decide (items2.size < items.size) := by
        cases hvi with
        | nil =>
          cases hwi with
          | nil =>
            simp only [List.length_nil] at hlen
            rw [lexGt_nil_nil]
            exact (decide_eq_false (by omega)).symm
          | cons c u hw =>
            simp only [List.length_nil, List.length_cons] at hlen
            rw [lexGt_nil_cons]
            exact (decide_eq_false (by omega)).symm
        | cons a t hv =>
          cases hwi with
          | nil =>
            simp only [List.length_nil, List.length_cons] at hlen
            rw [lexGt_cons_nil]
            exact (decide_eq_true (by omega)).symm
          | cons c u hw =>
            rw [List.zip_cons_cons] at hz
            cases hz
      rw [hv] at hR
      wp_walk
      exact ⟨_, rfl, by simpa [Builtin.Tuple.tupleCompareSizes] using hR⟩
    case h =>
      exact ⟨rfl, rfl, items.toList, items2.toList, ns, ms, rfl, hi, hj, by omega, h⟩
end
section
variable {prog : Program} {w : World} {A : Around} {E : Value → Shared → Prop} {s : Shared}
theorem gt_tupInts {l b : Addr} {items items2 : Array Value} {ns ms : List Int} {Q : Value → Shared → Prop} (hl : IsTup s.heap l items) (hb : IsTup s.heap b items2) (hi : IntsAre items.toList ns) (hj : IntsAre items2.toList ms)
    (hu : A.units < cLine) (h : Q (.bool (lexGt ns ms)) s) : wpAny (model prog w) A (compareOp .Gt (.ref l) (.ref b)) Q E s := by
  obtain ⟨⟨cls, dd, data, sl⟩, ho, hc, n, hd⟩ := id hl
  obtain ⟨⟨cls2, dd2, data2, sl2⟩, ho2, hc2, n2, hd2⟩ := id hb
  simp only at hc hd hc2 hd2
  subst hc hd hc2 hd2
  exact richCompare_meets_room (op := .Gt) ⟨_, ho, rfl⟩ ⟨_, ho2, rfl⟩ PySem.F.slot_tuple_gt PySem.F.entry_tuple_gt (PySem.F.args_tuple_gt_2 _ _) (tuple_gt_ints l b items items2 n n2 dd dd2 sl sl2 ns ms hi hj)
    ⟨ho, ho2, show Value.bool (lexGt ns ms) ≠ Value.notImplemented ∧ Q (.bool (lexGt ns ms)) s from ⟨(fun x => nomatch x), h⟩⟩ hu
end
end HT
namespace L2
open PySem PySem.Spec PyProof.Rows
section
variable {X : Cx}
theorem op_gtT (hu : X.A.units < cLine) : OpR X (compareOp .Gt) (fun x y H Q => ∃ a b ns ms, x = .ref a ∧ y = .ref b ∧ SqT X.K H a (ns.map V.int) ∧ SqT X.K H b (ms.map V.int) ∧ Q (.bl (HT.lexGt ns ms)) H) := by
  intro pins s σ H x y v u Q I rx ry h
  obtain ⟨a, b, ns, ms, rfl, rfl, h1, h2, q⟩ := h
  cases rx
  cases ry
  obtain ⟨its, r1, t1, z1⟩ := I.tuple h1
  obtain ⟨its2, r2, t2, z2⟩ := I.tuple h2
  exact HT.gt_tupInts t1 t2 (intsAre_of r1) (intsAre_of r2) hu ⟨.bl _, H, I, rfl, q⟩
end
end L2
set_option Elab.async false
set_option linter.all false
set_option maxRecDepth 100000
namespace L2
open PySem PySem.Spec PyProof.Rows
section
variable {X : Cx} {tg : Expr}
end
section
variable {X : Cx}
theorem call_all_bools (hc : X.calm = true) : CallR X (.builtin "all") (fun xs H Q => ∃ (a : Addr) (bs : List Bool), xs = [.ref a] ∧ SqL X.K H a (bs.map V.bl) ∧ Q (.bl (bs.all id)) H) := by
  intro pins s σ H xs us Q I r h
  obtain ⟨a, bs, rfl, hq, q⟩ := h
  obtain ⟨u, rfl, ru⟩ := vals1 r
  cases ru
  have hh : X.A.in1.handled = none := I.ok.hd hc
  obtain ⟨its, r', pl, hz⟩ := I.list hq
  have hl := r'.length
  rw [List.length_map] at hl
  have hlt : a < s.heap.objs.size := by obtain ⟨_, e, _⟩ := pl.isList; exact Heap.lt_size e
  refine call_all_walk (wpAny_pyIter_list pl.isList ⟨_, _, _, _, _, _, fun i => bs.getD i false, rfl, Walks.list (A := X.A.in1) hh _ a (Nat.ne_of_lt hlt) its.toArray, ⟨⟨_, Heap.get?_push_size _ rfl, rfl, rfl⟩, pl.isList.push _⟩, ?_, fun h' tk hk => ?_⟩)
  · intro i v s' Q' E' hv hQ
    have hv' : its[i]? = some v := by simpa using hv
    have hi : i < bs.length := by have := (List.getElem?_eq_some_iff.mp hv').1; omega
    have hx : (bs.map V.bl)[i]? = some (V.bl (bs.getD i false)) := by simp [hi]
    obtain ⟨u, hu, ru⟩ := r'.get hx
    rw [hv'] at hu
    cases hu
    cases ru
    exact wpAny_truthy_bool hQ
  · have e : (List.range its.toArray.size).all (fun i => bs.getD i false) = bs.all id := by
      rw [List.size_toArray, ← hl, Bool.eq_iff_iff]
      simp only [List.all_eq_true, List.mem_range, id]
      constructor
      · intro h b hb
        obtain ⟨i, hi, rfl⟩ := List.mem_iff_getElem.mp hb
        have := h i hi
        simpa [hi] using this
      · intro h i hi
        have := h bs[i] (List.getElem_mem hi)
        simpa [hi] using this
    rw [e]
    exact ⟨.bl _, H, I.kept fun b o e => hk b o (by simpa using Nat.ne_of_lt (Heap.lt_size e)) (Heap.get?_push_of_some _ e), rfl, q⟩
end
end L2
set_option Elab.async false
set_option linter.all false
set_option maxRecDepth 100000
namespace L2
open PySem PySem.Spec PyProof.Rows PySem.NumText PySem.Calls
end L2
set_option Elab.async false
set_option linter.all false
set_option maxRecDepth 100000
namespace L2
open PySem PySem.Spec PyProof.Rows PySem.NumText
end L2
set_option Elab.async false
set_option linter.all false
set_option maxRecDepth 100000
namespace L2
open PySem PySem.Spec PyProof.Rows
structure Cov (s₀ : Heap) (H₀ : Hp) (fr ex : List Addr) (H' : Hp) (B : Heap) : Prop where
  trk : ∀ b u, H' b = some u → ∃ o, B.get? b = some o
  old : ∀ b o, s₀.get? b = some o → H₀ b = none → b ∉ fr → b ∉ ex → B.get? b = some o
  all : ∀ b o, s₀.get? b = some o → b ∉ fr → b ∉ ex → ∃ o', B.get? b = some o'
def CX1 (P : Program) (w : World) : CXT := fun outer H s E ev s' => ∃ (e : Addr) (C : Value) (H' : Hp), ev = .ref e ∧ E C none H' ∧ s'.os = s.os ∧ AllBare s'.gens ∧ Un (frs outer) [] H H' s.heap s'.heap ∧ HOk P w H' s'.heap ∧ H' e = none ∧
  ∃ B a0, Heap.FlyingW B outer e C a0 s'.heap ∧ Cov s.heap H (frs outer) [] H' B
inductive ExcSt (B : Heap) (l : List Env) (L e : Addr) (C : Value) (h : Heap) : Prop where
  | made (oe : Obj) (vs : Array Value) (a0 : Value) : B.StaysIn h → h.FunFrames B l → B.get? e = none → h.get? e = some oe → oe.cls = C → oe.data = .fields vs → vs[1]? = some .none → vs[0]? = some a0 → ExcSt B l L e C h
  | fly (a0 : Value) : Heap.FlyingW B l e C a0 h → ExcSt B l L e C h
  | held (a0 : Value) : Heap.HeldW B l e C a0 L h → ExcSt B l L e C h
theorem ExcSt.stays {B : Heap} {l : List Env} {L e : Addr} {C : Value} {h : Heap} (x : ExcSt B l L e C h) : B.StaysIn h := by
  cases x with
  | made oe vs a0 a b c => exact a
  | fly a0 a => exact a.1
  | held a0 a => exact a.1
theorem ExcSt.frames {B : Heap} {l : List Env} {L e : Addr} {C : Value} {h : Heap} (x : ExcSt B l L e C h) : h.FunFrames B l := by
  cases x with
  | made oe vs a0 a b c => exact b
  | fly a0 a => exact a.2.2.1
  | held a0 a => exact a.2.2.1
structure ExcAt (X : Cx) (H' : Hp) (e : Addr) (C : Value) (s' : Shared) : Prop where
  os : s'.os = X.s₀.os
  bare : AllBare s'.gens
  un : Un X.fs X.ex X.H₀ H' X.s₀.heap s'.heap
  hok : HOk X.prog X.w H' s'.heap
  fe : H' e = none
  st : ∃ B, Cov X.s₀.heap X.H₀ (frs X.stack) X.ex H' B ∧ ExcSt B X.stack X.env.locals e C s'.heap
theorem Cov.turn {P : Program} {w : World} {s₀ h h' : Heap} {H₀ H' : Hp} {fr fs ex : List Addr} {B : Heap} (c : Cov s₀ H₀ fr ex H' B) (hs : ∀ b ∈ fs, b ∈ fr) (hnf : ∀ b ∈ fr, ∃ o, h.get? b = some o ∧ ∀ vs, o.data ≠ .fields vs) (b1 : B.StaysIn h) (b2 : B.StaysIn h')
    (up : ∀ b o, h.get? b = some o → (∀ vs, o.data ≠ .fields vs) → ∃ sl, h'.get? b = some { o with slots := sl }) (un : Un fs ex H₀ H' s₀ h) (hok : HOk P w H' h)
    (hfs : ∀ b o, s₀.get? b = some o → b ∈ fr → b ∈ fs) : Un fs ex H₀ H' s₀ h' ∧ HOk P w H' h' := by
  refine ⟨⟨fun b o q n hb hx => ?_, fun b o q n hb hx => ?_, un.free, fun b o q hx => ?_, un.tups, un.frzs, un.tbls⟩, fun b u e => ?_⟩
  · by_cases hf : b ∈ fr
    · exact absurd (hfs b o q hf) hb
    · exact b2 b o (c.old b o q n hf hx)
  · obtain ⟨sl, e1⟩ := un.slot b o q n hb hx
    obtain ⟨o1, e2, nf⟩ := hnf b (hs b hb)
    rw [e1] at e2
    cases e2
    obtain ⟨sl', e3⟩ := up b _ e1 nf
    exact ⟨sl', e3⟩
  · by_cases hf : b ∈ fr
    · obtain ⟨o1, e2, nf⟩ := hnf b hf
      obtain ⟨sl', e3⟩ := up b _ e2 nf
      exact ⟨_, e3⟩
    · obtain ⟨o', e⟩ := c.all b o q hf hx
      exact ⟨o', b2 b o' e⟩
  · refine (hok b u e).stay (fun d v hd q => ?_) (fun _ q => q) fun _ _ q => q
    have hd' : ∃ u', H' d = some u' := by
      rcases hd with rfl | hd
      · exact ⟨u, e⟩
      · exact ⟨_, hd⟩
    obtain ⟨u', hu'⟩ := hd'
    obtain ⟨o, ho⟩ := c.trk d u' hu'
    have := b1 d o ho
    rw [q] at this
    cases this
    exact b2 d v ho
theorem frames_nf {B h : Heap} {l : List Env} (x : h.FunFrames B l) : ∀ b ∈ frs l, ∃ o, h.get? b = some o ∧ ∀ vs, o.data ≠ .fields vs := fun b hb => by
  obtain ⟨_, o, ho, hnf⟩ := x.mem hb
  exact ⟨o, ho, hnf⟩
def XE (X : Cx) (E : XK) : Value → Shared → Prop := fun ev s' => ∃ (e : Addr) (C : Value) (H' : Hp), ev = .ref e ∧ E C none H' ∧ ExcAt X H' e C s'
section
variable {X : Cx} {outer : List Env}
structure Own (X : Cx) : Prop where
  ok : X.Ok
  top : X.stack = X.env :: X.outer
  fr : X.env.frame = some X.env.locals
theorem Own.sub (o : Own X) : ∀ b ∈ X.fs, b ∈ frs X.stack := fun b hb => by
  rw [o.top]; unfold frs; rw [List.filterMap_cons, o.fr]; exact List.mem_cons_of_mem _ hb
theorem Own.old (o : Own X) : ∀ b ob, X.s₀.heap.get? b = some ob → b ∈ frs X.stack → b ∈ X.fs := fun b ob q hb => by
  rw [o.top] at hb
  unfold frs at hb
  rw [List.filterMap_cons, o.fr] at hb
  rcases List.mem_cons.mp hb with rfl | hb
  · exact absurd (Nat.lt_of_lt_of_le (Heap.lt_size q) o.ok.above) (Nat.lt_irrefl _)
  · exact hb
theorem ExcAt.note {M : Model} {E' : Value → Shared → Prop} {H' : Hp} {e : Addr} {C : Value} {s' : Shared} {Q : Unit → Shared → Prop} (o : Own X) (x : ExcAt X H' e C s')
    (h : ∀ s'', ExcAt X H' e C s'' → (∃ B a0, Heap.HeldW B X.stack e C a0 X.env.locals s''.heap ∧ Cov X.s₀.heap X.H₀ (frs X.stack) X.ex H' B) → Q () s'') : wpAny M X.A (noteFrame (.ref e) X.env) Q E' s' := by
  obtain ⟨B, c, st⟩ := x.st
  have fin : ∀ {h' : Heap} {a0 : Value}, Heap.HeldW B X.stack e C a0 X.env.locals h' → (∀ b o, s'.heap.get? b = some o → (∀ vs, o.data ≠ .fields vs) → ∃ sl, h'.get? b = some { o with slots := sl }) → Q () { s' with heap := h' } := fun {h' a0} hh up => by
    obtain ⟨u, k⟩ := c.turn o.sub (frames_nf st.frames) st.stays hh.1 up x.un x.hok o.old
    exact h _ ⟨x.os, x.bare, u, k, x.fe, B, c, .held a0 hh⟩ ⟨B, a0, hh, c⟩
  have hfr : X.A.frames = some (X.env :: X.outer) := by rw [← o.top]; exact o.ok.frames
  cases st with
  | made oe vs a0 b1 b2 b3 he hc hd h1 h0 =>
    subst hc
    unfold noteFrame
    simp only [o.fr]
    refine wpAny_bind (wpAny_field he hd h1 ?_)
    rw [if_neg (by decide)]
    rw [o.top] at b2
    have := wpAny_entryW (M := M) (A := X.A) (E := E') (hadNext := ((Value.none : Value) != .none)) (head := .none) (Q := Q) hfr b2 o.fr he b1 b3 hd (Array.getElem?_eq_some_iff.mp h1).1 h0 (fun h' hN => by
      obtain ⟨x1, x2, x3, x4⟩ := hN
      exact fin ⟨x1, b3, by rw [o.top]; exact x2, x3⟩ x4)
    exact this
  | fly a0 hf =>
    rw [o.top] at hf
    exact wpAny_looks_onW hfr o.fr hf fun h' hh up => fin (by rw [o.top]; exact hh) up
  | held a0 hh =>
    exact wpAny_noteFrame_againW o.fr hh.2.2.2 (fin hh fun b ob q _ => ⟨ob.slots, q⟩)
theorem ExcAt.back {M : Model} {E' : Value → Shared → Prop} {H' : Hp} {e : Addr} {C : Value} {s' : Shared} {Q : Unit → Shared → Prop} (o : Own X) (x : ExcAt X H' e C s') (hx : ∃ B a0, Heap.HeldW B X.stack e C a0 X.env.locals s'.heap ∧ Cov X.s₀.heap X.H₀ (frs X.stack) X.ex H' B)
    (h : ∀ s'', ExcAt X H' e C s'' → Q () s'') : wpAny M X.A (do
      if (← field (.ref e) 1) == .none then unsupported "frame.own-activation:exception-without-traceback"
      setFlight (.ref e) X.env.frame) Q E' s' := by
  obtain ⟨B, a0, ⟨f1, f2, f3, f4⟩, c⟩ := hx
  obtain ⟨oe, vs, T, oT, ts, he, hcls, hd, h1, hnT, hTe, hT, hdT, h3⟩ := id f4
  have hsz3 : 3 < ts.size := (Array.getElem?_eq_some_iff.mp h3).1
  refine wpAny_bind (wpAny_field he hd h1 ?_)
  rw [if_neg (show ¬ ((Value.ref T == Value.none) = true) from by simp)]
  rw [o.fr]
  have other : ∀ b, b ≠ T → (s'.heap.update T (Obj.mapFields (·.setIfInBounds 3 ((some X.env.locals : Option Addr).elim Value.none fun f => rawInt f)))).get? b = s'.heap.get? b := fun b hb => Heap.get?_update_other _ _ (Ne.symm hb)
  have noRecord : ∀ b ob, s'.heap.get? b = some ob → (∀ vs, ob.data ≠ .fields vs) → b ≠ T := fun b ob hb hnf q => by
    rw [q, hT] at hb; injection hb with hb; subst hb; exact hnf ts hdT
  unfold setFlight
  refine wpAny_bind (wpAny_field he hd h1 ?_)
  rw [if_pos (show (Value.ref T != Value.none) = true from by simp)]
  refine wpAny_setField hT hdT hsz3 ?_
  have k1 : B.StaysIn (s'.heap.update T (Obj.mapFields (·.setIfInBounds 3 ((some X.env.locals : Option Addr).elim Value.none fun f => rawInt f)))) := fun b ob hbo => (other b fun q => by rw [q, hnT] at hbo; cases hbo).trans (f1 b ob hbo)
  have hh : Heap.HeldW B X.stack e C a0 X.env.locals (s'.heap.update T (Obj.mapFields (·.setIfInBounds 3 ((some X.env.locals : Option Addr).elim Value.none fun f => rawInt f)))) :=
    ⟨k1, f2, f3.of_keeps fun b ob hb hnf => ⟨ob, (other b (noRecord b ob hb hnf)).trans hb, rfl⟩,
      oe, vs, T, _, _, (other e (Ne.symm hTe)).trans he, hcls, hd, h1, hnT, hTe, Heap.get?_update_self _ hT (Obj.isFreed_of_fields (Obj.data_mapFields hdT _)), Obj.data_mapFields hdT _, by simp [hsz3]⟩
  obtain ⟨u, k⟩ := c.turn o.sub (frames_nf f3) f1 k1 (fun b ob q nf => ⟨ob.slots, (other b (noRecord b ob q nf)).trans q⟩) x.un x.hok o.old
  exact h _ ⟨x.os, x.bare, u, k, x.fe, B, c, .held a0 hh⟩
theorem XE.passes {E : XK} (o : Own X) : PassesOwn (model X.prog X.w) X.A X.env (XE X E) := fun ev s' hx => by
  obtain ⟨e, C, H', rfl, hE, x⟩ := hx
  exact x.note o fun s'' x'' hh => x''.back o hh fun s3 x3 => ⟨e, C, H', rfl, hE, x3⟩
theorem ExcAt.leave {M : Model} {E' : Value → Shared → Prop} {H' : Hp} {e : Addr} {C : Value} {s' : Shared} {E : XK} (o : Own X) (hex : X.ex = []) (x : ExcAt X H' e C s') (hE : E C none H') :
    wpAny M X.A (leaving X.env (.ref e)) (fun _ s'' => CX1 X.prog X.w X.outer X.H₀ X.s₀ E (.ref e) s'') E' s' := by
  obtain ⟨B, c, st⟩ := x.st
  have hfr : X.A.frames = some (X.env :: X.outer) := by rw [← o.top]; exact o.ok.frames
  have fin : ∀ {h' : Heap} {a0 : Value}, Heap.FlyingW B X.outer e C a0 h' → (∀ b o, s'.heap.get? b = some o → (∀ vs, o.data ≠ .fields vs) → ∃ sl, h'.get? b = some { o with slots := sl }) → CX1 X.prog X.w X.outer X.H₀ X.s₀ E (.ref e) { s' with heap := h' } := fun {h' a0} hf up => by
    obtain ⟨u, k⟩ := c.turn o.sub (frames_nf st.frames) st.stays hf.1 up x.un x.hok o.old
    rw [hex] at u c
    refine ⟨e, C, H', rfl, hE, x.os, x.bare, u, k, x.fe, B, a0, hf, c.trk, fun b ob q n hb hx => c.old b ob q n (fun z => hb (o.old b ob q z)) hx, fun b ob q hb hx => c.all b ob q (fun z => hb (o.old b ob q z)) hx⟩
  cases st with
  | made oe vs a0 b1 b2 b3 he hc hd h1 h0 =>
    subst hc
    rw [o.top] at b2
    refine wpAny_leaving_firstW (a0 := a0) hfr b2 o.fr he b1 b3 hd h1 h0 fun h' hL => ?_
    obtain ⟨k1, ⟨_, _, k2⟩, k3, k4⟩ := hL
    exact fin ⟨k1, b3, k2, k3⟩ k4
  | fly a0 hf =>
    rw [o.top] at hf
    exact wpAny_leaves_onW hfr o.fr hf fun h' hh up => fin hh up
  | held a0 hh =>
    rw [o.top] at hh
    unfold leaving
    refine wpAny_bind (wpAny_noteFrame_againW o.fr hh.2.2.2 ?_)
    refine wpAny_landsW hh fun h' hfl up => ?_
    obtain ⟨k1, k2, ⟨_, _, k3⟩, k4⟩ := hfl
    exact fin ⟨k1, k2, k3, k4⟩ up
theorem ExcAt.come {pins : List (Addr × Obj)} {σ : St} {H : Hp} {s : Shared} {E : XK} {ev : Value} {s' : Shared} (o : Own X) (I : Inv X pins σ H s) (h : CX1 X.prog X.w X.stack H s E ev s') :
    ∃ (e : Addr) (C : Value) (H' : Hp), ev = .ref e ∧ E C none H' ∧ ExcAt X H' e C s' := by
  obtain ⟨e, C, H', rfl, hE, hos, hb, un, hok, fe, B, a0, hf, c⟩ := h
  have neL : ∀ b ob, X.s₀.heap.get? b = some ob → b ≠ X.env.locals := fun b ob q => Nat.ne_of_lt (Nat.lt_of_lt_of_le (Heap.lt_size q) I.ok.above)
  refine ⟨e, C, H', rfl, hE, hos.trans I.os, hb, ⟨fun b ob q n hb hx => ?_, fun b ob q n hb hx => ?_, fun b ob q n hx => ?_, fun b ob q hx => ?_, fun b xs q => un.tups b xs (I.base.tups b xs q), fun b ob u q => un.frzs b ob u (I.base.frzs b ob u q), fun b ps q => ?_⟩, hok, fe, B, ⟨c.trk, fun b ob q n hb hx => ?_, fun b ob q hb hx => ?_⟩, .fly a0 hf⟩
  · refine un.keep b ob (I.base.keep b ob q n hb hx) (I.base.free b ob q n hx) (fun z => ?_) (by simp)
    exact hb (o.old b ob q z)
  · obtain ⟨sl, e1⟩ := I.base.slot b ob q n hb hx
    obtain ⟨sl', e2⟩ := un.any e1 (I.base.free b ob q n hx) (by simp)
    exact ⟨sl', e2⟩
  · obtain ⟨o', e1⟩ := I.base.there b ob q hx
    exact un.free b o' e1 (I.base.free b ob q n hx) (by simp)
  · obtain ⟨o', e1⟩ := I.base.there b ob q hx
    exact un.there b o' e1 (by simp)
  · obtain ⟨m1, e1⟩ := I.base.tbls b ps q
    obtain ⟨m2, e2⟩ := un.tbls b _ e1
    exact ⟨m1 ++ m2, by rw [e2, Array.append_assoc]⟩
  · exact c.old b ob (I.base.keep b ob q n (fun z => hb (o.sub b z)) hx) (I.base.free b ob q n hx) hb (by simp)
  · obtain ⟨o', e1⟩ := I.base.there b ob q hx
    exact c.all b o' e1 hb (by simp)
end
end L2
set_option Elab.async false
set_option linter.all false
set_option maxRecDepth 100000
namespace L2
open PySem PySem.Spec PyProof.Rows
theorem PSs.wished {X : Cx} {E : Value → Shared → Prop} {st : List Stmt} {t : TS} (h : PSs (X.wish E) st t) (hE : X.Ok → ∀ ev s', E ev s' → X.xe ev s') : PSs X st t := fun pins s σ H D I hw =>
  wpAny_mono (h pins s σ H D (I.wish E) hw) (fun f s' q => q.unwish) fun ev s' q => hE I.ok ev s' q
section
variable {P : Program} {w : World} {K : PySem.W.Frag} {mg : Str → Option Value} {base : Heap}
theorem Fun.okE {x qual : Str} {st : Stmt} {f : Addr} {fd : FuncData} {N ps : List Str} {k : Nat} {sp : Sp} {cm : Bool} (F : Fun K x qual st f fd) (S : FnScope N ps (defScope st)) (len : ∀ vs H Q E, sp vs H Q E → vs.length = ps.length)
    (hbody : ∀ (cdv : Value) (A : Around) (outer : List Env) (s : Shared) (H : Hp) (vs : List V) (Q : VK) (E : XK), Room k (A.deeper (envOfC qual (defScope st) s.heap.objs.size f cdv)) cm → sp vs H Q E →
      ∃ t, PSs ((cxOf (CX1 P w) P w K mg base N qual (defScope st) f cdv A outer s H E cm).wish (XE (cxOf (CX1 P w) P w K mg base N qual (defScope st) f cdv A outer s H E cm) E)) (defBody st) t ∧ t { nx := fun _ H' => Q .non H', rt := Q } (start N vs) H) : FnOk P w K mg base (CX1 P w) (k + 1) f fd ps sp cm := by
  obtain ⟨oc, od, kV, doc, pm, an, cdv, ct, osl, rfl, lk, hcd⟩ := F.ex
  refine fn_of lk hcd S len fun A outer s H vs Q E hr hsp => ?_
  obtain ⟨t, h, q⟩ := hbody cdv A outer s H vs Q E hr hsp
  refine ⟨t, h.wished fun ok ev s' hx => ?_, q⟩
  obtain ⟨e, C, H', rfl, hE, x⟩ := hx
  exact ExcAt.leave (X := cxOf (CX1 P w) P w K mg base N qual (defScope st) f cdv A outer s H E cm) ⟨ok, rfl, rfl⟩ rfl x hE
end
theorem pass1 {X : Cx} {E E' : XK} (top : X.stack = X.env :: X.outer) (fr : X.env.frame = some X.env.locals) (h : ∀ C H', E' C none H' → E C none H') : Passes (CX1 X.prog X.w) (X.wish (XE X E)) E' := fun pins σ H s e s' I hx => by
  obtain ⟨e, C, H', rfl, hE, x⟩ := ExcAt.come (X := X) ⟨I.unwish.ok, top, fr⟩ I.unwish hx
  exact ⟨e, C, H', rfl, h C H' hE, x⟩
theorem own1 {X : Cx} {E : XK} (top : X.stack = X.env :: X.outer) (fr : X.env.frame = some X.env.locals) (ok : X.Ok) : PassesOwn (model (X.wish (XE X E)).prog (X.wish (XE X E)).w) (X.wish (XE X E)).A (X.wish (XE X E)).env (X.wish (XE X E)).xe := XE.passes (X := X) ⟨ok, top, fr⟩
theorem ObjOk.some {P : Program} {w : World} {H : Hp} {h : Heap} {a : Addr} {o : HO} (x : ObjOk P w H h a o) : ∃ ob, h.get? a = some ob := by
  induction o with
  | lst xs => obtain ⟨_, _, _, _, e⟩ := x; exact ⟨_, e⟩
  | tup xs => obtain ⟨_, _, _, ⟨ob, e, _⟩, _⟩ := x; exact ⟨_, e⟩
  | dK kvs => obtain ⟨_, _, _, _, o, _, _, e, _⟩ := x; exact ⟨_, e⟩
  | dT kvs => obtain ⟨_, _, _, _, o, _, _, e, _⟩ := x; exact ⟨_, e⟩
  | set S n => obtain ⟨ob, _, _, _, e, _⟩ := x; exact ⟨_, e⟩
  | ins C dx fs => obtain ⟨_, _, _, e, _⟩ := x; exact ⟨_, e⟩
  | own y => exact x
  | xd fs => obtain ⟨_, ⟨ob, _, _, e, _⟩, _⟩ := x; exact ⟨_, e⟩
  | rng lo hi => obtain ⟨_, _, _, e⟩ := x; exact ⟨_, e⟩
  | frz ob u _ => exact ⟨_, x.1⟩
  | tbl ps => exact ⟨_, x⟩
  | met f y => exact ⟨_, x⟩
  | ext φ => exact x.2.1
theorem ExcAt.made {X : Cx} {pins : List (Addr × Obj)} {σ : St} {H : Hp} {s : Shared} {h' : Heap} {e : Addr} {C : Value} {args : List Value} (I : Inv X pins σ H s) (m : Heap.MadeExcOf s.heap h' e C args) : ExcAt X H e C { s with heap := h' } := by
  obtain ⟨t, he, htn, ht⟩ := m.there
  have k : ∀ b ob, s.heap.get? b = some ob → h'.get? b = some ob := m.keeps
  have hnone : H e = none := by
    cases q : H e with
    | none => rfl
    | some u =>
      obtain ⟨ob, e1⟩ := (I.hok e u q).some
      rw [m.new] at e1
      cases e1
  have sub : ∀ b, b ∉ frs X.stack → b ∉ X.fs := fun b hb z => by
    rcases I.ok.stk with e | ⟨e, hf⟩
    · rw [e] at hb; exact hb z
    · rw [e] at hb
      unfold frs at hb
      rw [List.filterMap_cons, hf] at hb
      exact hb (List.mem_cons_of_mem _ z)
  refine ⟨I.os, I.bare, I.base.trans (Un.kept k), I.hok.kept k, hnone, PySem.W.hideAll s.heap (frs X.stack), ⟨fun b u q => ?_, fun b ob q n hb hx => ?_, fun b ob q hb hx => ?_⟩, ?_⟩
  · obtain ⟨ob, e1⟩ := (I.hok b u q).some
    exact ⟨ob, PySem.W.hideAll_get _ e1 fun z => by rw [I.stkFree b z] at q; cases q⟩
  · exact PySem.W.hideAll_get _ (I.base.keep b ob q n (sub b hb) hx) hb
  · obtain ⟨o', e1⟩ := I.base.there b ob q hx
    exact ⟨o', PySem.W.hideAll_get _ e1 hb⟩
  · refine .made _ _ (.ref t) (fun b ob q => k b ob (PySem.W.of_hideAll _ q)) ?_ ?_ he rfl rfl rfl rfl
    · refine (PySem.W.funFrames_hide I.stack fun env hm a ha => List.mem_filterMap.mpr ⟨env, hm, ha⟩).of_keeps fun b ob q _ => ⟨ob, k b ob q, rfl⟩
    · cases q : (PySem.W.hideAll s.heap (frs X.stack)).get? e with
      | none => rfl
      | some ob => have := PySem.W.of_hideAll _ q; rw [m.new] at this; cases this
def bmV : List Value := [.type "ValueError", .type "Exception", .type "BaseException", .type "object"]
structure ExcC (K : PySem.W.Frag) (C : Addr) : Prop where
  inn : PySem.W.excIn K C bmV "ValueError.__new__" = true
  kp : PySem.W.keepIn K (.ref C) = true
theorem ExcC.obj {K : PySem.W.Frag} {C : Addr} {h : Heap} (c : ExcC K C) (X : K.In h) : ∃ (bm : List Value) (N : Addr) (nm q : Str) (bs : List Value) (hdct : Bool) (sn : List Str) (sub : List Value) (ab : Bool) (col : Option Bool) (dd : Option Addr) (k0 k1 k2 k3 k5 : Option Value) (mN : Str → Option Value),
    h.get? C = some (excClassObj nm q C N bs bm hdct sn sub ab col dd k0 k1 k2 k3 k5 "ValueError.__new__") ∧ h.Ns N mN ∧ mN "__init__" = none ∧ OwnTail h bmV bm ∧ K.lookup C = some (excClassObj nm q C N bs bm hdct sn sub ab col dd k0 k1 k2 k3 k5 "ValueError.__new__") := by
  have q := c.inn
  unfold PySem.W.excIn at q
  split at q
  · rename_i dd cd sl ho
    split at q
    · rename_i C' bm k0 k1 k2 k3 n k5 hm hs
      simp only [Bool.and_eq_true, beq_iff_eq, Bool.not_eq_true'] at q
      obtain ⟨⟨⟨⟨⟨rfl, rfl⟩, hdel⟩, ht⟩, hok⟩, hni⟩ := q
      obtain ⟨nm, bs, mro, ns, qn, hd, sn, sub, ab, col, del⟩ := cd
      dsimp only at hm hdel hok hni
      subst hm hdel
      have hsl : sl = #[k0, k1, k2, k3, some (.builtin "ValueError.__new__"), k5] := by
        obtain ⟨l⟩ := sl
        simp only at hs
        rw [hs]
      subst hsl
      exact ⟨bm, ns, nm, qn, bs, hd, sn, sub, ab, col, dd, k0, k1, k2, k3, k5, _, X _ _ ho, .of_isNs (PySem.W.isNs_of_in X hok), PySem.W.nsMap_none_of_in X hok hni, PySem.W.tail_of_in X ht, ho⟩
    · cases q
  · cases q
def tRaise (C : Addr) (E : XK) (ta : TA) : TS := fun _ σ H => ta σ H fun vs H1 => vs.length ≤ sizeLine ∧ E (.ref C) none H1
theorem ps_raise {X : Cx} {E : XK} {C : Addr} {x : Str} {a : Expr} {args : List Expr} {np cpos pos : Pos} {ta : TA} (hc : X.calm = true) (c : ExcC X.K C) (hg : Gl (X.wish (XE X E)) x) (hm : X.mg x = some (.ref C)) (ha : PA (X.wish (XE X E)) (a :: args) ta)
    (hd : (x == ("__debug__" : Str)) = false := by decide) (he : starEach (a :: args) X.env = (false, eval a X.env) :: starEach args X.env := by rfl) (hplain : (backTo cpos (starEach args X.env)).any (·.1) = false := by rfl) :
    PS (X.wish (XE X E)) (.Raise (some (.Call (.Name x np) (a :: args) [] cpos)) none pos) (tRaise C E ta) := by
  intro pins s σ H D I hw
  obtain ⟨bm, N, nm, q, bs, hdct, sn, sub, ab, col, dd, k0, k1, k2, k3, k5, mN, hC, hn, hni, hT, hlk⟩ := c.obj I.ok.mod.kin
  have hpl : (backTo cpos (starEach (a :: args) X.env)).any (·.1) = false := by
    rw [he]
    show (false || (backTo cpos (starEach args X.env)).any (·.1)) = false
    rw [hplain]; rfl
  refine wpAny_Raise_call_subU (C := C) (mN := mN) (nm := nm) (q := q) (N := N) (bs := bs) (hdct := hdct) (sn := sn) (sub := sub) (ab := ab) (col := col) (dd := dd) (k0 := k0) (k1 := k1) (k2 := k2) (k3 := k3) (k5 := k5) (bmB := bmV) PySem.F.excBase_ValueError (by decide) PySem.F.excBase_ValueError (hT.hasType (by decide)) (I.ok.hd hc) hpl hni ?_
  refine ld_glob I hg hm ⟨rfl, ?_⟩ hd
  have hA := ha cpos pins s σ H _ I hw
  rw [show (X.wish (XE X E)).env = X.env from rfl, he] at hA
  rw [he]
  refine Calls.evalArgs_plain (thn hA fun us s1 ⟨vs, H1, I1, r, hl, hE⟩ => ?_)
  have kb : ∀ b ob, X.base.get? b = some ob → s1.heap.get? b = some ob := I1.bk
  exact ⟨rfl, by rw [← r.length]; exact hl, kb _ _ hC, hn.keeps kb, hT.keeps kb, fun h' e m => ⟨e, .ref C, H1, rfl, hE, ExcAt.made I1.unwish m⟩⟩
end L2
set_option Elab.async false
set_option linter.all false
set_option maxRecDepth 100000
namespace L2
open PySem PySem.Spec PyProof.Rows
section
variable {X : Cx} {pins : List (Addr × Obj)} {σ : St} {H H' : Hp} {s s3 : Shared} {e : Addr} {C : Value}
end
section
variable {X : Cx} {pins : List (Addr × Obj)} {σ : St} {H : Hp} {s : Shared} {e : Addr}
end
end L2
set_option Elab.async false
set_option linter.all false
set_option maxRecDepth 100000
namespace L2
open PySem PySem.Spec PyProof.Rows PySem.W PySem.Calls PySem.Builtin PySem.Builtin.ObjectAttr PySem.Builtin.Getset_descriptor
structure ClsE (K : Frag) (D : Addr) : Prop where
  ga : findIn K (.ref D) "__getattribute__" = some (some (.builtin "BaseException.__getattribute__"))
  gn : findIn K (.ref D) "__getattr__" = some none
  fd : findIn K (.ref D) "__class__" = some (some (.builtin "object.__class__"))
  sp : specialIn K (.builtin "object.__class__") "__get__" = some (some (.builtin "getset_descriptor.__get__"))
  tk : takesIn K (.builtin "object.__class__") = some true
  ob : mroIn K D (.type "object") = some true
  be : mroIn K D (.type "BaseException") = some true
end L2
set_option Elab.async false
set_option linter.all false
set_option maxRecDepth 100000
namespace L2
open PySem PySem.Spec PyProof.Rows PySem.W
section
variable {X : Cx} {k : Nat} {f : Addr} {fd : FuncData} {ps : List Str} {sp : Sp} {dvs : List V} {ds : List Value} {x : Str} {p pos : Pos} {e : Expr} {es : List Expr} {t : TA} {cm : Bool}
end
end L2
set_option Elab.async false
set_option linter.all false
set_option maxRecDepth 100000
namespace L2
open PySem PySem.Spec PyProof.Rows PySem.W
theorem ps_ok {X : Cx} {st : Stmt} {t : TS} (h : X.Ok → PS X st t) : PS X st t := fun pins s σ H D I hw => h I.ok pins s σ H D I hw
theorem pass01 {X : Cx} {P : Program} {w : World} : Passes (CX1 P w) X E0 := fun _ _ _ _ _ _ _ ⟨_, _, _, _, h, _⟩ => h.elim
theorem ownE {X : Cx} {E : XK} (ok : (X.wish (XE X E)).Ok) (top : X.stack = X.env :: X.outer := by rfl) (fr : X.env.frame = some X.env.locals := by rfl) : PassesOwn (model (X.wish (XE X E)).prog (X.wish (XE X E)).w) (X.wish (XE X E)).A (X.wish (XE X E)).env (X.wish (XE X E)).xe := own1 top fr ok.unwish
theorem passE {X : Cx} {E : XK} (top : X.stack = X.env :: X.outer := by rfl) (fr : X.env.frame = some X.env.locals := by rfl) : Passes (CX1 X.prog X.w) (X.wish (XE X E)) E := pass1 top fr fun _ _ h => h
end L2
set_option Elab.async false
set_option linter.all false
set_option maxRecDepth 100000
namespace L2
open PySem PySem.Spec PyProof.Rows
def itName : Bool → String
  | true => "tuple_iterator"
  | false => "list_iterator"
def IterAt (k : Bool) (h : Heap) (it l : Addr) (i : Nat) : Prop := ∃ o, h.get? it = some o ∧ o.cls = .type (itName k) ∧ o.data = .fields #[.ref l, .int i 0]
def SeqIs (k : Bool) (h : Heap) (l : Addr) (items : Array Value) : Prop :=
  match k with
  | true => h.IsTuple l items
  | false => h.IsList l items
theorem IterAt.kept {k : Bool} {h h' : Heap} {it l : Addr} {i : Nat} (x : IterAt k h it l i) (f : ∀ o, h.get? it = some o → h'.get? it = some o) : IterAt k h' it l i :=
  let ⟨o, e, r⟩ := x; ⟨o, f o e, r⟩
theorem IterAt.lt {k : Bool} {h : Heap} {it l : Addr} {i : Nat} (x : IterAt k h it l i) : it < h.objs.size := let ⟨_, e, _⟩ := x; Heap.lt_size e
theorem SeqIs.kept {k : Bool} {h h' : Heap} {l : Addr} {items : Array Value} (x : SeqIs k h l items) (f : ∀ o, h.get? l = some o → h'.get? l = some o) : SeqIs k h' l items := by
  cases k
  · obtain ⟨o, e, r⟩ := x; exact ⟨o, f o e, r⟩
  · obtain ⟨o, e, r⟩ := x; exact ⟨o, f o e, r⟩
theorem SeqIs.lt {k : Bool} {h : Heap} {l : Addr} {items : Array Value} (x : SeqIs k h l items) : l < h.objs.size := by
  cases k
  · obtain ⟨o, e, _⟩ := x; exact Heap.lt_size e
  · obtain ⟨o, e, _⟩ := x; exact Heap.lt_size e
section
variable {prog : Program} {w : World} {A : Around} {E : Value → Shared → Prop} {s : Shared}
theorem nextOf_tup {it l : Addr} {i : Nat} {items : Array Value} {Q : Value → Shared → Prop} (hit : s.heap.IsTupleIter it l i) (ht : s.heap.IsTuple l items)
    (h : match items[i]? with
      | some x => ∀ h', h'.IsTupleIter it l (i + 1) → Heap.SameBut it s.heap h' → Q x { s with heap := h' }
      | none => A.handled = none ∧ ∀ h' e, Heap.ExtBut it s.heap h' → (∃ o, h'.get? e = some o ∧ o.cls = .type "StopIteration") → E (.ref e) { s with heap := h' }) :
    wpAny (model prog w) A (Builtin.SmallTypes.nextOf (.ref it)) Q E s := by
  obtain ⟨oi, e1, c1, d1⟩ := id hit
  obtain ⟨ot, e2, _, m2, d2⟩ := ht
  unfold Builtin.SmallTypes.nextOf
  refine wpAny_bind (wpAny_callSpecial?_slot (name := Str.ofString "__next__") hit.typeIs F.slot_tuple_iterator_next (wpAny_call_entry F.slot_tuple_iterator_next hit.typeIs F.entry_tuple_iterator_next ?_ (F.args_tuple_iterator_next_1 _)))
  show wpAny _ _ (field (.ref it) 0 >>= _) _ _ s
  refine wpAny_bind (wpAny_field e1 d1 (x := .ref l) rfl ?_)
  show wpAny _ _ (if (Value.ref l == Value.none) = true then _ else _) _ _ s
  rw [if_neg (show ¬ ((Value.ref l == Value.none) = true) from Bool.false_ne_true)]
  show wpAny _ _ (field (.ref it) 1 >>= _) _ _ s
  refine wpAny_bind (wpAny_field e1 d1 (x := .int i 0) rfl ?_)
  show wpAny _ _ (seqItems? (.ref l) >>= _) _ _ s
  refine wpAny_bind (wpAny_seqItems e2 d2 ?_)
  cases hx : items[i]? with
  | some x =>
    rw [hx] at h
    simp only [Int.toNat_natCast, hx]
    refine wpAny_bind (wpAny_setField e1 d1 (by simp) (wpAny_pure ⟨x, rfl, wpAny_pure (h _ ?_ (Heap.SameBut.update ..))⟩))
    refine ⟨_, Heap.get?_update_self _ e1 (Obj.isFreed_of_fields (Obj.data_mapFields d1 _)), (Obj.cls_mapFields ..).trans c1, ?_⟩
    rw [Obj.data_mapFields d1]
    simp [rawInt]
  | none =>
    rw [hx] at h
    obtain ⟨hh, h⟩ := h
    simp only [Int.toNat_natCast, hx]
    refine wpAny_bind (wpAny_rule (wpAny_bind (wpAny_setField e1 d1 (by simp) ?_)))
    show wpAny _ _ (newExc (.type "StopIteration") [] >>= _) _ _ _
    refine wpAny_bind ?_
    simp only [newExc, newTuple]
    refine wpAny_bind (wpAny_newObj_type ?_ (by size_fits))
    refine wpAny_bind (m := firstArgMember _ _) (wpAny_of_eq (a := Value.none) (by first | rfl | (simp only [firstArgMember]; rfl)) ?_)
    refine wpAny_newObj_type ?_ (by size_fits)
    simp only [raiseNew]
    refine wpAny_bind (wpAny_handled ?_)
    first | rw [show A.in1.handled = none from hh] | rw [hh]
    exact wpAny_bind (wpAny_pure (wpAny_throw (h _ _ (((Heap.SameBut.update ..).extBut.push _).push _) ⟨_, Heap.get?_push_size _ rfl, rfl⟩)))
theorem nextS {k : Bool} {it l : Addr} {i : Nat} {items : Array Value} {x : Value} {Q : Value → Shared → Prop} (hit : IterAt k s.heap it l i) (hl : SeqIs k s.heap l items) (hx : items[i]? = some x)
    (hQ : ∀ h', IterAt k h' it l (i + 1) → Heap.SameBut it s.heap h' → Q x { s with heap := h' }) : wpAny (model prog w) A (Builtin.SmallTypes.nextOf (.ref it)) Q E s := by
  cases k
  · exact wpAny_nextOf_list_item hit hl hx hQ
  · exact nextOf_tup hit hl (by rw [hx]; exact hQ)
theorem endS {k : Bool} {it l : Addr} {i : Nat} {items : Array Value} {Q : Value → Shared → Prop} (hh : A.handled = none) (hit : IterAt k s.heap it l i) (hl : SeqIs k s.heap l items) (hx : items[i]? = none)
    (hE : ∀ h' e, Heap.ExtBut it s.heap h' → (∃ o, h'.get? e = some o ∧ o.cls = .type "StopIteration") → E (.ref e) { s with heap := h' }) : wpAny (model prog w) A (Builtin.SmallTypes.nextOf (.ref it)) Q E s := by
  cases k
  · exact wpAny_nextOf_list_end hh hit hl hx hE
  · exact nextOf_tup hit hl (by rw [hx]; exact ⟨hh, hE⟩)
theorem pyIterS {k : Bool} {l : Addr} {items : Array Value} {Q : Value → Shared → Prop} (hl : SeqIs k s.heap l items)
    (hQ : Q (.ref s.heap.objs.size) { s with heap := s.heap.push { cls := .type (itName k), data := .fields #[.ref l, .int 0 0] } }) : wpAny (model prog w) A (pyIter (.ref l)) Q E s := by
  cases k
  · exact wpAny_pyIter_list hl hQ
  · exact wpAny_pyIter_tuple hl hQ
structure ZipAt (k1 k2 : Bool) (h : Heap) (z TI TO i1 i2 l1 l2 : Addr) (f0 : Value) (j1 j2 : Nat) : Prop where
  zz : IsZip h z TI TO f0
  ti : IsPair h TI (.ref i1) (.ref i2)
  tO : ∃ a b, IsPair h TO a b
  a1 : IterAt k1 h i1 l1 j1
  a2 : IterAt k2 h i2 l2 j2
theorem ZipAt.kept {k1 k2 : Bool} {h h' : Heap} {z TI TO i1 i2 l1 l2 : Addr} {f0 : Value} {j1 j2 : Nat} (x : ZipAt k1 k2 h z TI TO i1 i2 l1 l2 f0 j1 j2) (f : ∀ b ∈ [z, TI, TO, i1, i2], ∀ o, h.get? b = some o → h'.get? b = some o) :
    ZipAt k1 k2 h' z TI TO i1 i2 l1 l2 f0 j1 j2 := by
  obtain ⟨a, b, ⟨c, d, e⟩, p, q⟩ := x
  exact ⟨f z (by simp) _ a, f TI (by simp) _ b, ⟨c, d, f TO (by simp) _ e⟩, p.kept (f i1 (by simp)), q.kept (f i2 (by simp))⟩
theorem zip_item {k1 k2 : Bool} {z TI TO i1 i2 l1 l2 : Addr} {j1 j2 : Nat} {xs ys : Array Value} {x y : Value} {Q : Value → Shared → Prop} (D : ZipApart z TI TO i1 i2 l1 l2) (Z : ZipAt k1 k2 s.heap z TI TO i1 i2 l1 l2 .none j1 j2)
    (b1 : SeqIs k1 s.heap l1 xs) (b2 : SeqIs k2 s.heap l2 ys) (hx : xs[j1]? = some x) (hy : ys[j2]? = some y)
    (hQ : ∀ h', ZipAt k1 k2 h' z TI TO i1 i2 l1 l2 (rawInt s.heap.objs.size) (j1 + 1) (j2 + 1) → IsPair h' s.heap.objs.size x y → (∀ c o, c ∉ [z, TO, i1, i2] → s.heap.get? c = some o → h'.get? c = some o) → Q (.ref s.heap.objs.size) { s with heap := h' }) :
    wpAny (model prog w) A (Builtin.«zip.__next__» ⟨[.ref z], []⟩) (fun fin s' => ∃ v, fin = .done (.ret v) ∧ Q v s') E s := by
  obtain ⟨g0, g1, ⟨oa, ob, g2⟩, p1, p2⟩ := Z
  show wpAny _ _ (field (.ref z) 2 >>= _) _ _ _
  refine wpAny_bind (wpAny_field g0 rfl (x := .bool false) rfl ?_)
  show wpAny _ _ (field (.ref z) 3 >>= _) _ _ _
  refine wpAny_bind (wpAny_field g0 rfl (x := .ref TI) rfl ?_)
  refine wpAny_bind (wpAny_seqItems g1 rfl ?_)
  show wpAny _ _ (Builtin.SmallTypes.ownedTupleIsFree (.ref z) >>= _) _ _ _
  refine wpAny_bind ?_
  unfold Builtin.SmallTypes.ownedTupleIsFree
  refine wpAny_bind (wpAny_field g0 rfl (x := .none) rfl (wpAny_pure ?_))
  simp only [if_true]
  refine wpAny_bind (wpAny_rule ?_)
  refine wpAny_bind (wpAny_field g0 rfl (x := .ref TO) rfl ?_)
  refine wpAny_bind (wpAny_setField_rec g0 (by simp) fun ha za sa => ?_)
  replace za : IsZip ha z TI TO .ellipsis := za
  refine wpAny_bind ?_
  simp only [List.zipIdx_cons, List.zipIdx_nil, List.forIn_cons, List.forIn_nil]
  refine wpAny_bind (wpAny_bind (wpAny_onRaise ?_))
  show wpAny _ _ (Builtin.SmallTypes.nextOf (.ref i1) >>= _) _ _ _
  refine wpAny_bind (nextS (p1.kept fun o e => sa.extBut _ _ D.i1z e) (b1.kept fun o e => sa.extBut _ _ D.l1z e) hx fun hb p1b sb => wpAny_pure ?_)
  have t2 : IsPair hb TO oa ob := sb.extBut _ _ D.TOi1 (sa.extBut _ _ D.TOz g2)
  refine wpAny_bind (wpAny_seqItems t2 rfl ?_)
  refine wpAny_bind (wpAny_updateSeq_pair t2 fun hc t3 sc => ?_)
  replace t3 : IsPair hc TO x ob := t3
  refine wpAny_bind (wpAny_letGo (wpAny_pure ?_))
  refine wpAny_bind (wpAny_bind (wpAny_onRaise ?_))
  show wpAny _ _ (Builtin.SmallTypes.nextOf (.ref i2) >>= _) _ _ _
  refine wpAny_bind (nextS (p2.kept fun o e => sc.extBut _ _ D.TOi2.symm (sb.extBut _ _ D.i12.symm (sa.extBut _ _ D.i2z e))) (b2.kept fun o e => sc.extBut _ _ D.l2TO (sb.extBut _ _ D.l2i1 (sa.extBut _ _ D.l2z e))) hy fun hd p2d sd => wpAny_pure ?_)
  have t4 : IsPair hd TO x ob := sd.extBut _ _ D.TOi2 t3
  refine wpAny_bind (wpAny_seqItems t4 rfl ?_)
  refine wpAny_bind (wpAny_updateSeq_pair t4 fun he t5 se => ?_)
  replace t5 : IsPair he TO x y := t5
  refine wpAny_bind (wpAny_letGo (wpAny_pure (wpAny_pure ?_)))
  refine wpAny_bind (wpAny_seqItems t5 rfl ?_)
  refine wpAny_bind (wpAny_newTuple ?_)
  have size : he.objs.size = s.heap.objs.size := by rw [se.1, sd.1, sc.1, sb.1, sa.1]
  have ze : IsZip he z TI TO .ellipsis := se.extBut _ _ D.TOz.symm (sd.extBut _ _ D.i2z.symm (sc.extBut _ _ D.TOz.symm (sb.extBut _ _ D.i1z.symm za)))
  have ke : ∀ c o, c ∉ [z, TO, i1, i2] → s.heap.get? c = some o → he.get? c = some o := fun c o n e => by
    simp only [List.mem_cons, List.not_mem_nil, or_false, not_or] at n
    exact se.extBut _ _ n.2.1 (sd.extBut _ _ n.2.2.2 (sc.extBut _ _ n.2.1 (sb.extBut _ _ n.2.2.1 (sa.extBut _ _ n.1 e))))
  have q1 : IterAt k1 he i1 l1 (j1 + 1) := p1b.kept fun o e => se.extBut _ _ D.TOi1.symm (sd.extBut _ _ D.i12 (sc.extBut _ _ D.TOi1.symm e))
  have q2 : IterAt k2 he i2 l2 (j2 + 1) := p2d.kept fun o e => se.extBut _ _ D.TOi2.symm e
  have tie : IsPair he TI (.ref i1) (.ref i2) := se.extBut _ _ D.TITO (sd.extBut _ _ D.TIi2 (sc.extBut _ _ D.TITO (sb.extBut _ _ D.TIi1 (sa.extBut _ _ D.TIz g1))))
  have zlt : z < he.objs.size := Heap.lt_size ze
  show wpAny _ _ (Builtin.SmallTypes.ownedTupleHandOut (.ref z) (.ref he.objs.size) >>= _) _ _ _
  refine wpAny_bind ?_
  unfold Builtin.SmallTypes.ownedTupleHandOut
  have zf : IsZip (he.push { cls := .type "tuple", data := .seq #[x, y] }) z TI TO .ellipsis := Heap.get?_push_of_some _ ze
  refine wpAny_bind (wpAny_setField_rec zf (by simp) fun hg zg sg => ?_)
  replace zg : IsZip hg z TI TO (rawInt he.objs.size) := zg
  refine wpAny_setField_rec zg (by simp) fun hn zn sn => ?_
  replace zn : IsZip hn z TI TO (rawInt he.objs.size) := zn
  have up : ∀ c o, c ≠ z → he.get? c = some o → hn.get? c = some o := fun c o n e => sn.extBut _ _ n (sg.extBut _ _ n (Heap.get?_push_of_some _ e))
  have tn : IsPair hn he.objs.size x y := sn.extBut _ _ (Nat.ne_of_gt zlt) (sg.extBut _ _ (Nat.ne_of_gt zlt) (Heap.get?_push_size _ rfl))
  rw [size] at zn tn
  refine wpAny_pure ⟨_, rfl, ?_⟩
  show Q (.ref he.objs.size) _
  rw [size]
  refine hQ hn ⟨zn, up _ _ D.TIz tie, ⟨_, _, up _ _ D.TOz t5⟩, q1.kept fun o e => up _ _ D.i1z e, q2.kept fun o e => up _ _ D.i2z e⟩ tn fun c o n e => up c o (fun z => n (by simp [z])) (ke c o n e)
theorem zip_end {k1 k2 : Bool} {z TI TO i1 i2 l1 l2 : Addr} {j1 j2 : Nat} {xs ys : Array Value} {Q : Fin → Shared → Prop} (hh : A.handled = none) (D : ZipApart z TI TO i1 i2 l1 l2) (Z : ZipAt k1 k2 s.heap z TI TO i1 i2 l1 l2 .none j1 j2)
    (b1 : SeqIs k1 s.heap l1 xs) (b2 : SeqIs k2 s.heap l2 ys) (hend : xs[j1]? = none ∨ ys[j2]? = none)
    (hE : ∀ h' e, (∀ c o, c ∉ [z, TO, i1, i2] → s.heap.get? c = some o → h'.get? c = some o) → (∃ o, h'.get? e = some o ∧ o.cls = .type "StopIteration") → E (.ref e) { s with heap := h' }) :
    wpAny (model prog w) A (Builtin.«zip.__next__» ⟨[.ref z], []⟩) Q E s := by
  obtain ⟨g0, g1, ⟨oa, ob, g2⟩, p1, p2⟩ := Z
  show wpAny _ _ (field (.ref z) 2 >>= _) _ _ _
  refine wpAny_bind (wpAny_field g0 rfl (x := .bool false) rfl ?_)
  show wpAny _ _ (field (.ref z) 3 >>= _) _ _ _
  refine wpAny_bind (wpAny_field g0 rfl (x := .ref TI) rfl ?_)
  refine wpAny_bind (wpAny_seqItems g1 rfl ?_)
  show wpAny _ _ (Builtin.SmallTypes.ownedTupleIsFree (.ref z) >>= _) _ _ _
  refine wpAny_bind ?_
  unfold Builtin.SmallTypes.ownedTupleIsFree
  refine wpAny_bind (wpAny_field g0 rfl (x := .none) rfl (wpAny_pure ?_))
  simp only [if_true]
  refine wpAny_bind (wpAny_rule ?_)
  refine wpAny_bind (wpAny_field g0 rfl (x := .ref TO) rfl ?_)
  refine wpAny_bind (wpAny_setField_rec g0 (by simp) fun ha za sa => ?_)
  replace za : IsZip ha z TI TO .ellipsis := za
  refine wpAny_bind ?_
  simp only [List.zipIdx_cons, List.zipIdx_nil, List.forIn_cons, List.forIn_nil]
  refine wpAny_bind (wpAny_bind (wpAny_onRaise ?_))
  show wpAny _ _ (Builtin.SmallTypes.nextOf (.ref i1) >>= _) _ _ _
  cases hx : xs[j1]? with
  | none =>
    refine wpAny_bind (endS hh (p1.kept fun o e => sa.extBut _ _ D.i1z e) (b1.kept fun o e => sa.extBut _ _ D.l1z e) hx fun hb e sb te => ?_)
    obtain ⟨oe, e1, e2⟩ := te
    have zb : IsZip hb z TI TO .ellipsis := sb _ _ D.i1z.symm za
    have nez : e ≠ z := fun q => by subst q; rw [zb] at e1; cases e1; simp at e2
    refine wpAny_setField_rec zb (by simp) fun hc _ sc => hE hc e (fun c o n q => ?_) ⟨oe, sc.extBut _ _ nez e1, e2⟩
    simp only [List.mem_cons, List.not_mem_nil, or_false, not_or] at n
    exact sc.extBut _ _ n.1 (sb _ _ n.2.2.1 (sa.extBut _ _ n.1 q))
  | some x =>
    have hy : ys[j2]? = none := hend.resolve_left (by rw [hx]; intro q; cases q)
    refine wpAny_bind (nextS (p1.kept fun o e => sa.extBut _ _ D.i1z e) (b1.kept fun o e => sa.extBut _ _ D.l1z e) hx fun hb p1b sb => wpAny_pure ?_)
    have t2 : IsPair hb TO oa ob := sb.extBut _ _ D.TOi1 (sa.extBut _ _ D.TOz g2)
    refine wpAny_bind (wpAny_seqItems t2 rfl ?_)
    refine wpAny_bind (wpAny_updateSeq_pair t2 fun hc t3 sc => ?_)
    refine wpAny_bind (wpAny_letGo (wpAny_pure ?_))
    refine wpAny_bind (wpAny_bind (wpAny_onRaise ?_))
    show wpAny _ _ (Builtin.SmallTypes.nextOf (.ref i2) >>= _) _ _ _
    refine wpAny_bind (endS hh (p2.kept fun o e => sc.extBut _ _ D.TOi2.symm (sb.extBut _ _ D.i12.symm (sa.extBut _ _ D.i2z e))) (b2.kept fun o e => sc.extBut _ _ D.l2TO (sb.extBut _ _ D.l2i1 (sa.extBut _ _ D.l2z e))) hy fun hd e sd te => ?_)
    obtain ⟨oe, e1, e2⟩ := te
    have zd : IsZip hd z TI TO .ellipsis := sd _ _ D.i2z.symm (sc.extBut _ _ D.TOz.symm (sb.extBut _ _ D.i1z.symm za))
    have nez : e ≠ z := fun q => by subst q; rw [zd] at e1; cases e1; simp at e2
    refine wpAny_setField_rec zd (by simp) fun he _ se => hE he e (fun c o n q => ?_) ⟨oe, se.extBut _ _ nez e1, e2⟩
    simp only [List.mem_cons, List.not_mem_nil, or_false, not_or] at n
    exact se.extBut _ _ n.1 (sd _ _ n.2.2.2 (sc.extBut _ _ n.2.1 (sb.extBut _ _ n.2.2.1 (sa.extBut _ _ n.1 q))))
theorem pyNext_zip {k1 k2 : Bool} {z TI TO i1 i2 l1 l2 : Addr} {j1 j2 : Nat} {xs ys : Array Value} {x y : Value} {Q : Option Value → Shared → Prop} (D : ZipApart z TI TO i1 i2 l1 l2) (Z : ZipAt k1 k2 s.heap z TI TO i1 i2 l1 l2 .none j1 j2)
    (b1 : SeqIs k1 s.heap l1 xs) (b2 : SeqIs k2 s.heap l2 ys) (hx : xs[j1]? = some x) (hy : ys[j2]? = some y)
    (hQ : ∀ h', ZipAt k1 k2 h' z TI TO i1 i2 l1 l2 (rawInt s.heap.objs.size) (j1 + 1) (j2 + 1) → IsPair h' s.heap.objs.size x y → (∀ c o, c ∉ [z, TO, i1, i2] → s.heap.get? c = some o → h'.get? c = some o) → Q (some (.ref s.heap.objs.size)) { s with heap := h' }) :
    wpAny (model prog w) A (pyNext (.ref z)) Q E s := by
  have ty : s.TypeIs (.ref z) "zip" := ⟨_, Z.zz, rfl⟩
  unfold pyNext
  exact wpAny_bind (wpAny_attempt (wpAny_callSpecial?_slot (name := Str.ofString "__next__") ty F.slot_zip_next (wpAny_call_entry F.slot_zip_next ty F.entry_zip_next (zip_item D Z b1 b2 hx hy fun h' r1 r2 r3 => wpAny_pure (hQ h' r1 r2 r3)) (F.args_zip_next_1 _))))
theorem pyNext_zipEnd {k1 k2 : Bool} {z TI TO i1 i2 l1 l2 : Addr} {j1 j2 : Nat} {xs ys : Array Value} {Q : Option Value → Shared → Prop} (hh : A.handled = none) (D : ZipApart z TI TO i1 i2 l1 l2) (Z : ZipAt k1 k2 s.heap z TI TO i1 i2 l1 l2 .none j1 j2)
    (b1 : SeqIs k1 s.heap l1 xs) (b2 : SeqIs k2 s.heap l2 ys) (hend : xs[j1]? = none ∨ ys[j2]? = none)
    (hQ : ∀ h', (∀ c o, c ∉ [z, TO, i1, i2] → s.heap.get? c = some o → h'.get? c = some o) → Q none { s with heap := h' }) : wpAny (model prog w) A (pyNext (.ref z)) Q E s := by
  have ty : s.TypeIs (.ref z) "zip" := ⟨_, Z.zz, rfl⟩
  unfold pyNext
  refine wpAny_bind (wpAny_attempt (wpAny_callSpecial?_slot (name := Str.ofString "__next__") ty F.slot_zip_next (wpAny_call_entry F.slot_zip_next ty F.entry_zip_next (zip_end hh D Z b1 b2 hend fun h' e hk he => ?_) (F.args_zip_next_1 _))))
  obtain ⟨o, e1, e2⟩ := he
  exact wpAny_bind (wpAny_isInstance (T := "StopIteration") (b := true) ⟨o, e1, e2⟩ isSubtype_stop (wpAny_pure (hQ _ hk)))
end
def zH1 (k1 : Bool) (h : Heap) (l1 : Addr) : Heap := h.push { cls := .type (itName k1), data := .fields #[.ref l1, .int 0 0] }
def zH2 (k1 k2 : Bool) (h : Heap) (l1 l2 : Addr) : Heap := (zH1 k1 h l1).push { cls := .type (itName k2), data := .fields #[.ref l2, .int 0 0] }
def zH3 (k1 k2 : Bool) (h : Heap) (l1 l2 : Addr) : Heap := (zH2 k1 k2 h l1 l2).push { cls := .type "tuple", data := .seq #[.ref h.objs.size, .ref (zH1 k1 h l1).objs.size] }
def zH4 (k1 k2 : Bool) (h : Heap) (l1 l2 : Addr) : Heap := (zH3 k1 k2 h l1 l2).push { cls := .type "tuple", data := .seq #[.none, .none] }
def zH5 (k1 k2 : Bool) (h : Heap) (l1 l2 : Addr) : Heap := (zH4 k1 k2 h l1 l2).push { cls := .type "zip", data := .fields #[.none, .bool false, .bool false, .ref (zH2 k1 k2 h l1 l2).objs.size, .ref (zH3 k1 k2 h l1 l2).objs.size] }
theorem zip_new_meets (k1 k2 : Bool) (l1 l2 : Addr) (xs ys : Array Value) :
    Meets (Builtin.«zip.__new__» ⟨[.type "zip", .ref l1, .ref l2], []⟩) (fun _ R s => SeqIs k1 s.heap l1 xs ∧ SeqIs k2 s.heap l2 ys ∧ R (.ok (.ret (.ref (zH4 k1 k2 s.heap l1 l2).objs.size))) { s with heap := zH5 k1 k2 s.heap l1 l2 }) :=
  .of_wp fun prog w A R s h => by
    obtain ⟨hp, gn, dr, tk, os⟩ := s
    obtain ⟨q1, q2, h⟩ := h
    have hsub := sub_zip
    have r1 : SeqIs k1 (Shared.heap ⟨hp, gn, dr, tk, os⟩) l1 xs := q1
    have r2 : SeqIs k2 (Shared.heap ⟨hp.push { cls := .type (itName k1), data := .fields #[.ref l1, .int 0 0] }, gn, dr, tk, os⟩) l2 ys := SeqIs.kept q2 fun o e => Heap.get?_push_of_some _ e
    wp_walk using pyIterS r1, pyIterS r2
    exact ⟨_, rfl, h⟩
section
variable {prog : Program} {w : World} {A : Around} {E : Value → Shared → Prop} {s : Shared}
theorem call_zip {k1 k2 : Bool} {l1 l2 : Addr} {xs ys : Array Value} {Q : Value → Shared → Prop} (b1 : SeqIs k1 s.heap l1 xs) (b2 : SeqIs k2 s.heap l2 ys)
    (hQ : ∀ h', ZipAt k1 k2 h' (s.heap.objs.size + 4) (s.heap.objs.size + 2) (s.heap.objs.size + 3) s.heap.objs.size (s.heap.objs.size + 1) l1 l2 .none 0 0 → (∀ c o, s.heap.get? c = some o → h'.get? c = some o) → Q (.ref (s.heap.objs.size + 4)) { s with heap := h' }) :
    wpAny (model prog w) A (call (.type "zip") [.ref l1, .ref l2]) Q E s := by
  refine callType_new F.called_zip (by decide) (F.typeCall_zip_2 _ _) (F.newCall_zip_2 _ _) (fun obj => F.args_object_init_3 obj _ _) F.entry_zip_new (zip_new_meets k1 k2 l1 l2 xs ys) ⟨b1, b2, ?_⟩
  have n1 : (zH1 k1 s.heap l1).objs.size = s.heap.objs.size + 1 := Heap.size_push ..
  have n2 : (zH2 k1 k2 s.heap l1 l2).objs.size = s.heap.objs.size + 2 := by unfold zH2; rw [Heap.size_push, n1]
  have n3 : (zH3 k1 k2 s.heap l1 l2).objs.size = s.heap.objs.size + 3 := by unfold zH3; rw [Heap.size_push, n2]
  have n4 : (zH4 k1 k2 s.heap l1 l2).objs.size = s.heap.objs.size + 4 := by unfold zH4; rw [Heap.size_push, n3]
  have f5 : (zH5 k1 k2 s.heap l1 l2).get? (zH4 k1 k2 s.heap l1 l2).objs.size = some _ := Heap.get?_push_size _ rfl
  have f4 : (zH5 k1 k2 s.heap l1 l2).get? (zH3 k1 k2 s.heap l1 l2).objs.size = some _ := Heap.get?_push_of_some _ (Heap.get?_push_size _ rfl)
  have f3 : (zH5 k1 k2 s.heap l1 l2).get? (zH2 k1 k2 s.heap l1 l2).objs.size = some _ := Heap.get?_push_of_some _ (Heap.get?_push_of_some _ (Heap.get?_push_size _ rfl))
  have f2 : (zH5 k1 k2 s.heap l1 l2).get? (zH1 k1 s.heap l1).objs.size = some _ := Heap.get?_push_of_some _ (Heap.get?_push_of_some _ (Heap.get?_push_of_some _ (Heap.get?_push_size _ rfl)))
  have f1 : (zH5 k1 k2 s.heap l1 l2).get? s.heap.objs.size = some _ := Heap.get?_push_of_some _ (Heap.get?_push_of_some _ (Heap.get?_push_of_some _ (Heap.get?_push_of_some _ (Heap.get?_push_size _ rfl))))
  show _ ∧ _
  rw [n2, n3, n4] at f5
  rw [n1, n2] at f3
  rw [n3] at f4
  rw [n1] at f2
  rw [n4]
  exact ⟨⟨_, f5, rfl⟩, hQ _ ⟨f5, f3, ⟨_, _, f4⟩, ⟨_, f1, rfl, rfl⟩, ⟨_, f2, rfl, rfl⟩⟩ fun c o e => Heap.get?_push_of_some _ (Heap.get?_push_of_some _ (Heap.get?_push_of_some _ (Heap.get?_push_of_some _ (Heap.get?_push_of_some _ e))))⟩
end
end L2
set_option Elab.async false
set_option linter.all false
set_option maxRecDepth 100000
namespace L2
open PySem PySem.Spec PyProof.Rows
section
variable {X : Cx} {pins : List (Addr × Obj)} {σ : St} {H : Hp} {s : Shared} {h' : Heap}
theorem Inv.turnedL {t' : Nat} {ch : List Addr} (I : Inv X pins σ H s) (hf : ∀ b ∈ ch, FpOk X pins H b) (k : ∀ b o, b ∉ ch → s.heap.get? b = some o → h'.get? b = some o) : Inv X pins σ H { s with heap := h', toks := t' } := by
  have nch : ∀ b u, H b = some u → b ∉ ch := fun b u e z => by rw [(hf b z).1] at e; cases e
  refine I.step (g' := s.gens) (d' := s.drawn) (ch := ch) (fun b hb => ⟨(hf b hb).2.2.2.1, (hf b hb).2.1, (hf b hb).2.2.2.2.1, (hf b hb).2.2.2.2.2⟩) (fun b o _ _ hc e _ => k b o hc e) (fun b o _ _ hc e _ => ⟨o.slots, k b o hc e⟩) (fun _ _ _ _ n => n)
    (fun b o hc e => ⟨o, k b o hc e⟩) (fun _ _ e => e) (fun _ _ _ e => e) (fun b ps e => ⟨#[], by rw [e]; simp⟩) (fun m hm => ?_) (fun b u e => ?_) I.bare
  · obtain ⟨o, es, ep, ho, r⟩ := hm
    exact ⟨o, es, ep, k _ o (fun z => (hf _ z).2.1 rfl) ho, r⟩
  · refine (I.hok b u e).stay (fun c v hc q => k c v ?_ q) (fun _ q => q) fun _ _ q => q
    rcases hc with z | z
    · rw [z]; exact nch b u e
    · exact nch c _ z
theorem Inv.turnedN {t' : Nat} {ch : List Addr} {T : Addr} {o : HO} (I : Inv X pins σ H s) (hf : ∀ b ∈ ch, FpOk X pins H b) (k : ∀ b o, b ∉ ch → s.heap.get? b = some o → h'.get? b = some o) (hT : s.heap.objs.size ≤ T)
    (new : ObjOk X.prog X.w (upd H T o) h' T o) : Inv X pins σ (upd H T o) { s with heap := h', toks := t' } := by
  have nch : ∀ b u, H b = some u → b ∉ ch := fun b u e z => by rw [(hf b z).1] at e; cases e
  have hn : H T = none := I.hok.fresh hT
  refine I.step (g' := s.gens) (d' := s.drawn) (ch := ch) (fun b hb => ⟨(hf b hb).2.2.2.1, (hf b hb).2.1, (hf b hb).2.2.2.2.1, (hf b hb).2.2.2.2.2⟩) (fun b o _ _ hc e _ => k b o hc e) (fun b o _ _ hc e _ => ⟨o.slots, k b o hc e⟩)
    (fun b u _ e n => by rw [upd_ne (Nat.ne_of_lt (Nat.lt_of_lt_of_le (Heap.lt_size e) hT))]; exact n)
    (fun b o hc e => ⟨o, k b o hc e⟩) (fun b xs e => by rw [upd_ne (ne_of_none e hn)]; exact e) (fun b u xs e => by rw [upd_ne (ne_of_none e hn)]; exact e) (fun b ps e => ⟨#[], by rw [upd_ne (ne_of_none e hn), e]; simp⟩) (fun m hm => ?_) (fun b u e => ?_) I.bare
  · obtain ⟨o, es, ep, ho, r⟩ := hm
    exact ⟨o, es, ep, k _ o (fun z => (hf _ z).2.1 rfl) ho, r⟩
  · by_cases hb : b = T
    · subst hb; rw [upd_same] at e; cases e; exact new
    · rw [upd_ne hb] at e
      refine (I.hok b u e).stay (fun c v hc q => k c v ?_ q) (fun c q => by rw [upd_ne (ne_of_none q hn)]; exact q) fun c xs q => by rw [upd_ne (ne_of_none q hn)]; exact q
      rcases hc with z | z
      · rw [z]; exact nch b u e
      · exact nch c _ z
end
def Sq (k : Bool) (K : PySem.W.Frag) (H : Hp) (a : Addr) (xs : List V) : Prop :=
  match k with
  | true => SqT K H a xs
  | false => SqL K H a xs
theorem Inv.sq {X : Cx} {pins : List (Addr × Obj)} {σ : St} {H : Hp} {s : Shared} {k : Bool} {a : Addr} {xs : List V} (I : Inv X pins σ H s) (h : Sq k X.K H a xs) : ∃ its : List Value, Vals xs its ∧ SeqIs k s.heap a its.toArray ∧ xs.length ≤ sizeLine := by
  cases k
  · obtain ⟨its, r, p, z⟩ := I.list h
    exact ⟨its, r, p.isList, z⟩
  · exact I.tuple h
theorem Inv.sq_inj {X : Cx} {pins : List (Addr × Obj)} {σ : St} {H : Hp} {s : Shared} {k : Bool} {a : Addr} {xs ys : List V} (I : Inv X pins σ H s) (h : Sq k X.K H a xs) (h' : Sq k X.K H a ys) : xs = ys := by
  cases k
  · exact I.list_inj h h'
  · exact I.tuple_inj h h'
def Itz (K : PySem.W.Frag) (k1 k2 : Bool) (a b : Addr) : It :=
  ⟨fun i H => ∃ xs ys x y, Sq k1 K H a xs ∧ Sq k2 K H b ys ∧ xs[i]? = some x ∧ ys[i]? = some y,
   fun i H v H' => ∃ T x y, H T = none ∧ v = .ref T ∧ H' = upd H T (.tup [x, y]) ∧ (∀ xs, Sq k1 K H a xs → xs[i]? = some x) ∧ ∀ ys, Sq k2 K H b ys → ys[i]? = some y,
   fun i H => ∃ xs ys, Sq k1 K H a xs ∧ Sq k2 K H b ys ∧ (xs.length ≤ i ∨ ys.length ≤ i)⟩
theorem pair_ok {P : Program} {w : World} {H : Hp} {h : Heap} {T : Addr} {x y : V} {u v : Value} (r1 : RelV x u) (r2 : RelV y v) (e : IsPair h T u v) : ObjOk P w H h T (.tup [x, y]) := by
  refine ⟨by show 2 ≤ sizeLine; decide, [u, v], .cons r1 (.cons r2 .nil), ⟨_, e, rfl, _, rfl⟩, fun o q => ?_⟩
  rw [e] at q
  cases q
  rfl
theorem turn_zip {P : Program} {w : World} {K : PySem.W.Frag} {elts : List Expr} {x1 : Nat} {pos : Pos} (k1 k2 : Bool) (a b z TI TO i1 i2 : Addr) (D : ZipApart z TI TO i1 i2 a b) :
    Turn P w K (.Tuple elts x1 pos) (Itz K k1 k2 a b) [z, TI, TO, i1, i2] z (fun i h => ZipAt k1 k2 h z TI TO i1 i2 a b .none i i) where
  mem := by simp
  obj := fun i h st c hc => by
    obtain ⟨g0, g1, ⟨oa, ob, g2⟩, ⟨o1, e1, _, d1⟩, ⟨o2, e2, _, d2⟩⟩ := st
    simp only [List.mem_cons, List.not_mem_nil, or_false] at hc
    rcases hc with rfl | rfl | rfl | rfl | rfl
    · exact ⟨_, g0, fun v q => by cases q⟩
    · exact ⟨_, g1, fun v q => by cases q⟩
    · exact ⟨_, g2, fun v q => by cases q⟩
    · exact ⟨_, e1, fun v q => by rw [d1] at q; cases q⟩
    · exact ⟨_, e2, fun v q => by rw [d2] at q; cases q⟩
  keep := fun i h h' st k => st.kept k
  item := by
    intro X hP hw hK hc i pins s σ H E I hf st hg
    subst hP hw hK
    obtain ⟨xs, ys, x, y, hq1, hq2, hx, hy⟩ := hg
    obtain ⟨us, rv1, p1, _⟩ := I.sq hq1
    obtain ⟨ws, rv2, p2, _⟩ := I.sq hq2
    obtain ⟨u, hu, ru⟩ := rv1.get hx
    obtain ⟨v, hv, rv⟩ := rv2.get hy
    refine pyNext_zip D st p1 p2 (x := u) (y := v) (by simpa using hu) (by simpa using hv) fun h' st' tp kk => ⟨_, rfl, ?_⟩
    refine wpAny_letOwnedTupleGo_zip st'.zz fun h2 hz2 sb => ?_
    have up : ∀ c o, c ≠ z → h'.get? c = some o → h2.get? c = some o := fun c o n e => (sb.2 c n).trans e
    have lt : z < s.heap.objs.size := Heap.lt_size st.zz
    have tp2 : IsPair h2 s.heap.objs.size u v := up _ _ (Nat.ne_of_gt lt) tp
    have I1 : Inv X pins σ (upd H s.heap.objs.size (.tup [x, y])) { s with heap := h2 } := I.turnedN (t' := s.toks) (ch := [z, TI, TO, i1, i2]) hf (fun c o n e => up c o (fun q => n (by simp [q])) (kk c o (fun q => n (by
      simp only [List.mem_cons, List.not_mem_nil, or_false] at q ⊢
      rcases q with q | q | q | q <;> simp [q])) e)) (Nat.le_refl _) (pair_ok ru rv tp2)
    refine ⟨.ref s.heap.objs.size, _, I1, rfl, ⟨_, x, y, I.hok.fresh (Nat.le_refl _), rfl, rfl, fun xs' h => by rw [I.sq_inj h hq1]; exact hx, fun ys' h => by rw [I.sq_inj h hq2]; exact hy⟩,
      ⟨hz2, up _ _ D.TIz st'.ti, ?_, st'.a1.kept (fun o e => up _ _ D.i1z e), st'.a2.kept fun o e => up _ _ D.i2z e⟩, fun c hc => ?_⟩
    · obtain ⟨oa, ob, e⟩ := st'.tO
      exact ⟨oa, ob, up _ _ D.TOz e⟩
    · have hlt : c < s.heap.objs.size := by
        obtain ⟨g0, g1, ⟨oa, ob, g2⟩, ⟨o1, e1, _, d1⟩, ⟨o2, e2, _, d2⟩⟩ := st
        simp only [List.mem_cons, List.not_mem_nil, or_false] at hc
        rcases hc with rfl | rfl | rfl | rfl | rfl
        · exact Heap.lt_size g0
        · exact Heap.lt_size g1
        · exact Heap.lt_size g2
        · exact Heap.lt_size e1
        · exact Heap.lt_size e2
      rw [upd_ne (Nat.ne_of_lt hlt)]
      exact (hf c hc).1
  done := by
    intro X hP hw hK hc i pins s σ H E I hf st hg
    subst hP hw hK
    obtain ⟨xs, ys, hq1, hq2, hend⟩ := hg
    obtain ⟨us, rv1, p1, _⟩ := I.sq hq1
    obtain ⟨ws, rv2, p2, _⟩ := I.sq hq2
    have l1 := rv1.length
    have l2 := rv2.length
    refine pyNext_zipEnd (I.ok.hd hc) D st p1 p2 ?_ fun h' kk => ⟨rfl, I.turnedL (t' := s.toks) (ch := [z, TI, TO, i1, i2]) hf fun c o n e => kk c o (fun q => n (by
      simp only [List.mem_cons, List.not_mem_nil, or_false] at q ⊢
      rcases q with q | q | q | q <;> simp [q])) e⟩
    rcases hend with q | q
    · exact .inl (by simp; omega)
    · exact .inr (by simp; omega)
  self := fun _ _ _ _ _ st h => wpAny_pyIter_zip st.zz h
section
variable {X : Cx} {elts : List Expr} {x1 : Nat} {tpos : Pos}
def iZip (K : PySem.W.Frag) (k1 k2 : Bool) (ta : TA) : TI := fun σ H R => ta σ H fun vs H1 => ∃ a b, vs = [.ref a, .ref b] ∧ (∃ xs, Sq k1 K H1 a xs) ∧ (∃ ys, Sq k2 K H1 b ys) ∧ R (Itz K k1 k2 a b) H1
theorem pi_zip (k1 k2 : Bool) {a b : Expr} {ta : TA} {p pos : Pos} (hg : Gl X "zip") (hm : X.mg "zip" = none) (ha : PA X [a, b] ta) (hs : starEach [a, b] X.env = [(false, eval a X.env), (false, eval b X.env)] := by rfl) (hs2 : starEach [b] X.env = [(false, eval b X.env)] := by rfl) :
    PI X (.Tuple elts x1 tpos) (.Call (.Name "zip" p) [a, b] [] pos) (iZip X.K k1 k2 ta) := by
  intro pins s σ H R I h
  refine Call_ (ld_blt I hg hm boot_zip (PyProof.Rows.callWith_type1 (thn (ha pos pins s σ H _ I h) fun us s1 ⟨vs, H1, I1, r1, q1⟩ => ?_) (by rw [hs, hs2]) (by rw [hs2]; rfl)))
  obtain ⟨a, b, e, ⟨xs, hq1⟩, ⟨ys, hq2⟩, q⟩ := q1
  subst e
  cases r1 with
  | cons r rr =>
    cases rr with
    | cons r' rr =>
      cases rr
      cases r
      cases r'
      obtain ⟨us, rv1, p1, _⟩ := I1.sq hq1
      obtain ⟨ws, rv2, p2, _⟩ := I1.sq hq2
      refine call_zip p1 p2 fun h' Z kk => ?_
      have D := PyProof.Rows.zipApart_new p1.lt p2.lt
      have I2 : Inv X pins σ H1 { s1 with heap := h' } := I1.kept (t' := s1.toks) kk
      refine wpAny_pyIter_zip (s := { s1 with heap := h' }) Z.zz ⟨_, [s1.heap.objs.size + 4, s1.heap.objs.size + 2, s1.heap.objs.size + 3, s1.heap.objs.size, s1.heap.objs.size + 1], _, _, H1, rfl, I2, turn_zip k1 k2 a b _ _ _ _ _ D, Z, fun c hc => ?_, q⟩
      have hle : s1.heap.objs.size ≤ c := by
        simp only [List.mem_cons, List.not_mem_nil, or_false] at hc
        have hc' : c = s1.heap.objs.size + 4 ∨ c = s1.heap.objs.size + 2 ∨ c = s1.heap.objs.size + 3 ∨ c = s1.heap.objs.size ∨ c = s1.heap.objs.size + 1 := hc
        rcases hc' with e | e | e | e | e <;> rw [e] <;> first | exact Nat.le_refl _ | exact Nat.le_add_right _ _
      exact I1.fpOk hle (I1.hok.fresh hle)
end
end L2
set_option Elab.async false
set_option linter.all false
set_option maxRecDepth 100000
namespace L2
open PySem PySem.Spec PyProof.Rows
theorem comp_zip {K : PySem.W.Frag} {k1 k2 : Bool} {a b : Addr} {xs ys : List V} {g : TG} {tf : TT} {te : TE} {σ : St} {H : Hp} {Q : VK} (Pv : Nat → List V → St → Hp → Prop) (h0 : Pv 0 [] σ H)
    (hl : ∀ i zs σ H, i ≤ min xs.length ys.length → Pv i zs σ H → Sq k1 K H a xs ∧ Sq k2 K H b ys ∧ zs.length ≤ sizeLine)
    (hs : ∀ i x y zs σ H T, xs[i]? = some x → ys[i]? = some y → Pv i zs σ H → H T = none → g (.ref T) σ (upd H T (.tup [x, y])) fun σ2 H2 => tf σ2 H2 fun b H3 => if b = true then te σ2 H3 fun v H4 => Pv (i + 1) (zs ++ [v]) σ2 H4 else Pv (i + 1) zs σ2 H3)
    (hd : ∀ zs σ H, Pv (min xs.length ys.length) zs σ H → ∀ p, H p = none → Q (.ref p) (upd H p (.lst zs))) : tCompK g tf te σ (Itz K k1 k2 a b) H Q := by
  refine ⟨fun i m zs σ H => m = min xs.length ys.length - i ∧ i ≤ min xs.length ys.length ∧ Pv i zs σ H, ⟨_, (Nat.sub_zero _).symm, Nat.zero_le _, h0⟩, ?_⟩
  rintro i m zs σ H ⟨rfl, hi, p⟩
  obtain ⟨q1, q2, hz⟩ := hl i zs σ H hi p
  by_cases hlt : i < min xs.length ys.length
  · have l1 : i < xs.length := by omega
    have l2 : i < ys.length := by omega
    refine .inr ⟨⟨xs, ys, xs[i], ys[i], q1, q2, by simp [l1], by simp [l2]⟩, hz, Pv (i + 1), fun ys' σ' H' p' => ⟨min xs.length ys.length - (i + 1), by omega, rfl, hlt, p'⟩, fun x H' y => ?_⟩
    obtain ⟨T, u, v, hT, rfl, rfl, e1, e2⟩ := y
    exact hs i u v zs σ H T (e1 xs q1) (e2 ys q2) p hT
  · have e : i = min xs.length ys.length := by omega
    rw [e] at p
    exact .inl ⟨⟨xs, ys, q1, q2, by omega⟩, hz, hd zs σ H p⟩
section
variable {prog : Program} {w : World} {A : Around} {E : Value → Shared → Prop} {s : Shared}
theorem call_tree_kw {id : String} {b : Builtin} {args : List Value} {kw : List (Str × Value)} {Q : Value → Shared → Prop} (hk : builtinKind id = none) (hp : plainId id = true) (hb : entryFor table id = some b) (ha : argsOk id ⟨args, kw⟩)
    (hc : wpAny (model prog w) A.in1 (b ⟨args, kw⟩) (fun fin s' => match fin with
      | .done f => (match (Except.ok f : Result) with | .ok (.ret v) => Q v s' | .ok _ => False | .error e => E e s')
      | .again c' => c'.quiet = true ∧ codeAny (model prog w) A c' (fun r s' => match r with | .ok (.ret v) => Q v s' | .ok _ => False | .error e => E e s') s') E s) : wpAny (model prog w) A (call (.builtin id) args kw) Q E s := by
  refine wpAny_call (codeAny_call_builtin hp hb ?_)
  simp only [checkBuiltinCall, hk]
  cases hsig : Manifest.signature? id with
  | none => exact wpAny_pure hc
  | some sig =>
    have ha' : Bind.checkArgs id sig ⟨args, kw⟩ = pure () := by simpa only [argsOk, hsig] using ha
    simp only [ha']
    exact wpAny_pure hc
end
theorem best_le {val : Nat → Int} : ∀ n j : Nat, j ≤ n → val j ≤ val (argBest (fun i j => decide (val i > val j)) n)
  | 0, j, h => by
    have : j = 0 := by omega
    subst this
    exact Int.le_refl _
  | n + 1, j, h => by
    unfold argBest
    by_cases c : val (n + 1) > val (argBest (fun i j => decide (val i > val j)) n)
    · simp only [decide_eq_true c, if_true]
      by_cases e : j = n + 1
      · rw [e]; exact Int.le_refl _
      · have := best_le (val := val) n j (by omega); omega
    · simp only [decide_eq_false c, Bool.false_eq_true, if_false]
      by_cases e : j = n + 1
      · rw [e]; omega
      · exact best_le n j (by omega)
theorem best_ge {val : Nat → Int} : ∀ n j : Nat, j ≤ n → val (argBest (fun i j => decide (val i < val j)) n) ≤ val j
  | 0, j, h => by
    have : j = 0 := by omega
    subst this
    exact Int.le_refl _
  | n + 1, j, h => by
    unfold argBest
    by_cases c : val (n + 1) < val (argBest (fun i j => decide (val i < val j)) n)
    · simp only [decide_eq_true c, if_true]
      by_cases e : j = n + 1
      · rw [e]; exact Int.le_refl _
      · have := best_ge (val := val) n j (by omega); omega
    · simp only [decide_eq_false c, Bool.false_eq_true, if_false]
      by_cases e : j = n + 1
      · rw [e]; omega
      · exact best_ge n j (by omega)
theorem best_lt (bt : Nat → Nat → Bool) : ∀ n : Nat, argBest bt n ≤ n
  | 0 => Nat.le_refl _
  | n + 1 => by
    unfold argBest
    split
    · exact Nat.le_refl _
    · exact Nat.le_trans (best_lt bt n) (Nat.le_succ n)
section
variable {prog : Program} {w : World} {A : Around} {R : Result → Shared → Prop} {I : Addr} {fp wr : List Addr} {n : Nat} {P : Nat → Value → Prop} {St : Nat → Heap → Prop}
end
section
variable {prog : Program} {w : World} {A : Around} {E : Value → Shared → Prop} {s : Shared}
end
section
variable {X : Cx}
def Ismax (m : Int) (ns : List Int) : Prop := m ∈ ns ∧ ∀ x ∈ ns, x ≤ m
theorem ismax_of {ns : List Int} (hn : 0 < ns.length) : Ismax (ns.getD (argBest (fun i j => decide (ns.getD i 0 > ns.getD j 0)) (ns.length - 1)) 0) ns := by
  have hb := best_lt (fun i j => decide (ns.getD i 0 > ns.getD j 0)) (ns.length - 1)
  have at' : ∀ j, j < ns.length → ns.getD j 0 = ns[j]! := fun j h => by simp [h]
  refine ⟨?_, fun x hx => ?_⟩
  · have hl : argBest (fun i j => decide (ns.getD i 0 > ns.getD j 0)) (ns.length - 1) < ns.length := by omega
    generalize argBest (fun i j => decide (ns.getD i 0 > ns.getD j 0)) (ns.length - 1) = k at hl
    have : ns.getD k 0 = ns[k] := by simp [hl]
    rw [this]
    exact List.getElem_mem hl
  · obtain ⟨j, hj, rfl⟩ := List.mem_iff_getElem.mp hx
    have h1 := best_le (val := fun i => ns.getD i 0) (ns.length - 1) j (by omega)
    have h2 : ns.getD j 0 = ns[j] := by simp [hj]
    rw [← h2]
    exact h1
theorem call_max_ints (hc : X.calm = true) : CallR X (.builtin "max") (fun xs H Q => ∃ (a : Addr) (ns : List Int), xs = [.ref a] ∧ SqL X.K H a (ns.map V.int) ∧ ns ≠ [] ∧ ∀ m, Ismax m ns → Q (.int m) H) := by
  intro pins s σ H xs us Q I r h
  obtain ⟨a, ns, rfl, hq, hne, q⟩ := h
  obtain ⟨u, rfl, ru⟩ := vals1 r
  cases ru
  have hh : X.A.in1.handled = none := I.ok.hd hc
  obtain ⟨its, rv, p, hz⟩ := I.list hq
  have hl := rv.length
  rw [List.length_map] at hl
  have hlt : a < s.heap.objs.size := by obtain ⟨_, e, _⟩ := p.isList; exact Heap.lt_size e
  have hn : 0 < ns.length := List.length_pos_iff.mpr hne
  refine call_max_walk (wpAny_pyIter_list p.isList ⟨_, _, _, _, _, _, _, rfl, Walks.list (A := X.A.in1) hh _ a (Nat.ne_of_lt hlt) its.toArray, ⟨⟨_, Heap.get?_push_size _ rfl, rfl, rfl⟩, p.isList.push _⟩, fun b hb => ?_, by rw [List.size_toArray, ← hl]; exact hn, CmpOf.ints_gt (fun i => ns.getD i 0) (vals_int_at rv), fun v h' tk p1 kk => ?_⟩)
  · show b < (s.heap.push _).objs.size
    rw [Heap.size_push]
    rcases List.mem_cons.mp hb with rfl | hb
    · exact Nat.lt_succ_self _
    · rcases List.mem_cons.mp hb with rfl | hb
      · exact Nat.lt_succ_of_lt hlt
      · cases hb
  · rw [List.size_toArray, ← hl] at p1
    obtain ⟨t, e⟩ := vals_int_at rv _ v p1
    exact ⟨.int _, H, I.kept fun b o e => kk b o (by simpa using Nat.ne_of_lt (Heap.lt_size e)) (Heap.get?_push_of_some _ e), ⟨t, e⟩, q _ (ismax_of hn)⟩
end
section
variable {prog : Program} {w : World} {A : Around} {R : Result → Shared → Prop} {I : Addr} {fp wr : List Addr} {n : Nat} {P : Nat → Value → Prop} {St : Nat → Heap → Prop}
theorem args_min_default (a v : Value) : argsOk "min" ⟨[a], [(Str.ofString "default", v)]⟩ := by unfold argsOk; kernel_rfl
theorem min_loopK {kw : List (Str × Value)} (W : Walks prog w A.in1 I fp wr n P St) (bt : Nat → Nat → Bool) (hc : CmpOf prog w A.in1 .Lt P bt) (S : Addr) (hSf : S ∉ fp) : ∀ (k j : Nat) (s : Shared) (vb : Value) (c : Nat), n - (j + 1) = k → j + 1 ≤ n → St (j + 1) s.heap → P (argBest bt j) vb →
    s.heap.get? S = some { cls := .type "list", dict := none, data := .seq #[vb, vb] c, slots := #[] } →
    (∀ v h' tk, P (argBest bt (n - 1)) v → (∀ b o, b ∉ wr → b ≠ S → s.heap.get? b = some o → h'.get? b = some o) → R (.ok (.ret v)) { s with heap := h', toks := tk }) →
    codeAny (model prog w) A (.builtin "min.loop" ⟨[.ref I, .none, .ref S], kw⟩) R s := by
  have hSw : S ∉ wr := fun h => hSf (W.sub _ h)
  have nm : (toString "min" ++ toString ".loop" : String) = "min.loop" := by decide
  intro k
  induction k with
  | zero =>
    intro j s vb c hk hj st hP hS hR
    have hn : j + 1 = n := by omega
    refine codeAny_builtin F.entry_min_loop ?_
    rw [Around.under_plainId F.plain_min_loop _]
    show wpAny _ A.in1 (seqItems? (.ref S) >>= _) _ _ s
    refine wpAny_bind (wpAny_seqItems hS rfl ?_)
    show wpAny _ A.in1 (tryCatch (pyNext (.ref I)) _ >>= _) _ _ s
    refine wpAny_bind (wpAny_tryCatch (W.done s _ _ (hn ▸ st) fun h' tk kk => ?_))
    have hS' := kk S _ hSw hS
    show wpAny _ A.in1 (updateSeq S (fun _ => #[]) >>= _) _ _ _
    refine wpAny_bind (wpAny_updateSeq hS' rfl (wpAny_bind (wpAny_letGo (wpAny_pure ?_))))
    exact hR vb _ tk (by rw [← hn]; exact hP) fun b o n1 n2 e => (Heap.get?_update_other _ _ (Ne.symm n2)).trans (kk b o n1 e)
  | succ k ih =>
    intro j s vb c hk hj st hP hS hR
    have hlt : j + 1 < n := by omega
    refine codeAny_builtin F.entry_min_loop ?_
    rw [Around.under_plainId F.plain_min_loop _]
    show wpAny _ A.in1 (seqItems? (.ref S) >>= _) _ _ s
    refine wpAny_bind (wpAny_seqItems hS rfl ?_)
    show wpAny _ A.in1 (tryCatch (pyNext (.ref I)) _ >>= _) _ _ s
    refine wpAny_bind (wpAny_tryCatch (W.item (j + 1) s _ _ hlt st fun v h' tk hPv st' kk => ?_))
    have hS' := kk S _ hSw hS
    show wpAny _ A.in1 (tryCatch (holding [v, v] (richCompare .Lt v vb >>= _)) _ >>= _) _ _ _
    refine wpAny_bind (wpAny_tryCatch (wpAny_holding (wpAny_bind (hc (j + 1) (argBest bt j) v vb _ _ _ hPv hP ?_))))
    refine wpAny_bind (wpAny_holding (wpAny_truthy_bool ?_))
    refine wpAny_bind (wpAny_letGo (wpAny_pure ?_))
    cases hb : bt (j + 1) (argBest bt j) with
    | true =>
      simp only [if_true]
      refine wpAny_bind (wpAny_updateSeq hS' rfl (wpAny_bind (wpAny_letGo ?_)))
      rw [nm]
      refine wpAny_pure ⟨plainId_quiet F.plain_min_loop _, ih (j + 1) _ v _ (by omega) hlt (W.frame _ _ _ st' fun b q o e => ?_) (by simp only [argBest, hb, if_true]; exact hPv) (Heap.get?_update_self _ hS' rfl) fun v2 h2 t2 p2 k2 => ?_⟩
      · exact (Heap.get?_update_other _ _ (fun h : S = b => hSf (by rw [h]; exact q))).trans e
      · exact hR v2 h2 t2 p2 fun b o n1 n2 e => k2 b o n1 n2 ((Heap.get?_update_other _ _ (Ne.symm n2)).trans (kk b o n1 e))
    | false =>
      simp only [Bool.false_eq_true, if_false]
      refine wpAny_bind (wpAny_letGo ?_)
      rw [nm]
      refine wpAny_pure ⟨plainId_quiet F.plain_min_loop _, ih (j + 1) _ vb c (by omega) hlt st' (by simp only [argBest, hb, Bool.false_eq_true, if_false]; exact hP) hS' fun v2 h2 t2 p2 k2 => ?_⟩
      exact hR v2 h2 t2 p2 fun b o n1 n2 e => k2 b o n1 n2 (kk b o n1 e)
theorem min_loop0 {d : Value} {s : Shared} {c : Nat} (W : Walks prog w A.in1 I fp wr n P St) (bt : Nat → Nat → Bool) (hc : CmpOf prog w A.in1 .Lt P bt) (S : Addr) (hSf : S ∉ fp) (st : St 0 s.heap)
    (hS : s.heap.get? S = some { cls := .type "list", dict := none, data := .seq #[] c, slots := #[] })
    (hR : ∀ v h' tk, (0 < n → P (argBest bt (n - 1)) v) → (n = 0 → v = d) → (∀ b o, b ∉ wr → b ≠ S → s.heap.get? b = some o → h'.get? b = some o) → R (.ok (.ret v)) { s with heap := h', toks := tk }) :
    codeAny (model prog w) A (.builtin "min.loop" ⟨[.ref I, .none, .ref S], [(Str.ofString "default", d)]⟩) R s := by
  have hSw : S ∉ wr := fun h => hSf (W.sub _ h)
  have nm : (toString "min" ++ toString ".loop" : String) = "min.loop" := by decide
  refine codeAny_builtin F.entry_min_loop ?_
  rw [Around.under_plainId F.plain_min_loop _]
  show wpAny _ A.in1 (seqItems? (.ref S) >>= _) _ _ s
  refine wpAny_bind (wpAny_seqItems hS rfl ?_)
  show wpAny _ A.in1 (tryCatch (pyNext (.ref I)) _ >>= _) _ _ s
  by_cases h0 : n = 0
  · refine wpAny_bind (wpAny_tryCatch (W.done s _ _ (h0 ▸ st) fun h' tk kk => ?_))
    show wpAny _ A.in1 (rule _ >>= _) _ _ _
    refine wpAny_bind (wpAny_rule (wpAny_pure ?_))
    exact hR d h' tk (fun z => absurd h0 (Nat.ne_of_gt z)) (fun _ => rfl) fun b o n1 _ e => kk b o n1 e
  · have hn : 0 < n := Nat.pos_of_ne_zero h0
    refine wpAny_bind (wpAny_tryCatch (W.item 0 s _ _ hn st fun v h' tk hPv st' kk => ?_))
    have hS' := kk S _ hSw hS
    show wpAny _ A.in1 (updateSeq S (fun _ => #[v, v]) >>= _) _ _ _
    refine wpAny_bind (wpAny_updateSeq hS' rfl ?_)
    rw [nm]
    refine wpAny_pure ⟨plainId_quiet F.plain_min_loop _, min_loopK W bt hc S hSf _ 0 _ v _ rfl hn (W.frame _ _ _ st' fun b q o e => ?_) hPv (Heap.get?_update_self _ hS' rfl) fun v2 h2 t2 p2 k2 => ?_⟩
    · exact (Heap.get?_update_other _ _ (fun h : S = b => hSf (by rw [h]; exact q))).trans e
    · exact hR v2 h2 t2 (fun _ => p2) (fun z => absurd z h0) fun b o n1 n2 e => k2 b o n1 n2 ((Heap.get?_update_other _ _ (Ne.symm n2)).trans (kk b o n1 e))
end
section
variable {prog : Program} {w : World} {A : Around} {E : Value → Shared → Prop} {s : Shared}
theorem call_min_default {x d : Value} {Q : Value → Shared → Prop}
    (h : wpAny (model prog w) A.in1 (pyIter x) (fun it s2 => ∃ I fp wr n P St bt, it = .ref I ∧ Walks prog w A.in1 I fp wr n P St ∧ St 0 s2.heap ∧ (∀ b ∈ fp, b < s2.heap.objs.size) ∧ CmpOf prog w A.in1 .Lt P bt ∧
      ∀ v h' tk, (0 < n → P (argBest bt (n - 1)) v) → (n = 0 → v = d) → (∀ b o, b ∉ wr → s2.heap.get? b = some o → h'.get? b = some o) → Q v { s2 with heap := h', toks := tk }) E s) :
    wpAny (model prog w) A (call (.builtin "min") [x] [(Str.ofString "default", d)]) Q E s := by
  have nm : (toString "min" ++ toString ".loop" : String) = "min.loop" := by decide
  refine call_tree_kw F.kind_min F.plain_min F.entry_min (args_min_default _ _) ?_
  show wpAny _ A.in1 (Builtin.Builtins.bindParams "min" ["key", "default"] 0 ⟨[], [(Str.ofString "default", d)]⟩ >>= _) _ _ s
  refine wpAny_bind (wpAny_of_eq (show Builtin.Builtins.bindParams "min" ["key", "default"] 0 ⟨[], [(Str.ofString "default", d)]⟩ = pure [none, some d] from rfl) ?_)
  refine wpAny_bind (wpAny_pure ?_)
  refine wpAny_bind (wpAny_mono h (fun it s2 h2 => ?_) fun _ _ e => e)
  obtain ⟨I, fp, wr, n, P, St, bt, rfl, W, st, hfp, hc, hQ⟩ := h2
  refine wpAny_bind (wpAny_newObj_type ?_)
  have hSf : s2.heap.objs.size ∉ fp := fun hm => Nat.lt_irrefl _ (hfp _ hm)
  rw [nm]
  refine wpAny_pure ⟨plainId_quiet F.plain_min_loop _, min_loop0 W bt hc s2.heap.objs.size hSf (W.frame _ _ _ st fun b _ o e => Heap.get?_push_of_some _ e) (Heap.get?_push_size _ rfl) fun v h' tk p1 p2 kk => ?_⟩
  exact hQ v h' tk p1 p2 fun b o n1 e => kk b o n1 (Nat.ne_of_lt (Heap.lt_size e)) (Heap.get?_push_of_some _ e)
end
section
variable {X : Cx}
def Ismin (m : Int) (ns : List Int) : Prop := m ∈ ns ∧ ∀ x ∈ ns, m ≤ x
theorem ismin_of {ns : List Int} (hn : 0 < ns.length) : Ismin (ns.getD (argBest (fun i j => decide (ns.getD i 0 < ns.getD j 0)) (ns.length - 1)) 0) ns := by
  have hb := best_lt (fun i j => decide (ns.getD i 0 < ns.getD j 0)) (ns.length - 1)
  have at' : ∀ j, j < ns.length → ns.getD j 0 = ns[j]! := fun j h => by simp [h]
  refine ⟨?_, fun x hx => ?_⟩
  · have hl : argBest (fun i j => decide (ns.getD i 0 < ns.getD j 0)) (ns.length - 1) < ns.length := by omega
    generalize argBest (fun i j => decide (ns.getD i 0 < ns.getD j 0)) (ns.length - 1) = k at hl
    have : ns.getD k 0 = ns[k] := by simp [hl]
    rw [this]
    exact List.getElem_mem hl
  · obtain ⟨j, hj, rfl⟩ := List.mem_iff_getElem.mp hx
    have h1 := best_ge (val := fun i => ns.getD i 0) (ns.length - 1) j (by omega)
    have h2 : ns.getD j 0 = ns[j] := by simp [hj]
    rw [← h2]
    exact h1
theorem min_walkI {pins : List (Addr × Obj)} {σ : St} {H : Hp} {s : Shared} {k : Bool} {a : Addr} {ns : List Int} {E : Value → Shared → Prop} {d : Value} {Q : Value → Shared → Prop} (hc : X.calm = true) (I : Inv X pins σ H s) (hq : Sq k X.K H a (ns.map V.int))
    (h : ∀ h' tk v, (∀ b o, s.heap.get? b = some o → h'.get? b = some o) → (0 < ns.length → ∃ m t, v = .int m t ∧ Ismin m ns) → (ns.length = 0 → v = d) → Q v { s with heap := h', toks := tk }) :
    wpAny (model X.prog X.w) X.A (call (.builtin "min") [.ref a] [(Str.ofString "default", d)]) Q E s := by
  have hh : X.A.in1.handled = none := I.ok.hd hc
  obtain ⟨its, rv, p, hz⟩ := I.sq hq
  have hl := rv.length
  rw [List.length_map] at hl
  have hlt := p.lt
  have fin : ∀ (h' : Heap) (tk : Nat) (v : Value), (∀ b o, s.heap.get? b = some o → h'.get? b = some o) → (0 < its.toArray.size → its.toArray[argBest (fun i j => decide (ns.getD i 0 < ns.getD j 0)) (its.toArray.size - 1)]? = some v) → (its.toArray.size = 0 → v = d) → Q v { s with heap := h', toks := tk } := fun h' tk v kk p1 p2 => by
    rw [List.size_toArray, ← hl] at p1 p2
    refine h h' tk v kk (fun hn => ?_) p2
    obtain ⟨t, e⟩ := vals_int_at rv _ v (p1 hn)
    exact ⟨_, t, e, ismin_of hn⟩
  have apart : ∀ b ∈ [s.heap.objs.size, a], b < s.heap.objs.size + 1 := fun b hb => by
    rcases List.mem_cons.mp hb with rfl | hb
    · exact Nat.lt_succ_self _
    · rcases List.mem_cons.mp hb with rfl | hb
      · exact Nat.lt_succ_of_lt hlt
      · cases hb
  cases k
  · refine call_min_default (wpAny_pyIter_list p ⟨_, _, _, _, _, _, _, rfl, Walks.list (A := X.A.in1) hh _ a (Nat.ne_of_lt hlt) its.toArray, ⟨⟨_, Heap.get?_push_size _ rfl, rfl, rfl⟩, Heap.IsList.push p _⟩, fun b hb => ?_, CmpOf.ints_lt (fun i => ns.getD i 0) (vals_int_at rv), fun v h' tk p1 p2 kk => ?_⟩)
    · show b < (s.heap.push _).objs.size
      rw [Heap.size_push]
      exact apart b hb
    · exact fin h' tk v (fun b o e => kk b o (by simpa using Nat.ne_of_lt (Heap.lt_size e)) (Heap.get?_push_of_some _ e)) p1 p2
  · refine call_min_default (wpAny_pyIter_tuple p ⟨_, _, _, _, _, _, _, rfl, Walks.tuple (A := X.A.in1) hh _ a (Nat.ne_of_lt hlt) its.toArray, ⟨⟨_, Heap.get?_push_size _ rfl, rfl, rfl⟩, Heap.IsTuple.push p _⟩, fun b hb => ?_, CmpOf.ints_lt (fun i => ns.getD i 0) (vals_int_at rv), fun v h' tk p1 p2 kk => ?_⟩)
    · show b < (s.heap.push _).objs.size
      rw [Heap.size_push]
      exact apart b hb
    · exact fin h' tk v (fun b o e => kk b o (by simpa using Nat.ne_of_lt (Heap.lt_size e)) (Heap.get?_push_of_some _ e)) p1 p2
def rminD (K : PySem.W.Frag) (k : Bool) (x d : V) (H : Hp) (Q : VK) : Prop := ∃ a ns, x = .ref a ∧ Sq k K H a (ns.map V.int) ∧ ∀ v, ((ns = [] ∧ v = d) ∨ ∃ m, v = .int m ∧ Ismin m ns) → Q v H
def tminD (K : PySem.W.Frag) (k : Bool) (te td : TE) : TE := fun σ H Q => te σ H fun x H1 => td σ H1 fun d H2 => rminD K k x d H2 Q
theorem pe_minD (k : Bool) {e dE : Expr} {te td : TE} {p kp pos : Pos} (hc : X.calm = true) (hg : Gl X "min") (hm : X.mg "min" = none) (he : PE X e te) (hd : PE X dE td)
    (hse : starEach [e] X.env = [(false, eval e X.env)] := by rfl) : PE X (.Call (.Name "min" p) [e] [⟨some "default", dE, kp⟩] pos) (tminD X.K k te td) := by
  intro pins s σ H Q I h
  refine wpAny_Call_Name_kw (ld_blt I hg hm boot_min ?_ (by decide) (by decide))
  refine callWith_kw (thn (pa_cons he pa_nil hse pos pins s σ H (fun vs H1 => match vs with | [x] => td σ H1 fun d H2 => rminD X.K k x d H2 Q | _ => False) I h) fun us s1 ⟨vs, H1, I1, r1, q1⟩ => ?_) (by rw [hse]; rfl) (by rw [hse]; rfl)
  match vs, r1, q1 with
  | [x], r1, q =>
    obtain ⟨u, rfl, ru⟩ := vals1 r1
    refine kws_cons (thn (hd pins s1 σ H1 _ I1 q) fun dv s2 ⟨d, H2, I2, r2, q2⟩ => kws_nil ?_)
    obtain ⟨a, ns, rfl, hq, q3⟩ := q2
    cases ru
    show wpAny _ _ (call (.builtin "min") [.ref a] [(Str.ofString "default", dv)]) _ _ _
    refine min_walkI hc I2 hq fun h' tk v kk p1 p2 => ?_
    by_cases hn : 0 < ns.length
    · obtain ⟨m, t, rfl, hm⟩ := p1 hn
      exact ⟨.int m, H2, I2.kept kk, ⟨t, rfl⟩, q3 _ (.inr ⟨m, rfl, hm⟩)⟩
    · have e0 : ns.length = 0 := by omega
      rw [p2 e0]
      exact ⟨d, H2, I2.kept kk, r2, q3 _ (.inl ⟨List.length_eq_zero_iff.mp e0, rfl⟩)⟩
end
end L2
set_option Elab.async false
set_option linter.all false
set_option maxRecDepth 100000
namespace L2
open PySem PySem.Spec PyProof.Rows
theorem pg_tupC {X : Cx} {scope : Scope} {N : List Str} {C : Addr} {s : Shared} {H : Hp} {ex : List Addr} {es : List Expr} {k : Nat} {t : TGs} {pos : Pos} (n : Nat) (hc : X.calm = true) (h : PGs (cxC X scope N C s H ex) es t)
    (hn : (assignEach es (cxC X scope N C s H ex).env).length = n) (hst : (assignEach es (cxC X scope N C s H ex).env).findIdx? (·.1) = none) : PG (cxC X scope N C s H ex) (.Tuple es k pos) (gTup X.K n t) := pg_tup hc h hn hst
end L2
set_option Elab.async false
set_option linter.all false
set_option maxRecDepth 100000
namespace L2
open PySem PySem.Spec PyProof.Rows
section
variable {κ : Type} [DecidableEq κ]
def valV (kvs : List (κ × V)) (k : κ) : Option V := (kvs.find? fun kv => decide (kv.1 = k)).map (·.2)
def putK (kvs : List (κ × V)) (k : κ) (v : V) : List (κ × V) :=
  if (kvs.any fun kv => decide (kv.1 = k)) = true then kvs.map (fun kv => if kv.1 = k then (kv.1, v) else kv) else kvs ++ [(k, v)]
theorem valV_pos {p : κ × V} {r : List (κ × V)} {k : κ} (e : p.1 = k) : valV (p :: r) k = some p.2 := by simp [valV, List.find?_cons, e]
theorem valV_neg {p : κ × V} {r : List (κ × V)} {k : κ} (e : ¬ p.1 = k) : valV (p :: r) k = valV r k := by simp [valV, List.find?_cons, e]
theorem valV_any (k : κ) : ∀ kvs : List (κ × V), (kvs.any fun kv => decide (kv.1 = k)) = (valV kvs k).isSome
  | [] => rfl
  | p :: r => by
    rw [List.any_cons]
    by_cases e : p.1 = k
    · simp only [valV_pos e, decide_eq_true e, Bool.true_or, Option.isSome_some]
    · rw [valV_neg e, decide_eq_false e, Bool.false_or]; exact valV_any k r
theorem length_putK (kvs : List (κ × V)) (k : κ) (v : V) : (putK kvs k v).length ≤ kvs.length + 1 := by
  unfold putK
  split
  · rw [List.length_map]; omega
  · rw [List.length_append, List.length_cons, List.length_nil]; omega
theorem putK_new {kvs : List (κ × V)} {k : κ} (v : V) (h : valV kvs k = none) : putK kvs k v = kvs ++ [(k, v)] := by
  unfold putK
  rw [valV_any, h]
  exact if_neg (by decide)
theorem RelO.isSome_eq {o : Option V} {u : Option Value} (r : RelO o u) : o.isSome = u.isSome := by
  cases o with
  | none => cases u with
    | none => rfl
    | some _ => exact (show False from r).elim
  | some _ => cases u with
    | none => exact (show False from r).elim
    | some _ => rfl
theorem KV.any {kvs : List (κ × V)} {vs : List (κ × Value)} (r : KV kvs vs) (k : κ) : (kvs.any fun kv => decide (kv.1 = k)) = vs.any fun kv => decide (kv.1 = k) := by
  unfold KV at r
  induction r with
  | nil => rfl
  | cons h t ih => rw [List.any_cons, List.any_cons, ih, h.1]
theorem KV.repl {kvs : List (κ × V)} {vs : List (κ × Value)} (r : KV kvs vs) (k : κ) {y : V} {u : Value} (ry : RelV y u) :
    KV (kvs.map fun kv => if kv.1 = k then (kv.1, y) else kv) (vs.map fun kv => if kv.1 = k then (kv.1, u) else kv) := by
  unfold KV at r ⊢
  induction r with
  | nil => exact .nil
  | @cons p q ps qs h t ih =>
    rw [List.map_cons, List.map_cons]
    refine .cons ?_ ih
    obtain ⟨h1, h2⟩ := h
    by_cases e : p.1 = k
    · rw [if_pos e, if_pos (h1.symm.trans e)]; exact ⟨h1, ry⟩
    · rw [if_neg e, if_neg (fun z => e (h1.trans z))]; exact ⟨h1, h2⟩
theorem KV.put {kvs : List (κ × V)} {vs : List (κ × Value)} (r : KV kvs vs) (k : κ) {y : V} {u : Value} (ry : RelV y u) : KV (putK kvs k y) (stored vs k u) := by
  unfold putK stored
  rw [r.any k]
  by_cases e : (vs.any fun kv => decide (kv.1 = k)) = true
  · rw [if_pos e, if_pos e]; exact r.repl k ry
  · rw [if_neg e, if_neg e]; exact Paired.snoc r ⟨rfl, ry⟩
theorem KV.length {kvs : List (κ × V)} {vs : List (κ × Value)} (r : KV kvs vs) : kvs.length = vs.length := Paired.length r
end
theorem kV_is {P : Program} {w : World} {k : Key} {u : Value} (r : RelV (kV k) u) : (mixKind P w).is k u = true := by
  cases k with
  | inl i => obtain ⟨t, e⟩ := (show ∃ t, u = Value.int i t from r); subst e; exact mixKind_int P w i t
  | inr x => obtain ⟨t, e⟩ := (show ∃ t, u = Value.str x t from r); subst e; exact mixKind_str P w x t
theorem items_are {P : Program} {w : World} : ∀ {ks : List Key} {us : List Value}, Vals (ks.map kV) us → ItemsAre (mixKind P w) ks us
  | [], _, r => by rw [List.map_nil] at r; cases r; exact .nil
  | k :: ks, _, r => by
    rw [List.map_cons] at r
    cases r with
    | cons h t => exact .cons (kV_is h) (items_are t)
abbrev KT (H : Hp) : List (List Key × V) → List (List Key × Addr × Value) → Prop := Paired fun p q => p.1 = q.1 ∧ H q.2.1 = some (.tup (p.1.map kV)) ∧ RelV p.2 q.2.2
theorem KT.val {H : Hp} {kvs : List (List Key × V)} {xs : List (List Key × Addr × Value)} (r : KT H kvs xs) (k : List Key) : RelO (valV kvs k) ((atKey xs k).map (·.2)) := by
  induction r with
  | nil => exact True.intro
  | @cons p q ps qs h t ih =>
    obtain ⟨h1, _, h2⟩ := h
    by_cases e : p.1 = k
    · have e' : q.1 = k := h1.symm.trans e
      have b : atKey (q :: qs) k = some q.2 := by simp [atKey, List.find?_cons, e']
      rw [valV_pos e, b]; exact h2
    · have e' : ¬ q.1 = k := fun z => e (h1.trans z)
      have b : atKey (q :: qs) k = atKey qs k := by simp [atKey, List.find?_cons, e']
      rw [valV_neg e, b]; exact ih
theorem KT.repl {H : Hp} {kvs : List (List Key × V)} {xs : List (List Key × Addr × Value)} (r : KT H kvs xs) (k : List Key) {y : V} {u : Value} (ry : RelV y u) :
    KT H (kvs.map fun kv => if kv.1 = k then (kv.1, y) else kv) (xs.map (putAt k u)) := by
  induction r with
  | nil => exact .nil
  | @cons p q ps qs h t ih =>
    rw [List.map_cons, List.map_cons]
    refine .cons ?_ ih
    obtain ⟨h1, h2, h3⟩ := h
    unfold putAt
    by_cases e : p.1 = k
    · rw [if_pos e, if_pos (h1.symm.trans e)]; exact ⟨h1, h2, ry⟩
    · rw [if_neg e, if_neg (fun z => e (h1.trans z))]; exact ⟨h1, h2, h3⟩
theorem KT.put {H : Hp} {kvs : List (List Key × V)} {xs : List (List Key × Addr × Value)} (r : KT H kvs xs) (k : List Key) {b : Addr} {y : V} {u : Value} (hb : H b = some (.tup (k.map kV))) (ry : RelV y u) :
    KT H (putK kvs k y) (storedH xs k b u) := by
  have e : (kvs.any fun kv => decide (kv.1 = k)) = (atKey xs k).isSome := by
    rw [valV_any, (r.val k).isSome_eq, Option.isSome_map]
  unfold putK storedH
  rw [e]
  by_cases q : (atKey xs k).isSome = true
  · rw [if_pos q, if_pos q]; exact r.repl k ry
  · rw [if_neg q, if_neg q]; exact Paired.snoc r ⟨rfl, hb, ry⟩
theorem KT.keeps {H H' : Hp} {kvs : List (List Key × V)} {xs : List (List Key × Addr × Value)} (r : KT H kvs xs) (ht : ∀ b ys, H b = some (.tup ys) → H' b = some (.tup ys)) : KT H' kvs xs :=
  Paired.mapP r fun _ _ z => ⟨z.1, ht _ _ z.2.1, z.2.2⟩
section
variable {P : Program} {w : World} {H : Hp} {h : Heap} {a : Addr}
theorem rd_of {u : HO} (ok : HOk P w H h) (e : Rd H a u) : ObjOk P w H h a u := e.ok ok
theorem dk_rd {kvs : List (Key × V)} (ok : HOk P w H h) (e : Rd H a (.dK kvs)) : kvs.length ≤ sizeLine ∧ (a == sysModules) = false ∧ ∃ vs, KV kvs vs ∧ h.DictOf (mixKind P w) a vs :=
  show ObjOk P w H h a (.dK kvs) from rd_of ok e
theorem dk_of {kvs : List (Key × V)} (ok : HOk P w H h) (e : H a = some (.dK kvs)) : kvs.length ≤ sizeLine ∧ (a == sysModules) = false ∧ ∃ vs, KV kvs vs ∧ h.DictOf (mixKind P w) a vs := dk_rd ok (.inl e)
theorem key_of {ks : List Key} (ok : HOk P w H h) (e : H a = some (.tup (ks.map kV))) : (tupleKind (mixKind P w)).is h ks a := by
  obtain ⟨_, its, r, ⟨o, h1, h2, n, h3⟩, _⟩ := (show ObjOk P w H h a (.tup (ks.map kV)) from ok a _ e)
  exact ⟨o, its.toArray, n, h1, h2, h3, by simpa using items_are r⟩
theorem dt_rd {kvs : List (List Key × V)} (ok : HOk P w H h) (e : Rd H a (.dT kvs)) : kvs.length ≤ sizeLine ∧ (a == sysModules) = false ∧
    ∃ xs, KT H kvs xs ∧ h.DictOfH (tupleKind (mixKind P w)) a xs := by
  obtain ⟨z, y, xs, r, o, es, ep, h1, h2, h3, h4, h5⟩ := (show ObjOk P w H h a (.dT kvs) from rd_of ok e)
  refine ⟨z, y, xs, r, o, es, ep, h1, h2, h3, h4, fun x hx => ?_, h5⟩
  have all : ∀ {l : List (List Key × V)} {m : List (List Key × Addr × Value)}, KT H l m → ∀ x ∈ m, (tupleKind (mixKind P w)).is h x.1 x.2.1 := by
    intro l m q
    induction q with
    | nil => intro x hx; exact nomatch hx
    | @cons p q ps qs hq t ih =>
      intro x hx
      rcases List.mem_cons.mp hx with e | hx
      · subst e
        exact key_of ok (by rw [← hq.1]; exact hq.2.1)
      · exact ih x hx
  exact all r x hx
theorem dt_of {kvs : List (List Key × V)} (ok : HOk P w H h) (e : H a = some (.dT kvs)) : kvs.length ≤ sizeLine ∧ (a == sysModules) = false ∧
    ∃ xs, KT H kvs xs ∧ h.DictOfH (tupleKind (mixKind P w)) a xs := dt_rd ok (.inl e)
end
def DPut (H : Hp) (a : Addr) (y v : V) (H' : Hp) : Prop :=
  (∃ kvs k, H a = some (.dK kvs) ∧ y = kV k ∧ kvs.length < sizeLine ∧ H' = upd H a (.dK (putK kvs k v))) ∨
  ∃ kvs k b, H a = some (.dT kvs) ∧ y = .ref b ∧ H b = some (.tup (k.map kV)) ∧ kvs.length < sizeLine ∧ H' = upd H a (.dT (putK kvs k v))
theorem DPut.k {H : Hp} {a : Addr} {kvs : List (Key × V)} {k : Key} {v : V} (e : H a = some (.dK kvs)) (hl : kvs.length < sizeLine) : DPut H a (kV k) v (upd H a (.dK (putK kvs k v))) := .inl ⟨kvs, k, e, rfl, hl, rfl⟩
section
variable {X : Cx} {pins : List (Addr × Obj)} {σ : St} {H : Hp} {s : Shared} {a : Addr} {y v : V} {u r : Value} {o : Option V} {A : Around} {E : Value → Shared → Prop}
theorem Inv.big (I : Inv X pins σ H s) : sysModules < s.heap.objs.size := by
  have h : mainGlobals < s.heap.objs.size := (I.mod.glob.keeps I.bk).lt
  exact Nat.lt_trans (by decide) h
theorem d_write {h' : Heap} {t' : Nat} {ob : HO} (I : Inv X pins σ H s) (mu : Mut (H a)) (hs : Heap.SameBut a s.heap h') (he : ∃ q, h'.get? a = some q) (new : ObjOk X.prog X.w (upd H a ob) h' a ob) :
    Inv X pins σ (upd H a ob) { s with heap := h', toks := t' } :=
  I.write (x := a) (e := a) mu (.inl rfl) (fun b q hb z => (hs.2 b hb).trans z) he new
theorem dk_new {P : Program} {w : World} {H' : Hp} {h' : Heap} {kvs : List (Key × V)} {vs : List (Key × Value)} (z : kvs.length ≤ sizeLine) (hd : (a == sysModules) = false) (rel : KV kvs vs) (dd : h'.DictOf (mixKind P w) a vs) :
    ObjOk P w H' h' a (.dK kvs) := ⟨z, hd, vs, rel, dd⟩
theorem d_setItem {H' : Hp} {Q : Unit → Shared → Prop} (hu : A.units + 1 < cLine) (I : Inv X pins σ H s) (g : DPut H a y v H') (ry : RelV y u) (rv : RelV v r) (h : ∀ s', Inv X pins σ H' s' → Q () s') :
    wpAny (model X.prog X.w) A (setItem (.ref a) u r) Q E s := by
  rcases g with ⟨kvs, k, e, ey, l, eH⟩ | ⟨kvs, k, b, e, ey, eb, l, eH⟩
  · subst ey eH
    obtain ⟨z, hd, vs, rel, dd⟩ := dk_of I.hok e
    have hz : vs.length ≤ sizeLine := by rw [← rel.length]; exact z
    have hl : (putK kvs k v).length ≤ sizeLine := by have := length_putK kvs k v; omega
    refine wpAny_setItem_pairs (hsz := hz) (kV_is ry) dd fun h' dd' hs => h _ ?_
    have he : ∃ q, h'.get? a = some q := let ⟨q, _, _, hq, _⟩ := dd'; ⟨q, hq⟩
    exact d_write I (by rw [e]; exact True.intro) hs he (dk_new hl hd (rel.put k rv) dd')
  · subst ey eH
    cases (show u = Value.ref b from ry)
    obtain ⟨z, hd, xs, rel, dd⟩ := dt_of I.hok e
    have hz : xs.length ≤ sizeLine := by rw [← Paired.length rel]; exact z
    have hl : (putK kvs k v).length ≤ sizeLine := by have := length_putK kvs k v; omega
    refine wpAny_setItem_heap (hsz := hz) (tupleKind_room_in1 hu) (key_of I.hok eb) dd fun h' dd' hs => h _ ?_
    obtain ⟨q, es, ep, hq, h2, h3, h4, _, h5⟩ := dd'
    refine d_write I (by rw [e]; exact True.intro) hs ⟨q, hq⟩ ⟨hl, hd, _, (rel.put k eb rv).keeps fun c ys ec => ?_, q, es, ep, hq, h2, h3, h4, h5⟩
    rw [upd_ne (ne_of ec e (fun z => nomatch z))]
    exact ec
end
section
variable {X : Cx} {pins : List (Addr × Obj)} {σ : St} {H : Hp} {s : Shared} {a : Addr} {kvs : List (Key × V)} {k : Key} {u : Value} {A : Around} {E : Value → Shared → Prop}
end
def sDPut (td ty tv : TE) : TS := fun D σ H => tv σ H fun v H1 => td σ H1 fun x H2 => ty σ H2 fun y H3 => ∃ a H4, x = .ref a ∧ DPut H3 a y v H4 ∧ D.nx σ H4
section
variable {X : Cx} {o i e value : Expr} {pos pos' tpos : Pos} {td ty tv : TE}
theorem ps_dput (hu : X.A.units + 1 < cLine) (ho : PE X o td) (hi : PE X i ty) (hv : PE X value tv) (hs : swapsWith value (some (.Subscript o i pos')) pos.line X.env = pure false) :
    PS X (.Assign [.Subscript o i pos'] value pos) (sDPut td ty tv) := by
  intro pins s σ H D I h
  refine wpAny_Assign_Subscript (thn (hv pins s σ H _ I h) fun r s1 ⟨v, H1, I1, rv, q1⟩ => thn (ho pins s1 σ H1 _ I1 q1) fun u s2 ⟨x, H2, I2, rx, q2⟩ => thn (hi pins s2 σ H2 _ I2 q2) fun iv s3 ⟨y, H3, I3, ry, a, H4, ex, g, q3⟩ => ?_) hs
  subst ex
  obtain rfl : u = Value.ref a := rx
  exact d_setItem hu I3 g ry rv fun s4 I4 => ⟨σ, H4, I4, q3⟩
end
theorem dk_empty {P : Program} {w : World} {H : Hp} (h : Heap) (hb : sysModules < h.objs.size) : ObjOk P w H (h.push { cls := .type "dict", data := .dict #[] }) h.objs.size (.dK []) :=
  ⟨Nat.zero_le _, beq_eq_false_iff_ne.mpr (Ne.symm (Nat.ne_of_lt hb)), [], .nil, Heap.DictOf.new h⟩
def tDNewK : TE := fun _ H Q => ∀ p, H p = none → Q (.ref p) (upd H p (.dK []))
section
variable {X : Cx} {pos : Pos}
theorem pe_dnewK : PE X (.Dict [] [] pos) tDNewK := fun pins s σ H Q I h =>
  wpAny_Dict_empty ⟨.ref s.heap.objs.size, _, I.laid (a := s.heap.objs.size) (o := .dK []) (t' := s.toks) (fun _ _ q => Heap.get?_push_of_some _ q) (Nat.le_refl _) (dk_empty s.heap I.big), rfl, h _ (I.hok.fresh (Nat.le_refl _))⟩
end
structure M2 (X : Cx) (o : Expr) (m : Str) (apos : Pos) (e f : Expr) (cpos : Pos) : Prop where
  base : attributeBase o m X.env (eval o X.env) = eval o X.env
  few : ((backTo cpos (starEach [e, f] X.env)).all (fun x => !x.1) && (backToKw cpos (keywordEach [] X.env)).all (fun x => x.1.isSome)
    && decide (([e, f] : List Expr).length + ([] : List Keyword).length + (if ([] : List Keyword).isEmpty then 0 else 1) < 30)) = true
  line : (apos.endLine == cpos.line) = true
  trees : backTo cpos (starEach [e, f] X.env) = [(false, eval e X.env), (false, eval f X.env)]
section
variable {X : Cx} {pins : List (Addr × Obj)} {σ : St} {H : Hp} {s : Shared} {a : Addr} {y d : V} {u r : Value} {o : Option V} {A : Around} {E : Value → Shared → Prop}
end
section
variable {X : Cx} {o e f : Expr} {apos cpos : Pos} {td ty tx : TE}
end
section
variable {X : Cx} {pins : List (Addr × Obj)} {σ : St} {H : Hp} {s : Shared} {a : Addr} {kvs : List (Key × V)} {A : Around} {E : Value → Shared → Prop}
end
section
variable {X : Cx} {pins : List (Addr × Obj)} {σ : St} {H : Hp} {s : Shared} {a : Addr} {y : V} {u : Value} {A : Around} {E : Value → Shared → Prop}
end
end L2
namespace L2
open PySem PySem.Spec PyProof.Rows
section
variable {κ : Type} [DecidableEq κ]
theorem valV_not {kvs : List (κ × V)} {k : κ} (h : valV kvs k = none) : ¬ k ∈ kvs.map (·.1) := by
  intro m
  obtain ⟨p, hp, e⟩ := List.mem_map.mp m
  have q : (kvs.any fun kv => decide (kv.1 = k)) = true := List.any_eq_true.mpr ⟨p, hp, decide_eq_true e⟩
  rw [valV_any, h] at q
  exact absurd q (by simp)
theorem valV_in {kvs : List (κ × V)} {k : κ} {v : V} (h : valV kvs k = some v) : k ∈ kvs.map (·.1) := by
  have q : (kvs.any fun kv => decide (kv.1 = k)) = true := by
    rw [valV_any, h]
    all_goals rfl
  obtain ⟨p, hp, e⟩ := List.any_eq_true.mp q
  exact List.mem_map.mpr ⟨p, hp, of_decide_eq_true e⟩
end
end L2
set_option Elab.async false
set_option linter.all false
set_option maxRecDepth 100000
namespace L2
open PySem PySem.Spec PyProof.Rows
theorem paired_of {α β : Type} {R : α → β → Prop} : ∀ {xs : List α} {ys : List β}, xs.length = ys.length → (∀ (j : Nat) x y, xs[j]? = some x → ys[j]? = some y → R x y) → Paired R xs ys
  | [], [], _, _ => .nil
  | x :: xs, y :: ys, hl, h => .cons (h 0 x y rfl rfl) (paired_of (by simpa using hl) fun j a b e1 e2 => h (j + 1) a b (by simpa using e1) (by simpa using e2))
theorem kv_keys {kvs : List (Key × V)} {vs : List (Key × Value)} (r : KV kvs vs) : vs.map (·.1) = kvs.map (·.1) := by
  unfold KV at r
  induction r with
  | nil => rfl
  | cons h _ ih => rw [List.map_cons, List.map_cons, ih, h.1]
section
variable {prog : Program} {w : World} {A : Around} {E : Value → Shared → Prop} {s : Shared}
theorem sorted_collected {x : Value} {ns : List Int} {b : Bool} {Q : Value → Shared → Prop} (h64 : ns.length < 64)
    (hc : ∀ (R : List Value → Shared → Prop), (∀ h' tk (vs : List Value), (∀ b o, s.heap.get? b = some o → h'.get? b = some o) → IntsAre vs ns → R vs { s with heap := h', toks := tk }) → wpAny (model prog w) A.in1 (collect x) R E s)
    (h : ∀ (out : List Value) (n : Nat) (h1 h' : Heap) (tk : Nat) (ns' : List Int), (∀ b o, s.heap.get? b = some o → h1.get? b = some o) → (∀ b o, h1.get? b = some o → h'.get? b = some o) → h'.get? h1.objs.size = some (seqObj "list" out.toArray n) → IntsAre out ns' → ns'.Perm ns → Ordered b ns' → Q (.ref h1.objs.size) { s with heap := h', toks := tk }) :
    wpAny (model prog w) A (call (.builtin "sorted") [x] [(Str.ofString "reverse", .bool b)]) Q E s := by
  refine call_function_entry_kw kind_sorted plain_sorted entry_sorted (args_sorted_rev _ _) ?_
  unfold Builtin.«sorted»
  refine wpAny_bind (m := checkCount "sorted" 1 1 _) (wpAny_pure ?_)
  refine wpAny_bind (hc _ fun h1 tk vs hk1 hI => ?_)
  have hlv : vs.length < 64 := by rw [← hI.length] at h64; exact h64
  refine wpAny_bind (wpAny_newList ?_ (Nat.le_trans (Nat.le_of_lt hlv) (by decide)))
  have hoL : (h1.push (seqObj "list" vs.toArray 0)).get? h1.objs.size = some (seqObj "list" vs.toArray 0) := Heap.get?_push_size _ rfl
  refine wpAny_bind (wpAny_holding (wpAny_call_entry_kw slot_list_sort ⟨_, hoL, rfl⟩ entry_list_sort (list_sort_tree_rev hoL hI hlv fun out ns' a1 a2 a3 => ⟨_, rfl, ?_⟩) (args_list_sort_rev _ _)))
  obtain ⟨e, he⟩ := sortedHeap_at (vs := vs) (out := out) hoL
  refine wpAny_pure ⟨_, rfl, h out.toList e h1 _ tk ns' hk1 (fun b o hb => ?_) he a1 a2 a3⟩
  have hlt := Heap.lt_size hb
  rw [sortedHeap_old (Nat.ne_of_lt hlt) (by rw [Heap.size_push]; exact Nat.lt_succ_of_lt hlt)]
  exact Heap.get?_push_of_some _ hb
end
section
variable {X : Cx}
def rSortD (b : Bool) : V → Hp → VK → Prop := fun x H Q => ∃ a kvs ns, x = .ref a ∧ H a = some (.dK kvs) ∧ kvs.map (·.1) = (ns : List Int).map Sum.inl ∧ ns.length < 64 ∧ ∀ ns' p, ns.Nodup → ns'.Perm ns → Ordered b ns' → H p = none → Q (.ref p) (upd H p (.lst (ns'.map V.int)))
def tSortD (b : Bool) (te : TE) : TE := fun σ H Q => te σ H fun x H1 => rSortD b x H1 Q
theorem pe_sortD {e : Expr} {te : TE} {b : Bool} {p kp cp pos : Pos} {j : Nat} (hcm : X.calm = true) (hg : Gl X "sorted") (hm : X.mg "sorted" = none) (he : PE X e te)
    (hse : starEach [e] X.env = [(false, eval e X.env)] := by rfl) : PE X (.Call (.Name "sorted" p) [e] [⟨some "reverse", .Constant (.bool b) j cp, kp⟩] pos) (tSortD b te) := by
  intro pins s σ H Q I h
  refine wpAny_Call_Name_kw (ld_blt I hg hm boot_sorted ?_ (by decide) (by decide))
  refine callWith_kw (thn (pa_cons he pa_nil hse pos pins s σ H (fun vs H1 => match vs with | [x] => rSortD b x H1 Q | _ => False) I h) fun us s1 ⟨vs, H1, I1, r1, q1⟩ => ?_) (by rw [hse]; rfl) (by rw [hse]; rfl)
  match vs, r1, q1 with
  | [x], r1, q =>
    obtain ⟨u, rfl, ru⟩ := vals1 r1
    refine kws_cons (Constant_bool (kws_nil ?_))
    obtain ⟨a, kvs, ns, rfl, hq, hks, hl, q⟩ := q
    cases ru
    show wpAny _ _ (call (.builtin "sorted") [.ref a] [(Str.ofString "reverse", .bool b)]) _ _ _
    have hh : X.A.in1.handled = none := I1.ok.hd hcm
    obtain ⟨hz, lo, ws, rel, o, es, ep, ho, hex, hd, hko, hpr, hnd⟩ := dk_of I1.hok hq
    have hkeys : ws.map (·.1) = ns.map Sum.inl := by rw [kv_keys rel, hks]
    have hlen : ws.length = ns.length := by
      have := congrArg List.length hkeys
      simpa using this
    have hdup : ns.Nodup := by
      rw [hkeys] at hnd
      exact (List.Pairwise.of_map (S := fun a b => a ≠ b) Sum.inl (fun a b h z => h (by rw [z])) hnd)
    refine sorted_collected hl (fun R hR => PySem.W.kdu_collect (A := X.A.in1) (PySem.W.kdl_dict (knd := mixKind X.prog X.w) (kvs := ws) (ep := ep) lo) hh ⟨o, es, ho, hex, hd, hko, hpr, hnd⟩ (by rw [hlen]; exact small64 hl) fun h' tk acc hk hacc => hR h' tk acc.toList hk ?_) fun out n h1 h' tk ns' k1 k2 e a1 a2 a3 => ?_
    · have hla : acc.toList.length = ns.length := by rw [Array.length_toList, hacc.1, hlen]
      refine intsAre_of (paired_of (by rw [List.length_map, hla]) fun j x y e1 e2 => ?_)
      obtain ⟨z, hz, rfl⟩ := map_at e1
      obtain ⟨kk, xx, hkk, his⟩ := hacc.2 j y (by rw [← Array.getElem?_toList]; exact e2)
      have e3 : (ws.map (·.1))[j]? = some kk := by rw [List.getElem?_map, hkk]; rfl
      rw [hkeys, List.getElem?_map, hz] at e3
      have e4 : Sum.inl z = kk := Option.some.inj e3
      subst e4
      rcases keyIs_shape (show keyIs (Sum.inl z) y = true from his) with ⟨i, t, e5, e6⟩ | ⟨i, t, e5, e6⟩
      · cases e5
        exact ⟨t, e6⟩
      · cases e5
    · have hz' : (ns'.map V.int).length ≤ sizeLine := by rw [List.length_map, a2.length_eq]; exact small64 hl
      have I2 : Inv X pins σ H1 { s1 with heap := h1 } := I1.kept (t' := s1.toks) k1
      exact ⟨.ref _, _, I2.laid (t' := tk) k2 (Nat.le_refl _) (show ObjOk X.prog X.w _ _ _ (.lst (ns'.map V.int)) from ⟨hz', out, n, vals_ints a1, by simpa [seqObj] using e⟩), rfl, q ns' _ hdup a2 a3 (I2.hok.fresh (Nat.le_refl _))⟩
end
end L2
set_option Elab.async false
set_option linter.all false
set_option maxRecDepth 100000
namespace L2
open PySem PySem.Spec PyProof.Rows
section
variable {X : Cx}
def rCatA (K : PySem.W.Frag) : R2 := fun x y H Q => ∃ a b xs ys, x = .ref a ∧ y = .ref b ∧ SqT K H a xs ∧ SqT K H b ys ∧ xs.length + ys.length ≤ sizeLine ∧
  (xs = [] → Q (.ref b) H) ∧ (xs ≠ [] → ys = [] → Q (.ref a) H) ∧ (xs ≠ [] → ys ≠ [] → ∀ p, H p = none → Q (.ref p) (upd H p (.tup (xs ++ ys))))
theorem op_catA : OpR X (binaryOp .Add) (rCatA X.K) := by
  intro pins s σ H x y v u Q I rx ry h
  obtain ⟨a, b, xs, ys, rfl, rfl, ha, hb, hz, q0, q1, q2⟩ := h
  by_cases hx : xs = []
  · cases rx
    cases ry
    obtain ⟨its, r1, p1, _⟩ := I.tuple ha
    obtain ⟨its2, r2, p2, _⟩ := I.tuple hb
    obtain ⟨⟨cls, dd, data, sl⟩, ho, hc, n, hd⟩ := id p1
    obtain ⟨⟨cls2, dd2, data2, sl2⟩, ho2, hc2, n2, hd2⟩ := id p2
    simp only at hc hd hc2 hd2
    subst hc hd hc2 hd2
    have e0 : its.toArray.isEmpty = true := by
      have := r1.nil_iff.mpr hx
      simp [this]
    exact concat_meets ⟨_, ho, rfl⟩ ⟨_, ho2, rfl⟩ noFill_tuple_add seq_tuple_add PySem.F.slot_tuple_add PySem.F.entry_tuple_add (PySem.F.args_tuple_add_2 _ _)
      (tuple_addW0 a b its.toArray its2.toArray n n2 dd dd2 sl sl2 e0) ⟨ho, ho2, ⟨.ref b, H, I, rfl, q0 hx⟩⟩
  · exact op_catT pins s σ H (.ref a) (.ref b) v u Q I rx ry ⟨a, b, xs, ys, rfl, rfl, ha, hb, hx, hz, q1 hx, q2 hx⟩
def tRng1 (ta : TA) : TE := fun σ H Q => ta σ H fun vs H1 => ∃ j : Int, vs = [.int j] ∧ ∀ p, H1 p = none → Q (.ref p) (upd H1 p (.rng 0 j))
theorem pe_rng1 {a : Expr} {ta : TA} {p pos : Pos} (hg : Gl X "range") (hm : X.mg "range" = none) (ha : PA X [a] ta) (hs : starEach [a] X.env = [(false, eval a X.env)] := by rfl) : PE X (.Call (.Name "range" p) [a] [] pos) (tRng1 ta) := by
  intro pins s σ H Q I h
  refine Call_ (ld_blt I hg hm boot_range (PyProof.Rows.callWith_type1 (thn (ha pos pins s σ H _ I h) fun us s1 ⟨vs, H1, I1, r1, q1⟩ => ?_) hs rfl))
  obtain ⟨j, e, q⟩ := q1
  subst e
  cases r1 with
  | cons r rr =>
    cases rr
    obtain ⟨t, rfl⟩ := r
    refine call_range_1 ?_
    exact ⟨.ref _, _, I1.laid (o := .rng 0 j) (fun b o e => Heap.get?_push_of_some _ e) (Nat.le_refl _) ⟨_, _, _, Heap.get?_push_size _ rfl⟩, rfl, q _ (I1.hok.fresh (Nat.le_refl _))⟩
theorem call_list_rng (hc : X.calm = true) : CallR X (.type "list") (fun xs H Q => ∃ (p : Addr) (hi : Int), xs = [.ref p] ∧ H p = some (.rng 0 hi) ∧ 0 ≤ hi ∧ hi ≤ 100000 ∧ ∀ l, H l = none → Q (.ref l) (upd H l (.lst (((List.range hi.toNat).map fun (k : Nat) => (k : Int)).map V.int)))) := by
  intro pins s σ H xs us Q I r h
  obtain ⟨p, hi, rfl, hq, h0, h1, q⟩ := h
  obtain ⟨u, rfl, ru⟩ := vals1 r
  cases ru
  obtain ⟨t1, t2, t3, e⟩ := I.hok p _ hq
  have hn : Builtin.Range.rangeSize 0 hi 1 = ((hi.toNat : Nat) : Int) := by rw [rangeSize_one]; split <;> omega
  refine call_list_range (I.ok.hd hc) e (small_one (by decide) (by decide) (by omega) (by omega)) hn (by omega) fun h' tk acc c kk hS hacc => ?_
  refine ⟨.ref _, _, I.laid (t' := tk) (o := .lst (((List.range hi.toNat).map fun (k : Nat) => (k : Int)).map V.int)) kk (Nat.le_refl _) ⟨?_, acc.toList, c, paired_of ?_ (fun j x y e1 e2 => ?_), by simpa using hS⟩, rfl, q _ (I.hok.fresh (Nat.le_refl _))⟩
  · rw [List.length_map, List.length_map, List.length_range]
    have : (100000 : Nat) ≤ sizeLine := by decide
    omega
  · rw [List.length_map, List.length_map, List.length_range, Array.length_toList, hacc.1]
  · obtain ⟨z, hz, rfl⟩ := map_at e1
    obtain ⟨tk, rfl⟩ := hacc.2 j y (by rw [← Array.getElem?_toList]; exact e2)
    rw [List.getElem?_map] at hz
    cases hr : (List.range hi.toNat)[j]? with
    | none => rw [hr] at hz; cases hz
    | some k =>
      rw [hr] at hz
      have ek : j = k := by
        obtain ⟨h1, h2⟩ := List.getElem?_eq_some_iff.mp hr
        rw [List.getElem_range] at h2
        exact h2
      have : (k : Int) = z := Option.some.inj hz
      refine ⟨tk, ?_⟩
      rw [← this, ← ek]
      simp
end
end L2
set_option Elab.async false
set_option linter.all false
namespace L2
def cntG (ns : List Int) (k : Int) : Nat := (ns.filter fun x => decide (k ≤ x)).length
def turn (ns : List Int) : List Int := (List.range (ns.headD 0).toNat).map fun (k : Nat) => ((cntG ns ((k : Int) + 1) : Nat) : Int)
end L2
set_option Elab.async false
set_option linter.all false
namespace L2
open PySem PySem.Spec PyProof.Rows
def Tups (H H' : Hp) : Prop := ∀ b xs, H b = some (.tup xs) → H' b = some (.tup xs)
theorem Tups.trans {H H1 H2 : Hp} (a : Tups H H1) (b : Tups H1 H2) : Tups H H2 := fun c xs h => b c xs (a c xs h)
theorem Same.tups {H H' : Hp} (h : Same H H') : Tups H H' := fun b xs e => h b _ e
theorem Keep.tups {H H' : Hp} {st ga ca : Addr} {N : Nat} (K : Keep [st, ga] H H') (S : StAt H st ga ca N) : Tups H H' := fun b xs e => K b _ e (fun z => by
  obtain ⟨gs, cs, q, n, h1, h2, _⟩ := S.ex
  simp only [List.mem_cons, List.not_mem_nil, or_false] at z
  rcases z with rfl | rfl
  · rw [h1] at e; cases e
  · rw [h2] at e; cases e)
theorem Tups.set {H : Hp} {l : Addr} {xs : List V} {o : HO} (h : H l = some (.lst xs)) : Tups H (upd H l o) := fun b ys e => by
  rw [upd_ne (ne_of e h (by intro z; cases z))]; exact e
def Tup1 (hs : List Int) (v : V) (H : Hp) : Prop := ∃ q, v = .ref q ∧ H q = some (.tup (hs.map V.int))
theorem Tup1.mv {H H' : Hp} {hs : List Int} {v : V} (t : Tups H H') (h : Tup1 hs v H) : Tup1 hs v H' := let ⟨q, e, h⟩ := h; ⟨q, e, t _ _ h⟩
theorem All2.mv {H H' : Hp} {ls : List (List Int)} {xs : List V} (t : Tups H H') (h : All2 Tup1 H ls xs) : All2 Tup1 H' ls xs := h.imp fun _ _ z => z.mv t
theorem All2.at {α : Type} {R : α → V → Hp → Prop} {H : Hp} : ∀ {l : List α} {xs : List V} {i : Nat} {a : α}, All2 R H l xs → l[i]? = some a → ∃ x, xs[i]? = some x ∧ R a x H
  | _, _, _, _, .nil, e => by simp at e
  | _, _, 0, _, .cons r _, e => by simp at e; subst e; exact ⟨_, rfl, r⟩
  | _, _, i + 1, a, .cons _ t, e => by
    obtain ⟨u, h1, h2⟩ := All2.at (i := i) (a := a) t (by simpa using e)
    exact ⟨u, by simpa using h1, h2⟩
theorem All2.snoc {α : Type} {R : α → V → Hp → Prop} {H : Hp} {l : List α} {xs : List V} {a : α} {x : V} (h : All2 R H l xs) (r : R a x H) : All2 R H (l ++ [a]) (xs ++ [x]) := h.append (.cons r .nil)
def maxC : List (List Int) → Int → Nat
  | [], _ => 0
  | h :: r, x => max (h.count x) (maxC r x)
def IsJoin (ls : List (List Int)) (ms : List Int) : Prop := ms.Pairwise (· ≥ ·) ∧ ∀ x, ms.count x = maxC ls x
theorem IsJoin.uniq {ls : List (List Int)} {a b : List Int} (h1 : IsJoin ls a) (h2 : IsJoin ls b) : a = b :=
  perm_ge_eq h1.1 h2.1 (List.perm_iff_count.mpr fun x => by rw [h1.2, h2.2])
theorem maxC_le {ls : List (List Int)} {x : Int} {B : Nat} (h : ∀ l ∈ ls, l.count x ≤ B) : maxC ls x ≤ B := by
  induction ls with
  | nil => exact Nat.zero_le _
  | cons a r ih =>
    have h1 := h a (by simp)
    have h2 := ih fun l hl => h l (by simp [hl])
    rw [maxC]; omega
theorem le_maxC {ls : List (List Int)} {x : Int} {l : List Int} (h : l ∈ ls) : l.count x ≤ maxC ls x := by
  induction ls with
  | nil => cases h
  | cons a r ih =>
    rw [maxC]
    rcases List.mem_cons.mp h with rfl | h
    · omega
    · have := ih h; omega
theorem maxC_flat (ls : List (List Int)) (x : Int) : maxC ls x ≤ ls.flatten.count x := by
  induction ls with
  | nil => exact Nat.zero_le _
  | cons a r ih => rw [maxC, List.flatten_cons, List.count_append]; omega
theorem maxC_zero {ls : List (List Int)} {x : Int} (h : x ∉ ls.flatten) : maxC ls x = 0 := by
  have := maxC_flat ls x
  rw [List.count_eq_zero_of_not_mem h] at this
  omega
theorem max_of_counts {ls : List (List Int)} {x m : Int} (h : Ismax m (ls.map fun l => ((l.count x : Nat) : Int))) : m = ((maxC ls x : Nat) : Int) := by
  obtain ⟨h1, h2⟩ := h
  obtain ⟨l, hl, rfl⟩ := List.mem_map.mp h1
  have a := le_maxC (x := x) hl
  have b : maxC ls x ≤ l.count x := maxC_le fun k hk => by
    have := h2 _ (List.mem_map.mpr ⟨k, hk, rfl⟩)
    omega
  omega
def blow (f : Int → Nat) : List Int → List Int
  | [] => []
  | u :: r => List.replicate (f u) u ++ blow f r
theorem blow_append (f : Int → Nat) (a b : List Int) : blow f (a ++ b) = blow f a ++ blow f b := by
  induction a with
  | nil => rfl
  | cons u r ih => rw [List.cons_append, blow, ih, blow, List.append_assoc]
theorem blow_mem {f : Int → Nat} {us : List Int} {x : Int} (h : x ∈ blow f us) : x ∈ us := by
  induction us with
  | nil => exact h
  | cons u r ih =>
    rcases List.mem_append.mp h with h | h
    · rw [List.eq_of_mem_replicate h]; simp
    · simp [ih h]
theorem blow_count {f : Int → Nat} {us : List Int} (hn : us.Nodup) (x : Int) : (blow f us).count x = if x ∈ us then f x else 0 := by
  induction us with
  | nil => rfl
  | cons u r ih =>
    obtain ⟨h1, h2⟩ := List.nodup_cons.mp hn
    rw [blow, List.count_append, ih h2, List.count_replicate]
    by_cases e : u = x
    · subst e; simp [h1]
    · have e' : ¬ x = u := fun z => e z.symm
      simp [e, e', List.mem_cons]
theorem blow_pw {f : Int → Nat} {us : List Int} (h : us.Pairwise (· ≥ ·)) : (blow f us).Pairwise (· ≥ ·) := by
  induction us with
  | nil => exact .nil
  | cons u r ih =>
    obtain ⟨h1, h2⟩ := List.pairwise_cons.mp h
    refine List.pairwise_append.mpr ⟨?_, ih h2, fun a ha b hb => ?_⟩
    · exact List.pairwise_replicate.mpr (Or.inr (Int.le_refl _))
    · rw [List.eq_of_mem_replicate ha]
      exact h1 _ (blow_mem hb)
theorem blow_join {ls : List (List Int)} {us : List Int} (hn : us.Nodup) (hp : us.Pairwise (· ≥ ·)) (hm : ∀ x, x ∈ us ↔ x ∈ ls.flatten) : IsJoin ls (blow (maxC ls) us) := by
  refine ⟨blow_pw hp, fun x => ?_⟩
  rw [blow_count hn]
  by_cases h : x ∈ us
  · rw [if_pos h]
  · rw [if_neg h, maxC_zero fun z => h ((hm x).mpr z)]
def chG (ns : List Int) : List (List Int) := ns.foldl (fun cs n => cs ++ cs.map (· ++ [n])) [[]]
theorem chG_snoc (ns : List Int) (n : Int) : chG (ns ++ [n]) = chG ns ++ (chG ns).map (· ++ [n]) := by
  unfold chG; rw [List.foldl_append]; rfl
theorem chG_len : ∀ (k : Nat) (ns : List Int), ns.length = k → (chG ns).length = 2 ^ k
  | 0, ns, h => by rw [List.length_eq_zero_iff.mp h]; rfl
  | k + 1, ns, h => by
    have hne : ns ≠ [] := fun z => by rw [z] at h; cases h
    have e := (List.dropLast_concat_getLast hne).symm
    rw [e, chG_snoc, List.length_append, List.length_map, chG_len k ns.dropLast (by rw [List.length_dropLast]; omega), Nat.pow_succ]
    omega
theorem chG_mem : ∀ (k : Nat) (ns : List Int), ns.length = k → ∀ c ∈ chG ns, c.length ≤ k ∧ ∀ x ∈ c, x ∈ ns
  | 0, ns, h, c, hc => by
    rw [List.length_eq_zero_iff.mp h] at hc
    have : c = [] := by simpa [chG] using hc
    rw [this]
    exact ⟨Nat.le_refl _, fun x hx => nomatch hx⟩
  | k + 1, ns, h, c, hc => by
    have hne : ns ≠ [] := fun z => by rw [z] at h; cases h
    have e := (List.dropLast_concat_getLast hne).symm
    rw [e, chG_snoc] at hc
    have ih := chG_mem k ns.dropLast (by rw [List.length_dropLast]; omega)
    rcases List.mem_append.mp hc with hc | hc
    · obtain ⟨a, b⟩ := ih c hc
      exact ⟨by omega, fun x hx => (List.dropLast_sublist ns).subset (b x hx)⟩
    · obtain ⟨d, hd, rfl⟩ := List.mem_map.mp hc
      obtain ⟨a, b⟩ := ih d hd
      refine ⟨by simp; omega, fun x hx => ?_⟩
      rcases List.mem_append.mp hx with hx | hx
      · exact (List.dropLast_sublist ns).subset (b x hx)
      · have : x = ns.getLast hne := by simpa using hx
        rw [this]; exact List.getLast_mem hne
theorem putK_keys {κ : Type} [DecidableEq κ] {kvs : List (κ × V)} {k : κ} {v w : V} (h : valV kvs k = some v) : (putK kvs k w).map (·.1) = kvs.map (·.1) := by
  unfold putK
  rw [if_pos (by rw [valV_any, h]; rfl), List.map_map]
  refine List.map_congr_left fun x _ => ?_
  show (if x.1 = k then (x.1, w) else x).1 = x.1
  split <;> rfl
end L2
set_option Elab.async false
set_option linter.all false
namespace L2
open PySem PySem.Spec PyProof.Rows
section
variable {X : Cx}
theorem OpR.kk {f : Value → Value → Sem Value} (K0 : PySem.W.Frag) (r : PySem.W.Frag → R2) (ho : OpR X f (r X.K)) (h : X.K = K0) : OpR X f (r K0) := by subst h; exact ho
theorem IxR.kk (K0 : PySem.W.Frag) (r : PySem.W.Frag → R2) (ho : IxR X (r X.K)) (h : X.K = K0) : IxR X (r K0) := by subst h; exact ho
theorem CallR.kk {f : Value} (K0 : PySem.W.Frag) (r : PySem.W.Frag → List V → Hp → VK → Prop) (ho : CallR X f (r X.K)) (h : X.K = K0) : CallR X f (r K0) := by subst h; exact ho
theorem MtR.kk {id : String} (K0 : PySem.W.Frag) (r : PySem.W.Frag → V → List V → Hp → VK → Prop) (ho : MtR X id (r X.K)) (h : X.K = K0) : MtR X id (r K0) := by subst h; exact ho
theorem PE.kk {e : Expr} (K0 : PySem.W.Frag) (t : PySem.W.Frag → TE) (ho : PE X e (t X.K)) (h : X.K = K0) : PE X e (t K0) := by subst h; exact ho
def rLenSq (K : PySem.W.Frag) : List V → Hp → VK → Prop := fun xs H Q => ∃ p ys, xs = [.ref p] ∧ (SqL K H p ys ∨ SqT K H p ys) ∧ Q (.int ys.length) H
theorem call_len_seqK (K0 : PySem.W.Frag) (h : X.K = K0) : CallR X (.builtin "len") (rLenSq K0) := CallR.kk K0 rLenSq call_len_seq h
theorem op_catAK (K0 : PySem.W.Frag) (h : X.K = K0) : OpR X (binaryOp .Add) (rCatA K0) := OpR.kk K0 rCatA op_catA h
theorem ix_tupK (K0 : PySem.W.Frag) (h : X.K = K0) : IxR X (rIxT K0) := IxR.kk K0 rIxT ix_tup h
theorem mt_countTK (K0 : PySem.W.Frag) (h : X.K = K0) : MtR X "tuple.count" (rCount K0 SqT) := MtR.kk K0 (fun K => rCount K SqT) mt_countT h
theorem mt_countLK (K0 : PySem.W.Frag) (h : X.K = K0) : MtR X "list.count" (rCount K0 SqL) := MtR.kk K0 (fun K => rCount K SqL) mt_countL h
variable {o e : Expr} {es : List Expr} {to : TE} {t : TA} {name : Str} {apos cpos : Pos} {T id : String} {r : V → List V → Hp → VK → Prop}
theorem pe_bmK (K0 : PySem.W.Frag) (h : X.K = K0) (pa : PlainAttrs T) (slot : Slot T name id) (hty : typeOf (.builtin id) = pure (.type "method_descriptor")) (hm : MtR X id r) (ho : PE X o to) (ha : PA X (e :: es) t)
    (hbase : attributeBase o name X.env (eval o X.env) = eval o X.env := by rfl)
    (hfew : ((backTo cpos (starEach (e :: es) X.env)).all (fun x => !x.1) && (backToKw cpos (keywordEach [] X.env)).all (fun x => x.1.isSome) && decide ((e :: es).length + ([] : List Keyword).length + (if ([] : List Keyword).isEmpty then 0 else 1) < 30)) = true := by rfl)
    (hline : (apos.endLine == cpos.line) = true := by rfl) (hs : starEach (e :: es) X.env = (false, eval e X.env) :: starEach es X.env := by rfl) (hplain : (backTo cpos (starEach es X.env)).any (·.1) = false := by rfl) : PE X (.Call (.Attribute o name apos) (e :: es) [] cpos) (tBM K0 T r to t) := by
  subst h
  exact pe_bm pa slot hty hm ho ha hbase hfew hline hs hplain
theorem pt_truthK {a : Expr} {ta : TE} (K0 : PySem.W.Frag) (h : X.K = K0) (ha : PE X a ta) (he : ∀ whole, isTrue a X.env whole = (do let v ← whole; standAt a.pos; holding [v] (truthy v))) : PT X a (fun σ H Q => ta σ H fun x H' => ∃ k, TruV K0 x H' k ∧ Q k H') := by
  subst h
  exact pt_truth ha he
def rTupOf (K : PySem.W.Frag) : List V → Hp → VK → Prop := fun xs H Q => ∃ p ys, xs = [.ref p] ∧ ((SqL K H p ys ∧ ∀ l, H l = none → Q (.ref l) (upd H l (.tup ys))) ∨ (SqT K H p ys ∧ Q (.ref p) H))
theorem call_tuple_ofK (K0 : PySem.W.Frag) (h : X.K = K0) : CallR X (.type "tuple") (rTupOf K0) := CallR.kk K0 rTupOf call_tuple_of h
def rSumI (K : PySem.W.Frag) : List V → Hp → VK → Prop := fun xs H Q => ∃ (a : Addr) (ns : List Int), xs = [.ref a] ∧ (SqL K H a (ns.map V.int) ∨ SqT K H a (ns.map V.int)) ∧ Q (.int ns.sum) H
theorem call_sum_intsK (K0 : PySem.W.Frag) (hc : X.calm = true) (h : X.K = K0) : CallR X (.builtin "sum") (rSumI K0) := CallR.kk K0 rSumI (call_sum_ints hc) h
theorem op_gtTK (K0 : PySem.W.Frag) (h : X.K = K0) (hu : X.A.units < cLine) : OpR X (compareOp .Gt) (fun x y H Q => ∃ a b ns ms, x = .ref a ∧ y = .ref b ∧ SqT K0 H a (ns.map V.int) ∧ SqT K0 H b (ms.map V.int) ∧ Q (.bl (HT.lexGt ns ms)) H) := by
  subst h
  exact op_gtT hu
end
end L2
set_option Elab.async false
set_option linter.all false
namespace L2
open PySem PySem.Spec PyProof.Rows
def upto (n : Nat) : List Int := (List.range n).map fun (k : Nat) => (k : Int)
theorem upto_succ (n : Nat) : upto (n + 1) = upto n ++ [(n : Int)] := by unfold upto; rw [List.range_succ, List.map_append]; rfl
theorem upto_len (n : Nat) : (upto n).length = n := by unfold upto; simp
theorem upto_mem {n : Nat} {x : Int} (h : x ∈ upto n) : 0 ≤ x ∧ x < n := by
  unfold upto at h
  obtain ⟨k, hk, rfl⟩ := List.mem_map.mp h
  rw [List.mem_range] at hk
  omega
theorem cat_one {K : PySem.W.Frag} {H : Hp} {q : Addr} {hs : List Int} {z : Int} {t : Addr} {Q : V → Hp → Prop} (hq : H q = some (.tup (hs.map V.int))) (ht : H t = some (.tup [V.int z])) (hl : hs.length ≤ 60)
    (k : ∀ (v : V) (H' : Hp), Tup1 (hs ++ [z]) v H' → Same H H' → Q v H') : rCatA K (.ref q) (.ref t) H Q := by
  refine ⟨q, t, _, _, rfl, rfl, SqT.of hq, SqT.of ht, ?_, fun e => ?_, fun _ e => ?_, fun _ _ p hp => ?_⟩
  · rw [List.length_map]
    exact Nat.le_trans (m := 61) (by simp; omega) (by decide)
  · have : hs = [] := List.map_eq_nil_iff.mp e
    subst this
    exact k _ _ ⟨t, rfl, ht⟩ (fun _ _ h => h)
  · cases e
  · exact k _ _ ⟨p, rfl, by rw [upd_same, List.map_append]; rfl⟩ (Same.new hp)
structure GoodH (n : Nat) (h : List Int) : Prop where
  ln : h.length ≤ n
  bd : ∀ x ∈ h, 1 ≤ x ∧ x ≤ 10 ^ 60
  pw : h.Pairwise (· ≥ ·)
structure RB (H0 H : Hp) (st ga ca l : Addr) (N i : Nat) (rule : List (List Int)) (xs : List V) : Prop where
  li : H l = some (.lst xs)
  h2 : All2 Tup1 H rule xs
  nw : H0 l = none
  ni : l ∉ [st, ga, ca]
  ln : rule.length = i
  gd : ∀ h ∈ rule, GoodH (4 + i) h
  sa : StAt H st ga ca N
  kp : Keep [st, ga] H0 H
def pickG (rule : List (List Int)) (ch : List Int) : List (List Int) := ch.map fun j => rule.getD j.toNat []
theorem pick_at {H : Hp} {rule : List (List Int)} {rs : List V} (h2 : All2 Tup1 H rule rs) {j : Int} (h0 : 0 ≤ j) (h1 : j < rule.length) : ∃ v, atI rs j = some v ∧ Tup1 (rule.getD j.toNat []) v H := by
  obtain ⟨n, rfl⟩ : ∃ n : Nat, j = (n : Int) := ⟨j.toNat, by omega⟩
  have hn : n < rule.length := by omega
  obtain ⟨x, hx, r⟩ := h2.at (List.getElem?_eq_getElem hn)
  refine ⟨x, atI_nat hx, ?_⟩
  have : rule.getD (n : Int).toNat [] = rule[n] := by simp [hn]
  rw [this]
  exact r
theorem flat_le {B : Nat} : ∀ {ls : List (List Int)}, (∀ l ∈ ls, l.length ≤ B) → ls.flatten.length ≤ B * ls.length
  | [], _ => Nat.zero_le _
  | l :: r, h => by
    have h1 := h l (by simp)
    have h2 := flat_le (ls := r) fun m hm => h m (by simp [hm])
    rw [List.flatten_cons, List.length_append, List.length_cons, Nat.mul_succ]
    omega
theorem cat_front {K : PySem.W.Frag} {H : Hp} {q : Addr} {hs : List Int} {z : Int} {t : Addr} {Q : V → Hp → Prop} (hq : H q = some (.tup (hs.map V.int))) (ht : H t = some (.tup [V.int z])) (hl : hs.length ≤ 100)
    (k : ∀ (v : V) (H' : Hp), Tup1 (z :: hs) v H' → Same H H' → Q v H') : rCatA K (.ref t) (.ref q) H Q := by
  refine ⟨t, q, _, _, rfl, rfl, SqT.of ht, SqT.of hq, ?_, (fun e => by cases e), fun _ e => ?_, fun _ _ p hp => ?_⟩
  · rw [List.length_map]
    exact Nat.le_trans (m := 101) (by simp; omega) (by decide)
  · have : hs = [] := List.map_eq_nil_iff.mp e
    subst this
    exact k _ _ ⟨t, rfl, ht⟩ (fun _ _ h => h)
  · exact k _ _ ⟨p, rfl, by rw [upd_same]; rfl⟩ (Same.new hp)
theorem filter_take {α : Type} (p : α → Bool) {l : List α} {i : Nat} {x : α} (h : l[i]? = some x) : (l.take (i + 1)).filter p = (l.take i).filter p ++ if p x = true then [x] else [] := by
  obtain ⟨hi, e⟩ := List.getElem?_eq_some_iff.mp h
  rw [List.take_succ_eq_append_getElem hi, List.filter_append, e]
  by_cases c : p x = true
  · rw [List.filter_cons, if_pos c, if_pos c]; rfl
  · rw [List.filter_cons, if_neg c, if_neg c]; rfl
end L2
set_option Elab.async false
set_option linter.all false
set_option maxRecDepth 100000
namespace L2
open PySem PySem.Spec PyProof.Rows
open AutoSeq1 (wpAny_loadPart')
theorem drawsS {prog : Program} {w : World} {A : Around} (hh : A.handled = none) (k : Bool) (it l : Addr) (hne : l ≠ it) (items : Array Value) :
    Draws prog w A it [it, l] items.size (fun i v => items[i]? = some v) (fun i h => IterAt k h it l i ∧ SeqIs k h l items) where
  live := fun _ _ st => let ⟨o, ho, _⟩ := st.1; ⟨o, ho⟩
  frame := fun _ _ _ st hk => ⟨st.1.kept fun o e => hk it (by simp) o e, st.2.kept fun o e => hk l (by simp) o e⟩
  item := fun i s Q E hi st hQ => nextS st.1 st.2 (x := items[i]) (by simp [hi]) fun h' a b => hQ _ h' s.toks (by simp [hi]) ⟨a, st.2.kept fun o e => b.extBut _ _ hne e⟩ b
  done := fun s Q E st hE => endS hh st.1 st.2 (by simp) hE
def eH1 (k : Bool) (h : Heap) (l : Addr) : Heap := h.push { cls := .type (itName k), data := .fields #[.ref l, .int 0 0] }
def eH2 (k : Bool) (h : Heap) (l : Addr) : Heap := (eH1 k h l).push { cls := .type "enumerate", data := .fields #[.none, .bool false, .ref h.objs.size, rawInt 0, .none, .none] }
set_option maxHeartbeats 1000000 in
theorem enum_tup_meets (l : Addr) (items : Array Value) (n : Nat) (dct : Option Addr) (sl : Array (Option Value)) :
    Meets (Builtin.«enumerate.__new__» ⟨[.type "enumerate", .ref l], []⟩) (fun _ R s => s.heap.get? l = some { cls := .type "tuple", dict := dct, data := .seq items n, slots := sl } ∧ R (.ok (.ret (.ref (eH1 true s.heap l).objs.size))) { s with heap := eH2 true s.heap l }) :=
  .of_wp fun prog w A R s h => by
    obtain ⟨hp, g, d, tk, os⟩ := s
    obtain ⟨hl, h⟩ := h
    have hsub := sub_enumerate
    have hL : Heap.IsTuple (Shared.heap ⟨hp, g, d, tk, os⟩) l items := ⟨_, hl, rfl, n, rfl⟩
    wp_walk using wpAny_loadPart' hl
    refine wpAny_stack_any fun st => wpAny_pure ?_
    split
    · rename_i c _ _ _ _ _
      cases (c == Value.type "enumerate")
      all_goals (wp_walk using wpAny_loadPart' hl, wpAny_pyIter_tuple hL; exact ⟨_, rfl, h⟩)
    · wp_walk using wpAny_loadPart' hl, wpAny_pyIter_tuple hL
      exact ⟨_, rfl, h⟩
section
variable {prog : Program} {w : World} {A : Around} {E : Value → Shared → Prop} {s : Shared}
theorem call_enumS {k : Bool} {l : Addr} {items : Array Value} {Q : Value → Shared → Prop} (hL : SeqIs k s.heap l items)
    (h : ∀ h', IsEnum h' (s.heap.objs.size + 1) s.heap.objs.size 0 .none → IterAt k h' s.heap.objs.size l 0 → (∀ b o, s.heap.get? b = some o → h'.get? b = some o) → Q (.ref (s.heap.objs.size + 1)) { s with heap := h' }) :
    wpAny (model prog w) A (call (.type "enumerate") [.ref l]) Q E s := by
  cases k
  · exact call_enumerate_list hL fun h' a b _ c => h h' a b c
  · obtain ⟨⟨c, dct, dt, sl⟩, hl, hc, n, hd⟩ := hL
    replace hc : c = .type "tuple" := hc
    replace hd : dt = .seq items n := hd
    subst hc hd
    refine callType_new F.called_enumerate (by decide) (F.typeCall_enumerate_1 _) (F.newCall_enumerate_1 _) (fun obj => F.args_object_init_2 obj _) F.entry_enumerate_new (enum_tup_meets l items n dct sl) ⟨hl, ?_⟩
    have n1 : (eH1 true s.heap l).objs.size = s.heap.objs.size + 1 := Heap.size_push ..
    have f2 : (eH2 true s.heap l).get? (eH1 true s.heap l).objs.size = some _ := Heap.get?_push_size _ rfl
    have f1 : (eH2 true s.heap l).get? s.heap.objs.size = some _ := Heap.get?_push_of_some _ (Heap.get?_push_size _ rfl)
    show _ ∧ _
    rw [n1] at f2 ⊢
    exact ⟨⟨_, f2, rfl⟩, h _ f2 ⟨_, f1, rfl, rfl⟩ fun b o e => Heap.get?_push_of_some _ (Heap.get?_push_of_some _ e)⟩
end
def Ite (K : PySem.W.Frag) (k : Bool) (a : Addr) : It :=
  ⟨fun i H => ∃ xs x, Sq k K H a xs ∧ xs[i]? = some x,
   fun i H v H' => ∃ T x, H T = none ∧ v = .ref T ∧ H' = upd H T (.tup [.int i, x]) ∧ ∀ xs, Sq k K H a xs → xs[i]? = some x,
   fun i H => ∃ xs, Sq k K H a xs ∧ xs.length = i⟩
theorem turn_enum {P : Program} {w : World} {K : PySem.W.Frag} {elts : List Expr} {x1 : Nat} {pos : Pos} (k : Bool) (a e it : Addr) (hei : e ≠ it) (hai : a ≠ it) (hae : a ≠ e) :
    Turn P w K (.Tuple elts x1 pos) (Ite K k a) [e, it] e (fun i h => (∃ old, IsEnum h e it i old) ∧ IterAt k h it a i) where
  mem := by simp
  obj := fun i h st c hc => by
    obtain ⟨⟨old, g0⟩, ⟨o1, e1, _, d1⟩⟩ := st
    simp only [List.mem_cons, List.not_mem_nil, or_false] at hc
    rcases hc with rfl | rfl
    · exact ⟨_, g0, fun v q => by cases q⟩
    · exact ⟨_, e1, fun v q => by rw [d1] at q; cases q⟩
  keep := fun i h h' st f => by
    obtain ⟨⟨old, g0⟩, g1⟩ := st
    exact ⟨⟨old, f e (by simp) _ g0⟩, g1.kept (f it (by simp))⟩
  item := by
    intro X hP hw hK hc i pins s σ H E I hf st hg
    subst hP hw hK
    obtain ⟨xs, x, hq, hx⟩ := hg
    obtain ⟨us, rv, p, _⟩ := I.sq hq
    obtain ⟨u, hu, ru⟩ := rv.get hx
    obtain ⟨⟨old, g0⟩, g1⟩ := st
    have hlt : i < us.toArray.size := by
      have := (List.getElem?_eq_some_iff.mp hu).1
      simpa using this
    have hh : X.A.in1.handled = none := I.ok.hd hc
    refine wpAny_pyNext_enum_itemD (drawsS hh k it a hai us.toArray) g0 ⟨g1, p⟩ hlt hei (by simp [hei, Ne.symm hae]) fun y h' tk hy ho hst hT _ kk => ⟨_, rfl, ?_⟩
    have ey : y = u := by
      have : us.toArray[i]? = some u := by simpa using hu
      rw [this] at hy
      exact (Option.some.inj hy).symm
    subst ey
    refine wpAny_letOwnedTupleGo_enum (s := { s with heap := h', toks := tk + 1 }) ho fun h2 he2 sb => ?_
    have up : ∀ c o, c ≠ e → h'.get? c = some o → h2.get? c = some o := fun c o n q => (sb.2 c n).trans q
    have lt : e < s.heap.objs.size := Heap.lt_size g0
    have tp : IsPair h2 s.heap.objs.size (.int i tk) y := up _ _ (Nat.ne_of_gt lt) hT
    have I1 : Inv X pins σ (upd H s.heap.objs.size (.tup [.int i, x])) { s with heap := h2, toks := tk + 1 } := I.turnedN (t' := tk + 1) (ch := [e, it]) hf (fun c o n q => up c o (fun z => n (by simp [z])) (kk c o (fun z => n (by simp [z])) (fun z => n (by simp [z])) q)) (Nat.le_refl _) (pair_ok ⟨tk, rfl⟩ ru tp)
    refine ⟨.ref s.heap.objs.size, _, I1, rfl, ⟨_, x, I.hok.fresh (Nat.le_refl _), rfl, rfl, fun xs' h => by rw [I.sq_inj h hq]; exact hx⟩, ⟨⟨y, by simpa using he2⟩, hst.1.kept fun o q => up _ _ (Ne.symm hei) q⟩, fun c hc => ?_⟩
    have hlt2 : c < s.heap.objs.size := by
      simp only [List.mem_cons, List.not_mem_nil, or_false] at hc
      rcases hc with rfl | rfl
      · exact lt
      · exact g1.lt
    rw [upd_ne (Nat.ne_of_lt hlt2)]
    exact (hf c hc).1
  done := by
    intro X hP hw hK hc i pins s σ H E I hf st hg
    subst hP hw hK
    obtain ⟨xs, hq, hl⟩ := hg
    obtain ⟨us, rv, p, _⟩ := I.sq hq
    obtain ⟨⟨old, g0⟩, g1⟩ := st
    have hh : X.A.in1.handled = none := I.ok.hd hc
    have e1 : i = us.toArray.size := by
      have := rv.length
      rw [← hl, this]; simp
    rw [e1] at g1
    exact wpAny_pyNext_enum_endD (drawsS hh k it a hai us.toArray) g0 ⟨g1, p⟩ fun h' kk => ⟨rfl, I.turnedL (t' := s.toks) (ch := [e, it]) hf fun c o n q => kk c o (fun z => n (by simp [z])) q⟩
  self := fun _ _ _ _ _ st h => by
    obtain ⟨⟨old, g0⟩, _⟩ := st
    exact wpAny_pyIter_enum g0 h
section
variable {X : Cx} {elts : List Expr} {x1 : Nat} {tpos : Pos}
def iEnum (K : PySem.W.Frag) (k : Bool) (ta : TA) : TI := fun σ H R => ta σ H fun vs H1 => ∃ a, vs = [.ref a] ∧ (∃ xs, Sq k K H1 a xs) ∧ R (Ite K k a) H1
theorem pi_enum (k : Bool) {a : Expr} {ta : TA} {p pos : Pos} (hg : Gl X "enumerate") (hm : X.mg "enumerate" = none) (ha : PA X [a] ta) (hs : starEach [a] X.env = [(false, eval a X.env)] := by rfl) : PI X (.Tuple elts x1 tpos) (.Call (.Name "enumerate" p) [a] [] pos) (iEnum X.K k ta) := by
  intro pins s σ H R I h
  refine Call_ (ld_blt I hg hm boot_enumerate (PyProof.Rows.callWith_type1 (thn (ha pos pins s σ H _ I h) fun us s1 ⟨vs, H1, I1, r1, q1⟩ => ?_) hs rfl))
  obtain ⟨a, e, ⟨xs, hq⟩, q⟩ := q1
  subst e
  cases r1 with
  | cons r rr =>
    cases rr
    cases r
    obtain ⟨us, rv, p, _⟩ := I1.sq hq
    have hlt := p.lt
    refine call_enumS p fun h' g0 g1 kk => ?_
    have I2 : Inv X pins σ H1 { s1 with heap := h' } := I1.kept (t' := s1.toks) kk
    refine wpAny_pyIter_enum (s := { s1 with heap := h' }) g0 ⟨_, [s1.heap.objs.size + 1, s1.heap.objs.size], _, _, H1, rfl, I2, turn_enum k a _ _ (Nat.succ_ne_self _) (Nat.ne_of_lt hlt) (Nat.ne_of_lt (Nat.lt_succ_of_lt hlt)), ⟨⟨_, g0⟩, g1⟩, fun c hc => ?_, q⟩
    have hle : s1.heap.objs.size ≤ c := by
      have hc' : c = s1.heap.objs.size + 1 ∨ c = s1.heap.objs.size := by simpa using hc
      rcases hc' with e | e <;> rw [e] <;> first | exact Nat.le_refl _ | exact Nat.le_add_right _ _
    exact I1.fpOk hle (I1.hok.fresh hle)
end
theorem comp_enum {K : PySem.W.Frag} {k : Bool} {a : Addr} {xs : List V} {g : TG} {tf : TT} {te : TE} {σ : St} {H : Hp} {Q : VK} (Pv : Nat → List V → St → Hp → Prop) (h0 : Pv 0 [] σ H)
    (hl : ∀ i zs σ H, i ≤ xs.length → Pv i zs σ H → Sq k K H a xs ∧ zs.length ≤ sizeLine)
    (hs : ∀ i x zs σ H T, xs[i]? = some x → Pv i zs σ H → H T = none → g (.ref T) σ (upd H T (.tup [.int i, x])) fun σ2 H2 => tf σ2 H2 fun b H3 => if b = true then te σ2 H3 fun v H4 => Pv (i + 1) (zs ++ [v]) σ2 H4 else Pv (i + 1) zs σ2 H3)
    (hd : ∀ zs σ H, Pv xs.length zs σ H → ∀ p, H p = none → Q (.ref p) (upd H p (.lst zs))) : tCompK g tf te σ (Ite K k a) H Q := by
  refine ⟨fun i m zs σ H => m = xs.length - i ∧ i ≤ xs.length ∧ Pv i zs σ H, ⟨_, (Nat.sub_zero _).symm, Nat.zero_le _, h0⟩, ?_⟩
  rintro i m zs σ H ⟨rfl, hi, p⟩
  obtain ⟨q1, hz⟩ := hl i zs σ H hi p
  by_cases hlt : i < xs.length
  · refine .inr ⟨⟨xs, xs[i], q1, by simp [hlt]⟩, hz, Pv (i + 1), fun ys' σ' H' p' => ⟨xs.length - (i + 1), by omega, rfl, hlt, p'⟩, fun x H' y => ?_⟩
    obtain ⟨T, u, hT, rfl, rfl, e1⟩ := y
    exact hs i u zs σ H T (e1 xs q1) p hT
  · have e : i = xs.length := by omega
    rw [e] at p
    exact .inl ⟨⟨xs, q1, e.symm⟩, hz, hd zs σ H p⟩
end L2
set_option Elab.async false
set_option linter.all false
set_option maxRecDepth 100000
namespace L2
open PySem PySem.Spec PyProof.Rows PySem.W
def tFs (x : Str) (te : TE) : TE := fun σ H Q => te σ H fun v H1 => ∃ i, v = .int i ∧ i.natAbs.log2 < 1920 ∧ (x ++ (toString i : Str)).length ≤ sizeLine ∧ Q (.str (x ++ toString i)) H1
theorem empty_cat (x : Str) : Str.empty ++ x = x := by
  show (⟨#[] ++ x.cps⟩ : Str) = x
  simp
theorem pe_fstr {X : Cx} {x : Str} {j : Nat} {e : Expr} {te : TE} {p1 p2 pos : Pos} (hx : x.length ≤ sizeLine) (he : PE X e te) (hs : evalEach [] X.env = [] := by rfl) : PE X (.JoinedStr [.Constant (.str x) j p1, .FormattedValue e (-1) none p2] pos) (tFs x te) := by
  intro pins s σ H Q I h
  refine JoinedStr_many (joinParts_cons (Calls.Constant_str ?_))
  show (Str.empty ++ x).length ≤ sizeLine ∧ _
  rw [empty_cat, hs]
  obtain I1 := I.tok (s.toks + 1)
  refine ⟨hx, joinParts_cons (FormattedValue_plain (thn (he pins _ σ H _ I1 h) fun v s1 ⟨y, H1, I2, r, q⟩ => ?_))⟩
  obtain ⟨i, rfl, hd, hl, q⟩ := q
  obtain ⟨t, rfl⟩ := r
  refine formatField_int_small hd ?_
  exact ⟨hl, joinParts_nil ⟨.str _, H1, (I2.tok _).tok _, ⟨_, rfl⟩, q⟩ hl⟩
end L2
set_option Elab.async false
set_option linter.all false
set_option maxRecDepth 100000
namespace L2
open PySem PySem.Spec PyProof.Rows
def Itd (n : Nat) : It := ⟨fun i _ => i < n, fun i H x H' => H' = H ∧ x = .int ((n : Int) - i), fun i _ => n ≤ i⟩
theorem turn_down {P : Program} {w : World} {K : PySem.W.Frag} {tg : Expr} (it : Addr) (n : Nat) : Turn P w K tg (Itd n) [it] it (fun i h => IsRangeIter h it ((n : Int) + (i : Nat) * (-1)) ((n : Int) - (i : Nat)) (-1)) where
  mem := by simp
  obj := fun i h st b hb => by
    have e : b = it := by simpa using hb
    subst e
    exact ⟨_, st, fun v z => by
      have z' : Data.fields _ = Data.cell v := z
      cases z'⟩
  keep := fun i h h' st k => k it (by simp) _ st
  item := by
    intro X hP hw hK hc i pins s σ H E I hf st hg
    subst hP hw hK
    obtain ⟨f0, f1, f2, f3, f4, f5⟩ := hf it (by simp)
    have W := Walks.range (prog := X.prog) (w := X.w) (I.ok.hd hc) it (n : Int) (-1) n
    refine W.item i s _ _ hg st fun v h' tk hv st' kk => ?_
    obtain ⟨t, rfl⟩ := hv
    have I1 : Inv X pins σ H { s with heap := h', toks := tk } := I.turned (fun b o hb e => kk b o (by simpa using hb) e) f0 f1 f3 f4 f5
    refine ⟨_, rfl, go_of (s := { s with heap := h', toks := tk }) (n := "range_iterator") st' rfl rfl (by decide) ⟨.int ((n : Int) - i), H, I1, ⟨t, ?_⟩, ⟨rfl, rfl⟩, st', fun b hb => (hf b hb).1⟩⟩
    have : (n : Int) + (i : Int) * (-1) = (n : Int) - i := by omega
    rw [this]
  done := by
    intro X hP hw hK hc i pins s σ H E I hf st hg
    subst hP hw hK
    obtain ⟨f0, f1, f2, f3, f4, f5⟩ := hf it (by simp)
    exact wpAny_pyNext_range_end (I.ok.hd hc) st (by have : n ≤ i := hg; omega) fun h' eb => ⟨rfl, I.turned (t' := s.toks) (fun b o hb e => eb b o hb e) f0 f1 f3 f4 f5⟩
  self := fun _ _ _ _ _ st h => wpAny_pyIter_rangeiter st h
section
variable {X : Cx} {tg : Expr}
theorem size_down (n : Nat) : Builtin.Range.rangeSize (n : Int) 0 (-1) = (n : Int) := by
  unfold Builtin.Range.rangeSize
  rw [if_neg (by decide)]
  have e : ((-(-1 : Int))) = 1 := by decide
  split
  · rw [e, Int.ediv_one]; omega
  · omega
theorem small_down {n : Nat} (h : n ≤ 100000) : Builtin.Range.small (n : Int) 0 (-1) = true := by
  unfold Builtin.Range.small
  rw [size_down]
  simp only [Builtin.Range.rangeFitsLong, Bool.and_eq_true, Bool.or_eq_true, decide_eq_true_eq, beq_iff_eq, show ¬ ((-1 : Int) > 0) by decide, if_false]
  omega
def iDown (ta : TA) : TI := fun σ H R => ta σ H fun vs H1 => ∃ n : Nat, vs = [.int n, .int 0, .int (-1)] ∧ n ≤ 100000 ∧ R (Itd n) H1
theorem pi_down {a b c : Expr} {ta : TA} {p pos : Pos} (hg : Gl X "range") (hm : X.mg "range" = none) (ha : PA X [a, b, c] ta) (hs : starEach [a, b, c] X.env = (false, eval a X.env) :: starEach [b, c] X.env := by rfl) (hs2 : (backTo pos (starEach [b, c] X.env)).any (·.1) = false := by rfl) :
    PI X tg (.Call (.Name "range" p) [a, b, c] [] pos) (iDown ta) := by
  intro pins s σ H R I h
  refine Call_ (ld_blt I hg hm boot_range (PyProof.Rows.callWith_type1 (thn (ha pos pins s σ H _ I h) fun us s1 ⟨vs, H1, I1, r1, q1⟩ => ?_) hs hs2))
  obtain ⟨n, e, hn, q⟩ := q1
  subst e
  cases r1 with
  | cons r rr =>
    cases rr with
    | cons r' rr =>
      cases rr with
      | cons r'' rr =>
        cases rr
        obtain ⟨t, rfl⟩ := r
        obtain ⟨t', rfl⟩ := r'
        obtain ⟨t'', rfl⟩ := r''
        refine call_range_3 (by decide) ?_ (.inl (PyProof.noPylong_small (by decide)))
        refine wpAny_pyIter_range (s := { s1 with heap := s1.heap.push { cls := .type "range", data := .fields #[.int n t, .int 0 t', .int (-1) t''] } }) (Heap.get?_push_size _ rfl) (small_down hn) ?_
        have I2 : Inv X pins σ H1 { s1 with heap := s1.heap.push { cls := .type "range", data := .fields #[.int n t, .int 0 t', .int (-1) t''] } } := I1.kept (t' := s1.toks) fun b o e => Heap.get?_push_of_some _ e
        refine ⟨_, [(s1.heap.push { cls := .type "range", data := .fields #[.int n t, .int 0 t', .int (-1) t''] }).objs.size], _, _, H1, rfl, I2.kept (t' := s1.toks) fun b o e => Heap.get?_push_of_some _ e, turn_down _ n, ?_, fun b hb => ?_, q⟩
        · show IsRangeIter _ _ ((n : Int) + ((0 : Nat) : Int) * (-1)) ((n : Int) - ((0 : Nat) : Int)) (-1)
          have e1 : (n : Int) + ((0 : Nat) : Int) * (-1) = n := by simp
          have e2 : (n : Int) - ((0 : Nat) : Int) = Builtin.Range.rangeSize (n : Int) 0 (-1) := by rw [size_down]; simp
          rw [e1, e2]
          exact Heap.get?_push_size _ rfl
        · have e : b = (s1.heap.push { cls := .type "range", data := .fields #[.int n t, .int 0 t', .int (-1) t''] }).objs.size := by simpa using hb
          subst e
          exact I2.fpOk (Nat.le_refl _) (I2.hok.fresh (Nat.le_refl _))
end
theorem for_down {n : Nat} {g : TG} {tb : TS} {D : Ends} {σ : St} {H : Hp} (Pv : Nat → St → Hp → Prop) (h0 : Pv 0 σ H)
    (hs : ∀ i σ H, i < n → Pv i σ H → g (.int ((n : Int) - i)) σ H fun σ2 H2 => tb { D with nx := Pv (i + 1), ct := Pv (i + 1), bk := D.nx } σ2 H2) (hd : ∀ σ H, Pv n σ H → D.nx σ H) :
    ∃ W : Nat → Nat → St → Hp → Prop, (∃ m, W 0 m σ H) ∧ ∀ i m σ H, W i m σ H →
      ((Itd n).stop i H ∧ D.nx σ H) ∨ ((Itd n).go i H ∧ ∃ N : St → Hp → Prop, (∀ σ' H', N σ' H' → ∃ m', m' < m ∧ W (i + 1) m' σ' H') ∧ ∀ x H', (Itd n).yld i H x H' → g x σ H' fun σ2 H2 => tb { D with nx := N, ct := N, bk := D.nx } σ2 H2) := by
  refine ⟨fun i m σ H => m = n - i ∧ i ≤ n ∧ Pv i σ H, ⟨n, by simp, Nat.zero_le _, h0⟩, ?_⟩
  rintro i m σ H ⟨rfl, hi, p⟩
  by_cases hlt : i < n
  · refine .inr ⟨hlt, Pv (i + 1), fun σ' H' p' => ⟨n - (i + 1), by omega, rfl, hlt, p'⟩, fun x H' y => ?_⟩
    obtain ⟨e, y⟩ := y
    subst e y
    exact hs i σ _ hlt p
  · have e : i = n := by omega
    subst e
    exact .inl ⟨Nat.le_refl _, hd σ H p⟩
theorem FnOk.none {P : Program} {w : World} {K : PySem.W.Frag} {mg : Str → Option Value} {base : Heap} {CX : CXT} {k : Nat} {f : Addr} {fd : FuncData} {ps : List Str} {sp : Sp} {cm : Bool} (h : ∀ vs H Q E, ¬ sp vs H Q E) : FnOk P w K mg base CX k f fd ps sp cm :=
  ⟨fun vs H Q E z => absurd z (h vs H Q E), fun A outer s H args us vs Q E hr he hb hv hs => absurd hs (h _ _ _ _)⟩
end L2
set_option Elab.async false
set_option linter.all false
namespace L2
open PySem PySem.Spec PyProof.Rows
def partF : Nat → Nat → Nat → List (List Int)
  | 0, _, _ => []
  | f + 1, n, g => if n = 0 then [[]] else (List.range (min n g)).flatMap fun i => (partF f (n - (min n g - i)) (min n g - i)).map (((min n g - i : Nat) : Int) :: ·)
def partP (f n k i : Nat) : List (List Int) := (List.range i).flatMap fun i => (partF f (n - (k - i)) (k - i)).map (((k - i : Nat) : Int) :: ·)
theorem partF_succ (f n g : Nat) : partF (f + 1) n g = if n = 0 then [[]] else partP f n (min n g) (min n g) := rfl
theorem partP_succ (f n k i : Nat) : partP f n k (i + 1) = partP f n k i ++ (partF f (n - (k - i)) (k - i)).map (((k - i : Nat) : Int) :: ·) := by
  unfold partP
  rw [List.range_succ, List.flatMap_append]
  simp
theorem partP_len {f : Nat} (ih : ∀ n g, (partF f n g).length ≤ 2 ^ n) {n k : Nat} (hk : k ≤ n) : ∀ i, i ≤ k → (partP f n k i).length ≤ 2 ^ (n - k + i)
  | 0, _ => by simp [partP]
  | i + 1, hi => by
    have h1 := partP_len ih hk i (by omega)
    rw [partP_succ, List.length_append, List.length_map]
    have h2 := ih (n - (k - i)) (k - i)
    have e : n - (k - i) = n - k + i := by omega
    rw [e] at h2
    have e2 : n - k + (i + 1) = (n - k + i) + 1 := by omega
    rw [e2, Nat.pow_succ]
    rw [e]
    omega
theorem partF_len : ∀ f n g, (partF f n g).length ≤ 2 ^ n
  | 0, n, g => Nat.zero_le _
  | f + 1, n, g => by
    rw [partF_succ]
    split
    · rename_i h; rw [h]; exact Nat.le_refl _
    · have := partP_len (partF_len f) (n := n) (k := min n g) (Nat.min_le_left _ _) (min n g) (Nat.le_refl _)
      have e : n - min n g + min n g = n := by omega
      rw [e] at this
      exact this
theorem partF_mem : ∀ f n g, ∀ h ∈ partF f n g, h.length ≤ n
  | 0, n, g, h, hh => nomatch hh
  | f + 1, n, g, h, hh => by
    rw [partF_succ] at hh
    split at hh
    · have : h = [] := by simpa using hh
      rw [this]; exact Nat.zero_le _
    · unfold partP at hh
      obtain ⟨i, hi, hh⟩ := List.mem_flatMap.mp hh
      rw [List.mem_range] at hi
      obtain ⟨r, hr, rfl⟩ := List.mem_map.mp hh
      have := partF_mem f _ _ r hr
      rw [List.length_cons]
      omega
def idxP (rule : List (List Int)) (hs : List Int) (i : Nat) : List Int := ((List.range i).filter fun i => lies (rule.getD i []) hs).map fun (k : Nat) => (k : Int)
def idxG (rule : List (List Int)) (hs : List Int) : List Int := idxP rule hs rule.length
theorem idxP_succ (rule : List (List Int)) (hs : List Int) (i : Nat) : idxP rule hs (i + 1) = idxP rule hs i ++ if lies (rule.getD i []) hs = true then [(i : Int)] else [] := by
  unfold idxP
  rw [List.range_succ, List.filter_append, List.map_append]
  by_cases h : lies (rule.getD i []) hs = true
  · rw [List.filter_cons, if_pos h, if_pos h]; rfl
  · rw [List.filter_cons, if_neg h, if_neg h]; rfl
theorem idxP_len (rule : List (List Int)) (hs : List Int) (i : Nat) : (idxP rule hs i).length ≤ i := by
  unfold idxP
  rw [List.length_map]
  exact Nat.le_trans (List.length_filter_le _ _) (by simp)
theorem idxP_lt {rule : List (List Int)} {hs : List Int} {i : Nat} {x : Int} (h : x ∈ idxP rule hs i) : 0 ≤ x ∧ x < i ∧ lies (rule.getD x.toNat []) hs = true := by
  unfold idxP at h
  obtain ⟨k, hk, rfl⟩ := List.mem_map.mp h
  obtain ⟨h1, h2⟩ := List.mem_filter.mp hk
  rw [List.mem_range] at h1
  refine ⟨by omega, by omega, ?_⟩
  simpa using h2
def firstG (rule : List (List Int)) (hs : List Int) : Option Int := (idxG rule hs).head?
def optV : Option Int → V
  | none => .non
  | some i => .int i
theorem idxP_head (rule : List (List Int)) (hs : List Int) : ∀ i m, Ismin m (idxP rule hs i) → (idxP rule hs i).head? = some m
  | 0, m, h => nomatch h.1
  | i + 1, m, h => by
    rw [idxP_succ] at h ⊢
    cases e : idxP rule hs i with
    | nil =>
      rw [e] at h
      by_cases c : lies (rule.getD i []) hs = true
      · rw [if_pos c] at h ⊢
        have : m = (i : Int) := by simpa using h.1
        rw [this]; rfl
      · rw [if_neg c] at h
        exact nomatch h.1
    | cons y ys =>
      have ih := idxP_head rule hs i
      rw [e] at ih h
      show some y = some m
      have hy : y ∈ idxP rule hs i := by rw [e]; simp
      have hmem : m ∈ y :: ys := by
        rcases List.mem_append.mp h.1 with z | z
        · exact z
        · by_cases c : lies (rule.getD i []) hs = true
          · rw [if_pos c] at z
            have e1 : m = (i : Int) := by simpa using z
            have := h.2 y (by simp)
            have := (idxP_lt hy).2.1
            omega
          · rw [if_neg c] at z
            exact nomatch z
      exact ih m ⟨hmem, fun x hx => h.2 x (by rcases List.mem_cons.mp hx with z | z <;> simp [z])⟩
theorem first_none {rule : List (List Int)} {hs : List Int} (h : idxP rule hs rule.length = []) : firstG rule hs = none := by unfold firstG idxG; rw [h]; rfl
theorem first_some {rule : List (List Int)} {hs : List Int} {i : Nat} (h : idxP rule hs i = []) (hi : i < rule.length) (c : lies (rule.getD i []) hs = true) : firstG rule hs = some (i : Int) := by
  have step : ∀ d, (idxP rule hs (i + 1 + d)).head? = some (i : Int) := by
    intro d
    induction d with
    | zero => rw [Nat.add_zero, idxP_succ, h, if_pos c]; rfl
    | succ d ih =>
      rw [← Nat.add_assoc, idxP_succ]
      cases e : idxP rule hs (i + 1 + d) with
      | nil => rw [e] at ih; cases ih
      | cons y ys => rw [e] at ih; exact ih
  have := step (rule.length - (i + 1))
  rw [show i + 1 + (rule.length - (i + 1)) = rule.length by omega] at this
  exact this
def keptG (rule : List (List Int)) (n : Nat) : List (List Int) := (partF 26 n n).filter fun h => (firstG rule h).isNone
theorem keptG_len (rule : List (List Int)) (n : Nat) : (keptG rule n).length ≤ 2 ^ n := Nat.le_trans (List.length_filter_le _ _) (partF_len _ _ _)
theorem keptG_mem {rule : List (List Int)} {n : Nat} {h : List Int} (hh : h ∈ keptG rule n) : h.length ≤ n := partF_mem _ _ _ _ (List.mem_filter.mp hh).1
theorem pow24 {n : Nat} (h : n ≤ 24) : 2 ^ n ≤ sizeLine := Nat.le_trans (Nat.pow_le_pow_right (by decide) h) (by decide)
theorem optV_none (o : Option Int) : decide (optV o = V.non) = o.isNone := by
  cases o with
  | none => rfl
  | some i => exact decide_eq_false (by intro z; cases z)
def partsG (ls : List (List Int)) (i : Nat) : List Int := (List.range i).map fun (k : Nat) => (((ls.map fun h => (h.length : Int)).count (k : Int) : Nat) : Int)
theorem partsG_succ (ls : List (List Int)) (i : Nat) : partsG ls (i + 1) = partsG ls i ++ [(((ls.map fun h => (h.length : Int)).count (i : Int) : Nat) : Int)] := by unfold partsG; rw [List.range_succ, List.map_append]; rfl
theorem partsG_len (ls : List (List Int)) (i : Nat) : (partsG ls i).length = i := by unfold partsG; simp
end L2
set_option Elab.async false
set_option linter.all false
namespace L2
open PySem PySem.Spec PyProof.Rows
def Pair1 (pc : List Int × List Int) (v : V) (H : Hp) : Prop := ∃ q a b, v = .ref q ∧ H q = some (.tup [.ref a, .ref b]) ∧ H a = some (.tup (pc.1.map V.int)) ∧ H b = some (.tup (pc.2.map V.int))
end L2
set_option Elab.async false
set_option linter.all false
namespace L2
open PySem PySem.Spec PyProof.Rows
def coinSt (L : List Int) (part at_ : Nat) : List Int := L.set at_ (L.getD at_ 0 + L.getD (at_ - part) 0)
def coinIn (L : List Int) (part : Nat) : Nat → List Int
  | 0 => L
  | i + 1 => coinSt (coinIn L part i) part (part + i)
def coinOut (n : Nat) : Nat → List Int
  | 0 => 1 :: List.replicate n 0
  | k + 1 => coinIn (coinOut n k) (k + 1) (n - k)
theorem coinIn_len (L : List Int) (part : Nat) : ∀ i, (coinIn L part i).length = L.length
  | 0 => rfl
  | i + 1 => by unfold coinIn coinSt; rw [List.length_set, coinIn_len L part i]
theorem coinOut_len (n : Nat) : ∀ k, (coinOut n k).length = n + 1
  | 0 => by simp [coinOut]
  | k + 1 => by rw [coinOut, coinIn_len, coinOut_len n k]
def fallB : List Int → Bool
  | [] => true
  | [_] => true
  | x :: y :: r => decide (y ≤ x) && fallB (y :: r)
def lexB : List (List Int) → Bool
  | [] => true
  | [_] => true
  | x :: y :: r => HT.lexGt x y && lexB (y :: r)
def part12 (n : Nat) : Bool := ((partF 26 n n).length : Int) == (coinOut n n).getD n 0 && (partF 26 n n).all (fun h => h.sum == (n : Int) && h.all (fun x => decide (1 ≤ x)) && fallB h) && lexB (partF 26 n n)
theorem p12_0 : part12 0 = true := by decide +kernel
theorem p12_1 : part12 1 = true := by decide +kernel
theorem p12_2 : part12 2 = true := by decide +kernel
theorem p12_3 : part12 3 = true := by decide +kernel
theorem p12_4 : part12 4 = true := by decide +kernel
theorem p12_5 : part12 5 = true := by decide +kernel
theorem p12_6 : part12 6 = true := by decide +kernel
theorem p12_7 : part12 7 = true := by decide +kernel
theorem p12_8 : part12 8 = true := by decide +kernel
theorem p12_9 : part12 9 = true := by decide +kernel
theorem p12_10 : part12 10 = true := by decide +kernel
theorem p12_11 : part12 11 = true := by decide +kernel
theorem p12_12 : part12 12 = true := by decide +kernel
theorem p12_13 : part12 13 = true := by decide +kernel
theorem p12_14 : part12 14 = true := by decide +kernel
theorem p12_15 : part12 15 = true := by decide +kernel
theorem p12_16 : part12 16 = true := by decide +kernel
theorem p12_17 : part12 17 = true := by decide +kernel
theorem p12_18 : part12 18 = true := by decide +kernel
theorem p12_19 : part12 19 = true := by decide +kernel
theorem p12_20 : part12 20 = true := by decide +kernel
theorem p12_21 : part12 21 = true := by decide +kernel
theorem p12_22 : part12 22 = true := by decide +kernel
theorem p12_23 : part12 23 = true := by decide +kernel
theorem p12_24 : part12 24 = true := by decide +kernel
theorem part12_all : ∀ n, n < 25 → part12 n = true
  | 0, _ => p12_0
  | 1, _ => p12_1
  | 2, _ => p12_2
  | 3, _ => p12_3
  | 4, _ => p12_4
  | 5, _ => p12_5
  | 6, _ => p12_6
  | 7, _ => p12_7
  | 8, _ => p12_8
  | 9, _ => p12_9
  | 10, _ => p12_10
  | 11, _ => p12_11
  | 12, _ => p12_12
  | 13, _ => p12_13
  | 14, _ => p12_14
  | 15, _ => p12_15
  | 16, _ => p12_16
  | 17, _ => p12_17
  | 18, _ => p12_18
  | 19, _ => p12_19
  | 20, _ => p12_20
  | 21, _ => p12_21
  | 22, _ => p12_22
  | 23, _ => p12_23
  | 24, _ => p12_24
  | n + 25, h => absurd h (by omega)
end L2
set_option Elab.async false
set_option linter.all false
set_option maxRecDepth 100000
namespace L2
open PySem PySem.Spec PyProof.Rows
end L2
set_option Elab.async false
set_option linter.all false
set_option maxRecDepth 100000
namespace L2
open PySem PySem.Spec PyProof.Rows
def nth19 : List Int → Nat → Int
  | [], _ => 0
  | x :: _, 0 => x
  | _ :: r, n + 1 => nth19 r n
theorem nth19_eq : ∀ (L : List Int) (n : Nat), nth19 L n = L.getD n 0
  | [], _ => rfl
  | x :: _, 0 => rfl
  | _ :: r, n + 1 => by rw [nth19, nth19_eq r n, List.getD_cons_succ]
def pentA (m : Int) : Int := m * (3 * m - 1) / 2
def pentB (m : Int) : Int := m * (3 * m + 1) / 2
def nextR (R : List Int) (n : Int) : Nat → Int → Int → Int → Int
  | 0, _, _, t => t
  | f + 1, m, s, t => if pentA m ≤ n then nextR R n f (m + 1) (-s) (if pentB m ≤ n then t + s * nth19 R (pentA m - 1).toNat + s * nth19 R (pentB m - 1).toNat else t + s * nth19 R (pentA m - 1).toNat) else t
def wayR : Nat → List Int
  | 0 => [1]
  | n + 1 => nextR (wayR n) (n + 1 : Nat) (n + 3) 1 1 0 :: wayR n
theorem wayR_len : ∀ n, (wayR n).length = n + 1
  | 0 => rfl
  | n + 1 => by rw [wayR, List.length_cons, wayR_len n]
theorem wayR_pre (n : Nat) : ∀ d j, j ≤ n → (wayR (n + d)).reverse.getD j 0 = (wayR n).reverse.getD j 0
  | 0, _, _ => rfl
  | d + 1, j, h => by
    have hl := wayR_len (n + d)
    rw [← Nat.add_assoc, wayR, ← wayR_pre n d j h, List.reverse_cons]
    simp only [List.getD_eq_getElem?_getD]
    rw [List.getElem?_append_left (by rw [List.length_reverse]; omega)]
theorem pentA_ge {m : Int} (h : 1 ≤ m) : m ≤ pentA m := by
  unfold pentA
  refine Int.le_ediv_of_mul_le (by decide) ?_
  exact Int.mul_le_mul_of_nonneg_left (by omega) (by omega)
theorem pentB_ge {m : Int} (h : 1 ≤ m) : m ≤ pentB m := by
  unfold pentB
  refine Int.le_ediv_of_mul_le (by decide) ?_
  exact Int.mul_le_mul_of_nonneg_left (by omega) (by omega)
def srow : List Int → List Int → List Int
  | [], _ => []
  | x :: r, [] => x :: srow r []
  | x :: r, f :: q => (x + f) :: srow r (q ++ [x + f])
def qrow : List Int → List Int → List Int → List Int
  | [], _, _ => []
  | x :: r, [], b => x :: qrow r [] b
  | x :: r, f :: fs, b => (x + f) :: (match fs with
    | [] => qrow r ((x + f) :: b).reverse []
    | g :: gs => qrow r (g :: gs) ((x + f) :: b))
theorem qrow_eq : ∀ (rest f b : List Int), f ≠ [] → qrow rest f b = srow rest (f ++ b.reverse)
  | [], _, _, _ => rfl
  | x :: r, [], b, h => absurd rfl h
  | x :: r, [f], b, _ => by
    show (x + f) :: qrow r ((x + f) :: b).reverse [] = (x + f) :: srow r ([] ++ b.reverse ++ [x + f])
    rw [qrow_eq r ((x + f) :: b).reverse [] (by simp)]
    simp
  | x :: r, f :: g :: gs, b, _ => by
    show (x + f) :: qrow r (g :: gs) ((x + f) :: b) = (x + f) :: srow r ((g :: gs) ++ b.reverse ++ [x + f])
    rw [qrow_eq r (g :: gs) ((x + f) :: b) (by simp)]
    simp
def coinQ (n : Nat) : Nat → List Int
  | 0 => 1 :: List.replicate n 0
  | k + 1 => qrow (coinQ n k) (List.replicate (k + 1) 0) []
def coinM (L : List Int) (k : Nat) : Nat → List Int
  | 0 => L
  | d + 1 => qrow (coinM L k d) (List.replicate (k + d + 1) 0) []
theorem coinM_eq (n k : Nat) : ∀ d, coinM (coinQ n k) k d = coinQ n (k + d)
  | 0 => rfl
  | d + 1 => by rw [coinM, coinM_eq n k d, ← Nat.add_assoc, coinQ]
def cq50 : List Int := [1, 1, 2, 3, 5, 7, 11, 15, 22, 30, 42, 56, 77, 101, 135, 176, 231, 297, 385, 490, 627, 792, 1002, 1255, 1575, 1958, 2436, 3010, 3718, 4565, 5604, 6842, 8349, 10143, 12310, 14883, 17977, 21637, 26015, 31185, 37338, 44583, 53174, 63261, 75175, 89134, 105558, 124754, 147273, 173525, 204226, 239942, 281587, 329927, 386148, 451264, 526804, 614124, 715175, 831753, 966370, 1121366, 1299961, 1505227, 1741257, 2012050, 2322836, 2678774, 3086523, 3552748, 4085881, 4694491, 5389277, 6181181, 7083737, 8110926, 9279795, 10608131, 12117422, 13830190, 15773451, 17975698, 20470784, 23294649, 26489697, 30101084, 34181806, 38788540, 43987339, 49849140, 56456203, 63897051, 72273916, 81697112, 92293394, 104199918, 117573669, 132584737, 149427189, 168311655, 189477547, 213185155, 239729465, 269431448, 302653933, 339792125, 381291480, 427637718, 479377030, 537105225, 601490937, 673263968, 753241472, 842315871, 941484521, 1051836837, 1174588289, 1311066892, 1462751659, 1631258972, 1818386208, 2026097642, 2256574474, 2512200558, 2795619096, 3109718988, 3457699287, 3843055914, 4269655537, 4741723194, 5263926265, 5841364162, 6479663976, 7184972217, 7964064529, 8824340472, 9773948460, 10821785366, 11977639132, 13252193596, 14657192172, 16205449596, 17911038795, 19789312287, 21857115827, 24132820707, 26636569168, 29390320454, 32418131467, 35746220803, 39403290219, 43420609238, 47832384654, 52675870446, 57991791098, 63824483407, 70222381936, 77238197621, 84929476115, 93358820854, 102594533523, 112710891779, 123788884589, 135916553213, 149189837227, 163712991120, 179599555706, 196972866122, 215967167844, 236728230562, 259414632528, 284198499820, 311266981900, 340823140653, 373087646355, 408299840216, 446719685955, 488629036474, 534333876647, 584165831508, 638484744275, 697680464035, 762175811707, 832428694753, 908935515542, 992233670338, 1082905466501, 1181581065555, 1288942987651, 1405729571868, 1532740151208, 1670839117101, 1820961864512, 1984119553588, 2161405941825, 2354002954636, 2563188530350, 2790343131306, 3036958750877, 3304646507776, 3595146988743, 3910339095517, 4252251912641, 4623075005069, 5025172033113, 5461092717902, 5933588460994, 6445626232861, 7000406480234, 7601379233864, 8252264633526, 8957071582612, 9720121271015, 10546068758485, 11439929916601, 12407106381991, 13453416404735, 14585123661948, 15808972572780, 17132221540397, 18562683356583, 20108763525409, 21779506475239, 23584639693440, 25534626567239, 27640717169895, 29915008647871, 32370503621254, 35021179169216, 37882053922463, 40969266848254, 44300154271252, 47893339802003, 51768822698322, 55948080473449, 60454170181529, 65311845454260, 70547672520392, 76190163631339, 82269909875899, 88819733228249, 95874838471863, 103472986407334, 111654667521900, 120463299203124, 129945424149385, 140150934824085, 151133299971214, 162949819976524, 175661885310536, 189335266912037, 204040410891596, 219852768602461, 236853132471937, 255128011038365, 274770011427427, 295878265279467, 318558864112402, 342925342842290, 369099175042480, 397210321627537, 427397793937003, 459810276078081, 494606764787221, 531957275023670, 572043566659944, 615059944143015, 661214081359555, 710727927497499, 763838642876842, 820799624688288, 881881568140302, 947373627472353, 1017584618589192, 1092844332611115, 1173504898196922, 1259942267057308, 1352557756373532, 1451779728114335, 1558065334507539, 1671902415628146, 1793811473724418, 1924347816571516, 2064103789557422, 2213711195668829, 2373843817805096, 2545220149951713, 2728606246161299, 2924818801687609, 3134728369421425, 3359262834458803, 3599411043740918, 3856226722683049, 4130832569294291, 4424424667357193, 4738277102371563, 5073746932301687, 5432279389576082, 5815413477594644, 6224787830683202, 6662147012675643, 7129348115157310, 7628367843476821, 8161309943144965, 8730413168580190, 9338059638133689, 9986783792096201, 10679281788501182, 11418421569397229, 12207253422734608, 13049021289660457, 13947174632413897, 14905381130857677, 15927540012427921, 17017796303289858, 18180555794483298, 19420501032029509, 20742608113509862, 22152164622681106, 23654788472895842, 25256448015347604, 26963483170561991, 28782627965396036, 30721034221370632, 32786296804617268, 34986480170217634, 37330146641535094, 39826386143671896, 42484847864204802, 45315773546506116, 48330032923598596, 51539160983624096, 54955397612520660, 58591729290214933, 62461933426372001, 66580624997169624, 70963306112418592, 75626418159369745, 80587397199351063, 85864732248011152, 91478027165653163, 97448065772998468, 103796880972789880, 110547827477037067, 117725658978654828, 125356609351526919, 133468478780513091, 142090724390084494, 151254556340415953, 160993038944481104, 171341197847809153, 182336132809396524, 194017137203845538, 206425823769040482, 219606257803612946, 233605097324993399, 248471741483396857, 264258486729616881, 281020692130124751, 298816953315935754, 317709286564219370, 337763322489057328, 359048510954497944, 381638336677576822, 405610547257552078, 431047393092725106, 458035881053521809, 486668041369237652, 517041209740495955, 549258324133247795, 583428238421059463, 619666052333656709, 658093460045054580, 698839116865101352, 742039026548167535, 787836948692561133, 836384828939179883, 887843251458239977, 942381916642531233, 1000180143516931466, 1061427400010052504, 1126323860624635075, 1195080994898273860, 1267922186225917199, 1345083384700785248, 1426813793588262679, 1513376593376624409, 1605049703071129841, 1702126582985843356, 1804917078762963094, 1913748311209243101, 2028965611754409323, 2150933508484501169, 2280036762642953754, 2416681460945377246, 2561296163704500106, 2714333114535867768, 2876269511761151162, 3047608847740028192, 3228882316385965600, 3420650295595098972]
def cq100 : List Int := [1, 1, 2, 3, 5, 7, 11, 15, 22, 30, 42, 56, 77, 101, 135, 176, 231, 297, 385, 490, 627, 792, 1002, 1255, 1575, 1958, 2436, 3010, 3718, 4565, 5604, 6842, 8349, 10143, 12310, 14883, 17977, 21637, 26015, 31185, 37338, 44583, 53174, 63261, 75175, 89134, 105558, 124754, 147273, 173525, 204226, 239943, 281589, 329931, 386155, 451276, 526823, 614154, 715220, 831820, 966467, 1121505, 1300156, 1505499, 1741630, 2012558, 2323520, 2679689, 3087735, 3554345, 4087968, 4697205, 5392783, 6185689, 7089500, 8118264, 9289091, 10619863, 12132164, 13848650, 15796476, 18004327, 20506255, 23338469, 26543660, 30167357, 34262962, 38887673, 44108109, 49995925, 56634173, 64112359, 72533807, 82010177, 92669720, 104651419, 118114304, 133230930, 150198136, 169229875, 190569292, 214481125, 241265377, 271248946, 304801358, 342325697, 384276317, 431149359, 483502799, 541946173, 607163649, 679903064, 761001961, 851376356, 952050292, 1064143943, 1188907564, 1327709161, 1482072931, 1653667068, 1844347473, 2056145337, 2291317406, 2552333733, 2841934737, 3163120014, 3519213396, 3913852563, 4351063858, 4835253410, 5371292375, 5964510875, 6620795418, 7346585692, 8148986732, 9035769803, 10015500524, 11097545883, 12292221061, 13610803110, 15065700165, 16670473900, 18440033429, 20390669692, 22540278119, 24908406508, 27516511964, 30388025785, 33548648550, 37026436980, 40852143568, 45059328611, 49684752507, 54768518821, 60354525846, 66490648508, 73229258894, 80627453081, 88747652960, 97657887493, 107432486584, 118152429078, 129906143783, 142789934920, 156908908786, 172377492116, 189320501882, 207873775885, 228185408845, 250416513474, 274742651144, 301354748094, 330460748454, 362286715953, 397078745119, 435104278699, 476654319895, 522045004709, 571620159306, 625753174607, 684849963773, 749351188142, 819735680357, 896523083306, 980277807740, 1071612157987, 1171190908666, 1279734995599, 1398026811229, 1526914557174, 1667318365717, 1820235428103, 1986747071455, 2168024786754, 2365338412953, 2580063214361, 2813689337560, 3067830114195, 3344232988433, 3644789238724, 3971546606112, 4326720666079, 4712709412389, 5132106548901, 5587718329474, 6082579069877, 6619970592952, 7203440315074, 7836823685343, 8524265258756, 9270244585522, 10079600732229, 10957562148574, 11909775177520, 12942338490621, 14061836213508, 15275377618464, 16590635569944, 18015892269014, 19560083839871, 21232853020114, 23044600835947, 25006547275334, 27130791121464, 29430379801326, 31919378617773, 34612951120006, 37527439161480, 40680455347158, 44090975532002, 47779445129988, 51767885917649, 56080018223136, 60741384175502, 65779488097534, 71223938625705, 77106609967963, 83461805685174, 90326443827728, 97740245575174, 105745947710688, 114389519743382, 123720407675841, 133791783768012, 144660826078841, 156389005626933, 169042406837822, 182692057493906, 197414295943998, 213291150015223, 230410757623257, 248867801690864, 268763991743005, 290208562821385, 313318826708260, 338220743961852, 365049554564434, 393950433476262, 425079211879345, 458603128037697, 494701651849320, 533567344450672, 575406800480631, 620441631717963, 668909543453920, 721065459488505, 777182751246876, 837554523850252, 902495019079085, 972341084919427, 1047453776359882, 1128220033782804, 1215054508819906, 1308401480412706, 1408736936540674, 1516570760656963, 1632449104261446, 1756956880727068, 1890720468364769, 2034410553634510, 2188745209543275, 2354493135831603, 2532477163530903, 2723577945944962, 2928737946916876, 3148965643582688, 3385340063392017, 3639015567654384, 3911227010943732, 4203295183429256, 4516632675944342, 4852750069352978, 5213262599330759, 5599897192547033, 6014500037495678, 6459044580146917, 6935640120970068, 7446540897376461, 7994155842501187, 8581058898233009, 9210000088861191, 9883917226903373, 10605948474421669, 11379445624769814, 12207988346401933, 13095399247139019, 14045760020263740, 15063428524160595, 16153057078513961, 17319611821909494, 18568393437296958, 19905059083505057, 21335645864578231, 22866595668478016, 24504781734671058, 26257536775453708, 28132683040646830, 30138564144268597, 32284079075391434, 34578718205780310, 37032601752243327, 39656520500491090, 42461979287257131, 45461243042474609, 48667385930341394, 52094343386664694, 55756967637483833, 59671086492566878, 63853566049027427, 68322377096192965, 73096665911541557, 78196829237520268, 83644594188963451, 89463102880834703, 95677002591304843, 102312541251906315, 109397669150822023, 116962146645045183, 125037658845493200, 133657937076954893, 142858888162133426, 152678731341047433, 163158143967899326, 174340415809248101, 186271613187623916, 199000752810504326, 212579986640327063, 227064797666404249, 242514208056196888, 258990999572718472, 276561947869430854, 295298070580769854, 315274890966247974, 336572717064823648, 359276938277779816, 383478339382832665, 409273434074065764, 436764818084724140, 466061544180750240, 497279519146861648, 530541925264723309, 565979666480846328, 603731841996767910, 643946247567239691, 686779907494645114, 732399637708525355, 780982643198769236, 832717150310606615, 887803077478708479, 946452745045674064, 1008891628081326360, 1075359153006705988, 1146109542311448881, 1221412708350221295, 1301555200917077564, 1386841209790918160, 1477593627401841065, 1574155173049464231, 1676889584318495163, 1786182877393512321, 1902444682464409655, 2026109656231988424, 2157638978306033015, 2297521933855595772, 2446277589964642994, 2604456568449618192, 2772642923320735272, 2951456126092099392, 3141553167924633698, 3343630782315167666, 3558427798198449883, 3786727627749011319, 4029360899723328744, 4287208243275276543, 4561203234157777833, 4852335508972722159, 5161654060562980865, 5490270721028703484, 5839363846764499651, 6210182212920779201, 6604049133121382808]
def cq150 : List Int := [1, 1, 2, 3, 5, 7, 11, 15, 22, 30, 42, 56, 77, 101, 135, 176, 231, 297, 385, 490, 627, 792, 1002, 1255, 1575, 1958, 2436, 3010, 3718, 4565, 5604, 6842, 8349, 10143, 12310, 14883, 17977, 21637, 26015, 31185, 37338, 44583, 53174, 63261, 75175, 89134, 105558, 124754, 147273, 173525, 204226, 239943, 281589, 329931, 386155, 451276, 526823, 614154, 715220, 831820, 966467, 1121505, 1300156, 1505499, 1741630, 2012558, 2323520, 2679689, 3087735, 3554345, 4087968, 4697205, 5392783, 6185689, 7089500, 8118264, 9289091, 10619863, 12132164, 13848650, 15796476, 18004327, 20506255, 23338469, 26543660, 30167357, 34262962, 38887673, 44108109, 49995925, 56634173, 64112359, 72533807, 82010177, 92669720, 104651419, 118114304, 133230930, 150198136, 169229875, 190569292, 214481126, 241265379, 271248950, 304801365, 342325709, 384276336, 431149389, 483502844, 541946240, 607163746, 679903203, 761002156, 851376628, 952050665, 1064144451, 1188908248, 1327710076, 1482074143, 1653668665, 1844349560, 2056148051, 2291320912, 2552338241, 2841940500, 3163127352, 3519222692, 3913864295, 4351078600, 4835271870, 5371315400, 5964539504, 6620830889, 7346629512, 8149040695, 9035836076, 10015581680, 11097645016, 12292341831, 13610949895, 15065878135, 16670689208, 18440293320, 20390982757, 22540654445, 24908858009, 27517052599, 30388671978, 33549419497, 37027355200, 40853235313, 45060624581, 49686288419, 54770336320, 60356673273, 66493182085, 73232243740, 80630964739, 88751778757, 97662728488, 107438159369, 118159068288, 129913904442, 142798995658, 156919474922, 172389799747, 189334821895, 207890419187, 228204731539, 250438923518, 274768615043, 301384799334, 330495496107, 362326855387, 397125068987, 435157690492, 476715847994, 522115819463, 571701590913, 625846734660, 684957367911, 749474383152, 819876872852, 896684773707, 980462826467, 1071823708064, 1171432611217, 1280010943135, 1398341624801, 1527273452840, 1667727226123, 1820700885344, 1987276596472, 2168626792404, 2366022365519, 2580839761472, 2814570446956, 3068829232337, 3345365212751, 3646071513905, 3972997937643, 4328362362676, 4714565350169, 5134203470470, 5590086170061, 6085251325671, 6622984723175, 7206838194802, 7840652100295, 8528576461313, 9275096902473, 10085059246418, 10963699444405, 11916672175268, 12950085359386, 14070533391148, 15285136927784, 16601581463697, 18028163192765, 19573833749504, 21248253043381, 23061841119895, 25025839008952, 27152368781673, 29454503612119, 31946337277026, 34643064785124, 37561062756084, 40717982181013, 44132841305742, 47826132318757, 51819928615073, 56138007442981, 60805973704108, 65851400897585, 71303973898569, 77195650879805, 83560827879202, 90436524734475, 97862574661134, 105881837684357, 114540418880489, 123887913292351, 133977657026173, 144867008167553, 156617635529334, 169295840741523, 182972890089691, 197725383686407, 213635636627224, 230792101941405, 249289808175991, 269230843778885, 290724859177039, 313889621318642, 338851589459292, 365746549755685, 394720275263924, 425929251868534, 459541434405009, 495737076770940, 534709597754957, 576666529890313, 621830510450604, 670440365624531, 722752244204068, 779040855931412, 839600767827811, 904747818067281, 974820597621403, 1050182063939230, 1131221233597159, 1218355023354835, 1312030183005805, 1412725395024799, 1520953480762024, 1637263794120668, 1762244738618074, 1896526495288094, 2040783893192985, 2195739517028556, 2362166979368351, 2540894459536834, 2732808432207782, 2938857695960290, 3160057620139037, 3397494729140737, 3652331537643337, 3925811765416690, 4219265840172532, 4534116827536428, 4871886691229491, 5234203033821871, 5622806215725484, 6039557014887637, 6486444719216765, 6965595827475499, 7479283244737653, 8029936162498131, 8620150503600619, 9252700137503996, 9930548739948582, 10656862519469338, 11435023678454183, 12268644849525221, 13161584368680183, 14117962645720391, 15142179487053829, 16238932653061540, 17413237498600389, 18670448002324929, 20016279027142085, 21456830142849660, 22998610847079552, 24648567543426887, 26414112106687588, 28303152424317223, 30324124738341900, 32486028209545877, 34798461522787828, 37271661991170646, 39916546972806341, 42744758096960174, 45768708109085431, 49001630873887351, 52457634342405907, 56151757068756948, 60100028079696028, 64319530733318020, 68828470368678216, 73646246437709776, 78793528921145385, 84292339780304864, 90166139247736918, 96439917774592126, 103140293441268483, 110295615721081334, 117936075409246693, 126093821685931432, 134803086133745535, 144100314764784483, 154024307889163112, 164616368974344920, 175920462342268128, 187983380957174915, 200854924169994285, 214588086785589742, 229239259342779213, 244868441097360363, 261539465627490153, 279320240688035233, 298283002268560811, 318504584631065875, 340066706325131404, 363056274120208654, 387565704903795234, 413693267665411690, 441543445675090737, 471227321174038443, 502862982757311381, 536575957982928114, 572499671470312252, 610775931261332854, 651555443803029975, 694998360587714110, 741274856921803537, 790565746147120716, 843063129915610651, 898971088158762048, 958506409501439901, 1021899366110665151, 1089394533900742767, 1161251662469065409, 1237746595880588064, 1319172249098641492, 1405839641404223610, 1498078992067440797, 1596240879869896802, 1700697472254305547, 1811843825992229515, 1930099265711892566, 2055908842508338708, 2189744879601034416, 2332108607638311219, 2483531897299806155, 2644579092223508201, 2815848950665918263, 2997976699404634613, 3191636209126702621, 3397542295358794675, 3616453155102336158, 3849172943846679719, 4096554504139089131, 4359502251079576899, 4638975227039480616, 4935990331755961822, 5251625741336136765, 5587024523205253767, 5943398461896440650, 6322032103707372241, 6724287036626100947]
def cq200 : List Int := [1, 1, 2, 3, 5, 7, 11, 15, 22, 30, 42, 56, 77, 101, 135, 176, 231, 297, 385, 490, 627, 792, 1002, 1255, 1575, 1958, 2436, 3010, 3718, 4565, 5604, 6842, 8349, 10143, 12310, 14883, 17977, 21637, 26015, 31185, 37338, 44583, 53174, 63261, 75175, 89134, 105558, 124754, 147273, 173525, 204226, 239943, 281589, 329931, 386155, 451276, 526823, 614154, 715220, 831820, 966467, 1121505, 1300156, 1505499, 1741630, 2012558, 2323520, 2679689, 3087735, 3554345, 4087968, 4697205, 5392783, 6185689, 7089500, 8118264, 9289091, 10619863, 12132164, 13848650, 15796476, 18004327, 20506255, 23338469, 26543660, 30167357, 34262962, 38887673, 44108109, 49995925, 56634173, 64112359, 72533807, 82010177, 92669720, 104651419, 118114304, 133230930, 150198136, 169229875, 190569292, 214481126, 241265379, 271248950, 304801365, 342325709, 384276336, 431149389, 483502844, 541946240, 607163746, 679903203, 761002156, 851376628, 952050665, 1064144451, 1188908248, 1327710076, 1482074143, 1653668665, 1844349560, 2056148051, 2291320912, 2552338241, 2841940500, 3163127352, 3519222692, 3913864295, 4351078600, 4835271870, 5371315400, 5964539504, 6620830889, 7346629512, 8149040695, 9035836076, 10015581680, 11097645016, 12292341831, 13610949895, 15065878135, 16670689208, 18440293320, 20390982757, 22540654445, 24908858009, 27517052599, 30388671978, 33549419497, 37027355200, 40853235313, 45060624582, 49686288421, 54770336324, 60356673280, 66493182097, 73232243759, 80630964769, 88751778802, 97662728555, 107438159466, 118159068427, 129913904637, 142798995930, 156919475295, 172389800255, 189334822579, 207890420102, 228204732751, 250438925115, 274768617130, 301384802048, 330495499613, 362326859895, 397125074750, 435157697830, 476715857290, 522115831195, 571701605655, 625846753120, 684957390936, 749474411781, 819876908323, 896684817527, 980462880430, 1071823774337, 1171432692373, 1280011042268, 1398341745571, 1527273599625, 1667727404093, 1820701100652, 1987276856363, 2168627105469, 2366022741845, 2580840212973, 2814570987591, 3068829878530, 3345365983698, 3646072432125, 3972999029388, 4328363658646, 4714566886081, 5134205287969, 5590088317488, 6085253859248, 6622987708021, 7206841706460, 7840656226092, 8528581302308, 9275102575258, 10085065885628, 10963707205064, 11916681236006, 12950095925522, 14070545698779, 15285151247797, 16601598106999, 18028182515459, 19573856159548, 21248279007280, 23061871171135, 25025873756605, 27152408921107, 29454549935987, 31946390688819, 34643126313223, 37561133570838, 40718063612620, 44132934865795, 47826239722895, 51820051810083, 56138148635476, 60806135394509, 65851585916312, 71304185448646, 77195892582356, 83561103826738, 90436839548047, 97862933556800, 105882246544763, 114540884337730, 123888442817368, 133978259031823, 144867692120119, 156618412076445, 169296721850919, 182973889207833, 197726515910725, 213636918902405, 230793553272936, 249291449872588, 269232699716665, 290726956098609, 313891989159231, 338854261715091, 365749563885917, 394723673143669, 425933080283514, 459545745607613, 495741929087964, 534715056269260, 576672667186314, 621837407448605, 670448112493661, 722760941382233, 779050615241470, 839611713722597, 904760088992454, 974834347532984, 1050197463965131, 1131238473884652, 1218374315093174, 1312051760672273, 1412749518843819, 1520980439432044, 1637293907799776, 1762278362230783, 1896564022145235, 2040825758996562, 2195786204255353, 2362219022114072, 2540952448817732, 2732873021813314, 2938929608856865, 3160137655532647, 3397583770203066, 3652430560024384, 3925921846555080, 4219388169544644, 4534252717862510, 4872037590799535, 5234370539968764, 5622992089631890, 6039763197766623, 6486673350080476, 6965849262545800, 7479564078746249, 8030247251947775, 8620494992271624, 9253081484300326, 9930970749410933, 10657329375075145, 11435539979083031, 12269215649241442, 13162215220268316, 14118659648164908, 15142949337465761, 16239782703288841, 17414175817103629, 18671483441610458, 20017421297423293, 21458089892296036, 22999999749428326, 24650098393394851, 26415798924080022, 28305010567365248, 30326171027303961, 32488281061217575, 34800941097117608, 37274390350756190, 39919548256658544, 42748058709465198, 45772336925767618, 49005619465089224, 52462017216739490, 56156571937657786, 60105316145227349, 64325337000811060, 68834843986691760, 73653241067196379, 78801203136697255, 84300757505716255, 90175370229209870, 96450038094233495, 103151386074725365, 110307771142446736, 117949392247686256, 126108407437723623, 134819057934886957, 144117800228509374, 154043446014333437, 164637311129829243, 175943373334197632, 188008440185085102, 200882326879820836, 214618045426565967, 229272005037444219, 244904225232937497, 261578561579279719, 279362945684482546, 298329639410303157, 318555505075249583, 340122291649209506, 363116938878405759, 387631899392651697, 413765480913782739, 441622208677555055, 471313210385630629, 502956623871453067, 536678030013415613, 572610911162602585, 610897137857380700, 651687484188798921, 695142174851542072, 741431464357202421, 790736251732731801, 843248731311026330, 899173083254166150, 958726204565683095, 1022138484581765297, 1089654625870202587, 1161534514910963607, 1238054143684626229, 1319506586966114749, 1406203036675050553, 1498473898546449750, 1596669952730768170, 1701163584099993709, 1812350084162047479, 1930649030926287221, 2056505748955064278, 2190392856567783823, 2332811902811002705, 2484295101847711022, 2645407167808176113, 2816747258513580867, 2998951031599397896, 3192692822285436260, 3398687946868318138, 3617695142104162661, 3850519145176583331, 4098013425434648284, 4361083073293481244, 4640687858603715176, 4937845464669541471, 5253634911458112006, 5589200175065553740, 5945754018348145319, 6324582040778581349, 6727046963942896825]
def cq250 : List Int := [1, 1, 2, 3, 5, 7, 11, 15, 22, 30, 42, 56, 77, 101, 135, 176, 231, 297, 385, 490, 627, 792, 1002, 1255, 1575, 1958, 2436, 3010, 3718, 4565, 5604, 6842, 8349, 10143, 12310, 14883, 17977, 21637, 26015, 31185, 37338, 44583, 53174, 63261, 75175, 89134, 105558, 124754, 147273, 173525, 204226, 239943, 281589, 329931, 386155, 451276, 526823, 614154, 715220, 831820, 966467, 1121505, 1300156, 1505499, 1741630, 2012558, 2323520, 2679689, 3087735, 3554345, 4087968, 4697205, 5392783, 6185689, 7089500, 8118264, 9289091, 10619863, 12132164, 13848650, 15796476, 18004327, 20506255, 23338469, 26543660, 30167357, 34262962, 38887673, 44108109, 49995925, 56634173, 64112359, 72533807, 82010177, 92669720, 104651419, 118114304, 133230930, 150198136, 169229875, 190569292, 214481126, 241265379, 271248950, 304801365, 342325709, 384276336, 431149389, 483502844, 541946240, 607163746, 679903203, 761002156, 851376628, 952050665, 1064144451, 1188908248, 1327710076, 1482074143, 1653668665, 1844349560, 2056148051, 2291320912, 2552338241, 2841940500, 3163127352, 3519222692, 3913864295, 4351078600, 4835271870, 5371315400, 5964539504, 6620830889, 7346629512, 8149040695, 9035836076, 10015581680, 11097645016, 12292341831, 13610949895, 15065878135, 16670689208, 18440293320, 20390982757, 22540654445, 24908858009, 27517052599, 30388671978, 33549419497, 37027355200, 40853235313, 45060624582, 49686288421, 54770336324, 60356673280, 66493182097, 73232243759, 80630964769, 88751778802, 97662728555, 107438159466, 118159068427, 129913904637, 142798995930, 156919475295, 172389800255, 189334822579, 207890420102, 228204732751, 250438925115, 274768617130, 301384802048, 330495499613, 362326859895, 397125074750, 435157697830, 476715857290, 522115831195, 571701605655, 625846753120, 684957390936, 749474411781, 819876908323, 896684817527, 980462880430, 1071823774337, 1171432692373, 1280011042268, 1398341745571, 1527273599625, 1667727404093, 1820701100652, 1987276856363, 2168627105469, 2366022741845, 2580840212973, 2814570987591, 3068829878530, 3345365983698, 3646072432125, 3972999029388, 4328363658647, 4714566886083, 5134205287973, 5590088317495, 6085253859260, 6622987708040, 7206841706490, 7840656226137, 8528581302375, 9275102575355, 10085065885767, 10963707205259, 11916681236278, 12950095925895, 14070545699287, 15285151248481, 16601598107914, 18028182516671, 19573856161145, 21248279009367, 23061871173849, 25025873760111, 27152408925615, 29454549941750, 31946390696157, 34643126322519, 37561133582570, 40718063627362, 44132934884255, 47826239745920, 51820051838712, 56138148670947, 60806135438329, 65851585970275, 71304185514919, 77195892663512, 83561103925871, 90436839668817, 97862933703585, 105882246722733, 114540884553038, 123888443077259, 133978259344888, 144867692496445, 156618412527946, 169296722391554, 182973889854026, 197726516681672, 213636919820625, 230793554364681, 249291451168558, 269232701252577, 290726957916108, 313891991306658, 338854264248668, 365749566870763, 394723676655327, 425933084409311, 459545750448608, 495741934760749, 534715062908470, 576672674946973, 621837416509343, 670448123059797, 722760953689864, 779050629561483, 839611730365899, 904760108315148, 974834369943028, 1050197489929030, 1131238503935892, 1218374349840827, 1312051800811707, 1412749565167687, 1520980492843837, 1637293969327875, 1762278433045537, 1896564103576842, 2040825852556615, 2195786311659491, 2362219145309082, 2540952590010227, 2732873183503715, 2938929793875592, 3160137867082724, 3397584011905617, 3652430835971920, 3925922161368652, 4219388528440310, 4534253126722916, 4872038056256776, 5234371069493781, 5622992691637540, 6039763881719189, 6486674126627587, 6965850143655196, 7479565077864391, 8030248384172093, 8620496274546805, 9253082935631857, 9930972391107530, 10657331231012925, 11435542076004601, 12269218017082031, 13162217892524115, 14118662662295140, 15142952735345506, 16239786531703821, 17414180128306233, 18671488293927482, 20017426755937596, 21458096029592037, 23000006646426327, 24650106140263981, 26415807621258187, 28305020326675306, 30326181973198747, 32488293332142748, 34800954847029189, 37274405750782091, 39919565496946037, 42748078001203537, 45772358503434086, 49005643588908244, 52462044175409510, 56156602051336894, 60105349768840058, 64325374527668201, 68834885852495337, 73653287754423176, 78801255179442976, 84300815494997153, 90175434818815402, 96450110007130070, 103151466110118975, 110307860183509065, 117949491270067303, 126108517518862013, 134819180264259069, 144117936118835456, 154043596913903481, 164637478635976136, 175943559208104038, 188008646367964088, 200882555510684547, 214618298861636268, 229272285871452815, 244904536322387141, 261578906067950724, 279363327031278876, 298330061419765508, 318555971930855390, 340122807949838355, 363117509678121982, 387632530244239835, 413766177916227265, 441622978527967004, 471314060435857958, 502957562189956354, 536679065452701215, 572612053432883907, 610898397606827246, 651688873091147948, 695143705701510401, 741433151174595380, 790738109875780564, 843250777599989424, 899175336105839270, 958728684140014823, 1022141212941353475, 1089657627154058335, 1161537815523473352, 1238057772501314675, 1319510575557324849, 1406207419549394903, 1498478713415364578, 1596675240796317596, 1701169390367510035, 1812356457780090860, 1930656025555811852, 2056513423170664445, 2190401274293256267, 2332821133792552583, 2484305222167448915, 2645418260441753741, 2816759413935096756, 2998964348438024478, 3192707408037460094, 3398703918669745712, 3617712627568239965, 3850538283302186593, 4098034367590662990, 4361105984286058993, 4640712917832415637, 4937872867380329332, 5253664870100254831, 5589232920761631557, 5945789802485429688, 6324621136732429919, 6727089668941822320]
def cq300 : List Int := [1, 1, 2, 3, 5, 7, 11, 15, 22, 30, 42, 56, 77, 101, 135, 176, 231, 297, 385, 490, 627, 792, 1002, 1255, 1575, 1958, 2436, 3010, 3718, 4565, 5604, 6842, 8349, 10143, 12310, 14883, 17977, 21637, 26015, 31185, 37338, 44583, 53174, 63261, 75175, 89134, 105558, 124754, 147273, 173525, 204226, 239943, 281589, 329931, 386155, 451276, 526823, 614154, 715220, 831820, 966467, 1121505, 1300156, 1505499, 1741630, 2012558, 2323520, 2679689, 3087735, 3554345, 4087968, 4697205, 5392783, 6185689, 7089500, 8118264, 9289091, 10619863, 12132164, 13848650, 15796476, 18004327, 20506255, 23338469, 26543660, 30167357, 34262962, 38887673, 44108109, 49995925, 56634173, 64112359, 72533807, 82010177, 92669720, 104651419, 118114304, 133230930, 150198136, 169229875, 190569292, 214481126, 241265379, 271248950, 304801365, 342325709, 384276336, 431149389, 483502844, 541946240, 607163746, 679903203, 761002156, 851376628, 952050665, 1064144451, 1188908248, 1327710076, 1482074143, 1653668665, 1844349560, 2056148051, 2291320912, 2552338241, 2841940500, 3163127352, 3519222692, 3913864295, 4351078600, 4835271870, 5371315400, 5964539504, 6620830889, 7346629512, 8149040695, 9035836076, 10015581680, 11097645016, 12292341831, 13610949895, 15065878135, 16670689208, 18440293320, 20390982757, 22540654445, 24908858009, 27517052599, 30388671978, 33549419497, 37027355200, 40853235313, 45060624582, 49686288421, 54770336324, 60356673280, 66493182097, 73232243759, 80630964769, 88751778802, 97662728555, 107438159466, 118159068427, 129913904637, 142798995930, 156919475295, 172389800255, 189334822579, 207890420102, 228204732751, 250438925115, 274768617130, 301384802048, 330495499613, 362326859895, 397125074750, 435157697830, 476715857290, 522115831195, 571701605655, 625846753120, 684957390936, 749474411781, 819876908323, 896684817527, 980462880430, 1071823774337, 1171432692373, 1280011042268, 1398341745571, 1527273599625, 1667727404093, 1820701100652, 1987276856363, 2168627105469, 2366022741845, 2580840212973, 2814570987591, 3068829878530, 3345365983698, 3646072432125, 3972999029388, 4328363658647, 4714566886083, 5134205287973, 5590088317495, 6085253859260, 6622987708040, 7206841706490, 7840656226137, 8528581302375, 9275102575355, 10085065885767, 10963707205259, 11916681236278, 12950095925895, 14070545699287, 15285151248481, 16601598107914, 18028182516671, 19573856161145, 21248279009367, 23061871173849, 25025873760111, 27152408925615, 29454549941750, 31946390696157, 34643126322519, 37561133582570, 40718063627362, 44132934884255, 47826239745920, 51820051838712, 56138148670947, 60806135438329, 65851585970275, 71304185514919, 77195892663512, 83561103925871, 90436839668817, 97862933703585, 105882246722733, 114540884553038, 123888443077259, 133978259344888, 144867692496445, 156618412527946, 169296722391554, 182973889854026, 197726516681672, 213636919820625, 230793554364681, 249291451168559, 269232701252579, 290726957916112, 313891991306665, 338854264248680, 365749566870782, 394723676655357, 425933084409356, 459545750448675, 495741934760846, 534715062908609, 576672674947168, 621837416509615, 670448123060170, 722760953690372, 779050629562167, 839611730366814, 904760108316360, 974834369944625, 1050197489931117, 1131238503938606, 1218374349844333, 1312051800816215, 1412749565173450, 1520980492851175, 1637293969337171, 1762278433057269, 1896564103591584, 2040825852575075, 2195786311682516, 2362219145337711, 2540952590045698, 2732873183547535, 2938929793929555, 3160137867148997, 3397584011986773, 3652430836071053, 3925922161489422, 4219388528587095, 4534253126900886, 4872038056472084, 5234371069753672, 5622992691950605, 6039763882095515, 6486674127079088, 6965850144195831, 7479565078510584, 8030248384943040, 8620496275465025, 9253082936723602, 9930972392403500, 10657331232548837, 11435542077822100, 12269218019229458, 13162217895057692, 14118662665279986, 15142952738857164, 16239786535829618, 17414180133147228, 18671488299600267, 20017426762576806, 21458096037352696, 23000006655487065, 24650106150830117, 26415807633565818, 28305020340995319, 30326181989842049, 32488293351465442, 34800954869439233, 37274405776745990, 39919565526997277, 42748078035951190, 45772358543573520, 49005643635232112, 52462044228821303, 56156602112864993, 60105349839654812, 64325374609099808, 68834885946055390, 73653287861827314, 78801255302637986, 84300815636189648, 90175434980505803, 96450110192148797, 103151466321669052, 110307860425211616, 117949491546014839, 126108517833675585, 134819180623154735, 144117936527695862, 154043597379360722, 164637479165501153, 175943559810109688, 188008647051916654, 200882556287231658, 214618299742745664, 229272286870570957, 244904537454611459, 261578907350225905, 279363328482610407, 298330063061462105, 318555973786793170, 340122810046759925, 363117512045962571, 387632532916495634, 413766180930357497, 441622981925846749, 471314064264272938, 502957566501158958, 536679070305018239, 572612058891398210, 610898403744123247, 651688879988145949, 695143713448379531, 741433159871773545, 790738119635090622, 843250788545884210, 899175348376764443, 958728697889926404, 1022141228341379376, 1089657644394345828, 1161537834815211691, 1238057794078981143, 1319510599681143869, 1406207446508064923, 1498478743529043686, 1596675274419930305, 1701169427894367176, 1812356499645894437, 1930656072243038649, 2056513475213410166, 2190401332282537165, 2332821198382158115, 2484305294080345490, 2645418340477147351, 2816759502976159085, 2998964447460405525, 3192707518118598484, 3398704040999117824, 3617712763458566047, 3850538434201756637, 4098034535096809883, 4361106170159965399, 4640713124015294623, 4937873096011193043, 5253665123535325132, 5589233201595640153, 5945790113574879332, 6324621481221100924, 6727090050288618650]
def cq350 : List Int := [1, 1, 2, 3, 5, 7, 11, 15, 22, 30, 42, 56, 77, 101, 135, 176, 231, 297, 385, 490, 627, 792, 1002, 1255, 1575, 1958, 2436, 3010, 3718, 4565, 5604, 6842, 8349, 10143, 12310, 14883, 17977, 21637, 26015, 31185, 37338, 44583, 53174, 63261, 75175, 89134, 105558, 124754, 147273, 173525, 204226, 239943, 281589, 329931, 386155, 451276, 526823, 614154, 715220, 831820, 966467, 1121505, 1300156, 1505499, 1741630, 2012558, 2323520, 2679689, 3087735, 3554345, 4087968, 4697205, 5392783, 6185689, 7089500, 8118264, 9289091, 10619863, 12132164, 13848650, 15796476, 18004327, 20506255, 23338469, 26543660, 30167357, 34262962, 38887673, 44108109, 49995925, 56634173, 64112359, 72533807, 82010177, 92669720, 104651419, 118114304, 133230930, 150198136, 169229875, 190569292, 214481126, 241265379, 271248950, 304801365, 342325709, 384276336, 431149389, 483502844, 541946240, 607163746, 679903203, 761002156, 851376628, 952050665, 1064144451, 1188908248, 1327710076, 1482074143, 1653668665, 1844349560, 2056148051, 2291320912, 2552338241, 2841940500, 3163127352, 3519222692, 3913864295, 4351078600, 4835271870, 5371315400, 5964539504, 6620830889, 7346629512, 8149040695, 9035836076, 10015581680, 11097645016, 12292341831, 13610949895, 15065878135, 16670689208, 18440293320, 20390982757, 22540654445, 24908858009, 27517052599, 30388671978, 33549419497, 37027355200, 40853235313, 45060624582, 49686288421, 54770336324, 60356673280, 66493182097, 73232243759, 80630964769, 88751778802, 97662728555, 107438159466, 118159068427, 129913904637, 142798995930, 156919475295, 172389800255, 189334822579, 207890420102, 228204732751, 250438925115, 274768617130, 301384802048, 330495499613, 362326859895, 397125074750, 435157697830, 476715857290, 522115831195, 571701605655, 625846753120, 684957390936, 749474411781, 819876908323, 896684817527, 980462880430, 1071823774337, 1171432692373, 1280011042268, 1398341745571, 1527273599625, 1667727404093, 1820701100652, 1987276856363, 2168627105469, 2366022741845, 2580840212973, 2814570987591, 3068829878530, 3345365983698, 3646072432125, 3972999029388, 4328363658647, 4714566886083, 5134205287973, 5590088317495, 6085253859260, 6622987708040, 7206841706490, 7840656226137, 8528581302375, 9275102575355, 10085065885767, 10963707205259, 11916681236278, 12950095925895, 14070545699287, 15285151248481, 16601598107914, 18028182516671, 19573856161145, 21248279009367, 23061871173849, 25025873760111, 27152408925615, 29454549941750, 31946390696157, 34643126322519, 37561133582570, 40718063627362, 44132934884255, 47826239745920, 51820051838712, 56138148670947, 60806135438329, 65851585970275, 71304185514919, 77195892663512, 83561103925871, 90436839668817, 97862933703585, 105882246722733, 114540884553038, 123888443077259, 133978259344888, 144867692496445, 156618412527946, 169296722391554, 182973889854026, 197726516681672, 213636919820625, 230793554364681, 249291451168559, 269232701252579, 290726957916112, 313891991306665, 338854264248680, 365749566870782, 394723676655357, 425933084409356, 459545750448675, 495741934760846, 534715062908609, 576672674947168, 621837416509615, 670448123060170, 722760953690372, 779050629562167, 839611730366814, 904760108316360, 974834369944625, 1050197489931117, 1131238503938606, 1218374349844333, 1312051800816215, 1412749565173450, 1520980492851175, 1637293969337171, 1762278433057269, 1896564103591584, 2040825852575075, 2195786311682516, 2362219145337711, 2540952590045698, 2732873183547535, 2938929793929555, 3160137867148997, 3397584011986773, 3652430836071053, 3925922161489422, 4219388528587095, 4534253126900886, 4872038056472084, 5234371069753672, 5622992691950605, 6039763882095515, 6486674127079088, 6965850144195831, 7479565078510584, 8030248384943040, 8620496275465025, 9253082936723602, 9930972392403501, 10657331232548839, 11435542077822104, 12269218019229465, 13162217895057704, 14118662665280005, 15142952738857194, 16239786535829663, 17414180133147295, 18671488299600364, 20017426762576945, 21458096037352891, 23000006655487337, 24650106150830490, 26415807633566326, 28305020340996003, 30326181989842964, 32488293351466654, 34800954869440830, 37274405776748077, 39919565526999991, 42748078035954696, 45772358543578028, 49005643635237875, 52462044228828641, 56156602112874289, 60105349839666544, 64325374609114550, 68834885946073850, 73653287861850339, 78801255302666615, 84300815636225119, 90175434980549623, 96450110192202760, 103151466321735325, 110307860425292772, 117949491546113972, 126108517833796355, 134819180623301520, 144117936527873832, 154043597379576030, 164637479165761044, 175943559810422753, 188008647052292980, 200882556287683159, 214618299743286299, 229272286871217150, 244904537455382406, 261578907351144125, 279363328483702152, 298330063062758075, 318555973788329082, 340122810048577424, 363117512048109998, 387632532919029211, 413766180933342343, 441622981929358407, 471314064268398735, 502957566505999953, 536679070310691024, 572612058898037420, 610898403751883906, 651688879997206687, 695143713458945667, 741433159884081176, 790738119649410635, 843250788562527512, 899175348396087137, 958728697912336448, 1022141228367343275, 1089657644424397068, 1161537834849959344, 1238057794119120577, 1319510599727467737, 1406207446561476716, 1498478743590571785, 1596675274490745059, 1701169427975798783, 1812356499739454490, 1930656072350442787, 2056513475336605176, 2190401332423729660, 2332821198543848516, 2484305294265364217, 2645418340688697428, 2816759503217861636, 2998964447736353061, 3192707518433412056, 3398704041358013490, 3617712763867426453, 3850538434667213878, 4098034535626334900, 4361106170761971049, 4640713124699247189, 4937873096787740154, 5253665124416434528, 5589233202594758295, 5945790114707103650, 6324621482503376105, 6727090051739950181]
def cq400 : List Int := [1, 1, 2, 3, 5, 7, 11, 15, 22, 30, 42, 56, 77, 101, 135, 176, 231, 297, 385, 490, 627, 792, 1002, 1255, 1575, 1958, 2436, 3010, 3718, 4565, 5604, 6842, 8349, 10143, 12310, 14883, 17977, 21637, 26015, 31185, 37338, 44583, 53174, 63261, 75175, 89134, 105558, 124754, 147273, 173525, 204226, 239943, 281589, 329931, 386155, 451276, 526823, 614154, 715220, 831820, 966467, 1121505, 1300156, 1505499, 1741630, 2012558, 2323520, 2679689, 3087735, 3554345, 4087968, 4697205, 5392783, 6185689, 7089500, 8118264, 9289091, 10619863, 12132164, 13848650, 15796476, 18004327, 20506255, 23338469, 26543660, 30167357, 34262962, 38887673, 44108109, 49995925, 56634173, 64112359, 72533807, 82010177, 92669720, 104651419, 118114304, 133230930, 150198136, 169229875, 190569292, 214481126, 241265379, 271248950, 304801365, 342325709, 384276336, 431149389, 483502844, 541946240, 607163746, 679903203, 761002156, 851376628, 952050665, 1064144451, 1188908248, 1327710076, 1482074143, 1653668665, 1844349560, 2056148051, 2291320912, 2552338241, 2841940500, 3163127352, 3519222692, 3913864295, 4351078600, 4835271870, 5371315400, 5964539504, 6620830889, 7346629512, 8149040695, 9035836076, 10015581680, 11097645016, 12292341831, 13610949895, 15065878135, 16670689208, 18440293320, 20390982757, 22540654445, 24908858009, 27517052599, 30388671978, 33549419497, 37027355200, 40853235313, 45060624582, 49686288421, 54770336324, 60356673280, 66493182097, 73232243759, 80630964769, 88751778802, 97662728555, 107438159466, 118159068427, 129913904637, 142798995930, 156919475295, 172389800255, 189334822579, 207890420102, 228204732751, 250438925115, 274768617130, 301384802048, 330495499613, 362326859895, 397125074750, 435157697830, 476715857290, 522115831195, 571701605655, 625846753120, 684957390936, 749474411781, 819876908323, 896684817527, 980462880430, 1071823774337, 1171432692373, 1280011042268, 1398341745571, 1527273599625, 1667727404093, 1820701100652, 1987276856363, 2168627105469, 2366022741845, 2580840212973, 2814570987591, 3068829878530, 3345365983698, 3646072432125, 3972999029388, 4328363658647, 4714566886083, 5134205287973, 5590088317495, 6085253859260, 6622987708040, 7206841706490, 7840656226137, 8528581302375, 9275102575355, 10085065885767, 10963707205259, 11916681236278, 12950095925895, 14070545699287, 15285151248481, 16601598107914, 18028182516671, 19573856161145, 21248279009367, 23061871173849, 25025873760111, 27152408925615, 29454549941750, 31946390696157, 34643126322519, 37561133582570, 40718063627362, 44132934884255, 47826239745920, 51820051838712, 56138148670947, 60806135438329, 65851585970275, 71304185514919, 77195892663512, 83561103925871, 90436839668817, 97862933703585, 105882246722733, 114540884553038, 123888443077259, 133978259344888, 144867692496445, 156618412527946, 169296722391554, 182973889854026, 197726516681672, 213636919820625, 230793554364681, 249291451168559, 269232701252579, 290726957916112, 313891991306665, 338854264248680, 365749566870782, 394723676655357, 425933084409356, 459545750448675, 495741934760846, 534715062908609, 576672674947168, 621837416509615, 670448123060170, 722760953690372, 779050629562167, 839611730366814, 904760108316360, 974834369944625, 1050197489931117, 1131238503938606, 1218374349844333, 1312051800816215, 1412749565173450, 1520980492851175, 1637293969337171, 1762278433057269, 1896564103591584, 2040825852575075, 2195786311682516, 2362219145337711, 2540952590045698, 2732873183547535, 2938929793929555, 3160137867148997, 3397584011986773, 3652430836071053, 3925922161489422, 4219388528587095, 4534253126900886, 4872038056472084, 5234371069753672, 5622992691950605, 6039763882095515, 6486674127079088, 6965850144195831, 7479565078510584, 8030248384943040, 8620496275465025, 9253082936723602, 9930972392403501, 10657331232548839, 11435542077822104, 12269218019229465, 13162217895057704, 14118662665280005, 15142952738857194, 16239786535829663, 17414180133147295, 18671488299600364, 20017426762576945, 21458096037352891, 23000006655487337, 24650106150830490, 26415807633566326, 28305020340996003, 30326181989842964, 32488293351466654, 34800954869440830, 37274405776748077, 39919565526999991, 42748078035954696, 45772358543578028, 49005643635237875, 52462044228828641, 56156602112874289, 60105349839666544, 64325374609114550, 68834885946073850, 73653287861850339, 78801255302666615, 84300815636225119, 90175434980549623, 96450110192202760, 103151466321735325, 110307860425292772, 117949491546113972, 126108517833796355, 134819180623301520, 144117936527873832, 154043597379576030, 164637479165761044, 175943559810422753, 188008647052292980, 200882556287683159, 214618299743286299, 229272286871217150, 244904537455382406, 261578907351144125, 279363328483702152, 298330063062758076, 318555973788329084, 340122810048577428, 363117512048110005, 387632532919029223, 413766180933342362, 441622981929358437, 471314064268398780, 502957566506000020, 536679070310691121, 572612058898037559, 610898403751884101, 651688879997206959, 695143713458946040, 741433159884081684, 790738119649411319, 843250788562528427, 899175348396088349, 958728697912338045, 1022141228367345362, 1089657644424399782, 1161537834849962850, 1238057794119125085, 1319510599727473500, 1406207446561484054, 1498478743590581081, 1596675274490756791, 1701169427975813525, 1812356499739472950, 1930656072350465812, 2056513475336633805, 2190401332423765131, 2332821198543892336, 2484305294265418180, 2645418340688763701, 2816759503217942792, 2998964447736452194, 3192707518433532826, 3398704041358160275, 3617712763867604423, 3850538434667429186, 4098034535626594791, 4361106170762284114, 4640713124699623515, 4937873096788191655, 5253665124416975163, 5589233202595404488, 5945790114707874597, 6324621482504294325, 6727090051741041926]
theorem cq50_eq : coinQ 400 50 = cq50 := by decide +kernel
theorem cq100_st : coinM cq50 50 50 = cq100 := by decide +kernel
theorem cq100_eq : coinQ 400 100 = cq100 := by rw [← cq100_st, ← cq50_eq, coinM_eq]
theorem cq150_st : coinM cq100 100 50 = cq150 := by decide +kernel
theorem cq150_eq : coinQ 400 150 = cq150 := by rw [← cq150_st, ← cq100_eq, coinM_eq]
theorem cq200_st : coinM cq150 150 50 = cq200 := by decide +kernel
theorem cq200_eq : coinQ 400 200 = cq200 := by rw [← cq200_st, ← cq150_eq, coinM_eq]
theorem cq250_st : coinM cq200 200 50 = cq250 := by decide +kernel
theorem cq250_eq : coinQ 400 250 = cq250 := by rw [← cq250_st, ← cq200_eq, coinM_eq]
theorem cq300_st : coinM cq250 250 50 = cq300 := by decide +kernel
theorem cq300_eq : coinQ 400 300 = cq300 := by rw [← cq300_st, ← cq250_eq, coinM_eq]
theorem cq350_st : coinM cq300 300 50 = cq350 := by decide +kernel
theorem cq350_eq : coinQ 400 350 = cq350 := by rw [← cq350_st, ← cq300_eq, coinM_eq]
theorem cq400_st : coinM cq350 350 50 = cq400 := by decide +kernel
theorem cq400_eq : coinQ 400 400 = cq400 := by rw [← cq400_st, ← cq350_eq, coinM_eq]
theorem way_lit : (wayR 400).reverse = cq400 := by decide +kernel
theorem way_coin : (wayR 400).reverse = coinQ 400 400 := by rw [way_lit, cq400_eq]
theorem srow_len : ∀ (L q : List Int), (srow L q).length = L.length
  | [], _ => rfl
  | x :: r, [] => by rw [srow, List.length_cons, srow_len r [], List.length_cons]
  | x :: r, f :: q => by rw [srow, List.length_cons, srow_len r _, List.length_cons]
theorem coinQ_len (n : Nat) : ∀ k, (coinQ n k).length = n + 1
  | 0 => by simp [coinQ]
  | k + 1 => by rw [coinQ, qrow_eq _ _ _ (by simp [List.replicate_succ]), srow_len, coinQ_len n k]
theorem srow_at : ∀ (L : List Int) (q : List Int) (p j : Nat), q.length = p → 1 ≤ p → j < L.length → (srow L q).getD j 0 = L.getD j 0 + (if j < p then q.getD j 0 else (srow L q).getD (j - p) 0)
  | [], _, _, _, _, _, h => absurd h (by simp)
  | x :: r, [], p, _, hp, h1, _ => absurd hp (by simp; omega)
  | x :: r, f :: q, p, 0, hp, h1, _ => by
    rw [if_pos (by omega)]
    rfl
  | x :: r, f :: q, p, j + 1, hp, h1, h => by
    rw [List.length_cons] at hp
    have ih := srow_at r (q ++ [x + f]) p j (by rw [List.length_append]; exact hp) h1 (by rw [List.length_cons] at h; omega)
    rw [srow, List.getD_cons_succ, List.getD_cons_succ, ih]
    congr 1
    rcases Nat.lt_trichotomy (j + 1) p with c | c | c
    · rw [if_pos (by omega), if_pos c, List.getD_cons_succ]
      simp only [List.getD_eq_getElem?_getD]
      rw [List.getElem?_append_left (by omega)]
    · rw [if_pos (by omega), if_neg (by omega), show j + 1 - p = 0 by omega, List.getD_cons_zero]
      simp only [List.getD_eq_getElem?_getD]
      rw [List.getElem?_append_right (by omega), show j - q.length = 0 by omega]
      rfl
    · rw [if_neg (by omega), if_neg (by omega), show j + 1 - p = (j - p) + 1 by omega, List.getD_cons_succ]
theorem coinQ_at (n k j : Nat) (h : j ≤ n) : (coinQ n (k + 1)).getD j 0 = (coinQ n k).getD j 0 + (if k + 1 ≤ j then (coinQ n (k + 1)).getD (j - (k + 1)) 0 else 0) := by
  have e : coinQ n (k + 1) = srow (coinQ n k) (List.replicate (k + 1) 0) := by
    rw [coinQ, qrow_eq _ _ _ (by simp [List.replicate_succ])]
    simp
  rw [e, srow_at _ _ (k + 1) j (by simp) (by omega) (by rw [coinQ_len]; omega)]
  congr 1
  by_cases c : j < k + 1
  · rw [if_pos c, if_neg (by omega)]
    simp only [List.getD_eq_getElem?_getD]
    rw [List.getElem?_replicate, if_pos c]
    rfl
  · rw [if_neg c, if_pos (by omega)]
theorem coinIn_at (L : List Int) (p : Nat) (hp : 1 ≤ p) : ∀ i j, j < L.length → (coinIn L p i).getD j 0 = L.getD j 0 + (if p ≤ j ∧ j < p + i then (coinIn L p i).getD (j - p) 0 else 0)
  | 0, j, _ => by rw [if_neg (by omega), Int.add_zero, coinIn]
  | i + 1, j, h => by
    have ih := coinIn_at L p hp i j h
    have hl := coinIn_len L p i
    have es : ∀ (X : List Int) (a b : Nat) (v : Int), b < X.length → (X.set a v).getD b 0 = if a = b then v else X.getD b 0 := fun X a b v hb => by
      simp only [List.getD_eq_getElem?_getD]
      rw [List.getElem?_set]
      by_cases c : a = b
      · rw [if_pos c, if_pos c, if_pos (by omega)]
        rfl
      · rw [if_neg c, if_neg c]
    rw [coinIn, coinSt, es _ _ _ _ (by omega)]
    by_cases c : p + i = j
    · subst c
      rw [if_pos rfl, ih, if_neg (by omega), Int.add_zero, if_pos (by omega), es _ _ _ _ (by omega), if_neg (by omega)]
    · rw [if_neg c, ih]
      congr 1
      by_cases d : p ≤ j ∧ j < p + i
      · rw [if_pos d, if_pos (by omega), es _ _ _ _ (by omega), if_neg (by omega)]
      · rw [if_neg d, if_neg (by omega)]
theorem coinOut_at (n k j : Nat) (h : j ≤ n) : (coinOut n (k + 1)).getD j 0 = (coinOut n k).getD j 0 + (if k + 1 ≤ j then (coinOut n (k + 1)).getD (j - (k + 1)) 0 else 0) := by
  rw [coinOut, coinIn_at _ _ (by omega) _ j (by rw [coinOut_len]; omega)]
  congr 1
  by_cases c : k + 1 ≤ j
  · rw [if_pos c, if_pos (by omega)]
  · rw [if_neg c, if_neg (by omega)]
theorem row_uniq (f g a b : Nat → Int) (p N : Nat) (hp : 1 ≤ p) (hf : ∀ j, j ≤ N → f j = a j + (if p ≤ j then f (j - p) else 0)) (hg : ∀ j, j ≤ N → g j = b j + (if p ≤ j then g (j - p) else 0)) (h : ∀ j, j ≤ N → a j = b j) : ∀ j, j ≤ N → f j = g j := fun j => by
  induction j using Nat.strongRecOn with
  | ind j ih =>
    intro hj
    rw [hf j hj, hg j hj, h j hj]
    congr 1
    by_cases c : p ≤ j
    · rw [if_pos c, if_pos c, ih (j - p) (by omega) (by omega)]
    · rw [if_neg c, if_neg c]
theorem coinOQ (n N : Nat) (hn : n ≤ N) : ∀ k j, j ≤ n → (coinOut n k).getD j 0 = (coinQ N k).getD j 0
  | 0, 0, _ => rfl
  | 0, j + 1, h => by
    rw [coinOut, coinQ, List.getD_cons_succ, List.getD_cons_succ]
    simp only [List.getD_eq_getElem?_getD]
    rw [List.getElem?_replicate, List.getElem?_replicate, if_pos (by omega), if_pos (by omega)]
  | k + 1, j, h => row_uniq _ _ (fun j => (coinOut n k).getD j 0) (fun j => (coinQ N k).getD j 0) (k + 1) n (by omega) (fun j hj => coinOut_at n k j hj) (fun j hj => coinQ_at N k j (by omega)) (fun j hj => coinOQ n N hn k j hj) j h
theorem coinQ_more (N n j : Nat) (h : j ≤ n) (hn : n ≤ N) : ∀ d, (coinQ N (n + d)).getD j 0 = (coinQ N n).getD j 0
  | 0 => rfl
  | d + 1 => by
    rw [← Nat.add_assoc, coinQ_at N (n + d) j (by omega), if_neg (by omega), Int.add_zero, coinQ_more N n j h hn d]
theorem coin_way {n j : Nat} (hn : n ≤ 400) (hj : j ≤ n) : (coinOut n n).getD j 0 = (wayR j).reverse.getD j 0 := by
  rw [coinOQ n 400 hn n j hj, ← coinQ_more 400 n j hj hn (400 - n), show n + (400 - n) = 400 by omega, ← way_coin, show (400 : Nat) = j + (400 - j) by omega, wayR_pre j _ j (Nat.le_refl _)]
theorem rev_at {R : List Int} {n p : Nat} (hl : R.length = n) (h1 : 1 ≤ p) (h2 : p ≤ n) : (R.reverse.map V.int)[n - p]? = some (.int (nth19 R (p - 1))) := by
  rw [List.getElem?_map, List.getElem?_reverse (by omega), nth19_eq, show R.length - 1 - (n - p) = p - 1 by omega]
  simp only [List.getD_eq_getElem?_getD]
  rw [List.getElem?_eq_getElem (by omega)]
  rfl
theorem way_get {R : List Int} {n : Nat} {q : Int} (hl : R.length = n + 1) (h1 : 1 ≤ q) (h2 : q ≤ ((n + 1 : Nat) : Int)) : atI (R.reverse.map V.int) (((n + 1 : Nat) : Int) - q) = some (.int (nth19 R (q - 1).toNat)) := by
  obtain ⟨p, rfl⟩ : ∃ p : Nat, q = (p : Int) := ⟨q.toNat, by omega⟩
  rw [show ((n + 1 : Nat) : Int) - (p : Int) = ((n + 1 - p : Nat) : Int) by omega, show ((p : Int) - 1).toNat = p - 1 by omega]
  exact atI_nat (rev_at hl (by omega) (by omega))
theorem nextR_stop (R : List Int) (n : Int) : ∀ f m s t, ¬ pentA m ≤ n → nextR R n f m s t = t
  | 0, _, _, _, _ => rfl
  | f + 1, m, s, t, h => by rw [nextR, if_neg h]
end L2
set_option Elab.async false
set_option linter.all false
namespace L2
open PySem PySem.Spec PyProof.Rows
def sgnG (c : List Int) : Int := if c.length % 2 = 0 then 1 else -1
theorem inV_ints (z : Int) : ∀ ns : List Int, inV (.int z) (ns.map V.int) = decide (z ∈ ns) := fun ns => by
  unfold inV
  rw [List.any_map, Bool.eq_iff_iff, List.any_eq_true, decide_eq_true_eq]
  constructor
  · rintro ⟨x, hx, e⟩
    have e' : x = z := by simpa [eqV] using e
    exact e' ▸ hx
  · intro h
    exact ⟨z, h, by simp [eqV]⟩
end L2
set_option Elab.async false
set_option linter.all false
namespace L2
open PySem PySem.Spec PyProof.Rows
section
variable {prog : Program} {w : World} {A : Around} {E : Value → Shared → Prop} {s : Shared}
end
end L2
set_option Elab.async false
set_option linter.all false
namespace L2
open PySem PySem.Spec PyProof.Rows
end L2
set_option Elab.async false
set_option linter.all false
namespace L2
open PySem PySem.Spec PyProof.Rows PySem.W
end L2
set_option Elab.async false
set_option linter.all false
set_option maxRecDepth 100000
namespace L2
open PySem PySem.Spec PyProof.Rows
section
variable {X : Cx} {tg : Expr}
end
end L2
set_option Elab.async false
set_option linter.all false
set_option maxRecDepth 100000
namespace L2
end L2
set_option Elab.async false
set_option linter.all false
set_option maxRecDepth 100000
namespace L2
open PySem PySem.Spec PyProof.Rows PySem.W
end L2
set_option Elab.async false
set_option linter.all false
set_option maxRecDepth 100000
namespace L2
def sumN : Nat → (Nat → Int) → Int
  | 0, _ => 0
  | n + 1, f => sumN n f + f n
end L2
set_option Elab.async false
set_option linter.all false
set_option maxRecDepth 100000
namespace L2
open PySem PySem.Spec PyProof.Rows
section
variable {X : Cx}
end
end L2
set_option Elab.async false
set_option linter.all false
set_option maxRecDepth 100000
namespace L2
open PySem PySem.Spec PyProof.Rows
section
variable {X : Cx}
end
section
variable {X : Cx} {e st : Expr} {te : TE} {ts : TO} {p2 pos : Pos}
end
def cv (a b : List Int) (k : Nat) : Int := sumN a.length fun i => sumN b.length fun j => if i + j = k then a.getD i 0 * b.getD j 0 else 0
end L2
set_option Elab.async false
set_option linter.all false
set_option maxRecDepth 100000
namespace L2
open PySem PySem.Spec PyProof.Rows
section
variable {X : Cx} {tg l : Expr} {t1 t2 : TI}
end
end L2
set_option Elab.async false
set_option linter.all false
set_option maxRecDepth 100000
namespace L2
open PySem PySem.Spec PyProof.Rows
section
variable {prog : Program} {w : World} {A : Around} {E : Value → Shared → Prop} {s : Shared}
end
section
variable {X : Cx}
end
end L2
set_option Elab.async false
set_option linter.all false
set_option maxRecDepth 100000
namespace L2
open PySem PySem.Spec PyProof.Rows
end L2
set_option Elab.async false
set_option linter.all false
set_option maxRecDepth 100000
namespace L2
open PySem PySem.Spec PyProof.Rows
end L2
set_option Elab.async false
set_option linter.all false
set_option maxRecDepth 100000
namespace L2
open PySem PySem.Spec PyProof.Rows
section
variable {X : Cx}
end
end L2
set_option Elab.async false
set_option linter.all false
set_option maxRecDepth 100000
set_option exponentiation.threshold 200000
namespace L2
open PySem PySem.Spec PyProof.Rows
section
variable {X : Cx}
end
def hdL (T B : Nat → Int) : Nat → List Int
  | 0 => []
  | n + 1 => hdL T B n ++ [T n - sumN n fun i => B (i + 1) * (hdL T B n).getD (n - (i + 1)) 0]
def hd (T B : Nat → Int) (n : Nat) : Int := (hdL T B (n + 1)).getD n 0
end L2
set_option Elab.async false
set_option linter.all false
set_option maxRecDepth 100000
namespace L2
open PySem PySem.Spec PyProof.Rows PySem.W
end L2
set_option Elab.async false
set_option linter.all false
set_option maxRecDepth 100000
namespace L2
open PySem PySem.Spec PyProof.Rows
end L2
set_option Elab.async false
set_option linter.all false
set_option maxRecDepth 100000
namespace L2
open PySem PySem.Spec PyProof.Rows
end L2
set_option Elab.async false
set_option linter.all false
set_option maxRecDepth 100000
namespace L2
open PySem PySem.Spec PyProof.Rows
section
variable {X : Cx}
end
end L2
set_option Elab.async false
set_option linter.all false
set_option maxRecDepth 100000
namespace L2
open PySem PySem.Spec PyProof.Rows
section
variable {prog : Program} {w : World} {A : Around} {R : Result → Shared → Prop} {I : Addr} {fp wr : List Addr} {G : Array GenState → Array GenState → Prop} {n : Nat} {P : Nat → Value → Prop} {St : Nat → Shared → Prop} {K : Type} [DecidableEq K] {knd : KeyKind prog w K}
end
section
variable {X : Cx}
end
end L2
set_option Elab.async false
set_option linter.all false
set_option maxRecDepth 100000
namespace L2
open PySem PySem.Spec PyProof.Rows
section
variable {X : Cx}
end
end L2
set_option Elab.async false
set_option linter.all false
set_option maxRecDepth 100000
namespace L2
end L2
set_option Elab.async false
set_option linter.all false
set_option maxRecDepth 100000
namespace L2
theorem partF_fuel : ∀ (f f' n g : Nat), n < f → n < f' → partF f n g = partF f' n g
  | 0, _, n, _, h, _ => absurd h (Nat.not_lt_zero _)
  | _ + 1, 0, n, _, _, h => absurd h (Nat.not_lt_zero _)
  | f + 1, f' + 1, n, g, h, h' => by
    rw [partF_succ, partF_succ]
    by_cases c : n = 0
    · rw [if_pos c, if_pos c]
    · rw [if_neg c, if_neg c]
      unfold partP
      rw [List.flatMap_def, List.flatMap_def]
      congr 1
      apply List.map_congr_left
      intro i hi
      have hi' := List.mem_range.mp hi
      rw [partF_fuel f f' _ _ (by omega) (by omega)]
def partN (n g : Nat) : List (List Int) := partF (n + 1) n g
theorem partN_nil {n : Nat} (h : n ≠ 0) : partN n 0 = [] := by
  unfold partN
  rw [partF_succ, if_neg h, Nat.min_zero]
  rfl
theorem partN_over {n g g' : Nat} (h : n ≤ g) (h' : n ≤ g') : partN n g = partN n g' := by
  unfold partN
  rw [partF_succ, partF_succ, Nat.min_eq_left h, Nat.min_eq_left h']
theorem partN_next (n g : Nat) : partN n (g + 1) = (if g + 1 ≤ n then (partN (n - (g + 1)) (g + 1)).map (((g + 1 : Nat) : Int) :: ·) else []) ++ partN n g := by
  by_cases c : g + 1 ≤ n
  · rw [if_pos c]
    have n0 : n ≠ 0 := by omega
    unfold partN
    rw [partF_succ n n, partF_succ n n g, if_neg n0, if_neg n0, Nat.min_eq_right c, Nat.min_eq_right (show g ≤ n by omega)]
    unfold partP
    rw [List.range_succ_eq_map, List.flatMap_cons, List.flatMap_map, Nat.sub_zero, partF_fuel n (n - (g + 1) + 1) _ _ (by omega) (by omega)]
    congr 1
    rw [List.flatMap_def, List.flatMap_def]
    congr 1
    apply List.map_congr_left
    intro i hi
    show (partF n (n - (g + 1 - (i + 1))) (g + 1 - (i + 1))).map (((g + 1 - (i + 1) : Nat) : Int) :: ·) = _
    rw [Nat.add_sub_add_right]
  · rw [if_neg c, List.nil_append]
    exact partN_over (by omega) (by omega)
theorem partF_le : ∀ (f n g : Nat), ∀ h ∈ partF f n g, ∀ x ∈ h, x ≤ (g : Int)
  | 0, n, g, h, hh, _, _ => by cases hh
  | f + 1, n, g, h, hh, x, hx => by
    rw [partF_succ] at hh
    by_cases c : n = 0
    · rw [if_pos c] at hh
      have : h = [] := by simpa using hh
      subst this
      cases hx
    · rw [if_neg c] at hh
      unfold partP at hh
      obtain ⟨i, hi, hh⟩ := List.mem_flatMap.mp hh
      rw [List.mem_range] at hi
      obtain ⟨r, hr, rfl⟩ := List.mem_map.mp hh
      rcases List.mem_cons.mp hx with rfl | hx
      · omega
      · have := partF_le f _ _ r hr x hx
        omega
end L2
set_option Elab.async false
set_option linter.all false
set_option maxRecDepth 100000
namespace L2
def okC (c : Nat → Nat) (g : Nat) (h : List Int) : Bool := (List.range g).all fun i => decide (c (i + 1) ≤ h.count ((i + 1 : Nat) : Int))
theorem okC_next (c : Nat → Nat) (g : Nat) (h : List Int) : okC c (g + 1) h = (okC c g h && decide (c (g + 1) ≤ h.count ((g + 1 : Nat) : Int))) := by
  unfold okC
  rw [List.range_succ, List.all_append]
  simp
theorem okC_cons (c : Nat → Nat) (g : Nat) (h : List Int) : okC c g (((g + 1 : Nat) : Int) :: h) = okC c g h := by
  unfold okC
  rw [Bool.eq_iff_iff, List.all_eq_true, List.all_eq_true]
  have e : ∀ i ∈ List.range g, List.count ((i + 1 : Nat) : Int) (((g + 1 : Nat) : Int) :: h) = List.count ((i + 1 : Nat) : Int) h := fun i hi => by
    have := List.mem_range.mp hi
    rw [List.count_cons_of_ne (by omega)]
  exact ⟨fun z i hi => by have := z i hi; rwa [e i hi] at this, fun z i hi => by rw [e i hi]; exact z i hi⟩
def lenN (g n : Nat) : Nat := (partN n g).length
theorem lenN_next (g n : Nat) : lenN (g + 1) n = (if g + 1 ≤ n then lenN (g + 1) (n - (g + 1)) else 0) + lenN g n := by
  unfold lenN
  rw [partN_next n g, List.length_append]
  by_cases c : g + 1 ≤ n
  · rw [if_pos c, if_pos c, List.length_map]
  · rw [if_neg c, if_neg c]
    rfl
def cntC (c : Nat → Nat) (g n : Nat) : Nat := (partN n g).countP (okC c g)
def cntT (c : Nat → Nat) (g t n : Nat) : Nat := (partN n (g + 1)).countP fun h => okC c g h && decide (t ≤ h.count ((g + 1 : Nat) : Int))
theorem cntT_next (c : Nat → Nat) (g t n : Nat) : cntT c g t n = (if g + 1 ≤ n then cntT c g (t - 1) (n - (g + 1)) else 0) + if t = 0 then cntC c g n else 0 := by
  unfold cntT
  rw [partN_next n g, List.countP_append]
  congr 1
  · by_cases d : g + 1 ≤ n
    · rw [if_pos d, if_pos d, List.countP_map]
      apply List.countP_congr
      intro h _
      show (okC c g (((g + 1 : Nat) : Int) :: h) && decide (t ≤ List.count ((g + 1 : Nat) : Int) (((g + 1 : Nat) : Int) :: h))) = true ↔ _
      rw [okC_cons, List.count_cons_self]
      simp only [Bool.and_eq_true, decide_eq_true_eq]
      exact and_congr_right fun _ => by omega
    · rw [if_neg d, if_neg d]
      rfl
  · unfold cntC
    have z : ∀ h ∈ partN n g, h.count ((g + 1 : Nat) : Int) = 0 := fun h hh => List.count_eq_zero.mpr fun hm => by
      have := partF_le _ _ _ h hh _ hm
      omega
    by_cases d : t = 0
    · subst d
      rw [if_pos rfl]
      apply List.countP_congr
      intro h hh
      simp
    · rw [if_neg d]
      apply List.countP_eq_zero.mpr
      intro h hh
      rw [z h hh, decide_eq_false (by omega), Bool.and_false]
      decide
theorem cntT_shift (c : Nat → Nat) (g : Nat) : ∀ t n, cntT c g t n = if t * (g + 1) ≤ n then cntT c g 0 (n - t * (g + 1)) else 0
  | 0, n => by rw [Nat.zero_mul, if_pos (Nat.zero_le _), Nat.sub_zero]
  | t + 1, n => by
    rw [cntT_next, if_neg (Nat.succ_ne_zero t), Nat.add_zero, Nat.add_sub_cancel, Nat.add_mul t 1, Nat.one_mul]
    by_cases d : g + 1 ≤ n
    · rw [if_pos d, cntT_shift c g t]
      by_cases e : t * (g + 1) ≤ n - (g + 1)
      · rw [if_pos e, if_pos (by omega), Nat.sub_sub, Nat.add_comm (g + 1)]
      · rw [if_neg e, if_neg (by omega)]
    · rw [if_neg d, if_neg (by omega)]
def sC (c : Nat → Nat) : Nat → Nat
  | 0 => 0
  | g + 1 => sC c g + c (g + 1) * (g + 1)
theorem cntT_zero {c : Nat → Nat} {g : Nat} (ih : ∀ n, cntC c g n = if sC c g ≤ n then lenN g (n - sC c g) else 0) : ∀ n, cntT c g 0 n = if sC c g ≤ n then lenN (g + 1) (n - sC c g) else 0 := by
  intro n
  induction n using Nat.strongRecOn with
  | _ n IH =>
    rw [cntT_next, if_pos rfl, ih]
    by_cases d : g + 1 ≤ n
    · rw [if_pos d, Nat.zero_sub, IH (n - (g + 1)) (by omega)]
      by_cases e : sC c g ≤ n
      · rw [if_pos e, if_pos e, lenN_next g (n - sC c g)]
        congr 1
        by_cases f : sC c g ≤ n - (g + 1)
        · rw [if_pos f, if_pos (by omega)]
          congr 1
          omega
        · rw [if_neg f, if_neg (by omega)]
      · rw [if_neg e, if_neg e, if_neg (by omega)]
    · rw [if_neg d, Nat.zero_add]
      by_cases e : sC c g ≤ n
      · rw [if_pos e, if_pos e, lenN_next g (n - sC c g), if_neg (by omega), Nat.zero_add]
      · rw [if_neg e, if_neg e]
theorem cntC_eq (c : Nat → Nat) : ∀ g n, cntC c g n = if sC c g ≤ n then lenN g (n - sC c g) else 0
  | 0, n => by
    show (partN n 0).countP (okC c 0) = if 0 ≤ n then lenN 0 n else 0
    rw [if_pos (Nat.zero_le _)]
    unfold lenN
    exact List.countP_eq_length.mpr fun _ _ => rfl
  | g + 1, n => by
    have e : cntC c (g + 1) n = cntT c g (c (g + 1)) n := by
      unfold cntC cntT
      congr 1
      funext h
      exact okC_next c g h
    rw [e, cntT_shift]
    show _ = if sC c g + c (g + 1) * (g + 1) ≤ n then lenN (g + 1) (n - (sC c g + c (g + 1) * (g + 1))) else 0
    by_cases d : c (g + 1) * (g + 1) ≤ n
    · rw [if_pos d, cntT_zero (cntC_eq c g)]
      by_cases f : sC c g ≤ n - c (g + 1) * (g + 1)
      · rw [if_pos f, if_pos (by omega)]
        congr 1
        omega
      · rw [if_neg f, if_neg (by omega)]
    · rw [if_neg d, if_neg (by omega)]
theorem sC_cons {J : List Int} {a : Int} (h0 : 1 ≤ a) : ∀ g, sC (fun x => (a :: J).count (x : Int)) g = sC (fun x => J.count (x : Int)) g + if a ≤ (g : Int) then a.toNat else 0
  | 0 => by rw [if_neg (by omega)]; rfl
  | g + 1 => by
    show sC _ g + List.count ((g + 1 : Nat) : Int) (a :: J) * (g + 1) = sC _ g + List.count ((g + 1 : Nat) : Int) J * (g + 1) + _
    rw [sC_cons h0 g]
    by_cases e : a = ((g + 1 : Nat) : Int)
    · subst e
      rw [List.count_cons_self, if_neg (by omega), if_pos (Int.le_refl _), Nat.add_mul, Nat.one_mul, Int.toNat_natCast]
      omega
    · rw [List.count_cons_of_ne (by omega)]
      by_cases f : a ≤ (g : Int)
      · rw [if_pos f, if_pos (by omega)]
        omega
      · rw [if_neg f, if_neg (by omega)]
        omega
theorem sC_sum (g : Nat) : ∀ {J : List Int}, (∀ x ∈ J, 1 ≤ x ∧ x ≤ (g : Int)) → ((sC (fun x => J.count (x : Int)) g : Nat) : Int) = J.sum
  | [], _ => by
    have e : ∀ g, sC (fun x => ([] : List Int).count (x : Int)) g = 0 := fun g => by
      induction g with
      | zero => rfl
      | succ g ih =>
        show sC _ g + List.count _ [] * (g + 1) = 0
        rw [ih, List.count_nil, Nat.zero_mul]
    rw [e]
    rfl
  | a :: J, h => by
    have ha := h a List.mem_cons_self
    rw [sC_cons ha.1 g, if_pos ha.2, List.sum_cons, ← sC_sum g fun x hx => h x (List.mem_cons_of_mem _ hx)]
    omega
theorem sum_ge {J : List Int} (h : ∀ x ∈ J, 1 ≤ x) : 0 ≤ J.sum ∧ ∀ x ∈ J, x ≤ J.sum := by
  induction J with
  | nil => exact ⟨Int.le_refl _, (fun _ h => by cases h)⟩
  | cons a J ih =>
    have ha := h a List.mem_cons_self
    obtain ⟨i1, i2⟩ := ih fun x hx => h x (List.mem_cons_of_mem _ hx)
    rw [List.sum_cons]
    refine ⟨by omega, fun x hx => ?_⟩
    rcases List.mem_cons.mp hx with rfl | hx
    · omega
    · have := i2 x hx
      omega
theorem lies_count {J : List Int} (h : ∀ x ∈ J, 1 ≤ x) (n : Nat) : (partN n n).countP (lies J) = if J.sum ≤ (n : Int) then (partN (n - J.sum.toNat) (n - J.sum.toNat)).length else 0 := by
  by_cases hb : ∀ x ∈ J, x ≤ (n : Int)
  · have e1 : (partN n n).countP (lies J) = cntC (fun x => J.count (x : Int)) n n := by
      unfold cntC
      apply List.countP_congr
      intro hp _
      unfold lies okC
      rw [List.all_eq_true, List.all_eq_true]
      constructor
      · intro z i _
        refine decide_eq_true ?_
        by_cases hm : ((i + 1 : Nat) : Int) ∈ J
        · exact of_decide_eq_true (z _ hm)
        · show List.count ((i + 1 : Nat) : Int) J ≤ _
          rw [List.count_eq_zero.mpr hm]
          exact Nat.zero_le _
      · intro z x hx
        have h1 := h x hx
        have h2 := hb x hx
        have := z (x.toNat - 1) (List.mem_range.mpr (by omega))
        have this : decide (List.count ((x.toNat - 1 + 1 : Nat) : Int) J ≤ List.count ((x.toNat - 1 + 1 : Nat) : Int) hp) = true := this
        rw [show x.toNat - 1 + 1 = x.toNat by omega, Int.toNat_of_nonneg (by omega)] at this
        exact this
    have es := sC_sum n (J := J) fun x hx => ⟨h x hx, hb x hx⟩
    rw [e1, cntC_eq]
    by_cases d : J.sum ≤ (n : Int)
    · have e2 : J.sum.toNat = sC (fun x => J.count (x : Int)) n := by omega
      rw [if_pos d, if_pos (by omega), ← e2]
      unfold lenN
      rw [partN_over (n := n - J.sum.toNat) (g := n) (g' := n - J.sum.toNat) (by omega) (Nat.le_refl _)]
    · rw [if_neg d, if_neg (by omega)]
  · have hb' : ∃ x, x ∈ J ∧ (n : Int) < x := by
      refine Decidable.byContradiction fun z => hb fun x hx => ?_
      refine Decidable.byContradiction fun y => z ⟨x, hx, by omega⟩
    obtain ⟨x, hx, hlt⟩ := hb'
    have := (sum_ge h).2 x hx
    rw [if_neg (by omega)]
    apply List.countP_eq_zero.mpr
    intro hp hh z
    unfold lies at z
    have zx := of_decide_eq_true (List.all_eq_true.mp z x hx)
    have c0 : hp.count x = 0 := List.count_eq_zero.mpr fun hm => by
      have := partF_le _ _ _ hp hh x hm
      omega
    have c1 : 0 < J.count x := List.count_pos_iff.mpr hx
    omega
theorem lies_iff (J h : List Int) : lies J h = true ↔ ∀ x, J.count x ≤ h.count x := by
  unfold lies
  rw [List.all_eq_true]
  constructor
  · intro z x
    by_cases hm : x ∈ J
    · exact of_decide_eq_true (z x hm)
    · rw [List.count_eq_zero.mpr hm]
      exact Nat.zero_le _
  · intro z x _
    exact decide_eq_true (z x)
theorem lies_join {ls : List (List Int)} {J : List Int} (h : IsJoin ls J) (hp : List Int) : lies J hp = ls.all fun l => lies l hp := by
  rw [Bool.eq_iff_iff, lies_iff, List.all_eq_true]
  constructor
  · intro z l hl
    rw [lies_iff]
    intro x
    have := z x
    rw [h.2 x] at this
    exact Nat.le_trans (le_maxC hl) this
  · intro z x
    rw [h.2 x]
    exact maxC_le fun l hl => (lies_iff l hp).mp (z l hl) x
def bI (b : Bool) : Int := if b = true then 1 else 0
theorem sgn_snoc (c : List Int) (x : Int) : sgnG (c ++ [x]) = - sgnG c := by
  unfold sgnG
  rw [List.length_append, List.length_singleton]
  by_cases h : c.length % 2 = 0
  · rw [if_pos h, if_neg (by omega)]
  · rw [if_neg h, if_pos (by omega)]
    rfl
theorem sum_neg (L : List (List Int)) (f : List Int → Int) : (L.map fun c => - f c).sum = - (L.map f).sum := by
  induction L with
  | nil => rfl
  | cons a L ih =>
    rw [List.map_cons, List.map_cons, List.sum_cons, List.sum_cons, ih]
    omega
theorem choices_sum (b : Int → Bool) : ∀ (k : Nat), ((chG (upto k)).map fun c => sgnG c * bI (c.all b)).sum = bI ((upto k).all fun x => !b x)
  | 0 => rfl
  | k + 1 => by
    rw [upto_succ, chG_snoc, List.map_append, List.sum_append, List.map_map, List.all_append, choices_sum b k]
    have e : ((fun c => sgnG c * bI (c.all b)) ∘ fun x => x ++ [(k : Int)]) = fun c => - (sgnG c * bI (c.all b && b (k : Int))) := by
      funext c
      show sgnG (c ++ [(k : Int)]) * bI ((c ++ [(k : Int)]).all b) = _
      rw [sgn_snoc, List.all_append, Int.neg_mul]
      simp
    rw [e, sum_neg]
    cases hb : b (k : Int) with
    | true =>
      have e2 : (fun c : List Int => sgnG c * bI (c.all b && true)) = fun c => sgnG c * bI (c.all b) := by
        funext c
        rw [Bool.and_true]
      rw [e2, choices_sum b k]
      simp [hb, bI]
      omega
    | false =>
      have e2 : ∀ L : List (List Int), (L.map fun c : List Int => sgnG c * bI (c.all b && false)).sum = 0 := fun L => by
        induction L with
        | nil => rfl
        | cons a L ih =>
          rw [List.map_cons, List.sum_cons, ih, Bool.and_false]
          show sgnG a * 0 + 0 = 0
          rw [Int.mul_zero]
          rfl
      rw [e2]
      simp [hb]
theorem first_isNone (rule : List (List Int)) (h : List Int) : (firstG rule h).isNone = (upto rule.length).all fun x => !lies (rule.getD x.toNat []) h := by
  unfold firstG idxG idxP
  rw [List.head?_map, Option.isNone_map, upto, List.all_map]
  rw [Bool.eq_iff_iff, Option.isNone_iff_eq_none, List.head?_eq_none_iff, List.filter_eq_nil_iff, List.all_eq_true]
  constructor
  · intro z i hi
    have := z i hi
    show (!lies (rule.getD ((i : Nat) : Int).toNat []) h) = true
    rw [Int.toNat_natCast]
    simpa using this
  · intro z i hi
    have : (!lies (rule.getD ((i : Nat) : Int).toNat []) h) = true := z i hi
    rw [Int.toNat_natCast] at this
    simpa using this
theorem sum_swap (L : List (List Int)) (f : List Int → Bool) (g : List Int → List Int → Int) (hg : ∀ h, (L.map fun c => g c h).sum = bI (f h)) : ∀ P : List (List Int), (((P.filter f).length : Nat) : Int) = (L.map fun c => (P.map (g c)).sum).sum
  | [] => by
    have : ∀ L : List (List Int), (L.map fun c => (([] : List (List Int)).map (g c)).sum).sum = 0 := fun L => by
      induction L with
      | nil => rfl
      | cons a L ih => rw [List.map_cons, List.sum_cons, ih]; rfl
    rw [this]
    rfl
  | h :: P => by
    have e : ∀ L : List (List Int), (L.map fun c => ((h :: P).map (g c)).sum).sum = (L.map fun c => g c h).sum + (L.map fun c => (P.map (g c)).sum).sum := fun L => by
      induction L with
      | nil => rfl
      | cons a L ih =>
        rw [List.map_cons, List.map_cons, List.map_cons, List.sum_cons, List.sum_cons, List.sum_cons, ih, List.map_cons, List.sum_cons]
        omega
    rw [e, hg, ← sum_swap L f g hg P, List.filter_cons]
    cases hf : f h with
    | true =>
      rw [if_pos rfl, List.length_cons]
      show _ = 1 + _
      omega
    | false =>
      rw [if_neg (by decide)]
      show _ = 0 + _
      omega
theorem sum_count (P : List (List Int)) (s : Int) (f : List Int → Bool) : (P.map fun h => s * bI (f h)).sum = s * ((P.countP f : Nat) : Int) := by
  induction P with
  | nil => simp
  | cons a P ih =>
    rw [List.map_cons, List.sum_cons, ih, List.countP_cons]
    cases hf : f a with
    | true =>
      rw [if_pos rfl]
      show s * 1 + _ = s * (((P.countP f + 1 : Nat)) : Int)
      rw [Int.natCast_add, Int.mul_add, Int.add_comm]
      rfl
    | false =>
      rw [if_neg (by decide)]
      show s * 0 + _ = _
      rw [Int.mul_zero, Int.zero_add, Nat.add_zero]
theorem kept_signed {rule : List (List Int)} (hp : ∀ h ∈ rule, ∀ x ∈ h, 1 ≤ x) (jn : List Int → List Int) (hj : ∀ c ∈ chG (upto rule.length), IsJoin (pickG rule c) (jn c)) {n : Nat} (hn : n < 26) :
    (((keptG rule n).length : Nat) : Int) = ((chG (upto rule.length)).map fun c => sgnG c * (if (jn c).sum ≤ (n : Int) then (((partF 26 (n - (jn c).sum.toNat) (n - (jn c).sum.toNat)).length : Nat) : Int) else 0)).sum := by
  unfold keptG
  rw [sum_swap (chG (upto rule.length)) _ (fun c h => sgnG c * bI (c.all fun x => lies (rule.getD x.toNat []) h)) (fun h => by rw [choices_sum, first_isNone])]
  congr 1
  apply List.map_congr_left
  intro c hc
  rw [sum_count]
  congr 1
  have hJ := hj c hc
  have hJ1 : ∀ x ∈ jn c, 1 ≤ x := fun x hx => by
    have h1 : 0 < (jn c).count x := List.count_pos_iff.mpr hx
    rw [hJ.2 x] at h1
    refine Decidable.byContradiction fun hx1 => ?_
    have : maxC (pickG rule c) x ≤ 0 := maxC_le fun l hl => by
      obtain ⟨j, _, rfl⟩ := List.mem_map.mp hl
      have e : (rule.getD j.toNat []).count x = 0 := List.count_eq_zero.mpr fun hm => by
        by_cases hjl : j.toNat < rule.length
        · rw [List.getD_eq_getElem?_getD, List.getElem?_eq_getElem hjl] at hm
          exact hx1 (hp _ (List.getElem_mem hjl) x hm)
        · rw [List.getD_eq_getElem?_getD, List.getElem?_eq_none (by omega)] at hm
          cases hm
      omega
    omega
  have e1 : (partF 26 n n).countP (fun h => c.all fun x => lies (rule.getD x.toNat []) h) = (partN n n).countP (lies (jn c)) := by
    rw [partF_fuel 26 (n + 1) n n hn (by omega)]
    apply List.countP_congr
    intro h _
    rw [lies_join hJ h]
    unfold pickG
    rw [List.all_map]
    exact Iff.rfl
  rw [e1, lies_count hJ1]
  by_cases d : (jn c).sum ≤ (n : Int)
  · rw [if_pos d, if_pos d]
    unfold partN
    rw [partF_fuel 26 (n - (jn c).sum.toNat + 1) _ _ (by omega) (by omega)]
  · rw [if_neg d, if_neg d]
    rfl
end L2
set_option Elab.async false
set_option linter.all false
set_option maxRecDepth 100000
namespace L2
theorem map_ext {L : List (List Int)} {f g : List Int → Int} (h : ∀ c ∈ L, f c = g c) : (L.map f).sum = (L.map g).sum := by rw [List.map_congr_left h]
theorem ex_unlike : ∀ L : List Int, ∃ us : List Int, us.Pairwise (· > ·) ∧ ∀ y, y ∈ us ↔ y ∈ L
  | [] => ⟨[], .nil, fun _ => Iff.rfl⟩
  | x :: L => by
    obtain ⟨us, h1, h2⟩ := ex_unlike L
    by_cases hx : x ∈ us
    · refine ⟨us, h1, fun y => ?_⟩
      rw [List.mem_cons, ← h2 y]
      exact ⟨.inr, fun h => h.elim (fun e => e ▸ hx) id⟩
    · refine ⟨us.filter (fun y => decide (x < y)) ++ x :: us.filter (fun y => decide (y < x)), ?_, fun y => ?_⟩
      · refine List.pairwise_append.mpr ⟨h1.sublist List.filter_sublist, List.pairwise_cons.mpr ⟨fun y hy => ?_, h1.sublist List.filter_sublist⟩, fun a ha b hb => ?_⟩
        · exact of_decide_eq_true (List.mem_filter.mp hy).2
        · have ha' : x < a := of_decide_eq_true (List.mem_filter.mp ha).2
          rcases List.mem_cons.mp hb with rfl | hb
          · exact ha'
          · have hb' : b < x := of_decide_eq_true (List.mem_filter.mp hb).2
            show b < a
            omega
      · rw [List.mem_append, List.mem_cons, List.mem_filter, List.mem_filter, List.mem_cons, ← h2 y]
        constructor
        · rintro (h | h | h)
          · exact .inr h.1
          · exact .inl h
          · exact .inr h.1
        · rintro (h | h)
          · exact .inr (.inl h)
          · rcases Int.lt_trichotomy x y with z | z | z
            · exact .inl ⟨h, decide_eq_true z⟩
            · exact .inr (.inl z.symm)
            · exact .inr (.inr ⟨h, decide_eq_true z⟩)
theorem ex_join (ls : List (List Int)) : ∃ ms, IsJoin ls ms := by
  obtain ⟨us, h1, h2⟩ := ex_unlike ls.flatten
  exact ⟨_, blow_join (h1.imp fun h => Int.ne_of_gt h) (h1.imp fun h => Int.le_of_lt h) h2⟩
noncomputable def joinX (ls : List (List Int)) : List Int := Classical.choose (ex_join ls)
theorem joinX_is (ls : List (List Int)) : IsJoin ls (joinX ls) := Classical.choose_spec (ex_join ls)
theorem joinX_eq {ls : List (List Int)} {ms : List Int} (h : IsJoin ls ms) : joinX ls = ms := (joinX_is ls).uniq h
noncomputable def signedX (rule : List (List Int)) (W : Nat → Int) (n : Nat) (cs : List (List Int)) : Int := (cs.map fun c => sgnG c * if (joinX (pickG rule c)).sum ≤ (n : Int) then W (n - (joinX (pickG rule c)).sum.toNat) else 0).sum
theorem sum_rep (k : Nat) (v : Int) : (List.replicate k v).sum = k * v := by
  induction k with
  | zero => simp
  | succ k ih => rw [List.replicate_succ, List.sum_cons, ih, Int.natCast_add, Int.add_mul]; simp; omega
theorem perm_sum {a b : List Int} (h : a.Perm b) : a.sum = b.sum := by
  induction h with
  | nil => rfl
  | cons x _ ih => rw [List.sum_cons, List.sum_cons, ih]
  | swap x y l => simp only [List.sum_cons]; omega
  | trans _ _ i1 i2 => rw [i1, i2]
end L2
set_option Elab.async false
set_option linter.all false
set_option maxRecDepth 100000
namespace L2
open PySem PySem.Spec PyProof.Rows
structure SeenU (H0 H : Hp) (d : Addr) (L : List Int) : Prop where
  ex : ∃ (kvs : List (Key × V)) (ns : List Int), H d = some (.dK kvs) ∧ kvs.map (·.1) = ns.map Sum.inl ∧ ns.Nodup ∧ ns.length ≤ L.length ∧ ∀ x, x ∈ ns ↔ x ∈ L
  sm : ∀ b o, H0 b = some o → H b = some o
  nw : H0 d = none
theorem SeenU.put {H0 H : Hp} {d : Addr} {L : List Int} {z : Int} (h : SeenU H0 H d L) (hl : L.length < 1000) : ∃ H', DPut H d (.int z) (.bl true) H' ∧ SeenU H0 H' d (L ++ [z]) := by
  obtain ⟨⟨kvs, ns, hd, hk, hnd, hn, hm⟩, sm, nw⟩ := h
  have hlen : kvs.length = ns.length := by
    have := congrArg List.length hk
    simpa using this
  refine ⟨upd H d (.dK (putK kvs (Sum.inl z) (.bl true))), DPut.k (k := Sum.inl z) hd (Nat.lt_of_lt_of_le (show kvs.length < 1000 by omega) (by decide)), ⟨?_, fun b o e => by rw [upd_ne (ne_of_none e nw)]; exact sm b o e, nw⟩⟩
  cases e : valV kvs (Sum.inl z) with
  | none =>
    have hz : z ∉ ns := fun hz => valV_not e (by rw [hk]; exact List.mem_map.mpr ⟨z, hz, rfl⟩)
    refine ⟨_, ns ++ [z], upd_same, by rw [putK_new _ e, List.map_append, hk, List.map_append]; rfl, ?_, by simp; omega, fun x => by simp [hm]⟩
    refine List.nodup_append.mpr ⟨hnd, by simp, fun a ha b hb e => ?_⟩
    have : b = z := by simpa using hb
    exact hz (by rw [← this, ← e]; exact ha)
  | some v =>
    have hin := valV_in e
    rw [hk] at hin
    have hz : z ∈ ns := by
      obtain ⟨y, hy, e2⟩ := List.mem_map.mp hin
      have : y = z := Sum.inl.inj e2
      rw [← this]; exact hy
    refine ⟨_, ns, upd_same, ?_, hnd, by simp; omega, fun x => ?_⟩
    · have : (putK kvs (Sum.inl z) (V.bl true)).map (·.1) = kvs.map (·.1) := putK_keys e
      rw [this, hk]
    · rw [List.mem_append, ← hm]
      exact ⟨Or.inl, fun h => h.elim id fun h => by have : x = z := by simpa using h
                                                    rw [this]; exact hz⟩
theorem nodup_len : ∀ {a b : List Int}, a.Nodup → (∀ x ∈ a, x ∈ b) → a.length ≤ b.length
  | [], _, _, _ => Nat.zero_le _
  | x :: a, b, hn, h => by
    obtain ⟨h1, h2⟩ := List.nodup_cons.mp hn
    have hx := h x List.mem_cons_self
    have := nodup_len (b := b.erase x) h2 fun y hy => by
      have hne : y ≠ x := fun e => h1 (by rw [← e]; exact hy)
      exact (List.mem_erase_of_ne hne).mpr (h y (List.mem_cons_of_mem _ hy))
    rw [List.length_erase_of_mem hx] at this
    have : 0 < b.length := List.length_pos_of_mem hx
    rw [List.length_cons]
    omega
section
variable {X : Cx}
end
def RuleJ (rule : List (List Int)) : Prop := (∃ D : List Int, D.length < 64 ∧ ∀ h ∈ rule, ∀ x ∈ h, x ∈ D) ∧ (∀ h ∈ rule, h.length ≤ 100) ∧ ∀ h ∈ rule, ∀ x ∈ h, 1 ≤ x
theorem pick_mem {rule : List (List Int)} {ch : List Int} {l : List Int} (h : l ∈ pickG rule ch) : l ∈ rule ∨ l = [] := by
  obtain ⟨j, _, rfl⟩ := List.mem_map.mp h
  by_cases hj : j.toNat < rule.length
  · left
    rw [List.getD_eq_getElem?_getD, List.getElem?_eq_getElem hj]
    exact List.getElem_mem hj
  · right
    rw [List.getD_eq_getElem?_getD, List.getElem?_eq_none (by omega)]
    rfl
theorem RuleJ.pick {rule : List (List Int)} (h : RuleJ rule) {ch : List Int} (hc : ch.length ≤ 6) : (∃ D : List Int, D.length < 64 ∧ ∀ x ∈ (pickG rule ch).flatten, x ∈ D) ∧ (pickG rule ch).flatten.length < 1000 := by
  obtain ⟨⟨D, hD, hm⟩, hl, _⟩ := h
  refine ⟨⟨D, hD, fun x hx => ?_⟩, ?_⟩
  · obtain ⟨l, hl, hx⟩ := List.mem_flatten.mp hx
    rcases pick_mem hl with h | h
    · exact hm l h x hx
    · rw [h] at hx
      cases hx
  · have : (pickG rule ch).flatten.length ≤ 100 * (pickG rule ch).length := flat_le fun l hl' => by
      rcases pick_mem hl' with h | h
      · exact hl l h
      · rw [h]
        exact Nat.zero_le _
    have e : (pickG rule ch).length = ch.length := by unfold pickG; rw [List.length_map]
    omega
def wayF (m j : Nat) : Int := (wayR m).reverse.getD j 0
theorem signedX_snoc (rule : List (List Int)) (W : Nat → Int) (n : Nat) (cs : List (List Int)) (c : List Int) : signedX rule W n (cs ++ [c]) = signedX rule W n cs + sgnG c * if (joinX (pickG rule c)).sum ≤ (n : Int) then W (n - (joinX (pickG rule c)).sum.toNat) else 0 := by
  unfold signedX
  rw [List.map_append, List.sum_append]
  simp
theorem joinX_nonneg {rule : List (List Int)} (h : RuleJ rule) (ch : List Int) : 0 ≤ (joinX (pickG rule ch)).sum := by
  refine (sum_ge fun x hx => ?_).1
  have hj := joinX_is (pickG rule ch)
  have h1 : 0 < (joinX (pickG rule ch)).count x := List.count_pos_iff.mpr hx
  rw [hj.2 x] at h1
  refine Decidable.byContradiction fun hx1 => ?_
  have : maxC (pickG rule ch) x ≤ 0 := maxC_le fun l hl => by
    have e : l.count x = 0 := List.count_eq_zero.mpr fun hm => by
      rcases pick_mem hl with z | z
      · exact hx1 (h.2.2 l z x hm)
      · rw [z] at hm
        cases hm
    omega
  omega
theorem kept_way {rule : List (List Int)} (hp : ∀ h ∈ rule, ∀ x ∈ h, 1 ≤ x) {n : Nat} (hn : n ≤ 24) : (((keptG rule n).length : Nat) : Int) = signedX rule (wayF n) n (chG (upto rule.length)) := by
  rw [kept_signed hp (fun c => joinX (pickG rule c)) (fun c _ => joinX_is _) (show n < 26 by omega)]
  unfold signedX
  refine map_ext fun c _ => ?_
  congr 1
  by_cases d : (joinX (pickG rule c)).sum ≤ (n : Int)
  · rw [if_pos d, if_pos d]
    generalize (joinX (pickG rule c)).sum.toNat = a
    have h12 := part12_all (n - a) (by omega)
    unfold part12 at h12
    simp only [Bool.and_eq_true, beq_iff_eq] at h12
    rw [h12.1.1, coin_way (by omega) (Nat.le_refl _)]
    unfold wayF
    have := wayR_pre (n - a) (n - (n - a)) (n - a) (Nat.le_refl _)
    rw [show n - a + (n - (n - a)) = n by omega] at this
    exact this.symm
  · rw [if_neg d, if_neg d]
theorem signedX_eq {rule : List (List Int)} {W W' : Nat → Int} {n : Nat} (h : ∀ j, j ≤ n → W j = W' j) (cs : List (List Int)) : signedX rule W n cs = signedX rule W' n cs := by
  unfold signedX
  refine map_ext fun c _ => ?_
  rw [h _ (Nat.sub_le _ _)]
theorem way_all {n j : Nat} (hn : n ≤ 400) (hj : j ≤ n) : wayF n j = (coinOut n n).getD j 0 := by
  rw [coin_way hn hj]
  unfold wayF
  have := wayR_pre j (n - j) j (Nat.le_refl _)
  rw [show j + (n - j) = n by omega] at this
  exact this
end L2
set_option Elab.async false
set_option linter.all false
set_option maxRecDepth 100000
namespace L2
open PySem PySem.Spec PyProof.Rows
open PySem.Builtin.Str (occurrences subAt)
section
variable {X : Cx}
end
end L2
set_option Elab.async false
set_option linter.all false
set_option maxRecDepth 100000
namespace L2
open PySem PySem.Spec PyProof.Rows
section
variable {X : Cx}
end
section
variable {X : Cx} {scope : Scope} {ls : List Str} {fr : List (Str × Nat)}
end
end L2
set_option Elab.async false
set_option linter.all false
set_option maxRecDepth 100000
namespace L2
open PySem PySem.Spec PyProof.Rows
abbrev natV (n : Nat) : V := V.int (n : Int)
theorem nat_at {ns : List Nat} {i : Nat} {x : V} (h : (ns.map natV)[i]? = some x) : ∃ z, ns[i]? = some z ∧ x = .int (z : Int) := by
  rw [List.getElem?_map] at h
  cases e : ns[i]? with
  | none => rw [e] at h; cases h
  | some z => rw [e] at h; exact ⟨z, rfl, (Option.some.inj h).symm⟩
theorem comp_map1L {K : PySem.W.Frag} {i : Nat} {a : Addr} {xs : List V} {nm : Str} {fr : List (Str × Nat)} {te : TE} {σ : St} {H : Hp} {Q : VK} {β : Type} (R : β → V → Hp → Prop) (bs : List β) (tl : St) (hb : bs.length = xs.length) (hle : xs.length ≤ sizeLine) (mono : ∀ b v H H', Same H H' → R b v H → R b v H') (htl : startC [nm] fr σ = none :: tl) (hs : σ[i]? = some (some (.ref a))) (h : H a = some (.lst xs))
    (step : ∀ (j : Nat) (x : V) (b : β) (H' : Hp) (P : VK), xs[j]? = some x → bs[j]? = some b → Same H H' → (∀ v H'', Same H' H'' → R b v H'' → P v H'') → te (some x :: tl) H' P)
    (hd : ∀ zs H' p, Same H H' → All2 R H' bs zs → H' p = none → Q (.ref p) (upd H' p (.lst zs))) : tComp (iList K (tVar i)) [nm] fr (gName 0) tYes te σ H Q := by
  refine ⟨_, hs, a, rfl, ⟨_, SqL.of h⟩, comp_list (xs := xs) (fun j zs σ' H' => Same H H' ∧ (∃ v, σ' = v :: tl) ∧ All2 R H' (bs.take j) zs ∧ j ≤ bs.length) ⟨Same.refl _, ⟨_, htl⟩, .nil, Nat.zero_le _⟩ ?_ ?_ ?_⟩
  · rintro j zs σ' H' hj ⟨s', _, a2, hj'⟩
    refine ⟨SqL.of (s' _ _ h), ?_⟩
    rw [← a2.length, List.length_take]
    exact Nat.le_trans (Nat.min_le_right _ _) (by rw [hb]; exact hle)
  · rintro j x zs σ' H' hx ⟨s', ⟨v, rfl⟩, a2, hj'⟩
    have hj : j < bs.length := by rw [hb]; exact (List.getElem?_eq_some_iff.mp hx).1
    have hbj : bs[j]? = some bs[j] := List.getElem?_eq_getElem hj
    refine step j x bs[j] H' _ hx hbj s' fun v2 H2 s2 r2 => ⟨s'.trans s2, ⟨_, rfl⟩, ?_, hj⟩
    rw [List.take_succ, hbj]
    exact (a2.imp fun _ _ z => mono _ _ _ _ s2 z).snoc r2
  · rintro zs σ' H' ⟨s', _, a2, _⟩ p hp
    rw [← hb, List.take_length] at a2
    exact hd zs H' p s' a2 hp
theorem cut_some (xs : List V) (s : Nat) : cutV xs none (some (s : Int)) = xs.take (min s xs.length) := by
  unfold cutV
  rw [HT.sIx_none, HT.sIx_nat, List.drop_zero, Nat.sub_zero]
end L2
set_option Elab.async false
set_option linter.all false
set_option maxRecDepth 100000
namespace L2
open PySem PySem.Spec PyProof.Rows PySem.NumText
section
variable {X : Cx}
end
section
variable {X : Cx} {e : Expr} {es : List Expr} {te : TE} {t : TA}
end
end L2
set_option Elab.async false
set_option linter.all false
set_option maxRecDepth 100000
namespace L2
open PySem PySem.Spec PyProof.Rows
open PySem.StrLaws (At ChainG partsFrom)
open PySem.Builtin.Str (occurrences subAt)
section
variable {X : Cx} {e a b : Expr} {es : List Expr} {te ta tb : TE} {t : TA} {pos : Pos}
end
end L2
set_option Elab.async false
set_option linter.all false
set_option maxRecDepth 100000
namespace L2
open PySem PySem.Spec PyProof.Rows
section
variable {X : Cx} {elts : List Expr} {x1 : Nat} {tpos : Pos}
end
end L2
set_option Elab.async false
set_option linter.all false
set_option maxRecDepth 100000
namespace L2
open PySem PySem.Spec PyProof.Rows
theorem sort_count (l : List Int) (x : Int) : (sortD l).count x = l.count x := (sortD_perm l).count_eq x
theorem getD_map_nil {α : Type} (f : α → List Int) (rows : List α) (j : Nat) : (rows.map f).getD j [] = match rows[j]? with | some r => f r | none => [] := by
  rw [List.getD_eq_getElem?_getD, List.getElem?_map]
  cases rows[j]? <;> rfl
end L2
set_option Elab.async false
set_option linter.all false
set_option maxRecDepth 100000
namespace L2
open PySem PySem.Spec PyProof.Rows
section
variable {X : Cx} {scope1 scope : Scope} {N1 N : List Str} {C1 C : Addr} {s1 s : Shared} {H1 H : Hp} {ex1 ex : List Addr}
end
end L2
set_option Elab.async false
set_option linter.all false
set_option maxRecDepth 100000
namespace L2
open PySem PySem.Spec PyProof.Rows
end L2
set_option Elab.async false
set_option linter.all false
set_option maxRecDepth 100000
namespace L2
open PySem PySem.Spec PyProof.Rows
theorem cut_head (xs : List V) (s : Nat) : cutV xs none (some (s : Int)) = xs.take s := by
  rw [cut_some]
  rcases Nat.le_total s xs.length with h | h
  · rw [Nat.min_eq_left h]
  · rw [Nat.min_eq_right h, List.take_length, List.take_of_length_le h]
end L2
set_option Elab.async false
set_option linter.all false
set_option maxRecDepth 100000
namespace L2
open PySem PySem.Spec PyProof.Rows
def gallop' : Bool → Keyed → Array Keyed → Nat → Nat → Nat → StateT SortSt Sem (Option Nat) := sortPriv% PySem.Builtin.gallop
def kn (p : Keyed) : Int := numOf p.1
def IntK (p : Keyed) : Prop := ∃ n t, p.1 = .int n t
section
variable {prog : Program} {w : World} {A : Around} {E : Value → Shared → Prop} {s : Shared}
theorem wpS_lt {st : SortSt} {x y : Keyed} {Q : Option Bool → SortSt → Prop} (hk : kindOf st = oneType') (hx : IntK x) (hy : IntK y) (h : Q (some (decide (kn x < kn y))) st) :
    wpS (model prog w) A E s (lt' x y) Q st := by
  obtain ⟨a, t, ha⟩ := hx
  obtain ⟨b, u, hb⟩ := hy
  have e1 : kn x = a := by unfold kn; rw [ha]; rfl
  have e2 : kn y = b := by unfold kn; rw [hb]; rfl
  rw [e1, e2] at h
  rw [lt'_eq]
  refine wpS_bind (wpS_get ?_)
  rw [hk, keyLt'_oneType, ha, hb]
  refine wpS_bind (wpS_lift (wpAny_attempt (oneLt_int ⟨rfl, ?_⟩)))
  exact wpS_pure h
theorem wpS_elem {st : SortSt} {arr : Array Keyed} {i : Nat} {p : Keyed} {Q : Keyed → SortSt → Prop} (hi : arr[i]? = some p) (h : Q p st) : wpS (model prog w) A E s (elem' arr i) Q st := by
  rw [elem'_eq, hi]
  exact wpS_pure h
def bey (left : Bool) (key : Keyed) (arr : Array Keyed) (base i : Nat) : Bool :=
  match arr[base + i]? with
  | some x => if left then decide (kn x < kn key) else decide (kn x ≤ kn key)
  | none => false
theorem bey_at {left : Bool} {key : Keyed} {arr : Array Keyed} {base i : Nat} {x : Keyed} (e : arr[base + i]? = some x) : bey left key arr base i = if left then decide (kn x < kn key) else decide (kn x ≤ kn key) := by
  unfold bey; rw [e]
theorem wpS_beyond {st : SortSt} {left : Bool} {key : Keyed} {arr : Array Keyed} {base i : Nat} {f : Option Bool → Option Bool} (hf : ∀ b, f (some b) = some (!b)) {Q : Option Bool → SortSt → Prop} (hk : kindOf st = oneType') (hy : IntK key)
    (ha : ∀ p ∈ arr.toList, IntK p) (hi : base + i < arr.size) (h : Q (some (bey left key arr base i)) st) :
    wpS (model prog w) A E s (elem' arr (base + i) >>= fun x => if left = true then lt' x key else lt' key x >>= fun r => pure (f r)) Q st := by
  have e : arr[base + i]? = some arr[base + i] := getElem?_pos arr (base + i) hi
  have hx : IntK arr[base + i] := ha _ (by simp)
  rw [bey_at e] at h
  refine wpS_bind (wpS_elem e ?_)
  cases left with
  | true =>
    rw [if_pos rfl] at h ⊢
    exact wpS_lt hk hx hy h
  | false =>
    rw [if_neg Bool.false_ne_true] at h ⊢
    refine wpS_bind (wpS_lt hk hy hx (wpS_pure ?_))
    have : f (some (decide (kn key < kn arr[base + i]))) = some (decide (kn arr[base + i] ≤ kn key)) := by
      rw [hf]
      congr 1
      by_cases z : kn key < kn arr[base + i]
      · rw [decide_eq_true z, decide_eq_false (by omega)]; rfl
      · rw [decide_eq_false z, decide_eq_true (by omega)]; rfl
    rw [this]
    exact h
theorem wpS_gallop {st : SortSt} {left : Bool} {key : Keyed} {arr : Array Keyed} {base n hint : Nat} {Q : Option Nat → SortSt → Prop} (hk : kindOf st = oneType') (hy : IntK key)
    (ha : ∀ p ∈ arr.toList, IntK p) (hn : base + n ≤ arr.size) (hh : hint < n) (mono : ∀ i j, i ≤ j → j < n → bey left key arr base j = true → bey left key arr base i = true)
    (h : ∀ k, k ≤ n → (∀ i, i < k → bey left key arr base i = true) → (∀ i, k ≤ i → i < n → bey left key arr base i = false) → Q (some k) st) :
    wpS (model prog w) A E s (gallop' left key arr base n hint) Q st := by
  have fin : ∀ (f : Nat → Option (Option Nat) × Nat × Nat → StateT SortSt Sem (ForInStep (Option (Option Nat) × Nat × Nat)))
      (hf : ∀ x lo hi (Q' : ForInStep (Option (Option Nat) × Nat × Nat) → SortSt → Prop), hi ≤ n → (lo ≥ hi → Q' (.done (none, lo, hi)) st) → (lo < hi → Q' (if bey left key arr base (lo + (hi - lo) / 2) = true then .yield (none, lo + (hi - lo) / 2 + 1, hi) else .yield (none, lo, lo + (hi - lo) / 2)) st) → wpS (model prog w) A E s (f x (none, lo, hi)) Q' st)
      lo hi, lo ≤ hi → hi ≤ n → (∀ i, i < lo → bey left key arr base i = true) → (∀ i, hi ≤ i → i < n → bey left key arr base i = false) →
      wpS (model prog w) A E s (forIn [0:n] ((none : Option (Option Nat)), lo, hi) f) (fun c st' => st' = st ∧ ∃ hi, c = (none, hi, hi) ∧ hi ≤ n ∧ (∀ i, i < hi → bey left key arr base i = true) ∧ (∀ i, hi ≤ i → i < n → bey left key arr base i = false)) st := by
    intro f hf lo hi h1 h2 h3 h4
    refine wpS_forRange (I := fun x c st' => st' = st ∧ ∃ lo hi, c = (none, lo, hi) ∧ lo ≤ hi ∧ hi ≤ n ∧ hi - lo ≤ n - x ∧ (∀ i, i < lo → bey left key arr base i = true) ∧ (∀ i, hi ≤ i → i < n → bey left key arr base i = false)) ?istep ?ifin ⟨rfl, lo, hi, rfl, h1, h2, by omega, h3, h4⟩
    case ifin =>
      rintro c st' ⟨rfl, lo, hi, rfl, a1, a2, a3, a4, a5⟩
      have : lo = hi := by omega
      subst this
      exact ⟨rfl, lo, rfl, a2, a4, a5⟩
    case istep =>
      rintro x c st' _ hx ⟨rfl, lo, hi, rfl, a1, a2, a3, a4, a5⟩
      refine hf x lo hi _ a2 (fun z => ?_) fun z => ?_
      · have : lo = hi := by omega
        subst this
        exact ⟨rfl, lo, rfl, a2, a4, a5⟩
      · cases hb : bey left key arr base (lo + (hi - lo) / 2) with
        | true =>
          rw [if_pos rfl]
          exact ⟨rfl, _, hi, rfl, by omega, a2, by omega, fun i hi' => mono i _ (by omega) (by omega) hb, a5⟩
        | false =>
          rw [if_neg Bool.false_ne_true]
          refine ⟨rfl, lo, _, rfl, by omega, by omega, by omega, a4, fun i h1 h2 => ?_⟩
          cases hb' : bey left key arr base i with
          | false => rfl
          | true => rw [mono _ i h1 h2 hb'] at hb; cases hb
  refine wpS_bind (wpS_beyond (fun _ => rfl) hk hy ha (by omega) ?_)
  dsimp only
  cases hb : bey left key arr base hint with
  | true =>
    rw [if_pos rfl]
    refine wpS_bind (wpS_mono (wpS_forRange (I := fun x c st' => st' = st ∧ ∃ lastofs ofs, c = (none, lastofs, ofs) ∧ lastofs < ofs ∧ x + 1 ≤ ofs ∧ hint + lastofs < n ∧ bey left key arr base (hint + lastofs) = true)
      (Q := fun c st' => st' = st ∧ ∃ lastofs ofs, c = (none, lastofs, ofs) ∧ lastofs < ofs ∧ hint + lastofs < n ∧ bey left key arr base (hint + lastofs) = true ∧ (hint + ofs < n → bey left key arr base (hint + ofs) = false)) ?istep ?ifin ⟨rfl, 0, 1, rfl, by omega, by omega, by omega, hb⟩) ?post)
    case ifin =>
      rintro c st' ⟨rfl, la, of, rfl, a1, a2, a3, a4⟩
      exact ⟨rfl, la, of, rfl, a1, a3, a4, fun z => by omega⟩
    case istep =>
      rintro x c st' _ hx ⟨rfl, la, of, rfl, a1, a2, a3, a4⟩
      dsimp only
      by_cases hge : of ≥ n - hint
      · rw [if_pos hge]
        exact wpS_pure ⟨rfl, la, of, rfl, a1, a3, a4, fun z => by omega⟩
      · rw [if_neg hge]
        refine wpS_bind (wpS_beyond (fun _ => rfl) hk hy ha (by omega) ?_)
        dsimp only
        cases hb' : bey left key arr base (hint + of) with
        | true =>
          exact wpS_pure ⟨rfl, of, 2 * of + 1, rfl, by omega, by omega, by omega, hb'⟩
        | false =>
          exact wpS_pure ⟨rfl, la, of, rfl, a1, a3, a4, fun _ => hb'⟩
    case post =>
      rintro c st' ⟨rfl, la, of, rfl, a1, a3, a4, a5⟩
      have nf : ∀ i, hint + min of (n - hint) ≤ i → i < n → bey left key arr base i = false := fun i h1 h2 => by
        have : of < n - hint := by omega
        cases hb' : bey left key arr base i with
        | false => rfl
        | true =>
          have := mono (hint + of) i (by omega) h2 hb'
          rw [a5 (by omega)] at this; cases this
      dsimp only
      refine wpS_bind (wpS_mono (fin _ (fun x lo hi Q' z1 z2 z3 => ?_) (hint + la + 1) (hint + min of (n - hint)) (by omega) (by omega) (fun i hi => mono i _ (by omega) a3 a4) nf) ?_)
      · dsimp only
        by_cases hge : lo ≥ hi
        · rw [if_pos hge]; exact wpS_pure (z2 hge)
        · rw [if_neg hge]
          refine wpS_bind (wpS_beyond (fun _ => rfl) hk hy ha (by omega) ?_)
          have z3 := z3 (by omega)
          dsimp only
          cases hb' : bey left key arr base (lo + (hi - lo) / 2) with
          | true => rw [hb', if_pos rfl] at z3; exact wpS_pure z3
          | false => rw [hb', if_neg Bool.false_ne_true] at z3; exact wpS_pure z3
      · rintro c st'' ⟨rfl, hi, rfl, b2, b4, b5⟩
        exact wpS_pure (h hi b2 b4 b5)
  | false =>
    rw [if_neg Bool.false_ne_true]
    refine wpS_bind (wpS_mono (wpS_forRange (I := fun x c st' => st' = st ∧ ∃ lastofs ofs, c = (none, lastofs, ofs) ∧ lastofs < ofs ∧ x + 1 ≤ ofs ∧ lastofs ≤ hint ∧ bey left key arr base (hint - lastofs) = false)
      (Q := fun c st' => st' = st ∧ ∃ lastofs ofs, c = (none, lastofs, ofs) ∧ lastofs < ofs ∧ lastofs ≤ hint ∧ bey left key arr base (hint - lastofs) = false ∧ (ofs ≤ hint → bey left key arr base (hint - ofs) = true)) ?istep ?ifin ⟨rfl, 0, 1, rfl, by omega, by omega, by omega, hb⟩) ?post)
    case ifin =>
      rintro c st' ⟨rfl, la, of, rfl, a1, a2, a3, a4⟩
      exact ⟨rfl, la, of, rfl, a1, a3, a4, fun z => by omega⟩
    case istep =>
      rintro x c st' _ hx ⟨rfl, la, of, rfl, a1, a2, a3, a4⟩
      dsimp only
      by_cases hge : of ≥ hint + 1
      · rw [if_pos hge]
        exact wpS_pure ⟨rfl, la, of, rfl, a1, a3, a4, fun z => by omega⟩
      · rw [if_neg hge]
        refine wpS_bind (wpS_beyond (fun _ => rfl) hk hy ha (by omega) ?_)
        dsimp only
        cases hb' : bey left key arr base (hint - of) with
        | true =>
          exact wpS_pure ⟨rfl, la, of, rfl, a1, a3, a4, fun _ => hb'⟩
        | false =>
          exact wpS_pure ⟨rfl, of, 2 * of + 1, rfl, by omega, by omega, by omega, hb'⟩
    case post =>
      rintro c st' ⟨rfl, la, of, rfl, a1, a3, a4, a5⟩
      have nf : ∀ i, hint - la ≤ i → i < n → bey left key arr base i = false := fun i h1 h2 => by
        cases hb' : bey left key arr base i with
        | false => rfl
        | true =>
          have := mono (hint - la) i h1 h2 hb'
          rw [a4] at this; cases this
      dsimp only
      refine wpS_bind (wpS_mono (fin _ (fun x lo hi Q' z1 z2 z3 => ?_) (hint + 1 - min of (hint + 1)) (hint - la) (by omega) (by omega) (fun i hi => mono i (hint - of) (by omega) (by omega) (a5 (by omega))) nf) ?_)
      · dsimp only
        by_cases hge : lo ≥ hi
        · rw [if_pos hge]; exact wpS_pure (z2 hge)
        · rw [if_neg hge]
          refine wpS_bind (wpS_beyond (fun _ => rfl) hk hy ha (by omega) ?_)
          have z3 := z3 (by omega)
          dsimp only
          cases hb' : bey left key arr base (lo + (hi - lo) / 2) with
          | true => rw [hb', if_pos rfl] at z3; exact wpS_pure z3
          | false => rw [hb', if_neg Bool.false_ne_true] at z3; exact wpS_pure z3
      · rintro c st'' ⟨rfl, hi, rfl, b2, b4, b5⟩
        exact wpS_pure (h hi b2 b4 b5)
end
end L2
set_option Elab.async false
set_option linter.all false
set_option maxRecDepth 100000
namespace L2
open PySem PySem.Spec PyProof.Rows
structure Mg (R : Keyed → Keyed → Prop) (a b out : List Keyed) (ia ib : Nat) : Prop where
  perm : out.Perm (a.take ia ++ b.take ib)
  srt : out.Pairwise R
  ra : ∀ x ∈ out, ∀ y ∈ a.drop ia, R x y
  rb : ∀ x ∈ out, ∀ y ∈ b.drop ib, R x y
theorem Mg.swap {R : Keyed → Keyed → Prop} {a b out : List Keyed} {ia ib : Nat} (h : Mg R a b out ia ib) : Mg R b a out ib ia :=
  ⟨h.perm.trans List.perm_append_comm, h.srt, h.rb, h.ra⟩
theorem Mg.nil {R : Keyed → Keyed → Prop} {a b : List Keyed} : Mg R a b [] 0 0 := ⟨by simp, .nil, (fun _ h => by cases h), (fun _ h => by cases h)⟩
theorem drop_cons {a : List Keyed} {i : Nat} {x : Keyed} (e : a[i]? = some x) : a.drop i = x :: a.drop (i + 1) := by
  obtain ⟨hi, e'⟩ := List.getElem?_eq_some_iff.mp e
  rw [List.drop_eq_getElem_cons hi, e']
theorem Mg.pushA {R : Keyed → Keyed → Prop} {a b out : List Keyed} {ia ib : Nat} {x : Keyed} (h : Mg R a b out ia ib) (sa : a.Pairwise R) (e : a[ia]? = some x) (hx : ∀ y ∈ b.drop ib, R x y) :
    Mg R a b (out ++ [x]) (ia + 1) ib := by
  have hd := drop_cons e
  have hs : (a.drop ia).Pairwise R := sa.sublist (List.drop_sublist _ _)
  rw [hd, List.pairwise_cons] at hs
  refine ⟨?_, ?_, ?_, ?_⟩
  · obtain ⟨hi, e'⟩ := List.getElem?_eq_some_iff.mp e
    rw [List.take_succ_eq_append_getElem hi, e', List.append_assoc]
    refine (h.perm.append_right [x]).trans ?_
    rw [List.append_assoc]
    exact List.Perm.append_left _ List.perm_append_comm
  · rw [List.pairwise_append]
    refine ⟨h.srt, List.pairwise_singleton _ _, fun u hu v hv => ?_⟩
    rw [List.mem_singleton] at hv
    subst hv
    exact h.ra u hu _ (by rw [hd]; exact List.mem_cons_self)
  · intro u hu y hy
    rcases List.mem_append.mp hu with hu | hu
    · exact h.ra u hu y (by rw [hd]; exact List.mem_cons_of_mem _ hy)
    · rw [List.mem_singleton] at hu
      subst hu
      exact hs.1 y hy
  · intro u hu y hy
    rcases List.mem_append.mp hu with hu | hu
    · exact h.rb u hu y hy
    · rw [List.mem_singleton] at hu
      subst hu
      exact hx y hy
theorem Mg.pushB {R : Keyed → Keyed → Prop} {a b out : List Keyed} {ia ib : Nat} {x : Keyed} (h : Mg R a b out ia ib) (sb : b.Pairwise R) (e : b[ib]? = some x) (hx : ∀ y ∈ a.drop ia, R x y) :
    Mg R a b (out ++ [x]) ia (ib + 1) := (h.swap.pushA sb e hx).swap
theorem Mg.blockA {R : Keyed → Keyed → Prop} {a b : List Keyed} {ib : Nat} (sa : a.Pairwise R) : ∀ (k : Nat) {out : List Keyed} {ia : Nat}, Mg R a b out ia ib → ia + k ≤ a.length → (∀ i, ia ≤ i → i < ia + k → ∀ x, a[i]? = some x → ∀ y ∈ b.drop ib, R x y) →
    Mg R a b (out ++ (a.drop ia).take k) (ia + k) ib
  | 0, out, ia, h, _, _ => by simpa using h
  | k + 1, out, ia, h, hl, hx => by
    have e : a[ia]? = some a[ia] := List.getElem?_eq_getElem (by omega)
    rw [drop_cons e, List.take_succ_cons, show ia + (k + 1) = ia + 1 + k by omega]
    have h1 := Mg.blockA sa k (h.pushA sa e (hx ia (Nat.le_refl _) (by omega) _ e)) (by omega) (fun i h1 h2 => hx i (by omega) (by omega))
    rwa [List.append_assoc] at h1
theorem Mg.blockB {R : Keyed → Keyed → Prop} {a b : List Keyed} {ia : Nat} (sb : b.Pairwise R) (k : Nat) {out : List Keyed} {ib : Nat} (h : Mg R a b out ia ib) (hl : ib + k ≤ b.length) (hx : ∀ i, ib ≤ i → i < ib + k → ∀ x, b[i]? = some x → ∀ y ∈ a.drop ia, R x y) :
    Mg R a b (out ++ (b.drop ib).take k) ia (ib + k) := (Mg.blockA sb k h.swap hl hx).swap
def Mgd (R : Keyed → Keyed → Prop) (a b r : List Keyed) : Prop := r.Perm (a ++ b) ∧ r.Pairwise R
theorem Mg.done {R : Keyed → Keyed → Prop} {a b out : List Keyed} {ia ib : Nat} (h : Mg R a b out ia ib) (sa : a.Pairwise R) (sb : b.Pairwise R) (hx : ∀ x ∈ a.drop ia, ∀ y ∈ b.drop ib, R x y) :
    Mgd R a b (out ++ a.drop ia ++ b.drop ib) := by
  refine ⟨?_, ?_⟩
  · have h1 : (a ++ b) = (a.take ia ++ a.drop ia) ++ (b.take ib ++ b.drop ib) := by rw [List.take_append_drop, List.take_append_drop]
    rw [h1]
    refine ((h.perm.append_right _).append_right _).trans ?_
    rw [List.append_assoc, List.append_assoc, List.append_assoc]
    refine List.Perm.append_left _ ?_
    rw [← List.append_assoc, ← List.append_assoc]
    exact List.perm_append_comm.append_right _
  · rw [List.pairwise_append, List.pairwise_append]
    refine ⟨⟨h.srt, sa.sublist (List.drop_sublist _ _), h.ra⟩, sb.sublist (List.drop_sublist _ _), fun u hu y hy => ?_⟩
    rcases List.mem_append.mp hu with hu | hu
    · exact h.rb u hu y hy
    · exact hx u hu y hy
theorem Mgd.comm {R : Keyed → Keyed → Prop} {a b r : List Keyed} (h : Mgd R a b r) : Mgd R b a r := ⟨h.1.trans List.perm_append_comm, h.2⟩
def mergeLo' : Array Keyed → Array Keyed → StateT SortSt Sem (Array Keyed) := sortPriv% PySem.Builtin.mergeLo
def mergeHi' : Array Keyed → Array Keyed → StateT SortSt Sem (Array Keyed) := sortPriv% PySem.Builtin.mergeHi
abbrev setGal (st : SortSt) (g : Nat) : SortSt := SortSt.mk' (kindOf st) (arrOf st) (pendingOf st) g (failedOf st)
def Le (x y : Keyed) : Prop := kn x ≤ kn y
structure SameS (st st' : SortSt) : Prop where
  kind : kindOf st' = kindOf st
  arr : arrOf st' = arrOf st
  pend : pendingOf st' = pendingOf st
  failed : failedOf st' = failedOf st
theorem SameS.refl (st : SortSt) : SameS st st := ⟨rfl, rfl, rfl, rfl⟩
theorem SameS.gal {st st' : SortSt} (h : SameS st st') (g : Nat) : SameS st (setGal st' g) := ⟨h.kind, h.arr, h.pend, h.failed⟩
theorem ext_end (a : Array Keyed) (i : Nat) : (a.extract i a.size).toList = a.toList.drop i := by
  rw [Array.toList_extract, List.extract_eq_take_drop, List.take_of_length_le (by simp)]
theorem ext_mid (a : Array Keyed) (i k : Nat) : (a.extract i (i + k)).toList = (a.toList.drop i).take k := by
  rw [Array.toList_extract, List.extract_eq_take_drop]
  congr 1; omega
theorem le_drop {a : List Keyed} (sa : a.Pairwise Le) {i : Nat} {x z : Keyed} (e : a[i]? = some z) (hz : Le x z) : ∀ y ∈ a.drop i, Le x y := fun y hy => by
  have hs : (a.drop i).Pairwise Le := sa.sublist (List.drop_sublist _ _)
  rw [drop_cons e] at hs hy
  rw [List.pairwise_cons] at hs
  rcases List.mem_cons.mp hy with rfl | hy
  · exact hz
  · have := hs.1 y hy
    unfold Le at *; omega
theorem lo_done {a b out : Array Keyed} {ia ib : Nat} (sa : a.toList.Pairwise Le) (sb : b.toList.Pairwise Le) (m : Mg Le a.toList b.toList out.toList ia ib) (hz : ia = a.size ∨ ib = b.size) :
    Mgd Le a.toList b.toList (out ++ a.extract ia a.size ++ b.extract ib b.size).toList := by
  rw [Array.toList_append, Array.toList_append, ext_end, ext_end]
  refine m.done sa sb fun x hx y hy => ?_
  rcases hz with rfl | rfl
  · rw [List.drop_of_length_le (by simp)] at hx; cases hx
  · rw [List.drop_of_length_le (by simp)] at hy; cases hy
theorem lo_last {a b out : Array Keyed} {ia ib : Nat} (sa : a.toList.Pairwise Le) (sb : b.toList.Pairwise Le) (m : Mg Le a.toList b.toList out.toList ia ib) (hz : ia + 1 = a.size)
    (h2 : ∀ x, a[a.size - 1]? = some x → ∀ y ∈ b.toList, Le y x) : Mgd Le a.toList b.toList (out ++ b.extract ib b.size ++ a.extract ia a.size).toList := by
  rw [Array.toList_append, Array.toList_append, ext_end, ext_end]
  refine (m.swap.done sb sa fun x hx y hy => ?_).comm
  have e : a.toList[ia]? = some (a[ia]'(by omega)) := by rw [Array.getElem?_toList]; exact getElem?_pos a ia (by omega)
  rw [drop_cons e, List.drop_of_length_le (by simp; omega)] at hy
  rw [List.mem_singleton] at hy
  subst hy
  refine h2 _ ?_ x (List.mem_of_mem_drop hx)
  rw [show a.size - 1 = ia by omega]
  exact getElem?_pos a ia (by omega)
structure LoI (a b : Array Keyed) (st0 st : SortSt) (n : Nat) (out : Array Keyed) (ia ib : Nat) : Prop where
  same : SameS st0 st
  mg : Mg Le a.toList b.toList out.toList ia ib
  la : ia + 1 < a.size
  lb : ib < b.size
  far : n ≤ ia + ib
theorem bey_mono {left : Bool} {key : Keyed} {arr : Array Keyed} {base n : Nat} (hn : base + n ≤ arr.size) (hs : arr.toList.Pairwise Le) : ∀ i j, i ≤ j → j < n → bey left key arr base j = true → bey left key arr base i = true := by
  intro i j hij hj hb
  by_cases e : i = j
  · subst e; exact hb
  have e1 : arr[base + i]? = some (arr[base + i]'(by omega)) := getElem?_pos arr (base + i) (by omega)
  have e2 : arr[base + j]? = some (arr[base + j]'(by omega)) := getElem?_pos arr (base + j) (by omega)
  have hl : Le (arr[base + i]'(by omega)) (arr[base + j]'(by omega)) := by
    have := List.pairwise_iff_getElem.mp hs (base + i) (base + j) (by simp; omega) (by simp; omega) (by omega)
    simpa using this
  rw [bey_at e2] at hb
  rw [bey_at e1]
  unfold Le at hl
  cases left <;> simp at hb ⊢ <;> omega
theorem bey_true {left : Bool} {key : Keyed} {arr : Array Keyed} {base i : Nat} (h : bey left key arr base i = true) {x : Keyed} (e : arr[base + i]? = some x) : Le x key := by
  rw [bey_at e] at h
  unfold Le
  cases left <;> simp at h <;> omega
theorem bey_false {left : Bool} {key : Keyed} {arr : Array Keyed} {base i : Nat} (h : bey left key arr base i = false) {x : Keyed} (e : arr[base + i]? = some x) : Le key x := by
  rw [bey_at e] at h
  unfold Le
  cases left <;> simp at h <;> omega
section
variable {prog : Program} {w : World} {A : Around} {E : Value → Shared → Prop} {s : Shared}
theorem wpS_mergeLo {st : SortSt} {a b : Array Keyed} {Q : Array Keyed → SortSt → Prop} (hk : kindOf st = oneType') (ka : ∀ p ∈ a.toList, IntK p) (kb : ∀ p ∈ b.toList, IntK p)
    (sa : a.toList.Pairwise Le) (sb : b.toList.Pairwise Le) (za : 1 ≤ a.size) (zb : 1 ≤ b.size) (h1 : ∀ x, b[0]? = some x → ∀ y ∈ a.toList, Le x y) (h2 : ∀ x, a[a.size - 1]? = some x → ∀ y ∈ b.toList, Le y x)
    (h : ∀ r st', Mgd Le a.toList b.toList r.toList → SameS st st' → Q r st') : wpS (model prog w) A E s (mergeLo' a b) Q st := by
  have ga : ∀ i (z : i < a.size), a[i]? = some a[i] ∧ a.toList[i]? = some a[i] ∧ IntK a[i] := fun i z => ⟨getElem?_pos a i z, by rw [Array.getElem?_toList]; exact getElem?_pos a i z, ka _ (by simp)⟩
  have gb : ∀ i (z : i < b.size), b[i]? = some b[i] ∧ b.toList[i]? = some b[i] ∧ IntK b[i] := fun i z => ⟨getElem?_pos b i z, by rw [Array.getElem?_toList]; exact getElem?_pos b i z, kb _ (by simp)⟩
  refine wpS_bind (wpS_lift (wpAny_rule ⟨rfl, ?_⟩))
  refine wpS_bind (wpS_elem (gb 0 (by omega)).1 ?_)
  dsimp only
  have m0 : Mg Le a.toList b.toList #[b[0]].toList 0 1 := Mg.nil.pushB sb (gb 0 (by omega)).2.1 (fun y hy => h1 _ (gb 0 (by omega)).1 y (List.mem_of_mem_drop hy))
  by_cases c1 : 1 = b.size
  · rw [if_pos (beq_iff_eq.mpr c1)]
    exact wpS_pure (h _ _ (lo_done sa sb m0 (.inr c1)) (.refl _))
  rw [if_neg (fun z => c1 (beq_iff_eq.mp z))]
  by_cases c2 : 0 + 1 = a.size
  · rw [if_pos (beq_iff_eq.mpr c2)]
    exact wpS_pure (h _ _ (lo_last sa sb m0 c2 h2) (.refl _))
  rw [if_neg (fun z => c2 (beq_iff_eq.mp z))]
  refine wpS_bind (wpS_get ?_)
  refine wpS_bind (wpS_mono (wpS_forRange (I := fun x c st' => ∃ out ia ib g, c = (none, out, ia, ib, g) ∧ LoI a b st st' x out ia ib)
    (Q := fun c st' => ∃ r u, c = (some r, u) ∧ Mgd Le a.toList b.toList r.toList ∧ SameS st st') ?step ?fin ⟨_, _, _, _, rfl, .refl _, m0, by omega, by omega, by omega⟩) ?post)
  case post =>
    rintro c st' ⟨r, u, rfl, hr, hs⟩
    exact wpS_pure (h r st' hr hs)
  case fin =>
    rintro c st' ⟨out, ia, ib, g, rfl, L⟩
    have := L.la; have := L.lb; have := L.far
    omega
  case step =>
    rintro x c st' _ hx ⟨out, ia, ib, g, rfl, L⟩
    dsimp only
    refine wpS_bind (wpS_mono (wpS_forRange (I := fun y c st' => ∃ out ia ib ac bc, c = (none, out, ia, ib, ac, bc) ∧ LoI a b st st' (x + y) out ia ib)
      (Q := fun c st' => (∃ out ia ib ac bc, c = (none, out, ia, ib, ac, bc) ∧ LoI a b st st' (x + 1) out ia ib) ∨ (∃ r u, c = (some r, u) ∧ Mgd Le a.toList b.toList r.toList ∧ SameS st st')) ?istep ?ifin ⟨_, _, _, _, _, rfl, L⟩) ?ipost)
    case ifin =>
      rintro c st' ⟨out, ia, ib, ac, bc, rfl, L⟩
      have := L.la; have := L.lb; have := L.far
      omega
    case istep =>
      rintro y c st' _ hy ⟨out, ia, ib, ac, bc, rfl, L⟩
      have la := L.la; have lb := L.lb; have far := L.far
      have za0 : ia < a.size := Nat.lt_of_succ_lt la
      dsimp only
      refine wpS_bind (wpS_elem (gb ib lb).1 (wpS_bind (wpS_elem (ga ia za0).1 (wpS_bind (wpS_lt (L.same.kind.trans hk) (gb ib lb).2.2 (ga ia za0).2.2 ?_)))))
      dsimp only
      by_cases hw : kn b[ib] < kn (a[ia]'za0)
      · rw [if_pos (decide_eq_true hw)]
        refine wpS_bind (wpS_elem (gb ib lb).1 ?_)
        have m1 : Mg Le a.toList b.toList (out.push b[ib]).toList ia (ib + 1) := by
          rw [Array.toList_push]
          exact L.mg.pushB sb (gb ib lb).2.1 (le_drop sa (ga ia za0).2.1 (Int.le_of_lt hw))
        by_cases c1 : ib + 1 = b.size
        · rw [if_pos (beq_iff_eq.mpr c1)]
          exact wpS_pure (.inr ⟨_, _, rfl, lo_done sa sb m1 (.inr c1), L.same⟩)
        rw [if_neg (fun z => c1 (beq_iff_eq.mp z))]
        have o1 : ib + 1 < b.size := Nat.lt_of_le_of_ne lb c1
        split
        · exact wpS_pure (.inl ⟨_, _, _, _, _, rfl, L.same, m1, la, o1, by omega⟩)
        · exact wpS_pure ⟨_, _, _, _, _, rfl, L.same, m1, la, o1, by omega⟩
      · rw [if_neg (fun z => hw (of_decide_eq_true z))]
        refine wpS_bind (wpS_elem (ga ia za0).1 ?_)
        have m1 : Mg Le a.toList b.toList (out.push (a[ia]'za0)).toList (ia + 1) ib := by
          rw [Array.toList_push]
          exact L.mg.pushA sa (ga ia za0).2.1 (le_drop sb (gb ib lb).2.1 (Int.not_lt.mp hw))
        by_cases c1 : ia + 1 + 1 = a.size
        · rw [if_pos (beq_iff_eq.mpr c1)]
          exact wpS_pure (.inr ⟨_, _, rfl, lo_last sa sb m1 c1 h2, L.same⟩)
        rw [if_neg (fun z => c1 (beq_iff_eq.mp z))]
        have o1 : ia + 1 + 1 < a.size := Nat.lt_of_le_of_ne la c1
        split
        · exact wpS_pure (.inl ⟨_, _, _, _, _, rfl, L.same, m1, o1, lb, by omega⟩)
        · exact wpS_pure ⟨_, _, _, _, _, rfl, L.same, m1, o1, lb, by omega⟩
    case ipost =>
      rintro c st1 (⟨out, ia, ib, ac, bc, rfl, L⟩ | ⟨r, u, rfl, hr, hs⟩)
      case inr => exact wpS_pure ⟨_, _, rfl, hr, hs⟩
      dsimp only
      refine wpS_bind (wpS_lift (wpAny_rule ⟨rfl, ?_⟩))
      refine wpS_bind (wpS_mono (wpS_forRange (I := fun y c st' => ∃ out ia ib g ac bc, c = (none, out, ia, ib, g, ac, bc) ∧ LoI a b st st' (x + 1 + y) out ia ib)
        (Q := fun c st' => (∃ out ia ib g ac bc, c = (none, out, ia, ib, g, ac, bc) ∧ LoI a b st st' (x + 1) out ia ib) ∨ (∃ r u, c = (some r, u) ∧ Mgd Le a.toList b.toList r.toList ∧ SameS st st')) ?jstep ?jfin ⟨_, _, _, _, _, _, rfl, L⟩) ?jpost)
      case jfin =>
        rintro c st' ⟨out, ia, ib, g, ac, bc, rfl, L⟩
        have := L.la; have := L.lb; have := L.far
        omega
      case jpost =>
        rintro c st1 (⟨out, ia, ib, g, ac, bc, rfl, L⟩ | ⟨r, u, rfl, hr, hs⟩)
        · dsimp only
          refine wpS_bind (wpS_modify ?_)
          exact wpS_pure ⟨_, _, _, _, rfl, L.same.gal _, L.mg, L.la, L.lb, L.far⟩
        · exact wpS_pure ⟨_, _, rfl, hr, hs⟩
      case jstep =>
        rintro y c st' _ hy ⟨out, ia, ib, g, ac, bc, rfl, L⟩
        have la := L.la; have lb := L.lb; have far := L.far
        dsimp only
        refine (fun (J1 : ∀ g2 : Nat, (?B1 : Nat → Prop) g2) => ?main1) ?pf1
        case main1 =>
          by_cases hg : g > 1
          · rw [if_pos hg]
            generalize g - 1 = g2
            exact J1 g2
          · rw [if_neg hg]
            exact J1 g
        intro g2
        refine wpS_bind (wpS_modify ?_)
        have la0 : ia < a.size := by omega
        refine wpS_bind (wpS_elem (gb ib lb).1 (wpS_bind (wpS_gallop (L.same.kind.trans hk) (gb ib lb).2.2 ka (by omega) (by omega) (bey_mono (by omega) sa) fun k lk b1 b2 => ?_)))
        have S2 := L.same.gal g2
        dsimp only
        refine (fun (J2 : ∀ (out1 : Array Keyed) (ia1 : Nat), Mg Le a.toList b.toList out1.toList ia1 ib → ia1 + 1 < a.size → (∀ z, a[ia1]? = some z → Le b[ib] z) → x + 1 + y ≤ ia1 + ib → (?B2 : Array Keyed → Nat → Prop) out1 ia1) => ?main2) ?pf2
        case main2 =>
          have m1 : Mg Le a.toList b.toList (out ++ a.extract ia (ia + k)).toList (ia + k) ib := by
            rw [Array.toList_append, ext_mid]
            refine Mg.blockA sa k L.mg (by simp; omega) fun i i1 i2 z ez => le_drop sb (gb ib lb).2.1 ?_
            refine bey_true (b1 (i - ia) (by omega)) ?_
            rw [show ia + (i - ia) = i by omega, ← Array.getElem?_toList]
            exact ez
          have hb1 : ∀ z, a[ia + k]? = some z → Le b[ib] z := fun z ez => by
            by_cases hz : ia + k < a.size
            · exact bey_false (b2 k (Nat.le_refl _) (by omega)) ez
            · rw [getElem?_neg a (ia + k) hz] at ez; cases ez
          have far1 : x + 1 + y ≤ ia + k + ib := by omega
          by_cases hk0 : k > 0
          · rw [if_pos hk0]
            by_cases c1 : ia + k + 1 = a.size
            · rw [if_pos (beq_iff_eq.mpr c1)]
              exact wpS_pure (.inr ⟨_, _, rfl, lo_last sa sb m1 c1 h2, S2.kind, S2.arr, S2.pend, S2.failed⟩)
            rw [if_neg (fun z => c1 (beq_iff_eq.mp z))]
            by_cases c2 : ia + k = a.size
            · rw [if_pos (beq_iff_eq.mpr c2)]
              exact wpS_pure (.inr ⟨_, _, rfl, lo_done sa sb m1 (.inl c2), S2.kind, S2.arr, S2.pend, S2.failed⟩)
            rw [if_neg (fun z => c2 (beq_iff_eq.mp z))]
            have la1 : ia + k + 1 < a.size := by omega
            generalize ho : out ++ a.extract ia (ia + k) = out1 at m1 ⊢
            generalize hi : ia + k = ia1 at m1 la1 hb1 far1 ⊢
            exact J2 out1 ia1 m1 la1 hb1 far1
          · rw [if_neg hk0]
            have ek : k = 0 := by omega
            rw [ek, show out ++ a.extract ia (ia + 0) = out by simp; exact Nat.min_le_left _ _] at m1
            rw [ek] at hb1 far1
            exact J2 out ia m1 la hb1 far1
        intro out1 ia1 m1 la1 hb1 far1
        clear far b1 b2 lk
        have za1 : ia1 < a.size := Nat.lt_of_succ_lt la1
        refine wpS_bind (wpS_elem (gb ib lb).1 ?_)
        have m2 : Mg Le a.toList b.toList (out1.push b[ib]).toList ia1 (ib + 1) := by
          rw [Array.toList_push]
          exact m1.pushB sb (gb ib lb).2.1 (le_drop sa (ga ia1 za1).2.1 (hb1 _ (ga ia1 za1).1))
        by_cases c3 : ib + 1 = b.size
        · rw [if_pos (beq_iff_eq.mpr c3)]
          exact wpS_pure (.inr ⟨_, _, rfl, lo_done sa sb m2 (.inr c3), S2.kind, S2.arr, S2.pend, S2.failed⟩)
        rw [if_neg (fun z => c3 (beq_iff_eq.mp z))]
        refine wpS_bind (wpS_elem (ga ia1 za1).1 (wpS_bind (wpS_gallop (L.same.kind.trans hk) (ga ia1 za1).2.2 kb (by omega) (by omega) (bey_mono (by omega) sb) fun k2 lk2 d1 d2 => ?_)))
        generalize hp : out1.push b[ib] = outp at m2 ⊢
        dsimp only
        refine (fun (J3 : ∀ (out2 : Array Keyed) (ib1 : Nat), Mg Le a.toList b.toList out2.toList ia1 ib1 → ib1 < b.size → (∀ z, b[ib1]? = some z → Le (a[ia1]'za1) z) → x + 1 + y ≤ ia1 + ib1 → (?B3 : Array Keyed → Nat → Prop) out2 ib1) => ?main3) ?pf3
        case main3 =>
          have m3 : Mg Le a.toList b.toList (outp ++ b.extract (ib + 1) (ib + 1 + k2)).toList ia1 (ib + 1 + k2) := by
            rw [Array.toList_append, ext_mid]
            refine Mg.blockB sb k2 m2 (by simp; omega) fun i i1 i2 z ez => le_drop sa (ga ia1 za1).2.1 ?_
            refine bey_true (d1 (i - (ib + 1)) (by omega)) ?_
            rw [show ib + 1 + (i - (ib + 1)) = i by omega, ← Array.getElem?_toList]
            exact ez
          have hb2 : ∀ z, b[ib + 1 + k2]? = some z → Le (a[ia1]'za1) z := fun z ez => by
            by_cases hz : ib + 1 + k2 < b.size
            · exact bey_false (d2 k2 (Nat.le_refl _) (by omega)) ez
            · rw [getElem?_neg b (ib + 1 + k2) hz] at ez; cases ez
          have far2 : x + 1 + y ≤ ia1 + (ib + 1 + k2) := by omega
          by_cases hk1 : k2 > 0
          · rw [if_pos hk1]
            by_cases c1 : ib + 1 + k2 = b.size
            · rw [if_pos (beq_iff_eq.mpr c1)]
              exact wpS_pure (.inr ⟨_, _, rfl, lo_done sa sb m3 (.inr c1), S2.kind, S2.arr, S2.pend, S2.failed⟩)
            rw [if_neg (fun z => c1 (beq_iff_eq.mp z))]
            have lb1 : ib + 1 + k2 < b.size := by omega
            generalize ho2 : outp ++ b.extract (ib + 1) (ib + 1 + k2) = out2 at m3 ⊢
            generalize hi2 : ib + 1 + k2 = ib1 at m3 lb1 hb2 far2 ⊢
            exact J3 out2 ib1 m3 lb1 hb2 far2
          · rw [if_neg hk1]
            have ek : k2 = 0 := by omega
            rw [ek, show outp ++ b.extract (ib + 1) (ib + 1 + 0) = outp by simp; exact Nat.min_le_left _ _] at m3
            rw [ek] at hb2 far2
            exact J3 outp (ib + 1) m3 (by omega) hb2 far2
        intro out2 ib1 m3 lb1 hb2 far2
        refine wpS_bind (wpS_elem (ga ia1 za1).1 ?_)
        have m4 : Mg Le a.toList b.toList (out2.push (a[ia1]'za1)).toList (ia1 + 1) ib1 := by
          rw [Array.toList_push]
          exact m3.pushA sa (ga ia1 za1).2.1 (le_drop sb (gb ib1 lb1).2.1 (hb2 _ (gb ib1 lb1).1))
        by_cases c4 : ia1 + 1 + 1 = a.size
        · rw [if_pos (beq_iff_eq.mpr c4)]
          exact wpS_pure (.inr ⟨_, _, rfl, lo_last sa sb m4 c4 h2, S2.kind, S2.arr, S2.pend, S2.failed⟩)
        rw [if_neg (fun z => c4 (beq_iff_eq.mp z))]
        have o1 : ia1 + 1 + 1 < a.size := by omega
        split
        · exact wpS_pure (.inl ⟨_, _, _, _, _, _, rfl, ⟨S2.kind, S2.arr, S2.pend, S2.failed⟩, m4, o1, lb1, by omega⟩)
        · exact wpS_pure ⟨_, _, _, _, _, _, rfl, ⟨S2.kind, S2.arr, S2.pend, S2.failed⟩, m4, o1, lb1, by omega⟩
end
end L2
set_option Elab.async false
set_option linter.all false
set_option maxRecDepth 100000
namespace L2
open PySem PySem.Spec PyProof.Rows
def Ge (x y : Keyed) : Prop := kn y ≤ kn x
theorem ge_drop {a : List Keyed} (sa : a.Pairwise Ge) {i : Nat} {x z : Keyed} (e : a[i]? = some z) (hz : Ge x z) : ∀ y ∈ a.drop i, Ge x y := fun y hy => by
  have hs : (a.drop i).Pairwise Ge := sa.sublist (List.drop_sublist _ _)
  rw [drop_cons e] at hs hy
  rw [List.pairwise_cons] at hs
  rcases List.mem_cons.mp hy with rfl | hy
  · exact hz
  · have := hs.1 y hy
    unfold Ge at *; omega
theorem rev_srt {a : List Keyed} (s : a.Pairwise Le) : a.reverse.Pairwise Ge := by
  rw [List.pairwise_reverse]; exact s
theorem rvs_at {a : Array Keyed} {n : Nat} (h1 : 1 ≤ n) (h2 : n ≤ a.size) : a.toList.reverse[a.size - n]? = some (a[n - 1]'(by omega)) := by
  rw [List.getElem?_reverse (by simp; omega), Array.getElem?_toList, Array.length_toList, show a.size - 1 - (a.size - n) = n - 1 by omega]
  exact getElem?_pos a (n - 1) (by omega)
theorem rev_drop {a : Array Keyed} {n : Nat} (h2 : n ≤ a.size) : a.toList.reverse.drop (a.size - n) = (a.toList.take n).reverse := by
  rw [List.drop_reverse, Array.length_toList, show a.size - (a.size - n) = n by omega]
theorem ext_start (a : Array Keyed) (n : Nat) : (a.extract 0 n).toList = a.toList.take n := by
  rw [Array.toList_extract, List.extract_eq_take_drop]; simp
theorem ext_rev {a : Array Keyed} {k n : Nat} (h1 : k ≤ n) (h2 : n ≤ a.size) : (a.extract k n).reverse.toList = (a.toList.reverse.drop (a.size - n)).take (n - k) := by
  rw [rev_drop h2, Array.toList_reverse, Array.toList_extract, List.extract_eq_take_drop, List.take_reverse]
  congr 1
  rw [List.length_take, Array.length_toList, show min n a.size - (n - k) = k by omega, List.drop_take]
theorem Mgd.rev {a b r : List Keyed} (h : Mgd Ge a.reverse b.reverse r) : Mgd Le a b r.reverse := by
  refine ⟨(List.reverse_perm r).trans (h.1.trans ?_), ?_⟩
  · exact (List.reverse_perm a).append (List.reverse_perm b)
  · rw [List.pairwise_reverse]; exact h.2
theorem hi_done {a b out : Array Keyed} {na nb : Nat} (sa : a.toList.Pairwise Le) (sb : b.toList.Pairwise Le) (la : na ≤ a.size) (lb : nb ≤ b.size) (m : Mg Ge a.toList.reverse b.toList.reverse out.toList (a.size - na) (b.size - nb)) (hz : na = 0 ∨ nb = 0) :
    Mgd Le a.toList b.toList (a.extract 0 na ++ b.extract 0 nb ++ out.reverse).toList := by
  have := (m.swap.done (rev_srt sb) (rev_srt sa) (fun x hx y hy => by
    rw [rev_drop lb] at hx
    rw [rev_drop la] at hy
    rcases hz with rfl | rfl
    · cases hy
    · cases hx)).comm.rev
  rw [rev_drop la, rev_drop lb, List.reverse_append, List.reverse_append, List.reverse_reverse, List.reverse_reverse, ← List.append_assoc] at this
  rw [Array.toList_append, Array.toList_append, ext_start, ext_start, Array.toList_reverse]
  exact this
theorem hi_first {a b out : Array Keyed} {na nb : Nat} (sa : a.toList.Pairwise Le) (sb : b.toList.Pairwise Le) (la : na ≤ a.size) (lb : nb ≤ b.size) (m : Mg Ge a.toList.reverse b.toList.reverse out.toList (a.size - na) (b.size - nb)) (hz : nb = 1)
    (h1 : ∀ x, b[0]? = some x → ∀ y ∈ a.toList, Le x y) : Mgd Le a.toList b.toList (b.extract 0 nb ++ a.extract 0 na ++ out.reverse).toList := by
  have := (m.done (rev_srt sa) (rev_srt sb) (fun x hx y hy => by
    rw [rev_drop la, List.mem_reverse] at hx
    rw [rev_drop lb, List.mem_reverse] at hy
    subst hz
    have e : b.toList.take 1 = [b[0]'(by omega)] := by
      have e0 : b.toList[0]? = some (b[0]'(by omega)) := by rw [Array.getElem?_toList]; exact getElem?_pos b 0 (by omega)
      have e1 := drop_cons e0
      rw [List.drop_zero] at e1
      rw [e1]; rfl
    rw [e, List.mem_singleton] at hy
    subst hy
    exact h1 _ (getElem?_pos b 0 (by omega)) x (List.mem_of_mem_take hx))).rev
  rw [rev_drop la, rev_drop lb, List.reverse_append, List.reverse_append, List.reverse_reverse, List.reverse_reverse, ← List.append_assoc] at this
  rw [Array.toList_append, Array.toList_append, ext_start, ext_start, Array.toList_reverse]
  exact this
structure HiI (a b : Array Keyed) (st0 st : SortSt) (n : Nat) (na nb : Nat) (out : Array Keyed) : Prop where
  same : SameS st0 st
  mg : Mg Ge a.toList.reverse b.toList.reverse out.toList (a.size - na) (b.size - nb)
  la : na ≤ a.size
  lb : nb ≤ b.size
  pa : 1 ≤ na
  pb : 2 ≤ nb
  far : n + na + nb ≤ a.size + b.size
section
variable {prog : Program} {w : World} {A : Around} {E : Value → Shared → Prop} {s : Shared}
theorem wpS_mergeHi {st : SortSt} {a b : Array Keyed} {Q : Array Keyed → SortSt → Prop} (hk : kindOf st = oneType') (ka : ∀ p ∈ a.toList, IntK p) (kb : ∀ p ∈ b.toList, IntK p)
    (sa : a.toList.Pairwise Le) (sb : b.toList.Pairwise Le) (za : 1 ≤ a.size) (zb : 1 ≤ b.size) (h1 : ∀ x, b[0]? = some x → ∀ y ∈ a.toList, Le x y) (h2 : ∀ x, a[a.size - 1]? = some x → ∀ y ∈ b.toList, Le y x)
    (h : ∀ r st', Mgd Le a.toList b.toList r.toList → SameS st st' → Q r st') : wpS (model prog w) A E s (mergeHi' a b) Q st := by
  have ga : ∀ i (z : i < a.size), a[i]? = some a[i] ∧ IntK a[i] := fun i z => ⟨getElem?_pos a i z, ka _ (by simp)⟩
  have gb : ∀ i (z : i < b.size), b[i]? = some b[i] ∧ IntK b[i] := fun i z => ⟨getElem?_pos b i z, kb _ (by simp)⟩
  have sra := rev_srt sa
  have srb := rev_srt sb
  refine wpS_bind (wpS_lift (wpAny_rule ⟨rfl, ?_⟩))
  refine wpS_bind (wpS_elem (ga (a.size - 1) (by omega)).1 ?_)
  dsimp only
  have m0 : Mg Ge a.toList.reverse b.toList.reverse #[a[a.size - 1]'(by omega)].toList (a.size - (a.size - 1)) (b.size - b.size) := by
    have e : a.toList.reverse[0]? = some (a[a.size - 1]'(by omega)) := by
      have := rvs_at (a := a) (n := a.size) (by omega) (Nat.le_refl _)
      rwa [Nat.sub_self] at this
    have := (Mg.nil (b := b.toList.reverse)).pushA sra e (fun y hy => h2 _ (ga (a.size - 1) (by omega)).1 y (List.mem_reverse.mp (List.mem_of_mem_drop hy)))
    rw [show a.size - (a.size - 1) = 0 + 1 by omega, Nat.sub_self]
    exact this
  by_cases c1 : a.size - 1 = 0
  · rw [if_pos (beq_iff_eq.mpr c1)]
    exact wpS_pure (h _ _ (hi_done sa sb (by omega) (Nat.le_refl _) m0 (.inl c1)) (.refl _))
  rw [if_neg (fun z => c1 (beq_iff_eq.mp z))]
  by_cases c2 : b.size = 1
  · rw [if_pos (beq_iff_eq.mpr c2)]
    exact wpS_pure (h _ _ (hi_first sa sb (by omega) (Nat.le_refl _) m0 c2 h1) (.refl _))
  rw [if_neg (fun z => c2 (beq_iff_eq.mp z))]
  refine wpS_bind (wpS_get ?_)
  refine wpS_bind (wpS_mono (wpS_forRange (I := fun x c st' => ∃ na nb out g, c = (none, na, nb, out, g) ∧ HiI a b st st' x na nb out)
    (Q := fun c st' => ∃ r u, c = (some r, u) ∧ Mgd Le a.toList b.toList r.toList ∧ SameS st st') ?step ?fin ⟨_, _, _, _, rfl, .refl _, m0, by omega, by omega, by omega, by omega, by omega⟩) ?post)
  case post =>
    rintro c st' ⟨r, u, rfl, hr, hs⟩
    exact wpS_pure (h r st' hr hs)
  case fin =>
    rintro c st' ⟨na, nb, out, g, rfl, L⟩
    have := L.pa; have := L.far
    omega
  case step =>
    rintro x c st' _ hx ⟨na, nb, out, g, rfl, L⟩
    dsimp only
    refine wpS_bind (wpS_mono (wpS_forRange (I := fun y c st' => ∃ na nb out ac bc, c = (none, na, nb, out, ac, bc) ∧ HiI a b st st' (x + y) na nb out)
      (Q := fun c st' => (∃ na nb out ac bc, c = (none, na, nb, out, ac, bc) ∧ HiI a b st st' (x + 1) na nb out) ∨ (∃ r u, c = (some r, u) ∧ Mgd Le a.toList b.toList r.toList ∧ SameS st st')) ?istep ?ifin ⟨_, _, _, _, _, rfl, L⟩) ?ipost)
    case ifin =>
      rintro c st' ⟨na, nb, out, ac, bc, rfl, L⟩
      have := L.pa; have := L.far
      omega
    case istep =>
      rintro y c st' _ hy ⟨na, nb, out, ac, bc, rfl, L⟩
      have la := L.la; have lb := L.lb; have pa := L.pa; have pb := L.pb; have far := L.far
      have zb0 : nb - 1 < b.size := by omega
      have za0 : na - 1 < a.size := by omega
      have pb1 : 1 ≤ nb := Nat.le_of_succ_le pb
      dsimp only
      refine wpS_bind (wpS_elem (gb (nb - 1) zb0).1 (wpS_bind (wpS_elem (ga (na - 1) za0).1 (wpS_bind (wpS_lt (L.same.kind.trans hk) (gb (nb - 1) zb0).2 (ga (na - 1) za0).2 ?_)))))
      dsimp only
      by_cases hw : kn (b[nb - 1]'zb0) < kn (a[na - 1]'za0)
      · rw [if_pos (decide_eq_true hw)]
        refine wpS_bind (wpS_elem (ga (na - 1) za0).1 ?_)
        have m1 : Mg Ge a.toList.reverse b.toList.reverse (out.push (a[na - 1]'za0)).toList (a.size - (na - 1)) (b.size - nb) := by
          rw [Array.toList_push, show a.size - (na - 1) = a.size - na + 1 by omega]
          exact L.mg.pushA sra (rvs_at pa la) (ge_drop srb (rvs_at pb1 lb) (Int.le_of_lt hw))
        by_cases c1 : na - 1 = 0
        · rw [if_pos (beq_iff_eq.mpr c1)]
          exact wpS_pure (.inr ⟨_, _, rfl, hi_done sa sb (Nat.le_of_lt za0) lb m1 (.inl c1), L.same⟩)
        rw [if_neg (fun z => c1 (beq_iff_eq.mp z))]
        split
        · exact wpS_pure (.inl ⟨_, _, _, _, _, rfl, L.same, m1, Nat.le_of_lt za0, lb, Nat.one_le_iff_ne_zero.mpr c1, pb, by omega⟩)
        · exact wpS_pure ⟨_, _, _, _, _, rfl, L.same, m1, Nat.le_of_lt za0, lb, Nat.one_le_iff_ne_zero.mpr c1, pb, by omega⟩
      · rw [if_neg (fun z => hw (of_decide_eq_true z))]
        refine wpS_bind (wpS_elem (gb (nb - 1) zb0).1 ?_)
        have m1 : Mg Ge a.toList.reverse b.toList.reverse (out.push (b[nb - 1]'zb0)).toList (a.size - na) (b.size - (nb - 1)) := by
          rw [Array.toList_push, show b.size - (nb - 1) = b.size - nb + 1 by omega]
          exact L.mg.pushB srb (rvs_at pb1 lb) (ge_drop sra (rvs_at pa la) (Int.not_lt.mp hw))
        by_cases c1 : nb - 1 = 1
        · rw [if_pos (beq_iff_eq.mpr c1)]
          exact wpS_pure (.inr ⟨_, _, rfl, hi_first sa sb la (Nat.le_of_lt zb0) m1 c1 h1, L.same⟩)
        rw [if_neg (fun z => c1 (beq_iff_eq.mp z))]
        have o1 : 2 ≤ nb - 1 := by omega
        split
        · exact wpS_pure (.inl ⟨_, _, _, _, _, rfl, L.same, m1, la, Nat.le_of_lt zb0, pa, o1, by omega⟩)
        · exact wpS_pure ⟨_, _, _, _, _, rfl, L.same, m1, la, Nat.le_of_lt zb0, pa, o1, by omega⟩
    case ipost =>
      rintro c st1 (⟨na, nb, out, ac, bc, rfl, L⟩ | ⟨r, u, rfl, hr, hs⟩)
      case inr => exact wpS_pure ⟨_, _, rfl, hr, hs⟩
      dsimp only
      refine wpS_bind (wpS_lift (wpAny_rule ⟨rfl, ?_⟩))
      refine wpS_bind (wpS_mono (wpS_forRange (I := fun y c st' => ∃ na nb out g ac bc, c = (none, na, nb, out, g, ac, bc) ∧ HiI a b st st' (x + 1 + y) na nb out)
        (Q := fun c st' => (∃ na nb out g ac bc, c = (none, na, nb, out, g, ac, bc) ∧ HiI a b st st' (x + 1) na nb out) ∨ (∃ r u, c = (some r, u) ∧ Mgd Le a.toList b.toList r.toList ∧ SameS st st')) ?jstep ?jfin ⟨_, _, _, _, _, _, rfl, L⟩) ?jpost)
      case jfin =>
        rintro c st' ⟨na, nb, out, g, ac, bc, rfl, L⟩
        have := L.pa; have := L.far
        omega
      case jpost =>
        rintro c st1 (⟨na, nb, out, g, ac, bc, rfl, L⟩ | ⟨r, u, rfl, hr, hs⟩)
        · dsimp only
          refine wpS_bind (wpS_modify ?_)
          exact wpS_pure ⟨_, _, _, _, rfl, L.same.gal _, L.mg, L.la, L.lb, L.pa, L.pb, L.far⟩
        · exact wpS_pure ⟨_, _, rfl, hr, hs⟩
      case jstep =>
        rintro y c st' _ hy ⟨na, nb, out, g, ac, bc, rfl, L⟩
        have la := L.la; have lb := L.lb; have pa := L.pa; have pb := L.pb; have far := L.far
        dsimp only
        refine (fun (J1 : ∀ g2 : Nat, (?B1 : Nat → Prop) g2) => ?main1) ?pf1
        case main1 =>
          by_cases hg : g > 1
          · rw [if_pos hg]
            generalize g - 1 = g2
            exact J1 g2
          · rw [if_neg hg]
            exact J1 g
        intro g2
        refine wpS_bind (wpS_modify ?_)
        have zb0 : nb - 1 < b.size := by omega
        refine wpS_bind (wpS_elem (gb (nb - 1) zb0).1 (wpS_bind (wpS_gallop (L.same.kind.trans hk) (gb (nb - 1) zb0).2 ka (by omega) (by omega) (bey_mono (by omega) sa) fun k lk b1 b2 => ?_)))
        have S2 := L.same.gal g2
        dsimp only
        refine (fun (J2 : ∀ (out1 : Array Keyed) (na1 : Nat), Mg Ge a.toList.reverse b.toList.reverse out1.toList (a.size - na1) (b.size - nb) → (∀ z, 1 ≤ na1 → a[na1 - 1]? = some z → Ge (b[nb - 1]'zb0) z) → na1 ≤ na → ¬ na1 = 0 → (?B2 : Array Keyed → Nat → Prop) out1 na1) => ?main2) ?pf2
        case main2 =>
          have m1 : Mg Ge a.toList.reverse b.toList.reverse (out ++ (a.extract k na).reverse).toList (a.size - k) (b.size - nb) := by
            rw [Array.toList_append, ext_rev lk la, show a.size - k = a.size - na + (na - k) by omega]
            refine Mg.blockA sra (na - k) L.mg (by simp; omega) fun i i1 i2 z ez => ge_drop srb (rvs_at (Nat.le_of_succ_le pb) lb) ?_
            have e2 := rvs_at (a := a) (n := a.size - i) (by omega) (by omega)
            rw [show a.size - (a.size - i) = i by omega, ez] at e2
            have e3 := Option.some.inj e2
            subst e3
            refine bey_false (b2 (a.size - i - 1) (by omega) (by omega)) ?_
            rw [Nat.zero_add]
            exact (ga (a.size - i - 1) (by omega)).1
          have hb1 : ∀ z, 1 ≤ k → a[k - 1]? = some z → Ge (b[nb - 1]'zb0) z := fun z hz ez => by
            refine bey_true (b1 (k - 1) (by omega)) ?_
            rw [Nat.zero_add]; exact ez
          by_cases hk0 : na - k > 0
          · rw [if_pos hk0]
            by_cases c1 : k = 0
            · rw [if_pos (beq_iff_eq.mpr c1)]
              exact wpS_pure (.inr ⟨_, _, rfl, hi_done sa sb (Nat.le_trans lk la) lb m1 (.inl c1), S2.kind, S2.arr, S2.pend, S2.failed⟩)
            rw [if_neg (fun z => c1 (beq_iff_eq.mp z))]
            have hlt : k ≤ na := lk
            generalize hko : na - k = k0
            generalize ho : out ++ (a.extract k na).reverse = out1 at m1 ⊢
            generalize hi : k = na1 at m1 hb1 hlt c1 ⊢
            subst hko
            exact J2 out1 na1 m1 hb1 hlt c1
          · rw [if_neg hk0]
            have ek : k = na := by omega
            have ee : out ++ (a.extract na na).reverse = out := by simp; exact Nat.min_le_left _ _
            rw [ek, ee] at m1
            rw [ek] at hb1
            exact J2 out na m1 hb1 (Nat.le_refl _) (by omega)
        intro out1 na1 m1 hb1 hlt c1
        clear b1 b2 lk
        have la1 : na1 ≤ a.size := Nat.le_trans hlt la
        have pa1 : 1 ≤ na1 := Nat.one_le_iff_ne_zero.mpr c1
        have za1 : na1 - 1 < a.size := by omega
        refine wpS_bind (wpS_elem (gb (nb - 1) zb0).1 ?_)
        have m2 : Mg Ge a.toList.reverse b.toList.reverse (out1.push (b[nb - 1]'zb0)).toList (a.size - na1) (b.size - (nb - 1)) := by
          rw [Array.toList_push, show b.size - (nb - 1) = b.size - nb + 1 by omega]
          exact m1.pushB srb (rvs_at (Nat.le_of_succ_le pb) lb) (ge_drop sra (rvs_at pa1 la1) (hb1 _ pa1 (ga (na1 - 1) za1).1))
        by_cases c3 : nb - 1 = 1
        · rw [if_pos (beq_iff_eq.mpr c3)]
          exact wpS_pure (.inr ⟨_, _, rfl, hi_first sa sb la1 (Nat.le_of_lt zb0) m2 c3 h1, S2.kind, S2.arr, S2.pend, S2.failed⟩)
        rw [if_neg (fun z => c3 (beq_iff_eq.mp z))]
        refine wpS_bind (wpS_elem (ga (na1 - 1) za1).1 (wpS_bind (wpS_gallop (L.same.kind.trans hk) (ga (na1 - 1) za1).2 kb (by omega) (by omega) (bey_mono (by omega) sb) fun k2 lk2 d1 d2 => ?_)))
        generalize hp : out1.push (b[nb - 1]'zb0) = outp at m2 ⊢
        dsimp only
        refine (fun (J3 : ∀ (out2 : Array Keyed) (nb1 : Nat), Mg Ge a.toList.reverse b.toList.reverse out2.toList (a.size - na1) (b.size - nb1) → (∀ z, 1 ≤ nb1 → b[nb1 - 1]? = some z → Ge (a[na1 - 1]'za1) z) → nb1 ≤ nb - 1 → 2 ≤ nb1 → (?B3 : Array Keyed → Nat → Prop) out2 nb1) => ?main3) ?pf3
        case main3 =>
          have m3 : Mg Ge a.toList.reverse b.toList.reverse (outp ++ (b.extract k2 (nb - 1)).reverse).toList (a.size - na1) (b.size - k2) := by
            rw [Array.toList_append, ext_rev lk2 (Nat.le_of_lt zb0), show b.size - k2 = b.size - (nb - 1) + (nb - 1 - k2) by omega]
            refine Mg.blockB srb (nb - 1 - k2) m2 (by simp; omega) fun i i1 i2 z ez => ge_drop sra (rvs_at pa1 la1) ?_
            have e2 := rvs_at (a := b) (n := b.size - i) (by omega) (by omega)
            rw [show b.size - (b.size - i) = i by omega, ez] at e2
            have e3 := Option.some.inj e2
            subst e3
            refine bey_false (d2 (b.size - i - 1) (by omega) (by omega)) ?_
            rw [Nat.zero_add]
            exact (gb (b.size - i - 1) (by omega)).1
          have hb2 : ∀ z, 1 ≤ k2 → b[k2 - 1]? = some z → Ge (a[na1 - 1]'za1) z := fun z hz ez => by
            refine bey_true (d1 (k2 - 1) (by omega)) ?_
            rw [Nat.zero_add]; exact ez
          by_cases hk1 : nb - 1 - k2 > 0
          · rw [if_pos hk1]
            by_cases c4 : k2 = 1
            · rw [if_pos (beq_iff_eq.mpr c4)]
              exact wpS_pure (.inr ⟨_, _, rfl, hi_first sa sb la1 (by omega) m3 c4 h1, S2.kind, S2.arr, S2.pend, S2.failed⟩)
            rw [if_neg (fun z => c4 (beq_iff_eq.mp z))]
            by_cases c5 : k2 = 0
            · rw [if_pos (beq_iff_eq.mpr c5)]
              exact wpS_pure (.inr ⟨_, _, rfl, hi_done sa sb la1 (by omega) m3 (.inr c5), S2.kind, S2.arr, S2.pend, S2.failed⟩)
            rw [if_neg (fun z => c5 (beq_iff_eq.mp z))]
            have hlt2 : k2 ≤ nb - 1 := lk2
            have c6 : 2 ≤ k2 := by omega
            generalize hko : nb - 1 - k2 = k0
            generalize ho2 : outp ++ (b.extract k2 (nb - 1)).reverse = out2 at m3 ⊢
            generalize hi2 : k2 = nb1 at m3 hb2 hlt2 c6 ⊢
            subst hko
            exact J3 out2 nb1 m3 hb2 hlt2 c6
          · rw [if_neg hk1]
            have ek : k2 = nb - 1 := by omega
            rw [ek] at m3 hb2
            have ee : outp ++ (b.extract (nb - 1) (nb - 1)).reverse = outp := by simp; exact Nat.min_le_left _ _
            rw [ee] at m3
            exact J3 outp (nb - 1) m3 hb2 (Nat.le_refl _) (by omega)
        intro out2 nb1 m3 hb2 hlt2 c6
        clear d1 d2 lk2
        have lb1 : nb1 ≤ b.size := by omega
        have pb1 : 1 ≤ nb1 := Nat.le_of_succ_le c6
        refine wpS_bind (wpS_elem (ga (na1 - 1) za1).1 ?_)
        have m4 : Mg Ge a.toList.reverse b.toList.reverse (out2.push (a[na1 - 1]'za1)).toList (a.size - (na1 - 1)) (b.size - nb1) := by
          rw [Array.toList_push, show a.size - (na1 - 1) = a.size - na1 + 1 by omega]
          exact m3.pushA sra (rvs_at pa1 la1) (ge_drop srb (rvs_at pb1 lb1) (hb2 _ pb1 (gb (nb1 - 1) (by omega)).1))
        by_cases c7 : na1 - 1 = 0
        · rw [if_pos (beq_iff_eq.mpr c7)]
          exact wpS_pure (.inr ⟨_, _, rfl, hi_done sa sb (Nat.le_of_lt za1) lb1 m4 (.inl c7), S2.kind, S2.arr, S2.pend, S2.failed⟩)
        rw [if_neg (fun z => c7 (beq_iff_eq.mp z))]
        have o1 : 1 ≤ na1 - 1 := Nat.one_le_iff_ne_zero.mpr c7
        split
        · exact wpS_pure (.inl ⟨_, _, _, _, _, _, rfl, ⟨S2.kind, S2.arr, S2.pend, S2.failed⟩, m4, Nat.le_of_lt za1, lb1, o1, c6, by omega⟩)
        · exact wpS_pure ⟨_, _, _, _, _, _, rfl, ⟨S2.kind, S2.arr, S2.pend, S2.failed⟩, m4, Nat.le_of_lt za1, lb1, o1, c6, by omega⟩
end
end L2
set_option Elab.async false
set_option linter.all false
set_option maxRecDepth 100000
namespace L2
open PySem PySem.Spec PyProof.Rows
def SortedOn (xs : Array Keyed) (i j : Nat) : Prop := ∀ u v, i ≤ u → u ≤ v → v < j → K xs u ≤ K xs v
structure SB (a₀ : Array Keyed) (st : SortSt) : Prop where
  perm : (arrOf st).Perm a₀
  kind : kindOf st = oneType'
  failed : failedOf st = none
theorem SB.size {a₀ : Array Keyed} {st : SortSt} (h : SB a₀ st) : (arrOf st).size = a₀.size := h.perm.size_eq
theorem SB.ints {a₀ : Array Keyed} {st : SortSt} (h : SB a₀ st) (h0 : IntKeys a₀) : ∀ p ∈ (arrOf st).toList, IntK p := fun p hp =>
  h0 p ((Array.perm_iff_toList_perm.mp h.perm).mem_iff.mp hp)
theorem K_at {xs : Array Keyed} {i : Nat} {p : Keyed} (e : xs[i]? = some p) : K xs i = kn p := by unfold K kn; rw [e]
theorem ext_at {a : Array Keyed} {i j k : Nat} (hj : j ≤ a.size) (hk : i + k < j) : (a.extract i j)[k]? = a[i + k]? := by
  rw [Array.getElem?_extract, if_pos (by omega)]
theorem ext_size {a : Array Keyed} {i j : Nat} (hj : j ≤ a.size) : (a.extract i j).size = j - i := by
  rw [Array.size_extract]; omega
theorem ext_srt {a : Array Keyed} {i j : Nat} (hj : j ≤ a.size) (s : SortedOn a i j) : (a.extract i j).toList.Pairwise Le := by
  rw [List.pairwise_iff_getElem]
  intro u v hu hv huv
  rw [Array.length_toList, ext_size hj] at hu hv
  have e1 : (a.extract i j).toList[u]? = a[i + u]? := by rw [Array.getElem?_toList]; exact ext_at hj (by omega)
  have e2 : (a.extract i j).toList[v]? = a[i + v]? := by rw [Array.getElem?_toList]; exact ext_at hj (by omega)
  rw [List.getElem?_eq_getElem (by rw [Array.length_toList, ext_size hj]; exact hu)] at e1
  rw [List.getElem?_eq_getElem (by rw [Array.length_toList, ext_size hj]; exact hv)] at e2
  have := s (i + u) (i + v) (by omega) (by omega) (by omega)
  rw [K_at e1.symm, K_at e2.symm] at this
  exact this
theorem ext_mem {a : Array Keyed} {i j : Nat} (hj : j ≤ a.size) {z : Keyed} (h : z ∈ (a.extract i j).toList) : ∃ k, i ≤ k ∧ k < j ∧ a[k]? = some z := by
  obtain ⟨k, hk, e⟩ := List.getElem_of_mem h
  have hk' := hk
  rw [Array.length_toList, ext_size hj] at hk'
  refine ⟨i + k, by omega, by omega, ?_⟩
  rw [← ext_at hj (by omega), ← Array.getElem?_toList, List.getElem?_eq_getElem hk, e]
def layIn (a : Array Keyed) (s : Nat) (l : List (Keyed × Nat)) : Array Keyed := l.foldl (fun a (p, j) => a.setIfInBounds (s + j) p) a
theorem layIn_at (s : Nat) : ∀ (l : List Keyed) (o : Nat) (a : Array Keyed), s + o + l.length ≤ a.size → ∀ u, (layIn a s (l.zipIdx o))[u]? = if s + o ≤ u ∧ u < s + o + l.length then l[u - (s + o)]? else a[u]?
  | [], o, a, h, u => by
    show a[u]? = _
    rw [if_neg (by rw [List.length_nil]; omega)]
  | p :: l, o, a, h, u => by
    rw [List.length_cons] at h
    show (layIn (a.setIfInBounds (s + o) p) s (l.zipIdx (o + 1)))[u]? = _
    rw [layIn_at s l (o + 1) _ (by rw [Array.size_setIfInBounds]; omega) u, List.length_cons]
    by_cases c1 : u = s + o
    · subst c1
      rw [if_neg (by omega), if_pos (by omega), Nat.sub_self, Array.getElem?_setIfInBounds, if_pos rfl, if_pos (by omega)]
      rfl
    · by_cases c2 : s + o ≤ u ∧ u < s + o + (l.length + 1)
      · rw [if_pos (by omega), if_pos c2, show u - (s + o) = u - (s + (o + 1)) + 1 by omega, List.getElem?_cons_succ]
      · rw [if_neg (by omega), if_neg c2, Array.getElem?_setIfInBounds, if_neg (by omega)]
theorem layIn_perm {a : Array Keyed} {s : Nat} {l : List Keyed} (h : s + l.length ≤ a.size) (hp : l.Perm ((a.toList.drop s).take l.length)) : (layIn a s (l.zipIdx 0)).Perm a := by
  rw [Array.perm_iff_toList_perm]
  have e : (layIn a s (l.zipIdx 0)).toList = a.toList.take s ++ (l ++ a.toList.drop (s + l.length)) := by
    refine List.ext_getElem? fun u => ?_
    rw [Array.getElem?_toList, layIn_at s l 0 a (by omega) u, Nat.add_zero]
    by_cases c1 : u < s
    · rw [if_neg (by omega), List.getElem?_append_left (by simp; omega), List.getElem?_take_of_lt c1, Array.getElem?_toList]
    · rw [List.getElem?_append_right (by simp; omega)]
      have el : (a.toList.take s).length = s := by simp; omega
      rw [el]
      by_cases c2 : u < s + l.length
      · rw [if_pos ⟨by omega, c2⟩, List.getElem?_append_left (by omega)]
      · rw [if_neg (by omega), List.getElem?_append_right (by omega), List.getElem?_drop, ← Array.getElem?_toList]
        congr 1; omega
  have e2 : a.toList = a.toList.take s ++ ((a.toList.drop s).take l.length ++ a.toList.drop (s + l.length)) := by
    rw [← List.drop_drop, List.take_append_drop, List.take_append_drop]
  rw [e]
  exact (List.Perm.append_left _ (hp.append_right _)).trans (by rw [← e2])
theorem bey_monoS {left : Bool} {key : Keyed} {arr : Array Keyed} {base n : Nat} (hn : base + n ≤ arr.size) (hs : SortedOn arr base (base + n)) : ∀ i j, i ≤ j → j < n → bey left key arr base j = true → bey left key arr base i = true := by
  intro i j hij hj hb
  have e1 : arr[base + i]? = some (arr[base + i]'(by omega)) := getElem?_pos arr (base + i) (by omega)
  have e2 : arr[base + j]? = some (arr[base + j]'(by omega)) := getElem?_pos arr (base + j) (by omega)
  have hl := hs (base + i) (base + j) (by omega) (by omega) (by omega)
  rw [K_at e1, K_at e2] at hl
  rw [bey_at e2] at hb
  rw [bey_at e1]
  cases left <;> simp at hb ⊢ <;> omega
theorem mid_sorted {x z : Array Keyed} {sa sb k m : Nat} {r : List Keyed} {e : Nat} (hx : e ≤ x.size) (hk : sa + k < sb) (hm : sb + m ≤ e) (hm1 : 1 ≤ m)
    (s1 : SortedOn x sa sb) (s2 : SortedOn x sb e) (b1 : ∀ j, sa ≤ j → j < sa + k → K x j ≤ K x sb) (b2 : ∀ j, sb + m ≤ j → j < e → K x (sb - 1) ≤ K x j)
    (hr : Mgd Le (x.extract (sa + k) sb).toList (x.extract sb (sb + m)).toList r) (hz : ∀ u, z[u]? = if sa + k ≤ u ∧ u < sa + k + r.length then r[u - (sa + k)]? else x[u]?) : SortedOn z sa e := by
  have lr : r.length = sb - (sa + k) + m := by
    rw [hr.1.length_eq, List.length_append, Array.length_toList, Array.length_toList, ext_size (by omega), ext_size (by omega)]; omega
  have out : ∀ u, u < sa + k ∨ sb + m ≤ u → K z u = K x u := fun u hu => K_congr (by rw [hz, if_neg (by omega)])
  have mid : ∀ u, sa + k ≤ u → u < sb + m → ∃ p, p ∈ r ∧ r[u - (sa + k)]? = some p ∧ K z u = kn p ∧ ((∃ j, sa + k ≤ j ∧ j < sb ∧ K x j = kn p) ∨ (∃ j, sb ≤ j ∧ j < sb + m ∧ K x j = kn p)) := fun u h1 h2 => by
    have e1 : r[u - (sa + k)]? = some (r[u - (sa + k)]'(by omega)) := List.getElem?_eq_getElem (by omega)
    have hmem : (r[u - (sa + k)]'(by omega)) ∈ r := List.getElem_mem _
    refine ⟨_, hmem, e1, K_at (by rw [hz, if_pos (by omega), e1]), ?_⟩
    rcases List.mem_append.mp (hr.1.mem_iff.mp hmem) with q | q
    · obtain ⟨j, j1, j2, ej⟩ := ext_mem (by omega) q
      exact .inl ⟨j, j1, j2, K_at ej⟩
    · obtain ⟨j, j1, j2, ej⟩ := ext_mem (by omega) q
      exact .inr ⟨j, j1, j2, K_at ej⟩
  intro u v hu huv hv
  by_cases cu : u < sa + k
  · rw [out u (.inl cu)]
    by_cases cv : v < sa + k
    · rw [out v (.inl cv)]; exact s1 u v hu huv (by omega)
    · by_cases cv2 : sb + m ≤ v
      · rw [out v (.inr cv2)]
        exact Int.le_trans (b1 u hu cu) (s2 sb v (Nat.le_refl _) (by omega) hv)
      · obtain ⟨p, _, _, ep, q⟩ := mid v (by omega) (by omega)
        rw [ep]
        rcases q with ⟨j, j1, j2, ej⟩ | ⟨j, j1, j2, ej⟩
        · rw [← ej]; exact s1 u j hu (by omega) j2
        · rw [← ej]; exact Int.le_trans (b1 u hu cu) (s2 sb j (Nat.le_refl _) j1 (by omega))
  · by_cases cu2 : sb + m ≤ u
    · rw [out u (.inr cu2), out v (.inr (by omega))]
      exact s2 u v (by omega) huv hv
    · obtain ⟨p, _, gp, ep, q⟩ := mid u (by omega) (by omega)
      rw [ep]
      by_cases cv2 : sb + m ≤ v
      · rw [out v (.inr cv2)]
        rcases q with ⟨j, j1, j2, ej⟩ | ⟨j, j1, j2, ej⟩
        · rw [← ej]; exact Int.le_trans (s1 j (sb - 1) (by omega) (by omega) (by omega)) (b2 v cv2 hv)
        · rw [← ej]; exact s2 j v j1 (by omega) hv
      · obtain ⟨p', _, gp', ep', _⟩ := mid v (by omega) (by omega)
        rw [ep']
        by_cases ceq : u = v
        · subst ceq
          rw [gp] at gp'
          cases gp'
          exact Int.le_refl _
        · obtain ⟨q1, q2⟩ := List.getElem?_eq_some_iff.mp gp
          obtain ⟨q3, q4⟩ := List.getElem?_eq_some_iff.mp gp'
          have := List.pairwise_iff_getElem.mp hr.2 _ _ q1 q3 (by omega)
          rw [q2, q4] at this
          exact this
section
variable {prog : Program} {w : World} {A : Around} {E : Value → Shared → Prop} {s : Shared} {a₀ : Array Keyed}
theorem wpS_set {st st' : SortSt} {Q : PUnit → SortSt → Prop} (h : Q ⟨⟩ st') : wpS (model prog w) A E s (set st' : StateT SortSt Sem PUnit) Q st := by
  unfold wpS; rw [StateT.run_set]; exact wpAny_pure ⟨rfl, h⟩
def Merged (a₀ : Array Keyed) (st : SortSt) (i sa na pw sb nb : Nat) (st' : SortSt) : Prop :=
  SB a₀ st' ∧ pendingOf st' = ((pendingOf st).setIfInBounds i (sa, na + nb, pw)).eraseIdxIfInBounds (i + 1) ∧ SortedOn (arrOf st') sa (sb + nb) ∧ ∀ j, (j < sa ∨ sb + nb ≤ j) → K (arrOf st') j = K (arrOf st) j
theorem wpS_mergeAt {st : SortSt} {Q : Bool → SortSt → Prop} {i sa na pw sb nb pw2 : Nat} (h0 : IntKeys a₀) (hB : SB a₀ st) (e1 : (pendingOf st)[i]? = some (sa, na, pw)) (e2 : (pendingOf st)[i + 1]? = some (sb, nb, pw2))
    (hsb : sb = sa + na) (hna : 1 ≤ na) (hnb : 1 ≤ nb) (hz : sb + nb ≤ a₀.size) (s1 : SortedOn (arrOf st) sa sb) (s2 : SortedOn (arrOf st) sb (sb + nb))
    (h : ∀ st', Merged a₀ st i sa na pw sb nb st' → Q true st') : wpS (model prog w) A E s (mergeAt' i) Q st := by
  refine wpS_bind (wpS_get ?_)
  have hsz := hB.size
  have ka := hB.ints h0
  rw [e1, e2]
  refine wpS_bind (wpS_set ?_)
  have ga : ∀ i (z : i < (arrOf st).size), (arrOf st)[i]? = some (arrOf st)[i] ∧ IntK (arrOf st)[i] := fun i z => ⟨getElem?_pos (arrOf st) i z, ka _ (by simp)⟩
  have l1 : sb < (arrOf st).size := by omega
  have q1 : sa + na ≤ (arrOf st).size := by omega
  have q2 : sb + nb ≤ (arrOf st).size := by omega
  refine wpS_bind (wpS_elem (ga sb l1).1 (wpS_bind (wpS_gallop hB.kind (ga sb l1).2 ka q1 (by omega) (bey_monoS q1 (by rw [← hsb]; exact s1)) fun k lk b1 b2 => ?_)))
  dsimp only
  have c1 : ∀ j, sa ≤ j → j < sa + k → K (arrOf st) j ≤ K (arrOf st) sb := fun j j1 j2 => by
    have hj : j < (arrOf st).size := by omega
    rw [K_at (ga j hj).1, K_at (ga sb l1).1]
    exact bey_true (b1 (j - sa) (by omega)) (by rw [show sa + (j - sa) = j by omega]; exact (ga j hj).1)
  by_cases hn : na - k = 0
  · rw [if_pos (beq_iff_eq.mpr hn)]
    refine wpS_pure (h _ ⟨⟨hB.perm, hB.kind, hB.failed⟩, rfl, ?_, fun _ _ => rfl⟩)
    intro u v hu huv hv
    by_cases cv : v < sb
    · exact s1 u v hu huv cv
    · by_cases cu : u < sb
      · exact Int.le_trans (c1 u hu (by omega)) (s2 sb v (Nat.le_refl _) (by omega) hv)
      · exact s2 u v (by omega) huv hv
  rw [if_neg (fun z => hn (beq_iff_eq.mp z))]
  have l2 : sa + k + (na - k) - 1 < (arrOf st).size := by omega
  have el : sa + k + (na - k) - 1 = sb - 1 := by omega
  refine wpS_bind (wpS_elem (ga _ l2).1 (wpS_bind (wpS_gallop hB.kind (ga _ l2).2 ka q2 (by omega) (bey_monoS q2 s2) fun m lm d1 d2 => ?_)))
  dsimp only
  have c2 : ∀ j, sb + m ≤ j → j < sb + nb → K (arrOf st) (sb - 1) ≤ K (arrOf st) j := fun j j1 j2 => by
    have hj : j < (arrOf st).size := by omega
    rw [← el, K_at (ga _ l2).1, K_at (ga j hj).1]
    exact bey_false (d2 (j - sb) (by omega) (by omega)) (by rw [show sb + (j - sb) = j by omega]; exact (ga j hj).1)
  by_cases hm : m = 0
  · rw [if_pos (beq_iff_eq.mpr hm)]
    refine wpS_pure (h _ ⟨⟨hB.perm, hB.kind, hB.failed⟩, rfl, ?_, fun _ _ => rfl⟩)
    intro u v hu huv hv
    by_cases cv : v < sb
    · exact s1 u v hu huv cv
    · by_cases cu : u < sb
      · exact Int.le_trans (s1 u (sb - 1) hu (by omega) (by omega)) (c2 v (by omega) hv)
      · exact s2 u v (by omega) huv hv
  rw [if_neg (fun z => hm (beq_iff_eq.mp z))]
  have kx : ∀ p ∈ ((arrOf st).extract (sa + k) sb).toList, IntK p := fun p hp => by
    obtain ⟨j, _, _, ej⟩ := ext_mem (by omega) hp
    obtain ⟨q1, q2⟩ := Array.getElem?_eq_some_iff.mp ej
    rw [← q2]; exact (ga j q1).2
  have ky : ∀ p ∈ ((arrOf st).extract sb (sb + m)).toList, IntK p := fun p hp => by
    obtain ⟨j, _, _, ej⟩ := ext_mem (by omega) hp
    obtain ⟨q1, q2⟩ := Array.getElem?_eq_some_iff.mp ej
    rw [← q2]; exact (ga j q1).2
  have sx := ext_srt (a := arrOf st) (i := sa + k) (j := sb) (by omega) (fun u v h1 h2 h3 => s1 u v (by omega) h2 h3)
  have sy := ext_srt (a := arrOf st) (i := sb) (j := sb + m) (by omega) (fun u v h1 h2 h3 => s2 u v h1 h2 (by omega))
  have zx : ((arrOf st).extract (sa + k) sb).size = sb - (sa + k) := ext_size (by omega)
  have zy : ((arrOf st).extract sb (sb + m)).size = m := by rw [ext_size (by omega)]; omega
  have p1 : ∀ x, ((arrOf st).extract sb (sb + m))[0]? = some x → ∀ y ∈ ((arrOf st).extract (sa + k) sb).toList, Le x y := fun x ex y hy => by
    rw [ext_at (by omega) (by omega), Nat.add_zero, (ga sb l1).1] at ex
    cases ex
    obtain ⟨j, j1, j2, ej⟩ := ext_mem (by omega) hy
    exact bey_false (b2 (j - sa) (by omega) (by omega)) (by rw [show sa + (j - sa) = j by omega]; exact ej)
  have p2 : ∀ x, ((arrOf st).extract (sa + k) sb)[((arrOf st).extract (sa + k) sb).size - 1]? = some x → ∀ y ∈ ((arrOf st).extract sb (sb + m)).toList, Le y x := fun x ex y hy => by
    rw [zx, ext_at (by omega) (by omega), show sa + k + (sb - (sa + k) - 1) = sa + k + (na - k) - 1 by omega, (ga _ l2).1] at ex
    cases ex
    obtain ⟨j, j1, j2, ej⟩ := ext_mem (by omega) hy
    exact bey_true (d1 (j - sb) (by omega)) (by rw [show sb + (j - sb) = j by omega]; exact ej)
  have fin : ∀ (r : Array Keyed) (st' : SortSt), Mgd Le ((arrOf st).extract (sa + k) sb).toList ((arrOf st).extract sb (sb + m)).toList r.toList →
      SameS (SortSt.mk' (kindOf st) (arrOf st) (((pendingOf st).setIfInBounds i (sa, na + nb, pw)).eraseIdxIfInBounds (i + 1)) (gallopOf st) (failedOf st)) st' →
      Merged a₀ st i sa na pw sb nb (SortSt.mk' (kindOf st') (layIn (arrOf st') (sa + k) (r.toList.zipIdx 0)) (pendingOf st') (gallopOf st') (failedOf st')) := fun r st' hr S => by
    have lr : r.toList.length = sb + m - (sa + k) := by
      rw [hr.1.length_eq, List.length_append, Array.length_toList, Array.length_toList, zx, zy]; omega
    have ea : arrOf st' = arrOf st := S.arr
    have hz2 := layIn_at (sa + k) r.toList 0 (arrOf st) (by omega)
    refine ⟨⟨?_, S.kind.trans hB.kind, S.failed.trans hB.failed⟩, S.pend, ?_, fun j hj => ?_⟩
    · show (layIn (arrOf st') (sa + k) (r.toList.zipIdx 0)).Perm a₀
      rw [ea]
      refine (layIn_perm (by omega) (hr.1.trans ?_)).trans hB.perm
      rw [lr, ← ext_mid, show sa + k + (sb + m - (sa + k)) = sb + m by omega]
      have : ((arrOf st).extract (sa + k) sb).toList ++ ((arrOf st).extract sb (sb + m)).toList = ((arrOf st).extract (sa + k) (sb + m)).toList := by
        rw [← Array.toList_append, Array.extract_append_extract]
        congr 2 <;> omega
      rw [this]
    · show SortedOn (layIn (arrOf st') (sa + k) (r.toList.zipIdx 0)) sa (sb + nb)
      rw [ea]
      refine mid_sorted (r := r.toList) (by omega) (by omega) (by omega) (by omega) s1 s2 c1 c2 hr fun u => ?_
      have := hz2 u
      rw [Nat.add_zero] at this
      exact this
    · show K (layIn (arrOf st') (sa + k) (r.toList.zipIdx 0)) j = _
      rw [ea]
      refine K_congr ?_
      rw [hz2 j, if_neg (by omega)]
  have z1 : 1 ≤ ((arrOf st).extract (sa + k) sb).size := by omega
  have z2 : 1 ≤ ((arrOf st).extract sb (sb + m)).size := by omega
  by_cases hle : na - k ≤ m
  · rw [if_pos hle]
    refine wpS_bind (wpS_mergeLo hB.kind kx ky sx sy z1 z2 p1 p2 fun r st' hr S => ?_)
    refine wpS_bind (wpS_modify (wpS_bind (wpS_get ?_)))
    have hM := fin r st' hr S
    have hQ := h _ hM
    have ht : (failedOf st').isNone = true := by rw [S.failed.trans hB.failed]; rfl
    rw [← ht] at hQ
    exact wpS_pure hQ
  · rw [if_neg hle]
    refine wpS_bind (wpS_mergeHi hB.kind kx ky sx sy z1 z2 p1 p2 fun r st' hr S => ?_)
    refine wpS_bind (wpS_modify (wpS_bind (wpS_get ?_)))
    have hM := fin r st' hr S
    have hQ := h _ hM
    have ht : (failedOf st').isNone = true := by rw [S.failed.trans hB.failed]; rfl
    rw [← ht] at hQ
    exact wpS_pure hQ
end
end L2
set_option Elab.async false
set_option linter.all false
set_option maxRecDepth 100000
namespace L2
open PySem PySem.Spec PyProof.Rows
structure Went (a₀ : Array Keyed) (st : SortSt) (lo hi : Nat) (st' : SortSt) : Prop where
  base : SB a₀ st'
  pend : pendingOf st' = pendingOf st
  out : ∀ j, (j < lo ∨ hi ≤ j) → K (arrOf st') j = K (arrOf st) j
theorem Went.refl {a₀ : Array Keyed} {st : SortSt} {lo hi : Nat} (h : SB a₀ st) : Went a₀ st lo hi st := ⟨h, rfl, fun _ _ => rfl⟩
theorem Went.trans {a₀ : Array Keyed} {st st1 st2 : SortSt} {lo hi : Nat} (h : Went a₀ st lo hi st1) (h' : Went a₀ st1 lo hi st2) : Went a₀ st lo hi st2 :=
  ⟨h'.base, h'.pend.trans h.pend, fun j hj => (h'.out j hj).trans (h.out j hj)⟩
def FallOn (xs : Array Keyed) (i j : Nat) : Prop := ∀ u v, i ≤ u → u ≤ v → v < j → K xs v ≤ K xs u
theorem FallOn.eq {xs ys : Array Keyed} {i j : Nat} (h : FallOn xs i j) (e : ∀ k, K ys k = K xs k) : FallOn ys i j := fun u v a b c => by rw [e, e]; exact h u v a b c
theorem FallOn.snoc {xs : Array Keyed} {i j : Nat} (h : FallOn xs i j) (hij : i < j) (e : K xs j ≤ K xs (j - 1)) : FallOn xs i (j + 1) := fun u v a b c => by
  by_cases cv : v < j
  · exact h u v a b cv
  · obtain rfl : v = j := by omega
    by_cases cu : u = v
    · subst cu; exact Int.le_refl _
    · exact Int.le_trans e (h u (v - 1) a (by omega) (by omega))
section
variable {prog : Program} {w : World} {A : Around} {E : Value → Shared → Prop} {s : Shared} {a₀ : Array Keyed}
theorem wpS_ltB {st : SortSt} {i j : Nat} {Q : Option Bool → SortSt → Prop} (hB : SB a₀ st) (h0 : PyProof.Rows.IntKeys a₀) (hi : i < a₀.size) (hj : j < a₀.size)
    (h : Q (some (decide (K (arrOf st) i < K (arrOf st) j))) st) : wpS (model prog w) A E s (ltAt' i j) Q st := by
  have hz := hB.size
  have e1 : (arrOf st)[i]? = some ((arrOf st)[i]'(by omega)) := getElem?_pos (arrOf st) i (by omega)
  have e2 : (arrOf st)[j]? = some ((arrOf st)[j]'(by omega)) := getElem?_pos (arrOf st) j (by omega)
  rw [K_at e1, K_at e2] at h
  refine wpS_bind (wpS_get ?_)
  exact wpS_bind (wpS_elem e1 (wpS_bind (wpS_elem e2 (wpS_lt hB.kind (hB.ints h0 _ (by simp)) (hB.ints h0 _ (by simp)) h))))
theorem wpS_rev {st : SortSt} {i j : Nat} {Q : Unit → SortSt → Prop} (hB : SB a₀ st) (hj : j ≤ a₀.size)
    (h : ∀ st', SB a₀ st' → pendingOf st' = pendingOf st → (∀ k, K (arrOf st') k = if i ≤ k ∧ k < j then K (arrOf st) (i + j - 1 - k) else K (arrOf st) k) → Q () st') :
    wpS (model prog w) A E s (reverseSlice' i j) Q st := by
  refine wpS_modify (h _ ⟨(mirror_perm _ _ _ _).trans hB.perm, hB.kind, hB.failed⟩ rfl fun k => ?_)
  exact (K_mirror (by rw [hB.size]; exact hj) k)
theorem wpS_count {st : SortSt} {lo nrem : Nat} {Q : Option Nat → SortSt → Prop} (h0 : PyProof.Rows.IntKeys a₀) (hn : lo + nrem ≤ a₀.size) (h1 : 1 ≤ nrem) (hB : SB a₀ st)
    (h : ∀ m st', Went a₀ st lo (lo + nrem) st' → 1 ≤ m → m ≤ nrem → SortedOn (arrOf st') lo (lo + m) → Q (some m) st') :
    wpS (model prog w) A E s (countRun' lo nrem) Q st := by
  have asc : ∀ (f : Nat → Option (Option Nat) × Nat → StateT SortSt Sem (ForInStep (Option (Option Nat) × Nat))) (st1 : SortSt) (n : Nat), 1 ≤ n → n ≤ nrem → SB a₀ st1 → SortedOn (arrOf st1) lo (lo + n) →
      (∀ x m, 1 ≤ m → m < nrem → ∀ Q', Q' (if K (arrOf st1) (lo + m) < K (arrOf st1) (lo + m - 1) then ForInStep.done (none, m) else ForInStep.yield (none, m + 1)) st1 → wpS (model prog w) A E s (f x (none, m)) Q' st1) →
      wpS (model prog w) A E s (forIn [n:nrem] (none, n) f) (fun c st' => st' = st1 ∧ ∃ m, c = (none, m) ∧ n ≤ m ∧ m ≤ nrem ∧ SortedOn (arrOf st1) lo (lo + m) ∧ (m = nrem ∨ K (arrOf st1) (lo + m) < K (arrOf st1) (lo + m - 1))) st1 := by
    intro f st1 n n1 n2 B1 hs hf
    refine wpS_forRange (I := fun x c st' => st' = st1 ∧ c = (none, x) ∧ SortedOn (arrOf st1) lo (lo + x)) ?_ ?_ ⟨rfl, rfl, hs⟩
    · rintro x c st' x1 x2 ⟨rfl, rfl, hs'⟩
      refine hf x x (by omega) x2 _ ?_
      by_cases hl : K (arrOf st') (lo + x) < K (arrOf st') (lo + x - 1)
      · rw [if_pos hl]
        exact ⟨rfl, x, rfl, x1, by omega, hs', .inr hl⟩
      · rw [if_neg hl]
        refine ⟨rfl, rfl, fun u v u1 uv v1 => ?_⟩
        by_cases c : v < lo + x
        · exact hs' u v u1 uv c
        · obtain rfl : v = lo + x := by omega
          by_cases e : u = lo + x
          · subst e; exact Int.le_refl _
          · exact Int.le_trans (hs' u (lo + x - 1) u1 (by omega) (by omega)) (Int.not_lt.mp hl)
    · rintro c st' ⟨rfl, rfl, hs'⟩
      rw [show max n nrem = nrem by omega] at hs' ⊢
      exact ⟨rfl, nrem, rfl, n2, Nat.le_refl _, hs', .inl rfl⟩
  refine wpS_bind (wpS_mono (asc _ st 1 (Nat.le_refl _) h1 hB ?_ ?_) ?_)
  · intro u v u1 uv v1
    obtain rfl : u = v := by omega
    exact Int.le_refl _
  · intro x m m1 m2 Q' q
    refine wpS_bind (wpS_ltB hB h0 (by omega) (by omega) ?_)
    dsimp only
    by_cases hl : K (arrOf st) (lo + m) < K (arrOf st) (lo + m - 1)
    · rw [if_pos hl] at q
      rw [if_pos (decide_eq_true hl)]
      exact wpS_pure q
    · rw [if_neg hl] at q
      rw [if_neg (fun z => hl (of_decide_eq_true z))]
      exact wpS_pure q
  · rintro c st' ⟨rfl, n, rfl, n1, n2, hs, hor⟩
    dsimp only
    by_cases hnn : n = nrem
    · rw [if_pos (beq_iff_eq.mpr hnn)]
      exact wpS_pure (h n _ (.refl hB) n1 n2 hs)
    rw [if_neg (fun z => hnn (beq_iff_eq.mp z))]
    have hlt := hor.resolve_left hnn
    refine (fun (J1 : ∀ st1 : SortSt, Went a₀ st' lo (lo + nrem) st1 → FallOn (arrOf st1) lo (lo + (n + 1)) → (?B1 : SortSt → Prop) st1) => ?main1) ?pf1
    case main1 =>
      by_cases hgt : n > 1
      · rw [if_pos hgt]
        refine wpS_bind (wpS_ltB hB h0 (by omega) (by omega) ?_)
        dsimp only
        by_cases hrose : K (arrOf st') lo < K (arrOf st') (lo + n - 1)
        · rw [if_pos (decide_eq_true hrose)]
          exact wpS_pure (h n _ (.refl hB) n1 n2 hs)
        rw [if_neg (fun z => hrose (of_decide_eq_true z))]
        refine wpS_bind (wpS_rev hB (by omega) fun st1 B1 P1 k1 => ?_)
        have all : ∀ k, lo ≤ k → k < lo + n → K (arrOf st') k = K (arrOf st') lo := fun k q1 q2 => by
          have a1 := hs lo k (Nat.le_refl _) q1 q2
          have a2 := hs k (lo + n - 1) q1 (by omega) (by omega)
          omega
        have kk : ∀ k, K (arrOf st1) k = K (arrOf st') k := fun k => by
          rw [k1 k]
          by_cases c : lo ≤ k ∧ k < lo + n
          · rw [if_pos c, all _ (by omega) (by omega), all k c.1 c.2]
          · rw [if_neg c]
        have W1 : Went a₀ st' lo (lo + nrem) st1 := ⟨B1, P1, fun j _ => kk j⟩
        have N1 : FallOn (arrOf st1) lo (lo + (n + 1)) := by
          refine FallOn.eq ?_ kk
          exact FallOn.snoc (j := lo + n) (fun u v a b c => by rw [all u a (by omega), all v (by omega) c]; exact Int.le_refl _) (by omega) (Int.le_of_lt hlt)
        exact J1 st1 W1 N1
      · rw [if_neg hgt]
        have W1 : Went a₀ st' lo (lo + nrem) st' := .refl hB
        have N1 : FallOn (arrOf st') lo (lo + (n + 1)) := by
          exact FallOn.snoc (j := lo + n) (fun u v a b c => by
            obtain rfl : u = v := by omega
            exact Int.le_refl _) (by omega) (Int.le_of_lt hlt)
        exact J1 st' W1 N1
    intro st1 W1 N1
    refine wpS_bind (wpS_lift (wpAny_rule ⟨rfl, ?_⟩))
    refine wpS_bind (wpS_mono (wpS_forRange (I := fun x c st2 => ∃ neq, c = (none, x, neq) ∧ Went a₀ st' lo (lo + nrem) st2 ∧ FallOn (arrOf st2) lo (lo + x) ∧ neq + 1 ≤ x ∧ ∀ i, lo + x - (neq + 1) ≤ i → i < lo + x → K (arrOf st2) i = K (arrOf st2) (lo + x - 1))
      (Q := fun c st2 => ∃ x neq, c = (none, x, neq) ∧ 1 ≤ x ∧ x ≤ nrem ∧ Went a₀ st' lo (lo + nrem) st2 ∧ FallOn (arrOf st2) lo (lo + x) ∧ neq + 1 ≤ x ∧ ∀ i, lo + x - (neq + 1) ≤ i → i < lo + x → K (arrOf st2) i = K (arrOf st2) (lo + x - 1)) ?dstep ?dfin ⟨0, rfl, W1, N1, by omega, fun i q1 q2 => by congr 1; omega⟩) ?dpost)
    case dfin =>
      rintro c st2 ⟨neq, rfl, W2, N2, q1, q2⟩
      rw [show max (n + 1) nrem = nrem by omega] at N2 q1 q2 ⊢
      exact ⟨nrem, neq, rfl, h1, Nat.le_refl _, W2, N2, q1, q2⟩
    case dstep =>
      rintro x c st2 x1 x2 ⟨neq, rfl, W2, N2, q1, q2⟩
      dsimp only
      refine wpS_bind (wpS_ltB W2.base h0 (by omega) (by omega) ?_)
      dsimp only
      by_cases hl : K (arrOf st2) (lo + x) < K (arrOf st2) (lo + x - 1)
      · rw [if_pos (decide_eq_true hl)]
        have N3 := N2.snoc (by omega) (Int.le_of_lt hl)
        by_cases hq : neq > 0
        · rw [if_pos hq]
          refine wpS_bind (wpS_rev W2.base (by omega) fun st3 B3 P3 k3 => ?_)
          have kk : ∀ k, K (arrOf st3) k = K (arrOf st2) k := fun k => by
            rw [k3 k]
            by_cases c : lo + x - (neq + 1) ≤ k ∧ k < lo + x
            · rw [if_pos c, q2 _ (by omega) (by omega), q2 k c.1 c.2]
            · rw [if_neg c]
          exact wpS_pure ⟨0, rfl, W2.trans ⟨B3, P3, fun j _ => kk j⟩, N3.eq kk, by omega, fun i z1 z2 => by congr 1; omega⟩
        · rw [if_neg hq]
          exact wpS_pure ⟨0, rfl, W2, N3, by omega, fun i z1 z2 => by congr 1; omega⟩
      · rw [if_neg (fun z => hl (of_decide_eq_true z))]
        refine wpS_bind (wpS_ltB W2.base h0 (by omega) (by omega) ?_)
        dsimp only
        by_cases hg : K (arrOf st2) (lo + x - 1) < K (arrOf st2) (lo + x)
        · rw [if_pos (decide_eq_true hg)]
          exact wpS_pure ⟨x, neq, rfl, by omega, by omega, W2, N2, q1, q2⟩
        · rw [if_neg (fun z => hg (of_decide_eq_true z))]
          have he : K (arrOf st2) (lo + x) = K (arrOf st2) (lo + x - 1) := by omega
          refine wpS_pure ⟨neq + 1, rfl, W2, N2.snoc (by omega) (by omega), by omega, fun i z1 z2 => ?_⟩
          rw [show lo + (x + 1) - 1 = lo + x by omega]
          by_cases c : i = lo + x
          · rw [c]
          · rw [he]; exact q2 i (by omega) (by omega)
    case dpost =>
      rintro c st2 ⟨x, neq, rfl, x1, x2, W2, N2, q1, q2⟩
      dsimp only
      refine (fun (J2 : ∀ st3 : SortSt, Went a₀ st' lo (lo + nrem) st3 → FallOn (arrOf st3) lo (lo + x) → (?B2 : SortSt → Prop) st3) => ?main2) ?pf2
      case main2 =>
        by_cases hq : neq > 0
        · rw [if_pos hq]
          refine wpS_bind (wpS_rev W2.base (by omega) fun st3 B3 P3 k3 => ?_)
          have kk : ∀ k, K (arrOf st3) k = K (arrOf st2) k := fun k => by
            rw [k3 k]
            by_cases c : lo + x - (neq + 1) ≤ k ∧ k < lo + x
            · rw [if_pos c, q2 _ (by omega) (by omega), q2 k c.1 c.2]
            · rw [if_neg c]
          have W3 := W2.trans ⟨B3, P3, fun j _ => kk j⟩
          have N3 := N2.eq kk
          exact J2 st3 W3 N3
        · rw [if_neg hq]
          have W3 := W2
          have N3 := N2
          exact J2 st2 W3 N3
      intro st3 W3 N3
      refine wpS_bind (wpS_rev W3.base (by omega) fun st4 B4 P4 k4 => ?_)
      have W4 := W3.trans ⟨B4, P4, fun j hj => by rw [k4 j, if_neg (by omega)]⟩
      refine wpS_bind (wpS_mono (asc _ st4 x x1 x2 B4 ?_ ?_) ?_)
      · intro u v u1 uv v1
        rw [k4, k4, if_pos (by omega), if_pos (by omega)]
        exact N3 _ _ (by omega) (by omega) (by omega)
      · intro y m m1 m2 Q' q
        refine wpS_bind (wpS_ltB B4 h0 (by omega) (by omega) ?_)
        dsimp only
        by_cases hl : K (arrOf st4) (lo + m) < K (arrOf st4) (lo + m - 1)
        · rw [if_pos hl] at q
          rw [if_pos (decide_eq_true hl)]
          exact wpS_pure q
        · rw [if_neg hl] at q
          rw [if_neg (fun z => hl (of_decide_eq_true z))]
          exact wpS_pure q
      · rintro c st5 ⟨rfl, m, rfl, m1, m2, hs5, _⟩
        exact wpS_pure (h m _ W4 (by omega) m2 hs5)
theorem wpS_binary {st : SortSt} {lo n ok : Nat} {Q : Bool → SortSt → Prop} (h0 : PyProof.Rows.IntKeys a₀) (hn : lo + n ≤ a₀.size) (hok : ok ≤ n) (hok1 : 1 ≤ ok) (hB : SB a₀ st) (hs : SortedOn (arrOf st) lo (lo + ok))
    (h : ∀ st', Went a₀ st lo (lo + n) st' → SortedOn (arrOf st') lo (lo + n) → Q true st') : wpS (model prog w) A E s (binarySort' lo n ok) Q st := by
  refine wpS_bind (wpS_mono (wpS_forRange (I := fun k c st' => c = (none, ()) ∧ Went a₀ st lo (lo + n) st' ∧ SortedOn (arrOf st') lo (lo + k))
    (Q := fun c st' => c = (none, ()) ∧ Went a₀ st lo (lo + n) st' ∧ SortedOn (arrOf st') lo (lo + n)) ?step ?fin ⟨rfl, .refl hB, by rw [show max ok 1 = ok by omega]; exact hs⟩) ?post)
  case post =>
    rintro c st' ⟨rfl, W, hs'⟩
    exact wpS_pure (h st' W hs')
  case fin =>
    rintro c st' ⟨hc, W, hs'⟩
    refine ⟨hc, W, ?_⟩
    rwa [show max (max ok 1) n = n by omega] at hs'
  case step =>
    rintro k c st' hak hkn ⟨rfl, W, hs'⟩
    dsimp only
    refine wpS_bind (wpS_mono (wpS_forRange (I := fun x c st'' => st'' = st' ∧ ∃ l r, c = (none, l, r) ∧ l ≤ r ∧ r ≤ k ∧ r - l ≤ k - x ∧
        (∀ i, i < l → K (arrOf st') (lo + i) ≤ K (arrOf st') (lo + k)) ∧ (∀ i, r ≤ i → i < k → K (arrOf st') (lo + k) < K (arrOf st') (lo + i)))
      (Q := fun c st'' => st'' = st' ∧ ∃ l, c = (none, l, l) ∧ l ≤ k ∧
        (∀ i, i < l → K (arrOf st') (lo + i) ≤ K (arrOf st') (lo + k)) ∧ (∀ i, l ≤ i → i < k → K (arrOf st') (lo + k) < K (arrOf st') (lo + i))) ?istep ?ifin
        ⟨rfl, 0, k, rfl, by omega, by omega, by omega, fun i hi => by omega, fun i h1 h2 => by omega⟩) ?ipost)
    case ifin =>
      rintro c st'' ⟨rfl, l, r, rfl, a1, a2, a3, a4, a5⟩
      obtain rfl : l = r := by omega
      exact ⟨rfl, l, rfl, a2, a4, a5⟩
    case istep =>
      rintro x c st'' _ hx ⟨rfl, l, r, rfl, a1, a2, a3, a4, a5⟩
      dsimp only
      by_cases hge : l ≥ r
      · rw [if_pos hge]
        obtain rfl : l = r := by omega
        exact wpS_pure ⟨rfl, l, rfl, a2, a4, a5⟩
      rw [if_neg hge]
      refine wpS_bind (wpS_ltB W.base h0 (by omega) (by omega) ?_)
      dsimp only
      by_cases hl : K (arrOf st'') (lo + k) < K (arrOf st'') (lo + (l + r) / 2)
      · rw [if_pos (decide_eq_true hl)]
        exact wpS_pure ⟨rfl, l, (l + r) / 2, rfl, by omega, by omega, by omega, a4, fun i h1 h2 => Int.lt_of_lt_of_le hl (hs' _ _ (by omega) (by omega) (by omega))⟩
      · rw [if_neg (fun z => hl (of_decide_eq_true z))]
        exact wpS_pure ⟨rfl, (l + r) / 2 + 1, r, rfl, by omega, by omega, by omega, fun i h1 => Int.le_trans (hs' _ (lo + (l + r) / 2) (by omega) (by omega) (by omega)) (Int.not_lt.mp hl), a5⟩
    case ipost =>
      rintro c st'' ⟨rfl, l, rfl, a2, a4, a5⟩
      dsimp only
      have hks : lo + k < (arrOf st'').size := by rw [W.base.size]; omega
      have kb := fun j => K_bubble (xs := arrOf st'') (src := lo + k) (d := lo + k - (lo + l)) hks (by omega) j
      rw [show lo + k - (lo + k - (lo + l)) = lo + l by omega] at kb
      refine wpS_bind (wpS_modify (wpS_pure ⟨rfl, W.trans ⟨⟨(bubble_perm _ _ _).trans W.base.perm, W.base.kind, W.base.failed⟩, rfl, fun j hj => ?_⟩, ?_⟩))
      · refine (kb j).trans ?_
        rw [if_neg (by omega), if_neg (by omega)]
      · intro u v u1 uv v1
        show K (bubble (arrOf st'') (lo + k) (lo + k - (lo + l))) u ≤ K (bubble (arrOf st'') (lo + k) (lo + k - (lo + l))) v
        have lo1 : ∀ j, lo ≤ j → j < lo + l → K (arrOf st'') j ≤ K (arrOf st'') (lo + k) := fun j j1 j2 => by
          have := a4 (j - lo) (by omega)
          rwa [show lo + (j - lo) = j by omega] at this
        have hi1 : ∀ j, lo + l ≤ j → j < lo + k → K (arrOf st'') (lo + k) < K (arrOf st'') j := fun j j1 j2 => by
          have := a5 (j - lo) (by omega) (by omega)
          rwa [show lo + (j - lo) = j by omega] at this
        rw [kb, kb]
        repeat' split
        all_goals first
          | (exfalso; omega)
          | exact Int.le_refl _
          | exact lo1 _ (by omega) (by omega)
          | exact Int.le_of_lt (hi1 _ (by omega) (by omega))
          | exact hs' _ _ (by omega) (by omega) (by omega)
end
end L2
set_option Elab.async false
set_option linter.all false
set_option maxRecDepth 100000
namespace L2
open PySem PySem.Spec PyProof.Rows
def Cvr (xs : Array Keyed) : Nat → List (Nat × Nat × Nat) → Nat → Prop
  | s, [], e => s = e
  | s, t :: p, e => t.1 = s ∧ 1 ≤ t.2.1 ∧ SortedOn xs s (s + t.2.1) ∧ Cvr xs (s + t.2.1) p e
theorem Cvr.append {xs : Array Keyed} : ∀ {l r : List (Nat × Nat × Nat)} {s e : Nat}, Cvr xs s (l ++ r) e → ∃ m, Cvr xs s l m ∧ Cvr xs m r e
  | [], r, s, e, h => ⟨s, rfl, h⟩
  | t :: l, r, s, e, ⟨h1, h2, h3, h4⟩ => by
    obtain ⟨m, a, b⟩ := Cvr.append h4
    exact ⟨m, ⟨h1, h2, h3, a⟩, b⟩
theorem Cvr.join {xs : Array Keyed} : ∀ {l r : List (Nat × Nat × Nat)} {s m e : Nat}, Cvr xs s l m → Cvr xs m r e → Cvr xs s (l ++ r) e
  | [], r, s, m, e, h, h' => by
    have : s = m := h
    subst this; exact h'
  | t :: l, r, s, m, e, ⟨h1, h2, h3, h4⟩, h' => ⟨h1, h2, h3, Cvr.join h4 h'⟩
theorem Cvr.le {xs : Array Keyed} : ∀ {l : List (Nat × Nat × Nat)} {s e : Nat}, Cvr xs s l e → s + l.length ≤ e
  | [], s, e, h => by
    have : s = e := h
    subst this; simp
  | t :: l, s, e, ⟨h1, h2, h3, h4⟩ => by
    have := Cvr.le h4
    rw [List.length_cons]; omega
theorem Cvr.congr {xs ys : Array Keyed} : ∀ {l : List (Nat × Nat × Nat)} {s e : Nat}, (∀ j, s ≤ j → j < e → K ys j = K xs j) → Cvr xs s l e → Cvr ys s l e
  | [], s, e, _, h => h
  | t :: l, s, e, hk, ⟨h1, h2, h3, h4⟩ => by
    have := Cvr.le h4
    refine ⟨h1, h2, fun u v a b c => ?_, Cvr.congr (fun j j1 j2 => hk j (by omega) j2) h4⟩
    rw [hk u a (by omega), hk v (by omega) (by omega)]
    exact h3 u v a b c
theorem Cvr.same {xs : Array Keyed} : ∀ {l r : List (Nat × Nat × Nat)} {s e : Nat}, l.map (fun t => (t.1, t.2.1)) = r.map (fun t => (t.1, t.2.1)) → Cvr xs s l e → Cvr xs s r e
  | [], [], s, e, _, h => h
  | [], _ :: _, s, e, q, h => by cases q
  | _ :: _, [], s, e, q, h => by cases q
  | t :: l, t' :: r, s, e, q, ⟨h1, h2, h3, h4⟩ => by
    simp only [List.map_cons, List.cons.injEq, Prod.mk.injEq] at q
    obtain ⟨⟨q1, q2⟩, q3⟩ := q
    refine ⟨by rw [← q1]; exact h1, by rw [← q2]; exact h2, by rw [← q2]; exact h3, ?_⟩
    rw [← q2]
    exact Cvr.same q3 h4
theorem modify_same {α β : Type} {g : α → β} (f : α → α) (h : ∀ x, g (f x) = g x) : ∀ (l : List α) (i : Nat), (l.modify i f).map g = l.map g
  | [], _ => by simp
  | x :: l, 0 => by simp [h]
  | x :: l, i + 1 => by simp [modify_same f h l i]
theorem ite_less (c : Prop) [Decidable c] (n : Nat) : (if c then n - 2 - 1 else n - 2) ≤ n - 2 := by split <;> omega
theorem set_erase (l r : List (Nat × Nat × Nat)) (a b c : Nat × Nat × Nat) : ((l ++ a :: b :: r).set l.length c).eraseIdx (l.length + 1) = l ++ c :: r := by
  induction l with
  | nil => rfl
  | cons x l ih => simpa using ih
theorem two_of {p : List (Nat × Nat × Nat)} {i : Nat} (h : i + 1 < p.length) : ∃ l a b r, p = l ++ a :: b :: r ∧ l.length = i := by
  refine ⟨p.take i, p[i], p[i + 1], p.drop (i + 2), ?_, by simp; omega⟩
  rw [← List.drop_eq_getElem_cons (i := i + 1) h, ← List.drop_eq_getElem_cons (i := i) (by omega), List.take_append_drop]
section
variable {prog : Program} {w : World} {A : Around} {E : Value → Shared → Prop} {s : Shared} {a₀ : Array Keyed}
theorem wpS_mergeC {st : SortSt} {Q : Bool → SortSt → Prop} {i e : Nat} (h0 : PyProof.Rows.IntKeys a₀) (hB : SB a₀ st) (hc : Cvr (arrOf st) 0 (pendingOf st).toList e) (he : e ≤ a₀.size) (hi : i + 1 < (pendingOf st).size)
    (h : ∀ st', SB a₀ st' → Cvr (arrOf st') 0 (pendingOf st').toList e → (pendingOf st').size + 1 = (pendingOf st).size → (∀ j, e ≤ j → K (arrOf st') j = K (arrOf st) j) → Q true st') : wpS (model prog w) A E s (mergeAt' i) Q st := by
  obtain ⟨l, ta, tb, r, ep, hl⟩ := two_of (p := (pendingOf st).toList) (i := i) (by simpa using hi)
  obtain ⟨sa, na, pw⟩ := ta
  obtain ⟨sb, nb, pw2⟩ := tb
  have hc0 := hc
  rw [ep] at hc
  obtain ⟨m, c1, c2⟩ := hc.append
  obtain ⟨d1, d2, d3, d4, d5, d6, d7⟩ := c2
  simp only at d1 d2 d3 d4 d5 d6 d7
  have z := d7.le
  have e1 : (pendingOf st)[i]? = some (sa, na, pw) := by
    rw [← Array.getElem?_toList, ep, List.getElem?_append_right (by omega), hl, Nat.sub_self]; rfl
  have e2 : (pendingOf st)[i + 1]? = some (sb, nb, pw2) := by
    rw [← Array.getElem?_toList, ep, List.getElem?_append_right (by omega), hl, show i + 1 - i = 1 by omega]; rfl
  subst d1
  refine wpS_mergeAt h0 hB e1 e2 d4 d2 d5 (by omega) (by rw [d4]; exact d3) (by rw [d4]; exact d6) fun st' ⟨B', P', S', K'⟩ => h st' B' ?_ ?_ (fun j hj => K' j (.inr (by omega)))
  · rw [P', Array.toList_eraseIdxIfInBounds, Array.toList_setIfInBounds, ep, ← hl, set_erase]
    refine Cvr.join (m := sa) (c1.congr fun j j1 j2 => K' j (.inl j2)) ⟨rfl, Nat.le_trans d2 (Nat.le_add_right _ _), ?_, ?_⟩
    · show SortedOn (arrOf st') sa (sa + (na + nb))
      rw [show sa + (na + nb) = sb + nb by omega]
      exact S'
    · show Cvr (arrOf st') (sa + (na + nb)) r e
      rw [show sa + (na + nb) = sa + na + nb by omega]
      exact d7.congr fun j j1 j2 => K' j (.inr (by omega))
  · rw [← Array.length_toList, P', Array.toList_eraseIdxIfInBounds, Array.toList_setIfInBounds, ← Array.length_toList (xs := pendingOf st), ep, ← hl, set_erase]
    simp only [List.length_append, List.length_cons]; omega
theorem wpS_runs {st : SortSt} {Q : Unit → SortSt → Prop} (h0 : PyProof.Rows.IntKeys a₀) (hB : SBase a₀ st) (h2 : 2 ≤ a₀.size)
    (h : ∀ st', (arrOf st').Perm a₀ → failedOf st' = none → SortedTo (arrOf st') a₀.size → Q () st') : wpS (model prog w) A E s sortRuns' Q st := by
  have B0 : SB a₀ st := ⟨hB.perm, hB.kind, hB.failed⟩
  refine wpS_bind (wpS_get ?_)
  have hsz : (arrOf st).size = a₀.size := B0.size
  dsimp only
  rw [hsz]
  generalize hmr : (sortPriv% PySem.Builtin.minRun) a₀.size a₀.size 0 = mr
  refine wpS_bind (wpS_mono (wpS_forRange (I := fun x c st' => ∃ lo, c = (none, lo) ∧ SB a₀ st' ∧ Cvr (arrOf st') 0 (pendingOf st').toList lo ∧ lo ≤ a₀.size ∧ (x ≤ lo ∨ lo = a₀.size))
    (Q := fun c st' => ∃ lo, c = (none, lo) ∧ SB a₀ st' ∧ Cvr (arrOf st') 0 (pendingOf st').toList a₀.size) ?step ?fin ⟨0, rfl, B0, ?_, by omega, .inl (Nat.le_refl _)⟩) ?post)
  case step =>
    rintro x c st' _ hx ⟨lo, rfl, B, C, l1, l2⟩
    dsimp only
    by_cases hge : lo ≥ a₀.size
    · rw [if_pos hge]
      obtain rfl : lo = a₀.size := by omega
      exact wpS_pure ⟨_, rfl, B, C⟩
    rw [if_neg hge]
    refine wpS_bind (wpS_count h0 (by omega) (by omega) B fun m st1 W1 m1 m2 S1 => ?_)
    dsimp only
    have C1 : Cvr (arrOf st1) 0 (pendingOf st1).toList lo := by
      rw [W1.pend]
      exact C.congr fun j _ j2 => W1.out j (.inl j2)
    by_cases hmm : m < mr
    case' pos =>
      rw [if_pos hmm]
      refine wpS_bind (wpS_lift (wpAny_rule ⟨rfl, ?_⟩))
      refine wpS_bind (wpS_binary h0 (n := min (a₀.size - lo) mr) (by omega) (by omega) m1 W1.base S1 fun st2 W2 S2 => ?_)
      rw [if_neg (by decide)]
      have C2 : Cvr (arrOf st2) 0 (pendingOf st2).toList lo := by
        rw [W2.pend]
        exact C1.congr fun j _ j2 => W2.out j (.inl j2)
      have B2 := W2.base
      have n1 : 1 ≤ min (a₀.size - lo) mr := by omega
      have n2 : min (a₀.size - lo) mr ≤ a₀.size - lo := by omega
      generalize min (a₀.size - lo) mr = n at S2 n1 n2 ⊢
    case' neg =>
      rw [if_neg hmm]
      have S2 := S1
      have C2 := C1
      have B2 := W1.base
      have n1 := m1
      have n2 := m2
      generalize m = n at S2 n1 n2 ⊢
    all_goals
      refine wpS_bind (wpS_get ?_)
      have last : ∀ st3 : SortSt, SB a₀ st3 → Cvr (arrOf st3) 0 (pendingOf st3).toList lo → SortedOn (arrOf st3) lo (lo + n) → Cvr (arrOf st3) 0 ((pendingOf st3).push (lo, n, 0)).toList (lo + n) := fun st3 B3 C3 S3 => by
        rw [Array.toList_push]
        exact C3.join ⟨rfl, n1, S3, rfl⟩
      have fin : ∀ st3 : SortSt, SB a₀ st3 → Cvr (arrOf st3) 0 (pendingOf st3).toList lo → SortedOn (arrOf st3) lo (lo + n) →
          ∃ lo', (none, lo + n) = ((none : Option Unit), lo') ∧ SB a₀ (SortSt.mk' (kindOf st3) (arrOf st3) ((pendingOf st3).push (lo, n, 0)) (gallopOf st3) (failedOf st3)) ∧ Cvr (arrOf st3) 0 ((pendingOf st3).push (lo, n, 0)).toList lo' ∧ lo' ≤ a₀.size ∧ (x + 1 ≤ lo' ∨ lo' = a₀.size) := fun st3 B3 C3 S3 =>
        ⟨lo + n, rfl, ⟨B3.perm, B3.kind, B3.failed⟩, last st3 B3 C3 S3, by omega, by omega⟩
      cases hb : (pendingOf _).back? with
      | none =>
        exact wpS_bind (wpS_modify (wpS_pure (fin _ B2 C2 S2)))
      | some t =>
        obtain ⟨s1, k1, g1⟩ := t
        dsimp only
        refine wpS_bind (wpS_mono (wpS_forRange (I := fun _ c st3 => c = ((none : Option Unit), ()) ∧ SB a₀ st3 ∧ Cvr (arrOf st3) 0 (pendingOf st3).toList lo ∧ SortedOn (arrOf st3) lo (lo + n))
          (Q := fun c st3 => c = ((none : Option Unit), ()) ∧ SB a₀ st3 ∧ Cvr (arrOf st3) 0 (pendingOf st3).toList lo ∧ SortedOn (arrOf st3) lo (lo + n)) ?_ (fun _ _ q => q) ⟨rfl, B2, C2, S2⟩) ?_)
        · rintro y c st3 _ _ ⟨rfl, B3, C3, S3⟩
          refine wpS_bind (wpS_get ?_)
          by_cases hp : (pendingOf st3).size > 1
          · rw [if_pos hp]
            have ep : (pendingOf st3)[(pendingOf st3).size - 2]? = some ((pendingOf st3)[(pendingOf st3).size - 2]'(by omega)) := getElem?_pos (pendingOf st3) _ (by omega)
            rw [ep]
            generalize (pendingOf st3)[(pendingOf st3).size - 2]'(by omega) = t3
            obtain ⟨t31, t32, t33⟩ := t3
            dsimp only
            by_cases ho : t33 ≤ (sortPriv% PySem.Builtin.power) a₀.size (2 * s1 + k1) (2 * s1 + k1 + k1 + n) a₀.size
            · rw [if_pos ho]
              exact wpS_pure ⟨rfl, B3, C3, S3⟩
            · rw [if_neg ho]
              have hp2 : (pendingOf st3).size - 2 + 1 < (pendingOf st3).size := by omega
              refine wpS_bind (wpS_mergeC h0 B3 C3 l1 hp2 fun st4 B4 C4 _ K4 => ?_)
              rw [if_neg (by decide)]
              refine wpS_pure ⟨rfl, B4, C4, fun u v a b c => ?_⟩
              rw [K4 u (by omega), K4 v (by omega)]
              exact S3 u v a b c
          · rw [if_neg hp]
            exact wpS_pure ⟨rfl, B3, C3, S3⟩
        · rintro c st3 ⟨rfl, B3, C3, S3⟩
          dsimp only
          refine wpS_bind (wpS_modify ?_)
          have B4 : SB a₀ (SortSt.mk' (kindOf st3) (arrOf st3) ((pendingOf st3).modify ((pendingOf st3).size - 1) fun x => (x.1, x.2.1, (sortPriv% PySem.Builtin.power) a₀.size (2 * s1 + k1) (2 * s1 + k1 + k1 + n) a₀.size)) (gallopOf st3) (failedOf st3)) := ⟨B3.perm, B3.kind, B3.failed⟩
          refine wpS_bind (wpS_modify (wpS_pure (fin _ B4 ?_ S3)))
          refine Cvr.same ?_ C3
          show _ = ((pendingOf st3).modify _ _).toList.map _
          rw [Array.toList_modify]
          refine (modify_same (g := fun t : Nat × Nat × Nat => (t.1, t.2.1)) _ ?_ _ _).symm
          exact fun _ => rfl
  case fin =>
    rintro c st' ⟨lo, rfl, B, C, l1, l2⟩
    obtain rfl : lo = a₀.size := by omega
    exact ⟨_, rfl, B, C⟩
  case post =>
    rintro c st' ⟨lo, rfl, B, C⟩
    dsimp only
    have pz := C.le
    rw [Array.length_toList] at pz
    refine wpS_bind (wpS_mono (wpS_forRange (I := fun x c st2 => c = ((none : Option Unit), ()) ∧ SB a₀ st2 ∧ Cvr (arrOf st2) 0 (pendingOf st2).toList a₀.size ∧ ((pendingOf st2).size ≤ 1 ∨ (pendingOf st2).size + x ≤ a₀.size))
      (Q := fun c st2 => c = ((none : Option Unit), ()) ∧ SB a₀ st2 ∧ Cvr (arrOf st2) 0 (pendingOf st2).toList a₀.size ∧ (pendingOf st2).size ≤ 1) ?_ ?_ ⟨rfl, B, C, .inr (by omega)⟩) ?_)
    · rintro x c st2 _ hx ⟨rfl, B2, C2, q⟩
      refine wpS_bind (wpS_get ?_)
      by_cases hp : (pendingOf st2).size ≤ 1
      · rw [if_pos hp]
        exact wpS_pure ⟨rfl, B2, C2, hp⟩
      rw [if_neg hp]
      refine wpS_bind (wpS_mergeC h0 B2 C2 (Nat.le_refl _) ?_ fun st4 B4 C4 z4 K4 => ?_)
      · refine Nat.lt_of_le_of_lt (Nat.add_le_add_right (ite_less _ _) 1) ?_
        show (pendingOf st2).size - 2 + 1 < (pendingOf st2).size
        omega
      · rw [if_neg (by decide)]
        exact wpS_pure ⟨rfl, B4, C4, by omega⟩
    · rintro c st2 ⟨rfl, B2, C2, q⟩
      exact ⟨rfl, B2, C2, by omega⟩
    · rintro c st2 ⟨rfl, B2, C2, q⟩
      refine wpS_pure (h _ B2.perm B2.failed ?_)
      cases ep : (pendingOf st2).toList with
      | nil =>
        rw [ep] at C2
        have : 0 = a₀.size := C2
        omega
      | cons t r =>
        cases r with
        | cons _ _ =>
          have := congrArg List.length ep
          rw [Array.length_toList, List.length_cons, List.length_cons] at this
          omega
        | nil =>
          rw [ep] at C2
          obtain ⟨_, _, S2, e2⟩ := C2
          have e2 : 0 + t.2.1 = a₀.size := e2
          rw [e2] at S2
          exact fun i j a b => S2 i j (Nat.zero_le _) a b
  · show Cvr (arrOf st) 0 (pendingOf st).toList 0
    rw [hB.pend]
    rfl
end
end L2
set_option Elab.async false
set_option linter.all false
set_option maxRecDepth 100000
namespace L2
open PySem PySem.Spec PyProof.Rows
section
variable {prog : Program} {w : World} {A : Around} {E : Value → Shared → Prop} {s : Shared}
theorem sort_treeR {a : Addr} {vs : List Value} {ns : List Int} {n : Nat} {b : Bool} {P : Fin → Shared → Prop} (ho : s.heap.get? a = some (seqObj "list" vs.toArray n))
    (hI : IntsAre vs ns) (hz : vs.length ≤ sizeLine)
    (h : ∀ (out : Array Value) (ns' : List Int), IntsAre out.toList ns' → ns'.Perm ns → Ordered b ns' → P (.done (.ret .none)) { s with heap := sortedHeap s.heap a vs out }) :
    wpAny (model prog w) A (Builtin.«list.sort» ⟨[.ref a], [(Str.ofString "reverse", .bool b)]⟩) P E s := by
  by_cases h64 : vs.length < 64
  · exact list_sort_tree_rev ho hI h64 h
  have lv : vs.toArray.size = vs.length := by simp
  have zz : (vs.toArray.zip vs.toArray).size = vs.length := by rw [Array.size_zip, lv, Nat.min_self]
  have n2 : ¬ vs.toArray.size < 2 := by omega
  have ha : a < s.heap.objs.size := Heap.lt_size ho
  have big : vs.length ≤ sizeLine + 1 := Nat.le_succ_of_le hz
  obtain ⟨e1, ho1⟩ : ∃ e1, (s.heap.update a (Obj.mapSeq fun _ => #[])).get? a = some (seqObj "list" #[] e1) := ⟨_, get?_update_seq ho (fun _ => #[])⟩
  have ho6 : (((s.heap.update a (Obj.mapSeq fun _ => #[])).push (seqObj "tuple" vs.toArray 0)).push (seqObj "list" #[] 0)).get? a = some (seqObj "list" #[] e1) := by
    have q1 : a < (s.heap.update a (Obj.mapSeq fun _ => #[])).objs.size := by rw [Heap.size_update]; exact ha
    have q2 : a < ((s.heap.update a (Obj.mapSeq fun _ => #[])).push (seqObj "tuple" vs.toArray 0)).objs.size := by rw [size_push']; exact Nat.lt_succ_of_lt q1
    rw [Heap.get?_push_ne _ _ _ (Nat.ne_of_lt q2), Heap.get?_push_ne _ _ _ (Nat.ne_of_lt q1)]
    exact ho1
  have start : (if b = true then (vs.toArray.zip vs.toArray).reverse else vs.toArray.zip vs.toArray).Perm (pairsOf vs) := by
    cases b with
    | false => exact .refl _
    | true => exact Array.perm_iff_toList_perm.mpr (by rw [if_pos rfl, Array.toList_reverse]; exact List.reverse_perm _)
  rw [list_sort_rev]
  refine wpAny_bind (listItems_at ho rfl (wpAny_bind (listUpdate_at ho rfl (wpAny_bind (seqEpoch_at ho1 rfl (wpAny_bind (wpAny_newTuple (wpAny_bind (wpAny_newList (wpAny_holding ?_))))))))))
  have after : ∀ u : Sem Fin, wpAny (model prog w) A u P E { s with heap := ((s.heap.update a (Obj.mapSeq fun _ => #[])).push (seqObj "tuple" vs.toArray 0)).push (seqObj "list" #[] 0) } →
      wpAny (model prog w) A (if b = true then rule "list.sort.reverse" >>= fun _ => u else u) P E { s with heap := ((s.heap.update a (Obj.mapSeq fun _ => #[])).push (seqObj "tuple" vs.toArray 0)).push (seqObj "list" #[] 0) } := fun u hu => by
    cases b with
    | true => rw [if_pos rfl]; exact wpAny_bind (wpAny_rule hu)
    | false => rw [if_neg Bool.false_ne_true]; exact hu
  dsimp only
  refine after _ ?_
  rw [if_neg n2, if_neg n2]
  obtain ⟨v1, v2, r, rfl⟩ : ∃ v1 v2 r, vs = v1 :: v2 :: r := by
    match vs, h64 with
    | [], q => exact absurd (by decide) q
    | [_], q => exact absurd (by simp) q
    | v1 :: v2 :: r, _ => exact ⟨v1, v2, r, rfl⟩
  rw [keyKind_ints hI]
  refine wpAny_bind (wpAny_pure (wpAny_bind (wpAny_mono (wpS_runs (Q := fun _ st' => (arrOf st').Perm (pairsOf (v1 :: v2 :: r)) ∧ failedOf st' = none ∧ SortedTo (arrOf st') (pairsOf (v1 :: v2 :: r)).size)
    hI.intKeys ⟨start, rfl, rfl, rfl⟩ (by rw [pairsOf_size]; simp) fun st' a1 a2 a3 => ⟨a1, a2, a3⟩) (fun q s' hq => ?_) fun _ _ e => e)))
  obtain ⟨⟨⟩, st'⟩ := q
  obtain ⟨rfl, hp, hf, hs⟩ := hq
  dsimp only
  have sz : ((arrOf st').map (·.2)).size ≤ sizeLine + 1 := by
    rw [Array.size_map, hp.size_eq, pairsOf_size]; exact big
  refine wpAny_bind (seqEpoch_at ho6 rfl (wpAny_bind (listUpdate_at ho6 rfl ?_ (hsz2 := by
    cases b with
    | true => rw [if_pos rfl, Array.size_reverse]; exact sz
    | false => rw [if_neg Bool.false_ne_true]; exact sz))))
  rw [hf]
  simp only [bne_self_eq_false, Bool.false_eq_true, if_false]
  obtain ⟨ns', q1, q2, q3⟩ := sorted_out_rev hI hp hs b
  exact wpAny_pure (h _ ns' q1 q2 q3)
theorem sorted_collB {x : Value} {ns : List Int} {b : Bool} {Q : Value → Shared → Prop} (hz : ns.length ≤ sizeLine)
    (hc : ∀ (R : List Value → Shared → Prop), (∀ h' tk (vs : List Value), (∀ b o, s.heap.get? b = some o → h'.get? b = some o) → IntsAre vs ns → R vs { s with heap := h', toks := tk }) → wpAny (model prog w) A.in1 (collect x) R E s)
    (h : ∀ (out : List Value) (n : Nat) (h1 h' : Heap) (tk : Nat) (ns' : List Int), (∀ b o, s.heap.get? b = some o → h1.get? b = some o) → (∀ b o, h1.get? b = some o → h'.get? b = some o) → h'.get? h1.objs.size = some (seqObj "list" out.toArray n) → IntsAre out ns' → ns'.Perm ns → Ordered b ns' → Q (.ref h1.objs.size) { s with heap := h', toks := tk }) :
    wpAny (model prog w) A (call (.builtin "sorted") [x] [(Str.ofString "reverse", .bool b)]) Q E s := by
  refine call_function_entry_kw kind_sorted plain_sorted entry_sorted (args_sorted_rev _ _) ?_
  unfold Builtin.«sorted»
  refine wpAny_bind (m := checkCount "sorted" 1 1 _) (wpAny_pure ?_)
  refine wpAny_bind (hc _ fun h1 tk vs hk1 hI => ?_)
  have hlv : vs.length ≤ sizeLine := by rw [← hI.length] at hz; exact hz
  refine wpAny_bind (wpAny_newList ?_ hlv)
  have hoL : (h1.push (seqObj "list" vs.toArray 0)).get? h1.objs.size = some (seqObj "list" vs.toArray 0) := Heap.get?_push_size _ rfl
  refine wpAny_bind (wpAny_holding (wpAny_call_entry_kw slot_list_sort ⟨_, hoL, rfl⟩ entry_list_sort (sort_treeR hoL hI hlv fun out ns' a1 a2 a3 => ⟨_, rfl, ?_⟩) (args_list_sort_rev _ _)))
  obtain ⟨e, he⟩ := sortedHeap_at (vs := vs) (out := out) hoL
  refine wpAny_pure ⟨_, rfl, h out.toList e h1 _ tk ns' hk1 (fun b o hb => ?_) he a1 a2 a3⟩
  have hlt := Heap.lt_size hb
  rw [sortedHeap_old (Nat.ne_of_lt hlt) (by rw [Heap.size_push]; exact Nat.lt_succ_of_lt hlt)]
  exact Heap.get?_push_of_some _ hb
end
section
variable {X : Cx}
def rSortRB (K : PySem.W.Frag) (b : Bool) : V → Hp → VK → Prop := fun x H Q => ∃ a ns, x = .ref a ∧ (SqL K H a (ns.map V.int) ∨ SqT K H a (ns.map V.int)) ∧ ns.length ≤ sizeLine ∧ ∀ ns' p, ns'.Perm ns → Ordered b ns' → H p = none → Q (.ref p) (upd H p (.lst (ns'.map V.int)))
def tSortRB (K : PySem.W.Frag) (b : Bool) (te : TE) : TE := fun σ H Q => te σ H fun x H1 => rSortRB K b x H1 Q
theorem pe_sortRB {e : Expr} {te : TE} {b : Bool} {p kp cp pos : Pos} {j : Nat} (hg : Gl X "sorted") (hm : X.mg "sorted" = none) (he : PE X e te)
    (hse : starEach [e] X.env = [(false, eval e X.env)] := by rfl) : PE X (.Call (.Name "sorted" p) [e] [⟨some "reverse", .Constant (.bool b) j cp, kp⟩] pos) (tSortRB X.K b te) := by
  intro pins s σ H Q I h
  refine wpAny_Call_Name_kw (ld_blt I hg hm boot_sorted ?_ (by decide) (by decide))
  refine callWith_kw (thn (pa_cons he pa_nil hse pos pins s σ H (fun vs H1 => match vs with | [x] => rSortRB X.K b x H1 Q | _ => False) I h) fun us s1 ⟨vs, H1, I1, r1, q1⟩ => ?_) (by rw [hse]; rfl) (by rw [hse]; rfl)
  match vs, r1, q1 with
  | [x], r1, q =>
    obtain ⟨u, rfl, ru⟩ := vals1 r1
    refine kws_cons (Constant_bool (kws_nil ?_))
    obtain ⟨a, ns, rfl, hq, hl, q⟩ := q
    cases ru
    show wpAny _ _ (call (.builtin "sorted") [.ref a] [(Str.ofString "reverse", .bool b)]) _ _ _
    have fin : ∀ (out : List Value) (n : Nat) (h1 h' : Heap) (tk : Nat) (ns' : List Int), (∀ b o, s1.heap.get? b = some o → h1.get? b = some o) → (∀ b o, h1.get? b = some o → h'.get? b = some o) → h'.get? h1.objs.size = some (seqObj "list" out.toArray n) → IntsAre out ns' → ns'.Perm ns → Ordered b ns' → ∃ v H', Inv X pins σ H' { s1 with heap := h', toks := tk } ∧ RelV v (.ref h1.objs.size) ∧ Q v H' := fun out n h1 h' tk ns' k1 k2 e a1 a2 a3 => by
      have hz' : (ns'.map V.int).length ≤ sizeLine := by rw [List.length_map, a2.length_eq]; exact hl
      have I2 : Inv X pins σ H1 { s1 with heap := h1, toks := tk } := I1.kept (t' := tk) k1
      exact ⟨.ref _, _, I2.laid (t' := tk) k2 (Nat.le_refl _) (show ObjOk X.prog X.w _ _ _ (.lst (ns'.map V.int)) from ⟨hz', out, n, vals_ints a1, by simpa [seqObj] using e⟩), rfl, q ns' _ a2 a3 (I2.hok.fresh (Nat.le_refl _))⟩
    rcases hq with hq | hq
    · obtain ⟨its, r', pl, hz⟩ := I1.list hq
      obtain ⟨o, ho, hc, n, hd⟩ := pl.isList
      have hlen := r'.length
      rw [List.length_map] at hlen
      exact sorted_collB hl (fun R hR => wpAny_collect_seq a (.inl rfl) ho hc hd (fun h1 hk1 => hR h1 s1.toks its hk1 (intsAre_of r')) (by rw [List.size_toArray]; omega)) fin
    · obtain ⟨its, r', pl, hz⟩ := I1.tuple hq
      obtain ⟨o, ho, hc, n, hd⟩ := pl
      have hlen := r'.length
      rw [List.length_map] at hlen
      exact sorted_collB hl (fun R hR => wpAny_collect_seq a (.inr rfl) ho hc hd (fun h1 hk1 => hR h1 s1.toks its hk1 (intsAre_of r')) (by rw [List.size_toArray]; omega)) fin
end
end L2
set_option Elab.async false
set_option linter.all false
set_option maxRecDepth 100000
namespace L2
open PySem PySem.Spec PyProof.Rows
end L2
set_option Elab.async false
set_option linter.all false
set_option maxRecDepth 100000
namespace L2
open PySem PySem.Spec PyProof.Rows
section
variable {prog : Program} {w : World} {A : Around} {E : Value → Shared → Prop} {s : Shared}
end
end L2
set_option Elab.async false
set_option linter.all false
set_option maxRecDepth 100000
namespace L2
open PySem PySem.Spec PyProof.Rows
def maxL (f : Nat → Nat) : List Int → Nat
  | [] => 0
  | j :: c => max (f j.toNat) (maxL f c)
theorem maxL_le {f : Nat → Nat} {B : Nat} (h : ∀ j, f j ≤ B) : ∀ c, maxL f c ≤ B
  | [] => Nat.zero_le _
  | j :: c => by
    have := h j.toNat
    have := maxL_le h c
    rw [maxL]
    omega
theorem flat_count_none {α : Type} (f : α → List Int) (x : Int) : ∀ ds : List α, (∀ d ∈ ds, x ∉ f d) → (ds.flatMap f).count x = 0 := fun ds h => List.count_eq_zero_of_not_mem fun z => by
  obtain ⟨d, hd, hx⟩ := List.mem_flatMap.mp z
  exact h d hd hx
theorem flat_count_one {α : Type} (f parts : α → List Int) (x : Int) (d0 : α) : ∀ ds : List α, (ds.flatMap parts).Nodup → (∀ d ∈ ds, ∀ y ∈ f d, y ∈ parts d) → d0 ∈ ds → x ∈ parts d0 → (ds.flatMap f).count x = (f d0).count x
  | [], _, _, h, _ => by cases h
  | d :: ds, hn, hp, hd, hx => by
    rw [List.flatMap_cons] at hn
    have hn2 := (List.nodup_append.mp hn).2.1
    have hdj := (List.nodup_append.mp hn).2.2
    rw [List.flatMap_cons, List.count_append]
    rcases List.mem_cons.mp hd with e | hd
    · subst e
      rw [flat_count_none f x ds fun d' hd' hx' => hdj x hx x (List.mem_flatMap.mpr ⟨d', hd', hp d' (List.mem_cons_of_mem _ hd') x hx'⟩) rfl]
      rfl
    · have h0 : (f d).count x = 0 := List.count_eq_zero_of_not_mem fun z => hdj x (hp d (by simp) x z) x (List.mem_flatMap.mpr ⟨d0, hd, hx⟩) rfl
      rw [h0, Nat.zero_add]
      exact flat_count_one f parts x d0 ds hn2 (fun d' hd' => hp d' (List.mem_cons_of_mem _ hd')) hd hx
theorem flat_sum {α : Type} (f : α → List Int) : ∀ ds : List α, (ds.flatMap f).sum = (ds.map fun d => (f d).sum).sum
  | [] => rfl
  | d :: ds => by rw [List.flatMap_cons, List.sum_append, flat_sum f ds, List.map_cons, List.sum_cons]
theorem cols_sum {α : Type} {ds : List α} {row : α → Nat → List Int} {lev : α → Nat → Nat} {parts : α → List Int} {A : List (List Int)} (hn : (ds.flatMap parts).Nodup)
    (hp : ∀ d ∈ ds, ∀ v, ∀ x ∈ row d v, x ∈ parts d) (hz : ∀ d ∈ ds, row d 0 = []) (hl : ∀ d ∈ ds, ∀ j, lev d j ≤ 2) (hm : ∀ d ∈ ds, ∀ v w x, v ≤ w → w ≤ 2 → (row d v).count x ≤ (row d w).count x)
    (hA : ∀ j x, (A.getD j []).count x = (ds.flatMap fun d => row d (lev d j)).count x) (c : List Int) : (joinX (pickG A c)).sum = (ds.map fun d => (row d (maxL (lev d) c)).sum).sum := by
  rw [← flat_sum fun d => row d (maxL (lev d) c)]
  refine perm_sum (List.perm_iff_count.mpr fun x => ?_)
  rw [(joinX_is _).2]
  by_cases hx : ∃ d0 ∈ ds, x ∈ parts d0
  · obtain ⟨d0, hd0, hx0⟩ := hx
    rw [flat_count_one (fun d => row d (maxL (lev d) c)) parts x d0 ds hn (fun d hd => hp d hd _) hd0 hx0]
    unfold pickG
    induction c with
    | nil =>
      show 0 = (row d0 0).count x
      rw [hz d0 hd0]
      rfl
    | cons j c ih =>
      rw [List.map_cons, maxC, ih, hA, flat_count_one (fun d => row d (lev d j.toNat)) parts x d0 ds hn (fun d hd => hp d hd _) hd0 hx0, maxL]
      have b1 := hl d0 hd0 j.toNat
      have b2 := maxL_le (hl d0 hd0) c
      rcases Nat.le_total (lev d0 j.toNat) (maxL (lev d0) c) with h | h
      · rw [Nat.max_eq_right h]
        exact Nat.max_eq_right (hm d0 hd0 _ _ x h b2)
      · rw [Nat.max_eq_left h]
        exact Nat.max_eq_left (hm d0 hd0 _ _ x h b1)
  · have no : ∀ (g : α → Nat), (ds.flatMap fun d => row d (g d)).count x = 0 := fun g => flat_count_none _ x ds fun d hd z => hx ⟨d, hd, hp d hd _ x z⟩
    rw [no fun d => maxL (lev d) c]
    refine Nat.le_zero.mp (maxC_le fun l hl' => ?_)
    obtain ⟨j, _, rfl⟩ := List.mem_map.mp hl'
    rw [hA, no fun d => lev d j.toNat]
    exact Nat.le_refl _
structure LD where
  L : Nat
  R : Nat
  m : Nat
  k : Nat
  sp : Bool
  lev : List Nat
structure LD.Ok (d : LD) : Prop where
  l1 : 1 ≤ d.L
  l8 : d.L ≤ 8
  r1 : 1 ≤ d.R
  r8 : d.R ≤ 8
  m8 : d.m ≤ 8
  k8 : d.k ≤ 8
  eq : d.L * d.m = d.R * d.k
  dv : d.sp = true → d.R * (d.L / d.R) = d.L ∧ d.R < d.L
  lv : ∀ v ∈ d.lev, v ≤ 2
def LD.at (d : LD) (j : Nat) : Nat := d.lev.getD j 0
theorem LD.Ok.at {d : LD} (h : d.Ok) (j : Nat) : d.at j ≤ 2 := by
  unfold LD.at
  rw [List.getD_eq_getElem?_getD]
  cases e : d.lev[j]? with
  | none => exact Nat.zero_le _
  | some v => exact h.lv v (List.mem_of_getElem? e)
def LD.cut (d : LD) (v : Nat) : Nat := if v = 0 then 0 else if v = 1 then 1 else 1 + d.L / d.R
def LD.lrow (d : LD) (v : Nat) : List Int := if d.sp then List.replicate v (d.L : Int) else List.replicate (v * d.m) (d.L : Int)
def LD.rrow (d : LD) (v : Nat) : List Int := if d.sp then ((d.L : Int) :: List.replicate (d.L / d.R) (d.R : Int)).take (d.cut v) else List.replicate (v * d.k) (d.R : Int)
def LD.lparts (d : LD) : List Int := [(d.L : Int)]
def LD.rparts (d : LD) : List Int := if d.sp then [(d.R : Int), (d.L : Int)] else [(d.R : Int)]
theorem rep_mul (n : Nat) (x : Int) : (List.replicate n x).sum = n * x := sum_rep n x
theorem LD.sums {d : LD} (h : d.Ok) {v : Nat} (hv : v ≤ 2) : (d.lrow v).sum = (d.rrow v).sum := by
  unfold LD.lrow LD.rrow
  cases hs : d.sp with
  | false =>
    rw [if_neg (by decide), if_neg (by decide), rep_mul, rep_mul]
    have e := h.eq
    have : ((v * d.m * d.L : Nat) : Int) = ((v * d.k * d.R : Nat) : Int) := by
      rw [Nat.mul_assoc, Nat.mul_comm d.m, e, Nat.mul_comm d.R, Nat.mul_assoc]
    simpa using this
  | true =>
    rw [if_pos rfl, if_pos rfl, rep_mul]
    have e := (h.dv hs).1
    match v, hv with
    | 0, _ => simp [LD.cut]
    | 1, _ => simp [LD.cut]
    | 2, _ =>
      have ec : d.cut 2 = 1 + d.L / d.R := rfl
      rw [ec, List.take_of_length_le (by simp; omega), List.sum_cons, rep_mul]
      have : ((2 * d.L : Nat) : Int) = ((d.L + d.L / d.R * d.R : Nat) : Int) := by
        rw [Nat.mul_comm (d.L / d.R), e]
        omega
      simpa using this
theorem LD.lsub (d : LD) (v : Nat) : ∀ x ∈ d.lrow v, x ∈ d.lparts := fun x hx => by
  unfold LD.lrow at hx
  unfold LD.lparts
  split at hx <;> rw [List.eq_of_mem_replicate hx] <;> simp
theorem LD.rsub (d : LD) (v : Nat) : ∀ x ∈ d.rrow v, x ∈ d.rparts := fun x hx => by
  unfold LD.rrow at hx
  unfold LD.rparts
  cases hs : d.sp with
  | false =>
    rw [hs, if_neg (by decide)] at hx
    rw [if_neg (by decide), List.eq_of_mem_replicate hx]
    simp
  | true =>
    rw [hs, if_pos rfl] at hx
    rw [if_pos rfl]
    rcases List.mem_cons.mp (List.mem_of_mem_take hx) with h | h
    · rw [h]; simp
    · rw [List.eq_of_mem_replicate h]; simp
theorem LD.lmono (d : LD) {v w : Nat} (x : Int) (h : v ≤ w) : (d.lrow v).count x ≤ (d.lrow w).count x := by
  unfold LD.lrow
  split
  · rw [List.count_replicate, List.count_replicate]
    split <;> omega
  · rw [List.count_replicate, List.count_replicate]
    split
    · exact Nat.mul_le_mul_right _ h
    · exact Nat.le_refl _
theorem LD.rmono (d : LD) {v w : Nat} (x : Int) (h : v ≤ w) : (d.rrow v).count x ≤ (d.rrow w).count x := by
  unfold LD.rrow
  split
  · refine List.Sublist.count_le x ?_
    have hc : d.cut v ≤ d.cut w := by
      unfold LD.cut
      generalize d.L / d.R = q
      by_cases v0 : v = 0
      · rw [if_pos v0]; omega
      · by_cases w0 : w = 0
        · omega
        · rw [if_neg v0, if_neg w0]
          by_cases v1 : v = 1
          · rw [if_pos v1]; split <;> omega
          · rw [if_neg v1, if_neg (by omega)]; omega
    have e : ((d.L : Int) :: List.replicate (d.L / d.R) (d.R : Int)).take (d.cut v) = (((d.L : Int) :: List.replicate (d.L / d.R) (d.R : Int)).take (d.cut w)).take (d.cut v) := by rw [List.take_take, Nat.min_eq_left hc]
    rw [e]
    exact List.take_sublist _ _
  · rw [List.count_replicate, List.count_replicate]
    split
    · exact Nat.mul_le_mul_right _ h
    · exact Nat.le_refl _
theorem LD.lzero (d : LD) : d.lrow 0 = [] := by unfold LD.lrow; split <;> simp
theorem LD.rzero (d : LD) : d.rrow 0 = [] := by unfold LD.rrow; split <;> simp [LD.cut]
def lefH (ds : List LD) (j : Nat) : List Int := ds.flatMap fun d => d.lrow (d.at j)
def rigH (ds : List LD) (j : Nat) : List Int := ds.flatMap fun d => d.rrow (d.at j)
structure LDs (ds : List LD) (n : Nat) : Prop where
  ok : ∀ d ∈ ds, d.Ok
  ln : ∀ d ∈ ds, d.lev.length = n
  l : (ds.flatMap LD.lparts).Nodup
  r : (ds.flatMap LD.rparts).Nodup
  few : ds.length ≤ 4
def sideR (f : List LD → Nat → List Int) (ds : List LD) (n : Nat) : List (List Int) := (List.range n).map fun j => sortD (f ds j)
theorem sideR_at {f : List LD → Nat → List Int} {ds : List LD} {n : Nat} (h0 : ∀ j, n ≤ j → f ds j = []) (j : Nat) (x : Int) : ((sideR f ds n).getD j []).count x = (f ds j).count x := by
  unfold sideR
  rw [getD_map_nil]
  by_cases h : j < n
  · rw [List.getElem?_range h]
    exact sort_count _ x
  · rw [List.getElem?_eq_none_iff.mpr (by rw [List.length_range]; omega), h0 j (by omega)]
theorem LD.at_out {d : LD} {j : Nat} (h : d.lev.length ≤ j) : d.at j = 0 := by
  unfold LD.at
  rw [List.getD_eq_getElem?_getD, List.getElem?_eq_none_iff.mpr h]
  rfl
theorem sides_match {ds : List LD} {n : Nat} (h : LDs ds n) (c : List Int) : (joinX (pickG (sideR lefH ds n) c)).sum = (joinX (pickG (sideR rigH ds n) c)).sum := by
  have out : ∀ (g : LD → Nat → List Int), (∀ d, g d 0 = []) → ∀ j, n ≤ j → (ds.flatMap fun d => g d (d.at j)) = [] := fun g hg j hj => by
    refine List.flatMap_eq_nil_iff.mpr fun d hd => ?_
    rw [LD.at_out (by rw [h.ln d hd]; exact hj), hg]
  rw [cols_sum (row := LD.lrow) (lev := LD.at) h.l (fun d _ => d.lsub) (fun d _ => d.lzero) (fun d hd => (h.ok d hd).at) (fun d _ v w x hv _ => d.lmono x hv) (fun j x => sideR_at (f := lefH) (out LD.lrow LD.lzero) j x) c,
    cols_sum (row := LD.rrow) (lev := LD.at) h.r (fun d _ => d.rsub) (fun d _ => d.rzero) (fun d hd => (h.ok d hd).at) (fun d _ v w x hv _ => d.rmono x hv) (fun j x => sideR_at (f := rigH) (out LD.rrow LD.rzero) j x) c]
  congr 1
  exact List.map_congr_left fun d hd => LD.sums (h.ok d hd) (maxL_le (h.ok d hd).at c)
structure Matched (one other : List (List Int)) (n : Nat) : Prop where
  l1 : one.length = n
  l2 : other.length = n
  g1 : ∀ h ∈ one, h.length ≤ 64 ∧ (∀ x ∈ h, 1 ≤ x ∧ x ≤ 8) ∧ h.Pairwise (· ≥ ·)
  g2 : ∀ h ∈ other, h.length ≤ 64 ∧ (∀ x ∈ h, 1 ≤ x ∧ x ≤ 8) ∧ h.Pairwise (· ≥ ·)
  eq : ∀ c, (joinX (pickG one c)).sum = (joinX (pickG other c)).sum
theorem Matched.swap {one other : List (List Int)} {n : Nat} (h : Matched one other n) : Matched other one n := ⟨h.l2, h.l1, h.g2, h.g1, fun c => (h.eq c).symm⟩
theorem flat_len_le {α : Type} (f : α → List Int) (B : Nat) : ∀ ds : List α, (∀ d ∈ ds, (f d).length ≤ B) → (ds.flatMap f).length ≤ B * ds.length
  | [], _ => Nat.zero_le _
  | d :: ds, h => by
    have h1 := h d (by simp)
    have h2 := flat_len_le f B ds fun x hx => h x (List.mem_cons_of_mem _ hx)
    rw [List.flatMap_cons, List.length_append, List.length_cons, Nat.mul_succ]
    omega
theorem LD.lrow_len {d : LD} (h : d.Ok) {v : Nat} (hv : v ≤ 2) : (d.lrow v).length ≤ 16 := by
  unfold LD.lrow
  split
  · rw [List.length_replicate]; omega
  · rw [List.length_replicate]
    have := Nat.mul_le_mul hv h.m8
    omega
theorem LD.rrow_len {d : LD} (h : d.Ok) {v : Nat} (hv : v ≤ 2) : (d.rrow v).length ≤ 16 := by
  unfold LD.rrow
  split
  · rw [List.length_take, List.length_cons, List.length_replicate]
    have := Nat.div_le_self d.L d.R
    have := h.l8
    omega
  · rw [List.length_replicate]
    have := Nat.mul_le_mul hv h.k8
    omega
theorem LD.bound {d : LD} (h : d.Ok) : (∀ x ∈ d.lparts, 1 ≤ x ∧ x ≤ 8) ∧ ∀ x ∈ d.rparts, 1 ≤ x ∧ x ≤ 8 := by
  have a := h.l1; have b := h.l8; have c := h.r1; have e := h.r8
  constructor
  · intro x hx
    unfold LD.lparts at hx
    have : x = d.L := by simpa using hx
    omega
  · intro x hx
    unfold LD.rparts at hx
    split at hx
    · have : x = d.R ∨ x = d.L := by simpa using hx
      omega
    · have : x = d.R := by simpa using hx
      omega
theorem matched_of {ds : List LD} {n : Nat} (h : LDs ds n) : Matched (sideR lefH ds n) (sideR rigH ds n) n := by
  have ln : ∀ f, (sideR f ds n).length = n := fun f => by unfold sideR; rw [List.length_map, List.length_range]
  refine ⟨ln _, ln _, fun x hx => ?_, fun x hx => ?_, sides_match h⟩
  · obtain ⟨j, _, rfl⟩ := List.mem_map.mp hx
    refine ⟨?_, fun y hy => ?_, sortD_pw _⟩
    · rw [(sortD_perm _).length_eq]
      have := flat_len_le (fun d : LD => d.lrow (d.at j)) 16 ds fun d hd => LD.lrow_len (h.ok d hd) ((h.ok d hd).at j)
      have := Nat.mul_le_mul_left 16 h.few
      unfold lefH
      omega
    · obtain ⟨d, hd, hy'⟩ := List.mem_flatMap.mp ((sortD_perm _).mem_iff.mp hy)
      exact (LD.bound (h.ok d hd)).1 y (d.lsub _ y hy')
  · obtain ⟨j, _, rfl⟩ := List.mem_map.mp hx
    refine ⟨?_, fun y hy => ?_, sortD_pw _⟩
    · rw [(sortD_perm _).length_eq]
      have := flat_len_le (fun d : LD => d.rrow (d.at j)) 16 ds fun d hd => LD.rrow_len (h.ok d hd) ((h.ok d hd).at j)
      have := Nat.mul_le_mul_left 16 h.few
      unfold rigH
      omega
    · obtain ⟨d, hd, hy'⟩ := List.mem_flatMap.mp ((sortD_perm _).mem_iff.mp hy)
      exact (LD.bound (h.ok d hd)).2 y (d.rsub _ y hy')
def Lst1 (row : List Int) (v : V) (H : Hp) : Prop := ∃ q, v = .ref q ∧ H q = some (.lst (row.map V.int))
theorem Lst1.mv {H H' : Hp} {row : List Int} {v : V} (s : Same H H') : Lst1 row v H → Lst1 row v H'
  | ⟨q, e, h⟩ => ⟨q, e, s _ _ h⟩
theorem All2.mvI {H H' : Hp} {rows : List (List Int)} {xs : List V} (s : Same H H') (h : All2 Lst1 H rows xs) : All2 Lst1 H' rows xs := h.imp fun _ _ z => z.mv s
theorem pe_sortRBK {X : Cx} (K0 : PySem.W.Frag) (h0 : X.K = K0) {e : Expr} {te : TE} {b : Bool} {p kp cp pos : Pos} {j : Nat} (hg : Gl X "sorted") (hm : X.mg "sorted" = none) (he : PE X e te)
    (hse : starEach [e] X.env = [(false, eval e X.env)] := by rfl) : PE X (.Call (.Name "sorted" p) [e] [⟨some "reverse", .Constant (.bool b) j cp, kp⟩] pos) (tSortRB K0 b te) :=
  PE.kk K0 (fun K => tSortRB K b te) (pe_sortRB hg hm he hse) h0
theorem rep_flat (n : Nat) (x : Int) : (List.replicate n [V.int x]).flatten = (List.replicate n x).map V.int := by simp
theorem cut_take (xs : List V) (n : Nat) : cutV xs none (some (n : Int)) = xs.take n := cut_head xs n
def LstN (S : List Addr) (row : List Int) (v : V) (H : Hp) : Prop := ∃ q, v = .ref q ∧ q ∉ S ∧ H q = some (.lst (row.map V.int))
theorem LstN.mv {S : List Addr} {H H' : Hp} {row : List Int} {v : V} (k : Keep S H H') : LstN S row v H → LstN S row v H'
  | ⟨q, e, n, h⟩ => ⟨q, e, n, k _ _ h n⟩
theorem All2.mvN {S : List Addr} {H H' : Hp} {rows : List (List Int)} {xs : List V} (k : Keep S H H') (h : All2 (LstN S) H rows xs) : All2 (LstN S) H' rows xs := h.imp fun _ _ z => z.mv k
theorem All2.toL {S : List Addr} {H : Hp} {rows : List (List Int)} {xs : List V} (h : All2 (LstN S) H rows xs) : All2 Lst1 H rows xs := by
  induction h with
  | nil => exact .nil
  | cons r _ ih => obtain ⟨q, e, _, h⟩ := r; exact .cons ⟨q, e, h⟩ ih
theorem nin_two {H : Hp} {a b q : Addr} {x y : HO} (ha : H a = some x) (hb : H b = some y) (hq : H q = none) : q ∉ [a, b] := fun z => by
  simp only [List.mem_cons, List.not_mem_nil, or_false] at z
  rcases z with rfl | rfl
  · rw [hq] at ha; cases ha
  · rw [hq] at hb; cases hb
theorem nin_two' {H : Hp} {a b q : Addr} {x : HO} (ha : H a = none) (hb : H b = none) (hq : H q = some x) : q ∉ [a, b] := fun z => by
  simp only [List.mem_cons, List.not_mem_nil, or_false] at z
  rcases z with rfl | rfl
  · rw [hq] at ha; cases ha
  · rw [hq] at hb; cases hb
theorem Keep.wide {S S' : List Addr} {H H' : Hp} (k : Keep S H H') (h : ∀ a ∈ S, a ∈ S') : Keep S' H H' := fun b o e n => k b o e fun z => n (h b z)
theorem lef_snoc (ds : List LD) (d : LD) (j : Nat) : lefH (ds ++ [d]) j = lefH ds j ++ d.lrow (d.at j) := by unfold lefH; rw [List.flatMap_append]; simp
theorem rig_snoc (ds : List LD) (d : LD) (j : Nat) : rigH (ds ++ [d]) j = rigH ds j ++ d.rrow (d.at j) := by unfold rigH; rw [List.flatMap_append]; simp
theorem LD.at_some {d : LD} {j v : Nat} (h : d.lev[j]? = some v) : d.at j = v := by unfold LD.at; rw [List.getD_eq_getElem?_getD, h]; rfl
structure LDi (ds : List LD) (n i : Nat) : Prop where
  ok : ∀ d ∈ ds, d.Ok
  ln : ∀ d ∈ ds, d.lev.length = n
  l : (ds.flatMap LD.lparts).Nodup
  r : (ds.flatMap LD.rparts).Nodup
  few : ds.length ≤ i
theorem LDi.nil (n : Nat) : LDi [] n 0 := ⟨(fun _ h => by cases h), (fun _ h => by cases h), List.nodup_nil, List.nodup_nil, Nat.le_refl _⟩
theorem LDi.lds {ds : List LD} {n i : Nat} (h : LDi ds n i) (hi : i ≤ 4) : LDs ds n := ⟨h.ok, h.ln, h.l, h.r, Nat.le_trans h.few hi⟩
theorem LDi.mono {ds : List LD} {n i j : Nat} (h : LDi ds n i) (hi : i ≤ j) : LDi ds n j := ⟨h.ok, h.ln, h.l, h.r, Nat.le_trans h.few hi⟩
theorem LDi.snoc {ds : List LD} {n i : Nat} {d : LD} (h : LDi ds n i) (ok : d.Ok) (ln : d.lev.length = n) (h1 : (d.L : Int) ∉ ds.flatMap LD.lparts) (h2 : (d.R : Int) ∉ ds.flatMap LD.rparts) (h3 : d.sp = true → (d.L : Int) ∉ ds.flatMap LD.rparts) : LDi (ds ++ [d]) n (i + 1) := by
  refine ⟨fun x hx => ?_, fun x hx => ?_, ?_, ?_, by rw [List.length_append]; exact Nat.succ_le_succ h.few⟩
  · rcases List.mem_append.mp hx with hx | hx
    · exact h.ok x hx
    · rw [List.mem_singleton.mp hx]; exact ok
  · rcases List.mem_append.mp hx with hx | hx
    · exact h.ln x hx
    · rw [List.mem_singleton.mp hx]; exact ln
  · rw [List.flatMap_append]
    refine List.nodup_append.mpr ⟨h.l, by simp [LD.lparts], fun x hx y hy e => ?_⟩
    have : y = d.L := by simpa [LD.lparts] using hy
    rw [e, this] at hx
    exact h1 hx
  · rw [List.flatMap_append]
    have hne : d.sp = true → (d.R : Int) ≠ d.L := fun z => by have := (ok.dv z).2; omega
    refine List.nodup_append.mpr ⟨h.r, ?_, fun x hx y hy e => ?_⟩
    · cases hs : d.sp with
      | false => simp [LD.rparts, hs]
      | true => simp [LD.rparts, hs]; have := hne hs; omega
    · subst e
      cases hs : d.sp with
      | false =>
        have : x = d.R := by simpa [LD.rparts, hs] using hy
        rw [this] at hx
        exact h2 hx
      | true =>
        have : x = d.R ∨ x = d.L := by simpa [LD.rparts, hs] using hy
        rcases this with z | z
        · rw [z] at hx; exact h2 hx
        · rw [z] at hx; exact h3 hs hx
theorem lrows_len {ds : List LD} {n : Nat} (h : LDs ds n) (j : Nat) : (lefH ds j).length ≤ 64 ∧ (rigH ds j).length ≤ 64 := by
  have h1 := flat_len_le (fun d : LD => d.lrow (d.at j)) 16 ds fun d hd => LD.lrow_len (h.ok d hd) ((h.ok d hd).at j)
  have h2 := flat_len_le (fun d : LD => d.rrow (d.at j)) 16 ds fun d hd => LD.rrow_len (h.ok d hd) ((h.ok d hd).at j)
  have := Nat.mul_le_mul_left 16 h.few
  unfold lefH rigH
  omega
theorem nil_rows (n : Nat) : (List.range n).map (lefH []) = List.replicate n [] ∧ (List.range n).map (rigH []) = List.replicate n [] := by
  constructor <;> exact List.ext_getElem (by simp) fun i h1 h2 => by simp [lefH, rigH]
def LstF (H0 : Hp) (row : List Int) (v : V) (H : Hp) : Prop := ∃ q, v = .ref q ∧ H0 q = none ∧ H q = some (.lst (row.map V.int))
theorem All2.mvF {H0 H H' : Hp} {rows : List (List Int)} {xs : List V} (s : Same H H') (h : All2 (LstF H0) H rows xs) : All2 (LstF H0) H' rows xs := h.imp fun _ _ ⟨q, e, n, g⟩ => ⟨q, e, n, s _ _ g⟩
theorem All2.toN {H0 H : Hp} {S : List Addr} {rows : List (List Int)} {xs : List V} (f : ∀ q o, H q = some o → H0 q = none → q ∉ S) (h : All2 (LstF H0) H rows xs) : All2 (LstN S) H rows xs := by
  induction h with
  | nil => exact .nil
  | cons r _ ih => obtain ⟨q, e, n, g⟩ := r; exact .cons ⟨q, e, f q _ g n, g⟩ ih
end L2
set_option Elab.async false
set_option linter.all false
set_option maxRecDepth 100000
namespace L2
open PySem PySem.Spec PyProof.Rows
end L2
set_option Elab.async false
set_option linter.all false
set_option maxRecDepth 100000
namespace L2
open PySem PySem.Spec PyProof.Rows
end L2
set_option Elab.async false
set_option linter.all false
set_option maxRecDepth 100000
namespace HT
open PySem PySem.Spec PyProof.Rows
section
variable {prog : Program} {w : World} {A : Around} {E : Value → Shared → Prop} {s : Shared}
end
end HT
namespace L2
open PySem PySem.Spec PyProof.Rows
section
variable {X : Cx} {e st : Expr} {te : TE} {ts : TO} {p2 pos : Pos}
end
end L2
set_option Elab.async false
set_option linter.all false
set_option maxRecDepth 100000
namespace L2
open PySem PySem.Spec PyProof.Rows
theorem ints_inj : ∀ {b c : List Int}, b.map V.int = c.map V.int → b = c
  | [], [], _ => rfl
  | [], _ :: _, e => by cases e
  | _ :: _, [], e => by cases e
  | x :: r, y :: r', e => by
    have e' := List.cons.inj e
    rw [ints_inj e'.2]
    congr 1
    exact V.int.inj e'.1
def rIndexT : V → List V → Hp → VK → Prop := fun x vs H Q => ∃ (p q : Addr) (a : List Int) (l : List (List Int)) (xs : List V) (j : Nat), x = .ref p ∧ vs = [.ref q] ∧ H q = some (.tup (a.map V.int)) ∧ H p = some (.lst xs) ∧ All2 Tup1 H l xs ∧ l[j]? = some a ∧ (∀ i, i < j → l[i]? ≠ some a) ∧ Q (.int j) H
open Classical in
theorem mt_indexT {X : Cx} (hu : X.A.units + 8 < cLine) : MtR X "list.index" rIndexT := by
  intro pins s σ H x vs v us Q I rx rv h
  obtain ⟨p, q, a, l, xs, j, rfl, rfl, hq, hp, all, h1, h2, k⟩ := h
  cases rx
  obtain ⟨u, rfl, ru⟩ := rv.one
  cases ru
  obtain ⟨zz, its, n, r, hl, e⟩ := I.lstM hp
  have eqk : EqK X (List Int) (RTup X.K RInt) 1 := eqk_tup (n := 0) eqk_int det_int
  have l1 := all.length
  have hj : j < l.length := (List.getElem?_eq_some_iff.mp h1).1
  have at_ : ∀ i (hi : i < its.length), ∃ b q', l[i]? = some b ∧ xs[i]? = some (.ref q') ∧ its[i] = Value.ref q' ∧ H q' = some (.tup (b.map V.int)) := fun i hi => by
    have hx : xs[i]? = some xs[i] := List.getElem?_eq_getElem (by omega)
    obtain ⟨b', hb', q', ez, hq'⟩ := all.get hx
    obtain ⟨w', hw', rz⟩ := r.get hx
    rw [List.getElem?_eq_getElem hi] at hw'
    rw [ez] at rz hx
    exact ⟨b', q', hb', hx, (Option.some.inj hw').trans rz, hq'⟩
  have val : ∀ i (hi : i < its.length) b, l[i]? = some b → (decide (∃ q', its[i] = Value.ref q' ∧ H q' = some (.tup (a.map V.int)))) = decide (b = a) := fun i hi b hb => by
    obtain ⟨b', q', c1, c2, c3, c4⟩ := at_ i hi
    rw [hb] at c1
    cases c1
    rw [c3, Bool.eq_iff_iff, decide_eq_true_eq, decide_eq_true_eq]
    constructor
    · rintro ⟨q2, e, h⟩
      cases e
      rw [c4] at h
      exact ints_inj (by injection h with h; injection h)
    · rintro rfl
      exact ⟨q', rfl, c4⟩
  have hsm : (j : Int) < 2 ^ 63 - 1 := by
    have : j < 2 ^ 62 := Nat.lt_of_lt_of_le (show j < xs.length by omega) (Nat.le_trans zz (by rw [sizeLine_eq]; decide))
    omega
  refine call_meets PySem.F.slot_list_index ⟨_, e, rfl⟩ PySem.F.entry_list_index (PySem.F.args_list_index_2 _ _)
    (SeqAt.list_indexAt p its.toArray n _ _ (.ref q) (fun w => decide (∃ q', w = Value.ref q' ∧ H q' = some (.tup (a.map V.int)))) j (by simp; omega) hsm ?_ ?_) ⟨e, ?_, ?_⟩
  · rw [show its.toArray[j]'(by simp; omega) = its[j]'(by omega) by simp, val j (by omega) a h1]
    simp
  · intro m hm hlt
    rw [show its.toArray[m] = its[m]'(by simpa using hm) by simp, val m (by simpa using hm) (l[m]'(by omega)) (List.getElem?_eq_getElem _)]
    refine decide_eq_false fun z => h2 m hlt ?_
    rw [List.getElem?_eq_getElem (by omega), z]
  · intro w hw
    obtain ⟨i, hi, rfl⟩ := List.mem_iff_getElem.mp (show w ∈ its by simpa using hw)
    obtain ⟨b', q', c1, c2, c3, c4⟩ := at_ i hi
    rw [val i hi b' c1]
    exact eqk pins σ H s _ b' a (.ref q') (.ref q) its[i] (.ref q) I (by show X.A.units + 1 + 1 < cLine; omega) ⟨q', _, rfl, SqT.of c4, all2_ints _⟩ ⟨q, _, rfl, SqT.of hq, all2_ints _⟩ c3 rfl
  · exact ⟨.int j, H, I.tok _, ⟨_, rfl⟩, k⟩
theorem lexGt_irr : ∀ x : List Int, HT.lexGt x x = false
  | [] => rfl
  | x :: r => by rw [HT.lexGt_cons, if_pos rfl]; exact lexGt_irr r
theorem lexGt_trans : ∀ {x y z : List Int}, HT.lexGt x y = true → HT.lexGt y z = true → HT.lexGt x z = true
  | [], [], _, h, _ => by cases h
  | [], _ :: _, _, h, _ => by cases h
  | _ :: _, _, [], _, _ => rfl
  | _ :: _, [], _ :: _, _, h => by cases h
  | a :: x, b :: y, c :: z, h, h' => by
    rw [HT.lexGt_cons] at h h' ⊢
    by_cases e : a = b
    · subst e
      rw [if_pos rfl] at h
      by_cases e' : a = c
      · subst e'
        rw [if_pos rfl] at h' ⊢
        exact lexGt_trans h h'
      · rw [if_neg e'] at h' ⊢
        exact h'
    · rw [if_neg e] at h
      have h1 := of_decide_eq_true h
      by_cases e' : b = c
      · subst e'
        rw [if_neg e]
        exact h
      · rw [if_neg e'] at h'
        have h2 := of_decide_eq_true h'
        rw [if_neg (by omega)]
        exact decide_eq_true (by omega)
theorem lexB_pair : ∀ {l : List (List Int)}, lexB l = true → l.Pairwise fun x y => HT.lexGt x y = true
  | [], _ => .nil
  | [x], _ => by simp
  | x :: y :: r, h => by
    simp only [lexB, Bool.and_eq_true] at h
    have ih := lexB_pair h.2
    refine List.pairwise_cons.mpr ⟨fun z hz => ?_, ih⟩
    rcases List.mem_cons.mp hz with rfl | hz
    · exact h.1
    · exact lexGt_trans h.1 ((List.pairwise_cons.mp ih).1 z hz)
theorem kept_pair (rule : List (List Int)) {m : Nat} (hm : m ≤ 24) : (keptG rule m).Pairwise fun x y => HT.lexGt x y = true := by
  have p12 := part12_all m (by omega)
  unfold part12 at p12
  simp only [Bool.and_eq_true] at p12
  exact (lexB_pair p12.2).sublist List.filter_sublist
theorem kept_is {rule : List (List Int)} {m : Nat} (hm : m ≤ 24) {h : List Int} (hh : h ∈ keptG rule m) : h.sum = (m : Int) ∧ (∀ x ∈ h, 1 ≤ x) ∧ firstG rule h = none := by
  have p12 := part12_all m (by omega)
  unfold part12 at p12
  simp only [Bool.and_eq_true, beq_iff_eq, List.all_eq_true, decide_eq_true_eq] at p12
  obtain ⟨h1, h2⟩ := List.mem_filter.mp hh
  have := p12.1.2 h h1
  exact ⟨this.1.1, this.1.2, by simpa using h2⟩
theorem kept_next {rule : List (List Int)} {m : Nat} (hm : m ≤ 24) {i : Nat} {x y : List Int} (h1 : (keptG rule m)[i]? = some x) (h2 : (keptG rule m).tail[i]? = some y) : HT.lexGt x y = true := by
  rw [List.getElem?_tail] at h2
  obtain ⟨l1, e1⟩ := List.getElem?_eq_some_iff.mp h1
  obtain ⟨l2, e2⟩ := List.getElem?_eq_some_iff.mp h2
  have := List.pairwise_iff_getElem.mp (kept_pair rule hm) i (i + 1) l1 l2 (by omega)
  rw [e1, e2] at this
  exact this
theorem kept_once {rule : List (List Int)} {m : Nat} (hm : m ≤ 24) {i j : Nat} {x : List Int} (h1 : (keptG rule m)[j]? = some x) (h : i < j) : (keptG rule m)[i]? ≠ some x := fun h2 => by
  obtain ⟨l1, e1⟩ := List.getElem?_eq_some_iff.mp h1
  obtain ⟨l2, e2⟩ := List.getElem?_eq_some_iff.mp h2
  have := List.pairwise_iff_getElem.mp (kept_pair rule hm) i j l2 l1 h
  rw [e1, e2, lexGt_irr] at this
  cases this
theorem Matched.J {one other : List (List Int)} {n : Nat} (h : Matched one other n) : RuleJ one :=
  ⟨⟨[1, 2, 3, 4, 5, 6, 7, 8], by decide, fun l hl x hx => by
    have := (h.g1 l hl).2.1 x hx
    have : x = 1 ∨ x = 2 ∨ x = 3 ∨ x = 4 ∨ x = 5 ∨ x = 6 ∨ x = 7 ∨ x = 8 := by omega
    simpa using this⟩, fun l hl => Nat.le_trans (h.g1 l hl).1 (by decide), fun l hl x hx => ((h.g1 l hl).2.1 x hx).1⟩
theorem Matched.signed {one other : List (List Int)} {n : Nat} (h : Matched one other n) (W : Nat → Int) (m : Nat) : signedX one W m (chG (upto one.length)) = signedX other W m (chG (upto other.length)) := by
  unfold signedX
  rw [h.l1, h.l2]
  congr 1
  exact List.map_congr_left fun c _ => by rw [h.eq c]
theorem Matched.kept {one other : List (List Int)} {n : Nat} (h : Matched one other n) {m : Nat} (hm : m ≤ 24) : (keptG one m).length = (keptG other m).length := by
  have e1 := kept_way (rule := one) h.J.2.2 hm
  have e2 := kept_way (rule := other) h.swap.J.2.2 hm
  rw [h.signed, ← e2] at e1
  exact Int.ofNat.inj e1
theorem parts_lt (l : List (List Int)) (k : Nat) : (l.countP fun h => decide (h.length < k + 1)) = (l.countP fun h => decide (h.length < k)) + (l.map fun h => (h.length : Int)).count (k : Int) := by
  induction l with
  | nil => rfl
  | cons x r ih =>
    rw [List.countP_cons, List.countP_cons, List.map_cons, List.count_cons, ih]
    by_cases e : x.length = k
    · rw [e]; simp; omega
    · by_cases e' : x.length < k
      · have h1 : x.length < k + 1 := by omega
        have h2 : ¬ ((x.length : Int) = (k : Int)) := by omega
        simp [e', h1, h2]; omega
      · have h1 : ¬ x.length < k + 1 := by omega
        have h2 : ¬ ((x.length : Int) = (k : Int)) := by omega
        simp [e', h1, h2]
theorem parts_sumK (l : List (List Int)) : ∀ k, (partsG l k).sum = ((l.countP fun h => decide (h.length < k) : Nat) : Int)
  | 0 => by simp [partsG]
  | k + 1 => by
    rw [partsG_succ, List.sum_append, parts_sumK l k, parts_lt]
    simp
theorem parts_sum (l : List (List Int)) (m : Nat) (h : ∀ x ∈ l, x.length ≤ m) : (partsG l (m + 1)).sum = (l.length : Int) := by
  rw [parts_sumK, List.countP_eq_length.mpr fun x hx => decide_eq_true (Nat.lt_succ_of_le (h x hx))]
theorem bls_of {H : Hp} : ∀ {bs : List Bool} {zs : List V}, All2 (fun (b : Bool) v _ => v = V.bl b) H bs zs → zs = bs.map V.bl
  | _, _, .nil => rfl
  | _, _, .cons h t => by rw [h, bls_of t]; rfl
theorem all_reps (n : Nat) : (List.replicate n true).all id = true := by simp
theorem comp_trueL {K : PySem.W.Frag} {i : Nat} {a : Addr} {xs : List V} {nm : Str} {fr : List (Str × Nat)} {te : TE} {σ : St} {H : Hp} {Q : VK} (tl : St) (hle : xs.length ≤ sizeLine) (htl : startC [nm] fr σ = none :: tl) (hs : σ[i]? = some (some (.ref a))) (h : H a = some (.lst xs))
    (step : ∀ (j : Nat) (x : V) (H' : Hp) (P : VK), xs[j]? = some x → Same H H' → (∀ H'', Same H' H'' → P (.bl true) H'') → te (some x :: tl) H' P)
    (hd : ∀ H' p, Same H H' → H' p = none → Q (.ref p) (upd H' p (.lst ((List.replicate xs.length true).map V.bl)))) : tComp (iList K (tVar i)) [nm] fr (gName 0) tYes te σ H Q := by
  refine comp_map1L (fun (b : Bool) v _ => v = V.bl b) (List.replicate xs.length true) tl (by rw [List.length_replicate]) hle (fun _ _ _ _ _ h => h) htl hs h (fun j x b H' P hx hb s' hP => ?_) (fun zs H' p s' a2 hp => ?_)
  · have e : b = true := by
      obtain ⟨_, e⟩ := List.getElem?_eq_some_iff.mp hb
      rw [← e]; simp
    exact step j x H' P hx s' fun H'' s'' => hP _ _ s'' (by rw [e])
  · rw [bls_of a2]
    exact hd H' p s' hp
theorem coinIn_len' {n g : Nat} {L : List Int} (hl : L.length = n + 1) (hL : ∀ j, j ≤ n → L.getD j 0 = ((lenN g j : Nat) : Int)) : ∀ i, g + 1 + i ≤ n + 1 → ∀ j, j ≤ n → (coinIn L (g + 1) i).getD j 0 = if j < g + 1 + i then ((lenN (g + 1) j : Nat) : Int) else ((lenN g j : Nat) : Int)
  | 0, _, j, hj => by
    show L.getD j 0 = _
    rw [hL j hj, lenN_next]
    by_cases h : j < g + 1 + 0
    · rw [if_pos h, if_neg (by omega), Nat.zero_add]
    · rw [if_neg h]
  | i + 1, hi, j, hj => by
    have ih := coinIn_len' hl hL i (by omega)
    have hlen : (coinIn L (g + 1) i).length = n + 1 := by rw [coinIn_len, hl]
    show (coinSt (coinIn L (g + 1) i) (g + 1) (g + 1 + i)).getD j 0 = _
    unfold coinSt
    rw [List.getD_eq_getElem?_getD, List.getElem?_set]
    by_cases e : g + 1 + i = j
    · rw [if_pos e, if_pos (by omega), if_pos (by omega)]
      subst e
      show (coinIn L (g + 1) i).getD (g + 1 + i) 0 + (coinIn L (g + 1) i).getD (g + 1 + i - (g + 1)) 0 = _
      rw [ih (g + 1 + i) hj, ih (g + 1 + i - (g + 1)) (by omega), if_neg (by omega), if_pos (by omega), lenN_next g (g + 1 + i), if_pos (by omega)]
      omega
    · rw [if_neg e, ← List.getD_eq_getElem?_getD, ih j hj]
      by_cases h : j < g + 1 + i
      · rw [if_pos h, if_pos (by omega)]
      · rw [if_neg h, if_neg (by omega)]
theorem coinOut_lenN (n : Nat) : ∀ k, k ≤ n → ∀ j, j ≤ n → (coinOut n k).getD j 0 = ((lenN k j : Nat) : Int)
  | 0, _, j, hj => by
    unfold coinOut lenN
    cases j with
    | zero => rfl
    | succ j =>
      rw [partN_nil (by omega)]
      show (List.replicate n (0 : Int)).getD j 0 = 0
      rw [List.getD_eq_getElem?_getD, List.getElem?_replicate]
      split <;> rfl
  | k + 1, hk, j, hj => by
    rw [coinOut, coinIn_len' (coinOut_len n k) (coinOut_lenN n k (by omega)) (n - k) (by omega) j hj, if_pos (by omega)]
theorem way_lenN {n j : Nat} (hn : n ≤ 400) (hj : j ≤ n) : wayF n j = (((partN j j).length : Nat) : Int) := by
  rw [way_all hn hj, coinOut_lenN n n (Nat.le_refl _) j hj]
  unfold lenN
  rw [partN_over hj (Nat.le_refl j)]
theorem keptN_signed {rule : List (List Int)} (hp : ∀ h ∈ rule, ∀ x ∈ h, 1 ≤ x) (n : Nat) :
    ((((partN n n).filter fun h => (firstG rule h).isNone).length : Nat) : Int) = ((chG (upto rule.length)).map fun c => sgnG c * (if (joinX (pickG rule c)).sum ≤ (n : Int) then (((partN (n - (joinX (pickG rule c)).sum.toNat) (n - (joinX (pickG rule c)).sum.toNat)).length : Nat) : Int) else 0)).sum := by
  rw [sum_swap (chG (upto rule.length)) _ (fun c h => sgnG c * bI (c.all fun x => lies (rule.getD x.toNat []) h)) (fun h => by rw [choices_sum, first_isNone])]
  congr 1
  apply List.map_congr_left
  intro c hc
  rw [sum_count]
  congr 1
  have hJ := joinX_is (pickG rule c)
  have hJ1 : ∀ x ∈ joinX (pickG rule c), 1 ≤ x := fun x hx => by
    have h1 : 0 < (joinX (pickG rule c)).count x := List.count_pos_iff.mpr hx
    rw [hJ.2 x] at h1
    refine Decidable.byContradiction fun hx1 => ?_
    have : maxC (pickG rule c) x ≤ 0 := maxC_le fun l hl => by
      have e : l.count x = 0 := List.count_eq_zero.mpr fun hm => by
        rcases pick_mem hl with z | z
        · exact hx1 (hp l z x hm)
        · rw [z] at hm
          cases hm
      omega
    omega
  have e1 : (partN n n).countP (fun h => c.all fun x => lies (rule.getD x.toNat []) h) = (partN n n).countP (lies (joinX (pickG rule c))) := by
    apply List.countP_congr
    intro h _
    rw [lies_join hJ h]
    unfold pickG
    rw [List.all_map]
    exact Iff.rfl
  rw [e1, lies_count hJ1]
  by_cases d : (joinX (pickG rule c)).sum ≤ (n : Int)
  · rw [if_pos d, if_pos d]
  · rw [if_neg d, if_neg d]
    rfl
theorem signed_nonneg {rule : List (List Int)} (hp : ∀ h ∈ rule, ∀ x ∈ h, 1 ≤ x) {n : Nat} (hn : n ≤ 400) : 0 ≤ signedX rule (wayF n) n (chG (upto rule.length)) := by
  have e : signedX rule (wayF n) n (chG (upto rule.length)) = ((((partN n n).filter fun h => (firstG rule h).isNone).length : Nat) : Int) := by
    rw [keptN_signed hp n, signedX_eq (W' := fun j => (((partN j j).length : Nat) : Int)) fun j hj => way_lenN hn hj]
    rfl
  rw [e]
  exact Int.natCast_nonneg _
end L2
set_option maxHeartbeats 4000000
namespace My
open PySem PySem.Spec PyProof.Rows L2
def top (i : Nat) : Stmt := PySem.Challenge.pw_shutpairs_k52_whole_as_many_keep.main.body.getD i (.Pass ⟨0, 0, 0, 0⟩)
abbrev s_often : Stmt := top 9
abbrev s_lies_in : Stmt := top 10
abbrev s_all_in : Stmt := top 18
abbrev s_first_in : Stmt := top 19
abbrev s_keeps : Stmt := top 20
abbrev s_refuse_beyond : Stmt := top 6
abbrev s_partings_to : Stmt := top 24
abbrev s_partings_of : Stmt := top 25
abbrev s_kept_of : Stmt := top 26
abbrev s_by_parts : Stmt := top 27
abbrev s_sum_of : Stmt := top 8
abbrev s_refuse_unkept : Stmt := top 21
abbrev s_place_of : Stmt := top 28
abbrev s_told_at : Stmt := top 29
abbrev s_choices_among : Stmt := top 14
abbrev s_choices_of : Stmt := top 15
abbrev s_unlike_parts : Stmt := top 11
abbrev s_joined : Stmt := top 12
abbrev s_joined_of : Stmt := top 16
abbrev s_sign_of : Stmt := top 31
abbrev s_next_way : Stmt := top 34
abbrev s_ways_to : Stmt := top 35
abbrev s_count_of : Stmt := top 36
abbrev s__law_start : Stmt := top 38
abbrev s__law_mix : Stmt := top 40
abbrev s__law_draw : Stmt := top 39
abbrev s__law_lane : Stmt := top 43
abbrev s__law_rule : Stmt := top 45
abbrev s__law_matched : Stmt := top 44
abbrev s__law_whole : Stmt := top 46
abbrev s__law_lies : Stmt := top 41
abbrev s__law_first : Stmt := top 42
abbrev s__law_row : Stmt := top 47
abbrev s__law_listed : Stmt := top 48
abbrev s_law : Stmt := top 49
set_option genInjectivity false in
structure Adr where
  a_often : Addr
  fd_often : FuncData
  a_lies_in : Addr
  fd_lies_in : FuncData
  a_all_in : Addr
  fd_all_in : FuncData
  a_first_in : Addr
  fd_first_in : FuncData
  a_keeps : Addr
  fd_keeps : FuncData
  a_refuse_beyond : Addr
  fd_refuse_beyond : FuncData
  a_partings_to : Addr
  fd_partings_to : FuncData
  a_partings_of : Addr
  fd_partings_of : FuncData
  a_kept_of : Addr
  fd_kept_of : FuncData
  a_by_parts : Addr
  fd_by_parts : FuncData
  a_sum_of : Addr
  fd_sum_of : FuncData
  a_refuse_unkept : Addr
  fd_refuse_unkept : FuncData
  a_place_of : Addr
  fd_place_of : FuncData
  a_told_at : Addr
  fd_told_at : FuncData
  a_choices_among : Addr
  fd_choices_among : FuncData
  a_choices_of : Addr
  fd_choices_of : FuncData
  a_unlike_parts : Addr
  fd_unlike_parts : FuncData
  a_joined : Addr
  fd_joined : FuncData
  a_joined_of : Addr
  fd_joined_of : FuncData
  a_sign_of : Addr
  fd_sign_of : FuncData
  a_next_way : Addr
  fd_next_way : FuncData
  a_ways_to : Addr
  fd_ways_to : FuncData
  a_count_of : Addr
  fd_count_of : FuncData
  a__law_start : Addr
  fd__law_start : FuncData
  a__law_mix : Addr
  fd__law_mix : FuncData
  a__law_draw : Addr
  fd__law_draw : FuncData
  a__law_lane : Addr
  fd__law_lane : FuncData
  a__law_rule : Addr
  fd__law_rule : FuncData
  a__law_matched : Addr
  fd__law_matched : FuncData
  a__law_whole : Addr
  fd__law_whole : FuncData
  a__law_lies : Addr
  fd__law_lies : FuncData
  a__law_first : Addr
  fd__law_first : FuncData
  a__law_row : Addr
  fd__law_row : FuncData
  a__law_listed : Addr
  fd__law_listed : FuncData
  a_law : Addr
  fd_law : FuncData
  c_NoSum : Addr
  c_NotKept : Addr
  c_NoPlace : Addr
set_option genInjectivity false in
structure Txt (K : PySem.W.Frag) (mg : Str → Option Value) (A : Adr) : Prop where
  F_often : Fun K "often" "often" s_often A.a_often A.fd_often
  b_often : Binds K A.fd_often ["heap", "part"] []
  g_often : mg "often" = some (.ref A.a_often)
  F_lies_in : Fun K "lies_in" "lies_in" s_lies_in A.a_lies_in A.fd_lies_in
  b_lies_in : Binds K A.fd_lies_in ["one", "other"] []
  g_lies_in : mg "lies_in" = some (.ref A.a_lies_in)
  F_all_in : Fun K "all_in" "all_in" s_all_in A.a_all_in A.fd_all_in
  b_all_in : Binds K A.fd_all_in ["rule", "heap"] []
  g_all_in : mg "all_in" = some (.ref A.a_all_in)
  F_first_in : Fun K "first_in" "first_in" s_first_in A.a_first_in A.fd_first_in
  b_first_in : Binds K A.fd_first_in ["rule", "heap"] []
  g_first_in : mg "first_in" = some (.ref A.a_first_in)
  F_keeps : Fun K "keeps" "keeps" s_keeps A.a_keeps A.fd_keeps
  b_keeps : Binds K A.fd_keeps ["rule", "heap"] []
  g_keeps : mg "keeps" = some (.ref A.a_keeps)
  F_refuse_beyond : Fun K "refuse_beyond" "refuse_beyond" s_refuse_beyond A.a_refuse_beyond A.fd_refuse_beyond
  b_refuse_beyond : Binds K A.fd_refuse_beyond ["n", "most"] []
  g_refuse_beyond : mg "refuse_beyond" = some (.ref A.a_refuse_beyond)
  F_partings_to : Fun K "partings_to" "partings_to" s_partings_to A.a_partings_to A.fd_partings_to
  b_partings_to : Binds K A.fd_partings_to ["n", "greatest"] []
  g_partings_to : mg "partings_to" = some (.ref A.a_partings_to)
  F_partings_of : Fun K "partings_of" "partings_of" s_partings_of A.a_partings_of A.fd_partings_of
  b_partings_of : Binds K A.fd_partings_of ["n"] []
  g_partings_of : mg "partings_of" = some (.ref A.a_partings_of)
  F_kept_of : Fun K "kept_of" "kept_of" s_kept_of A.a_kept_of A.fd_kept_of
  b_kept_of : Binds K A.fd_kept_of ["rule", "n"] []
  g_kept_of : mg "kept_of" = some (.ref A.a_kept_of)
  F_by_parts : Fun K "by_parts" "by_parts" s_by_parts A.a_by_parts A.fd_by_parts
  b_by_parts : Binds K A.fd_by_parts ["rule", "n"] []
  g_by_parts : mg "by_parts" = some (.ref A.a_by_parts)
  F_sum_of : Fun K "sum_of" "sum_of" s_sum_of A.a_sum_of A.fd_sum_of
  b_sum_of : Binds K A.fd_sum_of ["heap"] []
  g_sum_of : mg "sum_of" = some (.ref A.a_sum_of)
  F_refuse_unkept : Fun K "refuse_unkept" "refuse_unkept" s_refuse_unkept A.a_refuse_unkept A.fd_refuse_unkept
  b_refuse_unkept : Binds K A.fd_refuse_unkept ["rule", "heap"] []
  g_refuse_unkept : mg "refuse_unkept" = some (.ref A.a_refuse_unkept)
  F_place_of : Fun K "place_of" "place_of" s_place_of A.a_place_of A.fd_place_of
  b_place_of : Binds K A.fd_place_of ["rule", "heap"] []
  g_place_of : mg "place_of" = some (.ref A.a_place_of)
  F_told_at : Fun K "told_at" "told_at" s_told_at A.a_told_at A.fd_told_at
  b_told_at : Binds K A.fd_told_at ["rule", "n", "place"] []
  g_told_at : mg "told_at" = some (.ref A.a_told_at)
  F_choices_among : Fun K "choices_among" "choices_among" s_choices_among A.a_choices_among A.fd_choices_among
  b_choices_among : Binds K A.fd_choices_among ["numbers"] []
  g_choices_among : mg "choices_among" = some (.ref A.a_choices_among)
  F_choices_of : Fun K "choices_of" "choices_of" s_choices_of A.a_choices_of A.fd_choices_of
  b_choices_of : Binds K A.fd_choices_of ["rule"] []
  g_choices_of : mg "choices_of" = some (.ref A.a_choices_of)
  F_unlike_parts : Fun K "unlike_parts" "unlike_parts" s_unlike_parts A.a_unlike_parts A.fd_unlike_parts
  b_unlike_parts : Binds K A.fd_unlike_parts ["heaps"] []
  g_unlike_parts : mg "unlike_parts" = some (.ref A.a_unlike_parts)
  F_joined : Fun K "joined" "joined" s_joined A.a_joined A.fd_joined
  b_joined : Binds K A.fd_joined ["heaps"] []
  g_joined : mg "joined" = some (.ref A.a_joined)
  F_joined_of : Fun K "joined_of" "joined_of" s_joined_of A.a_joined_of A.fd_joined_of
  b_joined_of : Binds K A.fd_joined_of ["rule", "choice"] []
  g_joined_of : mg "joined_of" = some (.ref A.a_joined_of)
  F_sign_of : Fun K "sign_of" "sign_of" s_sign_of A.a_sign_of A.fd_sign_of
  b_sign_of : Binds K A.fd_sign_of ["pair"] []
  g_sign_of : mg "sign_of" = some (.ref A.a_sign_of)
  F_next_way : Fun K "next_way" "next_way" s_next_way A.a_next_way A.fd_next_way
  b_next_way : Binds K A.fd_next_way ["ways"] []
  g_next_way : mg "next_way" = some (.ref A.a_next_way)
  F_ways_to : Fun K "ways_to" "ways_to" s_ways_to A.a_ways_to A.fd_ways_to
  b_ways_to : Binds K A.fd_ways_to ["n"] []
  g_ways_to : mg "ways_to" = some (.ref A.a_ways_to)
  F_count_of : Fun K "count_of" "count_of" s_count_of A.a_count_of A.fd_count_of
  b_count_of : Binds K A.fd_count_of ["rule", "n"] []
  g_count_of : mg "count_of" = some (.ref A.a_count_of)
  F__law_start : Fun K "_law_start" "_law_start" s__law_start A.a__law_start A.fd__law_start
  b__law_start : Binds K A.fd__law_start ["_law_script"] []
  g__law_start : mg "_law_start" = some (.ref A.a__law_start)
  F__law_mix : Fun K "_law_mix" "_law_mix" s__law_mix A.a__law_mix A.fd__law_mix
  b__law_mix : Binds K A.fd__law_mix ["_law_state"] []
  g__law_mix : mg "_law_mix" = some (.ref A.a__law_mix)
  F__law_draw : Fun K "_law_draw" "_law_draw" s__law_draw A.a__law_draw A.fd__law_draw
  b__law_draw : Binds K A.fd__law_draw ["_law_state", "_law_many"] []
  g__law_draw : mg "_law_draw" = some (.ref A.a__law_draw)
  F__law_lane : Fun K "_law_lane" "_law_lane" s__law_lane A.a__law_lane A.fd__law_lane
  b__law_lane : Binds K A.fd__law_lane ["_law_left", "_law_right", "_law_split", "_law_levels"] []
  g__law_lane : mg "_law_lane" = some (.ref A.a__law_lane)
  F__law_rule : Fun K "_law_rule" "_law_rule" s__law_rule A.a__law_rule A.fd__law_rule
  b__law_rule : Binds K A.fd__law_rule ["_law_rows"] []
  g__law_rule : mg "_law_rule" = some (.ref A.a__law_rule)
  F__law_matched : Fun K "_law_matched" "_law_matched" s__law_matched A.a__law_matched A.fd__law_matched
  b__law_matched : Binds K A.fd__law_matched ["_law_state", "_law_top"] []
  g__law_matched : mg "_law_matched" = some (.ref A.a__law_matched)
  F__law_whole : Fun K "_law_whole" "_law_whole" s__law_whole A.a__law_whole A.fd__law_whole
  b__law_whole : Binds K A.fd__law_whole ["_law_found"] []
  g__law_whole : mg "_law_whole" = some (.ref A.a__law_whole)
  F__law_lies : Fun K "_law_lies" "_law_lies" s__law_lies A.a__law_lies A.fd__law_lies
  b__law_lies : Binds K A.fd__law_lies ["_law_one", "_law_other"] []
  g__law_lies : mg "_law_lies" = some (.ref A.a__law_lies)
  F__law_first : Fun K "_law_first" "_law_first" s__law_first A.a__law_first A.fd__law_first
  b__law_first : Binds K A.fd__law_first ["_law_rule_here", "_law_heap"] []
  g__law_first : mg "_law_first" = some (.ref A.a__law_first)
  F__law_row : Fun K "_law_row" "_law_row" s__law_row A.a__law_row A.fd__law_row
  b__law_row : Binds K A.fd__law_row ["_law_found"] []
  g__law_row : mg "_law_row" = some (.ref A.a__law_row)
  F__law_listed : Fun K "_law_listed" "_law_listed" s__law_listed A.a__law_listed A.fd__law_listed
  b__law_listed : Binds K A.fd__law_listed ["_law_rule_here", "_law_n"] []
  g__law_listed : mg "_law_listed" = some (.ref A.a__law_listed)
  F_law : Fun K "law" "law" s_law A.a_law A.fd_law
  b_law : Binds K A.fd_law ["_law_script"] []
  g_law : mg "law" = some (.ref A.a_law)
  b_all : mg "all" = none
  b_bool : mg "bool" = none
  b_enumerate : mg "enumerate" = none
  b_int : mg "int" = none
  b_isinstance : mg "isinstance" = none
  b_len : mg "len" = none
  b_list : mg "list" = none
  b_max : mg "max" = none
  b_min : mg "min" = none
  b_range : mg "range" = none
  b_sorted : mg "sorted" = none
  b_sum : mg "sum" = none
  b_tuple : mg "tuple" = none
  b_zip : mg "zip" = none
  v_MOST_LISTED : ∃ t, mg "MOST_LISTED" = some (.int 24 t)
  v_MOST_COUNTED : ∃ t, mg "MOST_COUNTED" = some (.int 400 t)
  kin : ∃ h, K.In h
  g_NoSum : mg "NoSum" = some (.ref A.c_NoSum)
  g_NotKept : mg "NotKept" = some (.ref A.c_NotKept)
  g_NoPlace : mg "NoPlace" = some (.ref A.c_NoPlace)
  x_NoSum : ExcC K A.c_NoSum
  e_NoSum : ClsE K A.c_NoSum
section
variable {P : Program} {w : World} {K : PySem.W.Frag} {mg : Str → Option Value} {base : Heap} {A : Adr}
def n_often : List Str := ["heap", "part"]
theorem sc_often : FnScope n_often ["heap", "part"] (defScope s_often) := ⟨rfl, rfl, rfl, by decide +kernel, rfl, by decide +kernel, by decide +kernel⟩
def sp_often (K : PySem.W.Frag) : Sp := fun vs H Q _ => ∃ (a : Addr) (ns : List Int) (y : Int), vs = [.ref a, .int y] ∧ H a = some (.tup (ns.map V.int)) ∧ Q (.int (ns.count y : Nat)) H
theorem ok_often (T : Txt K mg A) : FnOk P w K mg base CX0 1 A.a_often A.fd_often ["heap", "part"] (sp_often K) := by
  refine T.F_often.ok sc_often (fun vs H Q E h => ?_) (fun cdv Ar outer s H vs Q E hr h => ?_)
  · obtain ⟨a, ns, y, rfl, hS, k⟩ := h
    rfl
  · obtain ⟨a, ns, y, rfl, hS, k⟩ := h
    refine ⟨_, (pss_one (ps_ret (pe_bm PySem.F.plainAttrs_tuple PySem.F.slot_tuple_count PySem.F.type_tuple_count mt_countT (pv 0) (pa_cons (pv 1) pa_nil)))), ?_⟩
    exact ⟨_, rfl, .inr (.inl ⟨rfl, .inr ⟨_, hS⟩⟩), _, rfl, a, _, _, rfl, rfl, SqT.of hS, rfl, flat_ints _, by rw [cntV_ints]; exact k⟩
def n_lies_in : List Str := ["one", "other", "part"]
theorem sc_lies_in : FnScope n_lies_in ["one", "other"] (defScope s_lies_in) := ⟨rfl, rfl, rfl, by decide +kernel, rfl, by decide +kernel, by decide +kernel⟩
def sp_lies_in : Sp := fun vs H Q _ => ∃ (a b : Addr) (ns ms : List Int), vs = [.ref a, .ref b] ∧ H a = some (.tup (ns.map V.int)) ∧ H b = some (.tup (ms.map V.int)) ∧ Q (.bl (lies ns ms)) H
theorem ok_lies_in (T : Txt K mg A) : FnOk P w K mg base CX0 2 A.a_lies_in A.fd_lies_in ["one", "other"] sp_lies_in := by
  refine T.F_lies_in.ok sc_lies_in (fun vs H Q E h => ?_) (fun cdv Ar outer s H vs Q E hr h => ?_)
  · obtain ⟨a, b, ns, ms, rfl, ha, hb, k⟩ := h
    rfl
  · obtain ⟨a, b, ns, ms, rfl, ha, hb, k⟩ := h
    refine ⟨_, (pss_cons (ps_for PassesOwn.never rfl (pi_tup (pv 0)) (pg_name (i := 2) sc_lies_in.nd rfl (by first | exact Or.inl rfl | exact Or.inr rfl))
          (pss_one (ps_if (pt_cmpR op_lt (pe_call (ok_often T) (hr.mono (by decide)) rfl T.g_often T.F_often.kp T.b_often .nil pass0 (pa_cons (pv 1) (pa_cons (pv 2) pa_nil))) (pe_call (ok_often T) (hr.mono (by decide)) rfl T.g_often T.F_often.kp T.b_often .nil pass0 (pa_cons (pv 0) (pa_cons (pv 2) pa_nil))) (nomark _))
          (pss_one (ps_ret pe_bl)) pss_nil)))
        (pss_one (ps_ret pe_bl))), ?_⟩
    refine ⟨_, rfl, a, rfl, ⟨_, SqT.of ha⟩, for_tup (xs := ns.map V.int) (fun i σ' H' => H' = H ∧ (∃ v, σ' = [some (.ref a), some (.ref b), v]) ∧ (ns.take i).all (fun x => decide (ns.count x ≤ ms.count x)) = true) ⟨rfl, ⟨_, rfl⟩, rfl⟩ ?_ ?_ ?_⟩
    · rintro i σ' H' _ ⟨rfl, _⟩
      exact SqT.of ha
    · rintro i x σ' H' hx ⟨rfl, ⟨v, rfl⟩, hall⟩
      obtain ⟨z, hz, rfl⟩ := map_at hx
      refine ⟨_, rfl, _, rfl, b, ms, z, rfl, hb, ?_⟩
      refine ⟨_, rfl, _, rfl, a, ns, z, rfl, ha, ?_⟩
      refine ⟨_, _, rfl, rfl, _, rfl, ?_⟩
      refine ite2 (fun hlt => ?_) (fun hlt => ⟨rfl, ⟨_, rfl⟩, ?_⟩)
      · have h1 : lies ns ms = false := all_false (List.mem_of_getElem? hz) (by
          have := of_decide_eq_true hlt
          exact decide_eq_false (by omega))
        rw [h1] at k
        exact k
      · rw [all_take hz, hall, Bool.true_and]
        refine decide_eq_true ?_
        have : ¬ ((ms.count z : Nat) : Int) < ((ns.count z : Nat) : Int) := fun q => hlt (decide_eq_true q)
        omega
    · rintro σ' H' ⟨rfl, _, hall⟩
      rw [List.length_map, List.take_length] at hall
      have h1 : lies ns ms = true := hall
      rw [h1] at k
      exact k
def n_all_in : List Str := ["rule", "heap"]
theorem sc_all_in : FnScope n_all_in ["rule", "heap"] (defScope s_all_in) := ⟨rfl, rfl, rfl, by decide +kernel, rfl, by decide +kernel, by decide +kernel⟩
def sp_all_in : Sp := fun vs H Q _ => ∃ (p q : Addr) (rs : List V) (rule : List (List Int)) (hs : List Int), vs = [.ref p, .ref q] ∧ H p = some (.tup rs) ∧ All2 Tup1 H rule rs ∧ H q = some (.tup (hs.map V.int)) ∧ rule.length ≤ 60 ∧
  ∀ (l : Addr) (H' : Hp), H' l = some (.lst ((idxG rule hs).map V.int)) → Same H H' → H l = none → Q (.ref l) H'
theorem ok_all_in (T : Txt K mg A) : FnOk P w K mg base CX0 3 A.a_all_in A.fd_all_in ["rule", "heap"] sp_all_in := by
  refine T.F_all_in.ok sc_all_in (fun vs H Q E h => ?_) (fun cdv Ar outer s H vs Q E hr h => ?_)
  · obtain ⟨p, q, rs, rule, hs, rfl, hp, h2, hq, hln, k⟩ := h
    rfl
  · obtain ⟨p, q, rs, rule, hs, rfl, hp, h2, hq, hln, k⟩ := h
    refine ⟨_, (pss_one (ps_ret (pe_comp (ls := ["number", "shut"]) (fr := [("heap", 1)]) (cs_of (defScope s_all_in) n_all_in rfl rfl (by decide +kernel)) rfl (pi_enum true rfl T.b_enumerate (pa_cons (pv 0) pa_nil)) (fun _ _ _ _ => pg_tupC 2 rfl (pgs_cons (pgc (ls := ["number", "shut"]) (fr := [("heap", 1)]) 0 (by decide +kernel) rfl rfl) (pgs_cons (pgc (ls := ["number", "shut"]) (fr := [("heap", 1)]) 1 (by decide +kernel) rfl rfl) pgs_nil)) rfl rfl) (fun _ _ _ _ => pf_one (pt_truthK K rfl (pe_call (ok_lies_in T) (hr.mono (by decide)) (glc (defScope s_all_in)) T.g_lies_in T.F_lies_in.kp T.b_lies_in .nil pass0 (pa_cons (pvc (defScope s_all_in) 1) (pa_cons (pvc (defScope s_all_in) 2) pa_nil))) (fun _ => rfl))) (fun _ _ _ _ => (pvc (defScope s_all_in) 0))))), ?_⟩
    refine ⟨_, rfl, p, rfl, ⟨_, SqT.of hp⟩, comp_enum (k := true) (xs := rs) (fun i zs σ' H' => Same H H' ∧ (∃ v w, σ' = [v, w, some (.ref q)]) ∧ zs = (idxP rule hs i).map V.int) ⟨fun _ _ h => h, ⟨_, _, rfl⟩, rfl⟩ ?_ ?_ ?_⟩
    · rintro i zs σ' H' hi ⟨s, _, rfl⟩
      refine ⟨SqT.of (s _ _ hp), ?_⟩
      rw [List.length_map]
      have h1 := idxP_len rule hs i
      have h2 := h2.length
      exact small64 (by omega)
    · rintro i x zs σ' H' T' hx ⟨s, ⟨v, w', rfl⟩, rfl⟩ hT
      obtain ⟨hs1, hh1, q1, rfl, hq1⟩ := h2.get hx
      have hi := (List.getElem?_eq_some_iff.mp hh1).1
      have e1 : rule.getD i [] = hs1 := by simp [hh1]
      refine ⟨T', _, rfl, SqT.of upd_same, rfl, _, _, rfl, _, _, rfl, rfl, ?_⟩
      have sn := s.trans (Same.new (o := .tup [.int i, .ref q1]) hT)
      refine ⟨_, rfl, _, rfl, q1, q, hs1, hs, rfl, sn _ _ hq1, sn _ _ hq, ?_⟩
      refine ⟨_, rfl, ?_⟩
      refine ite2 (fun hc => ⟨_, rfl, sn, ⟨_, _, rfl⟩, ?_⟩) (fun hc => ⟨sn, ⟨_, _, rfl⟩, ?_⟩)
      · rw [idxP_succ, e1, if_pos hc, List.map_append]
        rfl
      · rw [idxP_succ, e1, if_neg hc, List.append_nil]
    · rintro zs σ' H' ⟨s, _, rfl⟩ l hl
      rw [← h2.length]
      exact k l _ upd_same (s.trans (Same.new hl)) (s.free hl)
def n_first_in : List Str := ["rule", "heap"]
theorem sc_first_in : FnScope n_first_in ["rule", "heap"] (defScope s_first_in) := ⟨rfl, rfl, rfl, by decide +kernel, rfl, by decide +kernel, by decide +kernel⟩
def sp_first_in : Sp := fun vs H Q _ => ∃ (p q : Addr) (rs : List V) (rule : List (List Int)) (hs : List Int), vs = [.ref p, .ref q] ∧ H p = some (.tup rs) ∧ All2 Tup1 H rule rs ∧ H q = some (.tup (hs.map V.int)) ∧ rule.length ≤ 60 ∧
  ∀ (H' : Hp), Same H H' → Q (optV (firstG rule hs)) H'
theorem ok_first_in (T : Txt K mg A) : FnOk P w K mg base CX0 4 A.a_first_in A.fd_first_in ["rule", "heap"] sp_first_in := by
  refine T.F_first_in.ok sc_first_in (fun vs H Q E h => ?_) (fun cdv Ar outer s H vs Q E hr h => ?_)
  · obtain ⟨p, q, rs, rule, hs, rfl, hp, h2, hq, hln, k⟩ := h
    rfl
  · obtain ⟨p, q, rs, rule, hs, rfl, hp, h2, hq, hln, k⟩ := h
    refine ⟨_, (pss_one (ps_ret (pe_minD false rfl rfl T.b_min (pe_call (ok_all_in T) (hr.mono (by decide)) rfl T.g_all_in T.F_all_in.kp T.b_all_in .nil pass0 (pa_cons (pv 0) (pa_cons (pv 1) pa_nil))) pe_non))), ?_⟩
    refine ⟨_, rfl, _, rfl, p, q, rs, rule, hs, rfl, hp, h2, hq, hln, fun l H' hl s nl => ?_⟩
    refine ⟨l, idxG rule hs, rfl, SqL.of hl, fun v hv => ?_⟩
    rcases hv with ⟨e, rfl⟩ | ⟨m, rfl, hm⟩
    · have := k H' s
      rw [first_none e] at this
      exact this
    · have e : firstG rule hs = some m := idxP_head rule hs rule.length m hm
      have := k H' s
      rw [e] at this
      exact this
def n_keeps : List Str := ["rule", "heap"]
theorem sc_keeps : FnScope n_keeps ["rule", "heap"] (defScope s_keeps) := ⟨rfl, rfl, rfl, by decide +kernel, rfl, by decide +kernel, by decide +kernel⟩
def sp_keeps : Sp := fun vs H Q _ => ∃ (p q : Addr) (rs : List V) (rule : List (List Int)) (hs : List Int), vs = [.ref p, .ref q] ∧ H p = some (.tup rs) ∧ All2 Tup1 H rule rs ∧ H q = some (.tup (hs.map V.int)) ∧ rule.length ≤ 60 ∧
  ∀ (H' : Hp), Same H H' → Q (.bl (firstG rule hs).isNone) H'
theorem ok_keeps (T : Txt K mg A) : FnOk P w K mg base CX0 5 A.a_keeps A.fd_keeps ["rule", "heap"] sp_keeps := by
  refine T.F_keeps.ok sc_keeps (fun vs H Q E h => ?_) (fun cdv Ar outer s H vs Q E hr h => ?_)
  · obtain ⟨p, q, rs, rule, hs, rfl, hp, h2, hq, hln, k⟩ := h
    rfl
  · obtain ⟨p, q, rs, rule, hs, rfl, hp, h2, hq, hln, k⟩ := h
    refine ⟨_, (pss_one (ps_ret (pe_cmpR op_isN (pe_call (ok_first_in T) (hr.mono (by decide)) rfl T.g_first_in T.F_first_in.kp T.b_first_in .nil pass0 (pa_cons (pv 0) (pa_cons (pv 1) pa_nil))) pe_non (nomark _)))), ?_⟩
    refine ⟨_, rfl, _, rfl, p, q, rs, rule, hs, rfl, hp, h2, hq, hln, fun H' s => ⟨rfl, ?_⟩⟩
    rw [optV_none]
    exact k H' s
def n_refuse_beyond : List Str := ["n", "most"]
theorem sc_refuse_beyond : FnScope n_refuse_beyond ["n", "most"] (defScope s_refuse_beyond) := ⟨rfl, rfl, rfl, by decide +kernel, rfl, by decide +kernel, by decide +kernel⟩
def sp_refuse (A : Adr) : Sp := fun vs H Q E => ∃ (n m : Int), vs = [.int n, .int m] ∧ (0 ≤ m ∧ m ≤ 400) ∧ ((0 ≤ n ∧ n ≤ m ∧ Q .non H) ∨ ((n < 0 ∨ m < n) ∧ E (.ref A.c_NoSum) none H))
theorem num_len : ∀ k : Nat, k ≤ 400 → (PySem.Str.ofString "the number is not one from 0 to " ++ (toString ((k : Nat) : Int) : Str)).length ≤ 100 := by decide +kernel
theorem num_log : ∀ k : Nat, k ≤ 400 → k.log2 < 1920 := by decide +kernel
theorem ok_refuse_beyond (T : Txt K mg A) : FnOk P w K mg base (CX1 P w) 1 A.a_refuse_beyond A.fd_refuse_beyond ["n", "most"] (sp_refuse A) := by
  refine T.F_refuse_beyond.okE sc_refuse_beyond (fun vs H Q E h => ?_) (fun cdv Ar outer s H vs Q E hr h => ?_)
  · obtain ⟨n, m, rfl, hm, h⟩ := h
    rfl
  · obtain ⟨n, m, rfl, hm, h⟩ := h
    refine ⟨_, (pss_one (ps_if (PW.pt (pw_or (pt_cmpR op_lt (pv 0) pe_int (nomark _)) (pw_or1 (pt_cmpR op_gt (pv 0) (pv 1) (nomark _)))))
          (pss_one (ps_raise rfl T.x_NoSum rfl T.g_NoSum (pa_cons (pe_fstr (by decide +kernel) (pv 1)) pa_nil))) pss_nil)), ?_⟩
    have raise : (n < 0 ∨ m < n) → E (.ref A.c_NoSum) none H := fun hb => by
      rcases h with ⟨h1, h2, _⟩ | ⟨_, hE⟩
      · omega
      · exact hE
    obtain ⟨j, rfl⟩ : ∃ j : Nat, m = (j : Int) := ⟨m.toNat, by omega⟩
    have fin : (n < 0 ∨ (j : Int) < n) → ∃ i, V.int (j : Int) = V.int i ∧ i.natAbs.log2 < 1920 ∧ (PySem.Str.ofString "the number is not one from 0 to " ++ (toString i : Str)).length ≤ sizeLine ∧ [V.str (PySem.Str.ofString "the number is not one from 0 to " ++ (toString i : Str))].length ≤ sizeLine ∧ E (.ref A.c_NoSum) none H := fun hb =>
      ⟨(j : Int), rfl, by rw [Int.natAbs_natCast]; exact num_log j (by omega), Nat.le_trans (num_len j (by omega)) (by decide), by show 1 ≤ sizeLine; decide, raise hb⟩
    refine ⟨_, rfl, _, _, rfl, rfl, _, rfl, ?_⟩
    refine ite2 (fun hc => ?_) (fun hc => ?_)
    · exact iteT ⟨_, rfl, fin (.inl (of_decide_eq_true hc))⟩
    · refine ⟨_, rfl, _, rfl, _, _, rfl, rfl, _, rfl, ?_⟩
      refine ite2 (fun hc2 => ⟨_, rfl, fin (.inr (of_decide_eq_true hc2))⟩) (fun hc2 => ?_)
      rcases h with ⟨_, _, q⟩ | ⟨hb, _⟩
      · exact q
      · have c1 : ¬ n < 0 := fun z => hc (decide_eq_true z)
        have c2 : ¬ (j : Int) < n := fun z => hc2 (decide_eq_true z)
        omega
def n_partings_to : List Str := ["n", "greatest", "partings", "part"]
theorem sc_partings_to : FnScope n_partings_to ["n", "greatest"] (defScope s_partings_to) := ⟨rfl, rfl, rfl, by decide +kernel, rfl, by decide +kernel, by decide +kernel⟩
def sp_parts (n : Nat) : Sp := fun vs H Q _ => ∃ (m g : Nat), m < n ∧ vs = [.int m, .int g] ∧ m ≤ 24 ∧ g ≤ 1000 ∧
  ∀ (l : Addr) (xs : List V) (H' : Hp), H' l = some (.lst xs) → All2 Tup1 H' (partF n m g) xs → Same H H' → H l = none → Q (.ref l) H'
theorem okr_partings_to (T : Txt K mg A) : ∀ n : Nat, FnOk P w K mg base CX0 n A.a_partings_to A.fd_partings_to ["n", "greatest"] (sp_parts n)
  | 0 => FnOk.none (fun _ _ _ _ ⟨_, _, h, _⟩ => absurd h (Nat.not_lt_zero _))
  | n + 1 => by
    have ih := okr_partings_to T n
    refine T.F_partings_to.ok sc_partings_to (fun vs H Q E h => ?_) (fun cdv Ar outer s H vs Q E hr h => ?_)
    · obtain ⟨m, g, hm, rfl, hm24, hg, k⟩ := h
      rfl
    · obtain ⟨m, g, hm, rfl, hm24, hg, k⟩ := h
      refine ⟨_, (pss_cons (ps_if (pt_cmpR op_eq (pv 0) pe_int (nomark _))
            (pss_one (ps_ret (pe_lst (pa_cons (pe_tup pa_nil) pa_nil)))) pss_nil)
          (pss_cons (ps_set (i := 2) sc_partings_to.nd rfl (by first | exact Or.inl rfl | exact Or.inr rfl) (pe_lst pa_nil))
          (pss_cons (ps_for PassesOwn.never rfl (pi_down rfl T.b_range (pa_cons (pe_callB (call_min2 rfl) rfl T.b_min boot_min (pa_cons (pv 0) (pa_cons (pv 1) pa_nil))) (pa_cons pe_int (pa_cons (pe_un un_neg pe_int) pa_nil)))) (pg_name (i := 3) sc_partings_to.nd rfl (by first | exact Or.inl rfl | exact Or.inr rfl))
            (pss_one (ps_expr (pe_bm PySem.F.plainAttrs_list PySem.F.slot_list_extend PySem.F.type_list_extend mt_extend (pv 2) (pa_cons (pe_comp (ls := ["rest"]) (fr := [("part", 3)]) (cs_of (defScope s_partings_to) n_partings_to rfl rfl (by decide +kernel)) rfl (pi_list (pe_call ih hr rfl T.g_partings_to T.F_partings_to.kp T.b_partings_to .nil pass0 (pa_cons (pe_op op_sub (pv 0) (pv 3 (hv := Or.inr (Or.inl rfl)))) (pa_cons (pv 3 (hv := Or.inr (Or.inl rfl))) pa_nil)))) (fun _ _ _ _ => pgc 0 (by decide +kernel) rfl rfl) (fun _ _ _ _ => pf_nil) (fun _ _ _ _ => (pe_op (op_catAK K rfl) (pe_tup (pa_cons (pvc (defScope s_partings_to) 1) pa_nil)) (pvc (defScope s_partings_to) 0)))) pa_nil)))))
          (pss_one (ps_ret (pv 2)))))), ?_⟩
      dsimp only [tNext]
      refine seqJoin (fun σ' H' => m ≠ 0 ∧ H' = H ∧ σ' = [some (.int m), some (.int g), none, none]) (fun nx hnx => ?_) ?_
      · refine ⟨_, rfl, rfl, _, rfl, ?_⟩
        refine ite2 (fun h0 => ?_) (fun h0 => hnx _ _ ⟨fun z => h0 (by rw [z]; rfl), rfl, rfl⟩)
        have e0 : m = 0 := by
          have := of_decide_eq_true h0
          injection this with this
          omega
        refine ⟨by show 0 ≤ sizeLine; decide, fun e he => ⟨by show 1 ≤ sizeLine; decide, fun l hl => ?_⟩⟩
        refine k l [.ref e] _ upd_same ?_ ((Same.new he).trans (Same.new hl)) ((Same.new he).free hl)
        rw [partF_succ, if_pos e0]
        exact .cons ⟨e, rfl, Same.new hl _ _ upd_same⟩ .nil
      rintro σ1 H1 ⟨m0, rfl, rfl⟩
      refine ⟨by show 0 ≤ sizeLine; decide, fun l hl => ?_⟩
      have hmin : (if (g : Int) < (m : Int) then (g : Int) else (m : Int)) = ((min m g : Nat) : Int) := by split <;> omega
      refine ⟨_, rfl, _, rfl, _, _, rfl, _, rfl, min m g, ?_, by omega, for_down (n := min m g) (fun i σ' H' => Same H1 H' ∧ i ≤ min m g ∧ ∃ xs v, σ' = [some (.int m), some (.int g), some (.ref l), v] ∧ H' l = some (.lst xs) ∧ All2 Tup1 H' (partP n m (min m g) i) xs) ⟨Same.new hl, Nat.zero_le _, [], _, rfl, upd_same, .nil⟩ ?_ ?_⟩
      · show [V.int (if (g : Int) < (m : Int) then (g : Int) else (m : Int)), V.int 0, V.int (-1)] = _
        rw [hmin]
      · rintro i σ' H' hi ⟨s, _, xs, v, rfl, gl, h2⟩
        have ep : ((min m g : Nat) : Int) - (i : Int) = ((min m g - i : Nat) : Int) := by omega
        have em : (m : Int) - ((min m g - i : Nat) : Int) = ((m - (min m g - i) : Nat) : Int) := by omega
        have hlx : xs.length ≤ 2 ^ (m - min m g + i) := by
          rw [← h2.length]
          exact partP_len (partF_len n) (Nat.min_le_left _ _) i (by omega)
        rw [ep]
        refine ⟨_, rfl, .inl ⟨rfl, _, SqL.of gl⟩, _, rfl, _, rfl, _, _, rfl, rfl, _, rfl, m - (min m g - i), min m g - i, by omega, ?_, by omega, by omega, fun l2 xs2 H2 gl2 h3 s2 nl2 => ?_⟩
        · show [V.int ((m : Int) - ((min m g - i : Nat) : Int)), V.int ((min m g - i : Nat) : Int)] = _
          rw [em]
        have hlx2 : xs2.length ≤ 2 ^ (m - min m g + i) := by
          rw [← h3.length]
          have e1 : m - (min m g - i) = m - min m g + i := by omega
          exact Nat.le_trans (partF_len n (m - (min m g - i)) (min m g - i)) (by rw [e1]; exact Nat.le_refl _)
        have hpw : 2 ^ (m - min m g + i) + 2 ^ (m - min m g + i) ≤ sizeLine := by
          have : 2 ^ (m - min m g + i) + 2 ^ (m - min m g + i) = 2 ^ (m - min m g + i + 1) := by rw [Nat.pow_succ]; omega
          rw [this]
          exact pow24 (by omega)
        refine ⟨l2, rfl, ⟨_, SqL.of gl2⟩, comp_list (xs := xs2) (fun j ys σ' H3 => Same H2 H3 ∧ (∃ v, σ' = [v, some (.int ((min m g - i : Nat) : Int))]) ∧ All2 Tup1 H3 (((partF n (m - (min m g - i)) (min m g - i)).take j).map (((min m g - i : Nat) : Int) :: ·)) ys) ⟨fun _ _ h => h, ⟨_, rfl⟩, .nil⟩ ?_ ?_ ?_⟩
        · rintro j ys σ' H3 hj ⟨s3, _, h4⟩
          refine ⟨SqL.of (s3 _ _ gl2), ?_⟩
          rw [← h4.length, List.length_map, List.length_take]
          omega
        · rintro j x ys σ' H3 hx ⟨s3, ⟨v, rfl⟩, h4⟩
          obtain ⟨hs, hhs, q, rfl, hq⟩ := h3.get hx
          have hj := (List.getElem?_eq_some_iff.mp hhs).1
          have eh := (List.getElem?_eq_some_iff.mp hhs).2
          refine ⟨_, rfl, by show 1 ≤ sizeLine; decide, fun t ht => ⟨_, rfl, ?_⟩⟩
          have hl1 : hs.length ≤ 100 := by
            have := partF_mem _ _ _ hs (List.mem_of_getElem? hhs)
            omega
          refine cat_front (Same.new ht _ _ (s3 _ _ hq)) upd_same hl1 fun v H4 hv s4 => ?_
          have sn := (Same.new (o := .tup [V.int ((min m g - i : Nat) : Int)]) ht).trans s4
          refine ⟨s3.trans sn, ⟨_, rfl⟩, ?_⟩
          rw [List.take_succ_eq_append_getElem hj, List.map_append, eh]
          exact (h4.mv sn.tups).snoc hv
        · rintro ys σ' H3 ⟨s3, _, h4⟩ l3 hl3
          have et : (partF n (m - (min m g - i)) (min m g - i)).take xs2.length = partF n (m - (min m g - i)) (min m g - i) := by rw [← h3.length, List.take_length]
          rw [et] at h4
          have hly : ys.length = xs2.length := by rw [← h4.length, List.length_map, h3.length]
          have sn := s2.trans (s3.trans (Same.new (o := .lst ys) hl3))
          refine ⟨l, l3, xs, ys, rfl, rfl, sn _ _ gl, upd_same, by omega, ?_⟩
          have tn : Tups H' (upd (upd H3 l3 (.lst ys)) l (.lst (xs ++ ys))) := sn.tups.trans (Tups.set (sn _ _ gl))
          have tn3 : Tups H3 (upd (upd H3 l3 (.lst ys)) l (.lst (xs ++ ys))) := (Same.new hl3).tups.trans (Tups.set (sn _ _ gl))
          refine ⟨fun b o e => ?_, by omega, xs ++ ys, _, rfl, upd_same, ?_⟩
          · rw [upd_ne (ne_of_none e hl)]
            exact sn _ _ (s _ _ e)
          · rw [partP_succ]
            exact (h2.mv tn).append (h4.mv tn3)
      · rintro σ' H' ⟨s, _, xs, v, rfl, gl, h2⟩
        refine ⟨_, rfl, k l xs H' gl ?_ s hl⟩
        rw [partF_succ, if_neg m0]
        exact h2
theorem ok_partings_to (T : Txt K mg A) : FnOk P w K mg base CX0 26 A.a_partings_to A.fd_partings_to ["n", "greatest"] (sp_parts 26) := okr_partings_to T 26
def n_partings_of : List Str := ["n"]
theorem sc_partings_of : FnScope n_partings_of ["n"] (defScope s_partings_of) := ⟨rfl, rfl, rfl, by decide +kernel, rfl, by decide +kernel, by decide +kernel⟩
def sp_partings_of (A : Adr) : Sp := fun vs H Q E => ∃ (n : Int), vs = [.int n] ∧ ((∃ m : Nat, n = m ∧ m ≤ 24 ∧ ∀ (l : Addr) (xs : List V) (H' : Hp), H' l = some (.lst xs) → All2 Tup1 H' (partF 26 m m) xs → Same H H' → H l = none → Q (.ref l) H') ∨ ((n < 0 ∨ 24 < n) ∧ E (.ref A.c_NoSum) none H))
theorem ok_partings_of (T : Txt K mg A) : FnOk P w K mg base (CX1 P w) 27 A.a_partings_of A.fd_partings_of ["n"] (sp_partings_of A) := by
  refine T.F_partings_of.okE sc_partings_of (fun vs H Q E h => ?_) (fun cdv Ar outer s H vs Q E hr h => ?_)
  · obtain ⟨n, rfl, h⟩ := h
    rfl
  · obtain ⟨n, rfl, h⟩ := h
    refine ⟨_, (pss_cons (ps_expr (pe_call (ok_refuse_beyond T) (hr.mono (by decide)) rfl T.g_refuse_beyond T.F_refuse_beyond.kp T.b_refuse_beyond .nil passE (pa_cons (pv 0) (pa_cons (pe_glob (v := .int 24) rfl T.v_MOST_LISTED.choose_spec ⟨_, rfl⟩) pa_nil))))
        (pss_one (ps_ret (pe_call (ok_partings_to T) (hr.mono (by decide)) rfl T.g_partings_to T.F_partings_to.kp T.b_partings_to .nil pass0 (pa_cons (pv 0) (pa_cons (pv 0) pa_nil)))))), ?_⟩
    rcases h with ⟨m, rfl, hm, k⟩ | ⟨hb, hE⟩
    · refine ⟨_, rfl, (m : Int), 24, rfl, ⟨by decide, by decide⟩, .inl ⟨by omega, by omega, ?_⟩⟩
      exact ⟨_, rfl, _, rfl, m, m, by omega, rfl, hm, by omega, k⟩
    · exact ⟨_, rfl, n, 24, rfl, ⟨by decide, by decide⟩, .inr ⟨hb, hE⟩⟩
def n_kept_of : List Str := ["rule", "n"]
theorem sc_kept_of : FnScope n_kept_of ["rule", "n"] (defScope s_kept_of) := ⟨rfl, rfl, rfl, by decide +kernel, rfl, by decide +kernel, by decide +kernel⟩
def sp_kept_of (A : Adr) : Sp := fun vs H Q E => ∃ (p : Addr) (rs : List V) (rule : List (List Int)) (n : Int), vs = [.ref p, .int n] ∧ H p = some (.tup rs) ∧ All2 Tup1 H rule rs ∧ rule.length ≤ 60 ∧
  ((∃ m : Nat, n = m ∧ m ≤ 24 ∧ ∀ (l : Addr) (xs : List V) (H' : Hp), H' l = some (.lst xs) → All2 Tup1 H' (keptG rule m) xs → Same H H' → H l = none → Q (.ref l) H') ∨ ((n < 0 ∨ 24 < n) ∧ E (.ref A.c_NoSum) none H))
theorem ok_kept_of (T : Txt K mg A) : FnOk P w K mg base (CX1 P w) 28 A.a_kept_of A.fd_kept_of ["rule", "n"] (sp_kept_of A) := by
  refine T.F_kept_of.okE sc_kept_of (fun vs H Q E h => ?_) (fun cdv Ar outer s H vs Q E hr h => ?_)
  · obtain ⟨p, rs, rule, n, rfl, hp, h2, hln, h⟩ := h
    rfl
  · obtain ⟨p, rs, rule, n, rfl, hp, h2, hln, h⟩ := h
    refine ⟨_, (pss_one (ps_ret (pe_comp (ls := ["heap"]) (fr := [("rule", 0)]) (cs_of (defScope s_kept_of) n_kept_of rfl rfl (by decide +kernel)) rfl (pi_list (pe_call (ok_partings_of T) (hr.mono (by decide)) rfl T.g_partings_of T.F_partings_of.kp T.b_partings_of .nil passE (pa_cons (pv 1) pa_nil))) (fun _ _ _ _ => pgc 0 (by decide +kernel) rfl rfl) (fun _ _ _ _ => pf_one (pt_truthK K rfl (pe_call (ok_keeps T) (hr.mono (by decide)) (glc (defScope s_kept_of)) T.g_keeps T.F_keeps.kp T.b_keeps .nil pass0 (pa_cons (pvc (defScope s_kept_of) 1) (pa_cons (pvc (defScope s_kept_of) 0) pa_nil))) (fun _ => rfl))) (fun _ _ _ _ => (pvc (defScope s_kept_of) 0))))), ?_⟩
    rcases h with ⟨m, rfl, hm, k⟩ | ⟨hb, hE⟩
    · refine ⟨_, rfl, (m : Int), rfl, .inl ⟨m, rfl, hm, fun l xs H1 gl h1 s1 nl => ?_⟩⟩
      have hlx : xs.length ≤ sizeLine := by rw [← h1.length]; exact Nat.le_trans (partF_len _ _ _) (pow24 hm)
      refine ⟨l, rfl, ⟨_, SqL.of gl⟩, comp_list (xs := xs) (fun i ys σ' H' => Same H1 H' ∧ (∃ v, σ' = [v, some (.ref p)]) ∧ ys.length ≤ i ∧ All2 Tup1 H' (((partF 26 m m).take i).filter fun h => (firstG rule h).isNone) ys) ⟨fun _ _ h => h, ⟨_, rfl⟩, Nat.le_refl _, .nil⟩ ?_ ?_ ?_⟩
      · rintro i ys σ' H' hi ⟨s, _, hy, _⟩
        exact ⟨SqL.of (s _ _ gl), by omega⟩
      · rintro i x ys σ' H' hx ⟨s, ⟨v, rfl⟩, hy, h3⟩
        obtain ⟨hs, hhs, q, rfl, hq⟩ := h1.get hx
        have sn := s1.trans s
        refine ⟨_, rfl, _, rfl, p, q, rs, rule, hs, rfl, sn _ _ hp, h2.mv sn.tups, s _ _ hq, hln, fun H2 s2 => ⟨_, rfl, ?_⟩⟩
        refine ite2 (fun hc => ⟨_, rfl, s.trans s2, ⟨_, rfl⟩, by simp; omega, ?_⟩) (fun hc => ⟨s.trans s2, ⟨_, rfl⟩, by omega, ?_⟩)
        · rw [filter_take _ hhs, if_pos hc]
          exact (h3.mv s2.tups).snoc ⟨q, rfl, s2 _ _ (s _ _ hq)⟩
        · rw [filter_take _ hhs, if_neg hc, List.append_nil]
          exact h3.mv s2.tups
      · rintro ys σ' H' ⟨s, _, hy, h3⟩ l2 hl2
        rw [← h1.length, List.take_length] at h3
        have sn := s1.trans (s.trans (Same.new (o := .lst ys) hl2))
        exact k l2 ys _ upd_same (h3.mv (Same.new hl2).tups) sn ((s1.trans s).free hl2)
    · exact ⟨_, rfl, n, rfl, .inr ⟨hb, hE⟩⟩
def n_by_parts : List Str := ["rule", "n", "lengths"]
theorem sc_by_parts : FnScope n_by_parts ["rule", "n"] (defScope s_by_parts) := ⟨rfl, rfl, rfl, by decide +kernel, rfl, by decide +kernel, by decide +kernel⟩
def sp_by_parts (A : Adr) : Sp := fun vs H Q E => ∃ (p : Addr) (rs : List V) (rule : List (List Int)) (n : Int), vs = [.ref p, .int n] ∧ H p = some (.tup rs) ∧ All2 Tup1 H rule rs ∧ rule.length ≤ 60 ∧
  ((∃ m : Nat, n = m ∧ m ≤ 24 ∧ ∀ (l : Addr) (H' : Hp), H' l = some (.lst ((partsG (keptG rule m) (m + 1)).map V.int)) → Same H H' → H l = none → Q (.ref l) H') ∨ ((n < 0 ∨ 24 < n) ∧ E (.ref A.c_NoSum) none H))
theorem ok_by_parts (T : Txt K mg A) : FnOk P w K mg base (CX1 P w) 29 A.a_by_parts A.fd_by_parts ["rule", "n"] (sp_by_parts A) := by
  refine T.F_by_parts.okE sc_by_parts (fun vs H Q E h => ?_) (fun cdv Ar outer s H vs Q E hr h => ?_)
  · obtain ⟨p, rs, rule, n, rfl, hp, h2, hln, h⟩ := h
    rfl
  · obtain ⟨p, rs, rule, n, rfl, hp, h2, hln, h⟩ := h
    refine ⟨_, (pss_cons (ps_set (i := 2) sc_by_parts.nd rfl (by first | exact Or.inl rfl | exact Or.inr rfl) (pe_comp (ls := ["heap"]) (fr := []) (cs_of (defScope s_by_parts) n_by_parts rfl rfl (by decide +kernel)) rfl (pi_list (pe_call (ok_kept_of T) (hr.mono (by decide)) rfl T.g_kept_of T.F_kept_of.kp T.b_kept_of .nil passE (pa_cons (pv 0) (pa_cons (pv 1) pa_nil)))) (fun _ _ _ _ => pgc 0 (by decide +kernel) rfl rfl) (fun _ _ _ _ => pf_nil) (fun _ _ _ _ => (pe_callB (call_len_seqK K rfl) (glc (defScope s_by_parts)) T.b_len PySem.boot_len (pa_cons (pvc (defScope s_by_parts) 0) pa_nil)))))
        (pss_one (ps_ret (pe_comp (ls := ["k"]) (fr := [("lengths", 2)]) (cs_of (defScope s_by_parts) n_by_parts rfl rfl (by decide +kernel)) rfl (pi_range1 rfl T.b_range (pa_cons (pe_op op_add (pv 1) pe_int) pa_nil)) (fun _ _ _ _ => pgc 0 (by decide +kernel) rfl rfl) (fun _ _ _ _ => pf_nil) (fun _ _ _ _ => (pe_bmK K rfl PySem.F.plainAttrs_list PySem.F.slot_list_count PySem.F.type_list_count (mt_countLK K rfl) (pvc (defScope s_by_parts) 1) (pa_cons (pvc (defScope s_by_parts) 0) pa_nil))))))), ?_⟩
    rcases h with ⟨m, rfl, hm, k⟩ | ⟨hb, hE⟩
    · refine ⟨_, rfl, _, rfl, p, rs, rule, (m : Int), rfl, hp, h2, hln, .inl ⟨m, rfl, hm, fun l xs H1 gl h1 s1 nl => ?_⟩⟩
      have hlx : xs.length ≤ sizeLine := by rw [← h1.length]; exact Nat.le_trans (keptG_len _ _) (pow24 hm)
      refine ⟨l, rfl, ⟨_, SqL.of gl⟩, comp_list (xs := xs) (fun i ys σ' H' => H' = H1 ∧ (∃ v, σ' = [v]) ∧ ys = (((keptG rule m).take i).map fun h => (h.length : Int)).map V.int) ⟨rfl, ⟨_, rfl⟩, rfl⟩ ?_ ?_ ?_⟩
      · rintro i ys σ' H' hi ⟨rfl, _, rfl⟩
        refine ⟨SqL.of gl, ?_⟩
        rw [List.length_map, List.length_map, List.length_take]
        omega
      · rintro i x ys σ' H' hx ⟨rfl, ⟨v, rfl⟩, rfl⟩
        obtain ⟨hs, hhs, q, rfl, hq⟩ := h1.get hx
        obtain ⟨hi, eh⟩ := List.getElem?_eq_some_iff.mp hhs
        refine ⟨_, rfl, q, _, rfl, .inr (SqT.of hq), rfl, ⟨_, rfl⟩, ?_⟩
        rw [List.take_succ_eq_append_getElem hi, List.map_append, List.map_append, eh, List.length_map]
        rfl
      · rintro ys σ' H' ⟨rfl, _, rfl⟩ l2 hl2
        rw [← h1.length, List.take_length]
        generalize hL : ((keptG rule m).map fun h => (h.length : Int)) = L
        generalize hH2 : upd H' l2 (.lst (L.map V.int)) = H2
        have g2 : H2 l2 = some (.lst (L.map V.int)) := by rw [← hH2]; exact upd_same
        have s2 : Same H' H2 := by rw [← hH2]; rw [← hL]; exact Same.new hl2
        refine ⟨_, rfl, _, _, rfl, rfl, _, rfl, by omega, by omega, comp_range (fun i ys σ' H' => H' = H2 ∧ (∃ v, σ' = [v, some (.ref l2)]) ∧ i ≤ m + 1 ∧ ys = (partsG (keptG rule m) i).map V.int) ⟨rfl, ⟨_, rfl⟩, Nat.zero_le _, rfl⟩ ?_ ?_ ?_⟩
        · rintro i ys σ' H' hi ⟨rfl, _, hi2, rfl⟩
          rw [List.length_map, partsG_len]
          exact small64 (by omega)
        · rintro i ys σ' H' hi ⟨rfl, ⟨v, rfl⟩, hi2, rfl⟩
          refine ⟨_, rfl, .inl ⟨rfl, _, SqL.of g2⟩, _, rfl, l2, _, _, rfl, rfl, SqL.of g2, rfl, flat_ints _, rfl, ⟨_, rfl⟩, by omega, ?_⟩
          rw [cntV_ints, Int.zero_add, partsG_succ, List.map_append, hL]
          rfl
        · rintro ys σ' H' ⟨rfl, _, _, rfl⟩ l3 hl3
          have e : ((m : Int) + 1).toNat = m + 1 := by omega
          rw [e]
          exact k l3 _ upd_same (s1.trans (s2.trans (Same.new hl3))) ((s1.trans s2).free hl3)
    · exact ⟨_, rfl, _, rfl, p, rs, rule, n, rfl, hp, h2, hln, .inr ⟨hb, hE⟩⟩
def n_sum_of : List Str := ["heap"]
theorem sc_sum_of : FnScope n_sum_of ["heap"] (defScope s_sum_of) := ⟨rfl, rfl, rfl, by decide +kernel, rfl, by decide +kernel, by decide +kernel⟩
def sp_sum_of (K : PySem.W.Frag) : Sp := fun vs H Q _ => ∃ (a : Addr) (ns : List Int), vs = [.ref a] ∧ SqT K H a (ns.map V.int) ∧ Q (.int ns.sum) H
theorem ok_sum_of (T : Txt K mg A) : FnOk P w K mg base CX0 1 A.a_sum_of A.fd_sum_of ["heap"] (sp_sum_of K) := by
  refine T.F_sum_of.ok sc_sum_of (fun vs H Q E h => ?_) (fun cdv Ar outer s H vs Q E hr h => ?_)
  · obtain ⟨a, ns, rfl, hS, k⟩ := h
    rfl
  · obtain ⟨a, ns, rfl, hS, k⟩ := h
    refine ⟨_, (pss_one (ps_ret (pe_callB (call_sum_ints rfl) rfl T.b_sum boot_sum (pa_cons (pv 0) pa_nil)))), ?_⟩
    exact ⟨_, rfl, a, ns, rfl, .inr hS, k⟩
def n_refuse_unkept : List Str := ["rule", "heap", "number"]
theorem sc_refuse_unkept : FnScope n_refuse_unkept ["rule", "heap"] (defScope s_refuse_unkept) := ⟨rfl, rfl, rfl, by decide +kernel, rfl, by decide +kernel, by decide +kernel⟩
def sp_unkept : Sp := fun vs H Q _ => ∃ (p q : Addr) (rs : List V) (rule : List (List Int)) (hs : List Int), vs = [.ref p, .ref q] ∧ H p = some (.tup rs) ∧ All2 Tup1 H rule rs ∧ H q = some (.tup (hs.map V.int)) ∧ rule.length ≤ 60 ∧ firstG rule hs = none ∧
  ∀ (H' : Hp), Same H H' → Q .non H'
theorem ok_refuse_unkept (T : Txt K mg A) : FnOk P w K mg base CX0 5 A.a_refuse_unkept A.fd_refuse_unkept ["rule", "heap"] sp_unkept := by
  refine T.F_refuse_unkept.ok sc_refuse_unkept (fun vs H Q E h => ?_) (fun cdv Ar outer s H vs Q E hr h => ?_)
  · obtain ⟨p, q, rs, rule, hs, rfl, hp, h2, hq, hln, h0, k⟩ := h
    rfl
  · obtain ⟨p, q, rs, rule, hs, rfl, hp, h2, hq, hln, h0, k⟩ := h
    refine ⟨_, (pss_cons (ps_set (i := 2) sc_refuse_unkept.nd rfl (by first | exact Or.inl rfl | exact Or.inr rfl) (pe_call (ok_first_in T) (hr.mono (by decide)) rfl T.g_first_in T.F_first_in.kp T.b_first_in .nil pass0 (pa_cons (pv 0) (pa_cons (pv 1) pa_nil))))
        (pss_one (ps_if (pt_cmpR op_notN (pv 2) pe_non (nomark _))
          (pss_one ps_never) pss_nil))), ?_⟩
    refine ⟨_, rfl, _, rfl, p, q, rs, rule, hs, rfl, hp, h2, hq, hln, fun H' s => ?_⟩
    rw [h0]
    exact ⟨_, rfl, rfl, _, rfl, iteF (k H' s)⟩
def n_place_of : List Str := ["rule", "heap"]
theorem sc_place_of : FnScope n_place_of ["rule", "heap"] (defScope s_place_of) := ⟨rfl, rfl, rfl, by decide +kernel, rfl, by decide +kernel, by decide +kernel⟩
def sp_place_of : Sp := fun vs H Q _ => ∃ (p q : Addr) (rs : List V) (rule : List (List Int)) (hs : List Int) (m j : Nat), vs = [.ref p, .ref q] ∧ H p = some (.tup rs) ∧ All2 Tup1 H rule rs ∧ H q = some (.tup (hs.map V.int)) ∧ rule.length ≤ 60 ∧ hs.sum = (m : Int) ∧ m ≤ 24 ∧ firstG rule hs = none ∧
  (keptG rule m)[j]? = some hs ∧ (∀ i, i < j → (keptG rule m)[i]? ≠ some hs) ∧ ∀ (H' : Hp), Same H H' → Q (.int (j : Int)) H'
theorem ok_place_of (T : Txt K mg A) : FnOk P w K mg base CX0 29 A.a_place_of A.fd_place_of ["rule", "heap"] sp_place_of := by
  refine T.F_place_of.ok sc_place_of (fun vs H Q E h => ?_) (fun cdv Ar outer s H vs Q E hr h => ?_)
  · obtain ⟨p, q, rs, rule, hs, m, j, rfl, hp, h2, hq, hln, hs0, hm, h0, hj, hj2, k⟩ := h
    rfl
  · obtain ⟨p, q, rs, rule, hs, m, j, rfl, hp, h2, hq, hln, hs0, hm, h0, hj, hj2, k⟩ := h
    refine ⟨_, (pss_cons (ps_expr (pe_call (ok_refuse_beyond T) (hr.mono (by decide)) rfl T.g_refuse_beyond T.F_refuse_beyond.kp T.b_refuse_beyond .nil pass01 (pa_cons (pe_call (ok_sum_of T) (hr.mono (by decide)) rfl T.g_sum_of T.F_sum_of.kp T.b_sum_of .nil pass0 (pa_cons (pv 1) pa_nil)) (pa_cons (pe_glob (v := .int 24) rfl T.v_MOST_LISTED.choose_spec ⟨_, rfl⟩) pa_nil))))
        (pss_cons (ps_expr (pe_call (ok_refuse_unkept T) (hr.mono (by decide)) rfl T.g_refuse_unkept T.F_refuse_unkept.kp T.b_refuse_unkept .nil pass0 (pa_cons (pv 0) (pa_cons (pv 1) pa_nil))))
        (pss_one (ps_ret (pe_bm PySem.F.plainAttrs_list PySem.F.slot_list_index PySem.F.type_list_index (mt_indexT (huR hr)) (pe_call (ok_kept_of T) (hr.mono (by decide)) rfl T.g_kept_of T.F_kept_of.kp T.b_kept_of .nil pass01 (pa_cons (pv 0) (pa_cons (pe_call (ok_sum_of T) (hr.mono (by decide)) rfl T.g_sum_of T.F_sum_of.kp T.b_sum_of .nil pass0 (pa_cons (pv 1) pa_nil)) pa_nil))) (pa_cons (pv 1) pa_nil)))))), ?_⟩
    refine ⟨_, rfl, q, hs, rfl, SqT.of hq, hs.sum, 24, rfl, ⟨by decide, by decide⟩, .inl ⟨by omega, by omega, ?_⟩⟩
    refine ⟨_, rfl, _, rfl, p, q, rs, rule, hs, rfl, hp, h2, hq, hln, h0, fun H1 s1 => ?_⟩
    refine ⟨_, rfl, _, rfl, q, hs, rfl, SqT.of (s1 _ _ hq), p, rs, rule, hs.sum, rfl, s1 _ _ hp, h2.mv s1.tups, hln, .inl ⟨m, hs0, hm, fun l xs H2 gl h4 s2 nl => ?_⟩⟩
    exact ⟨.inl ⟨rfl, _, SqL.of gl⟩, _, rfl, l, q, hs, keptG rule m, xs, j, rfl, rfl, s2 _ _ (s1 _ _ hq), gl, h4, hj, hj2, k H2 (s1.trans s2)⟩
def n_told_at : List Str := ["rule", "n", "place", "heaps"]
theorem sc_told_at : FnScope n_told_at ["rule", "n", "place"] (defScope s_told_at) := ⟨rfl, rfl, rfl, by decide +kernel, rfl, by decide +kernel, by decide +kernel⟩
def sp_told_at : Sp := fun vs H Q _ => ∃ (p : Addr) (rs : List V) (rule : List (List Int)) (hs : List Int) (m j : Nat), vs = [.ref p, .int (m : Int), .int (j : Int)] ∧ H p = some (.tup rs) ∧ All2 Tup1 H rule rs ∧ rule.length ≤ 60 ∧ m ≤ 24 ∧
  (keptG rule m)[j]? = some hs ∧ ∀ (q : Addr) (H' : Hp), H' q = some (.tup (hs.map V.int)) → Same H H' → Q (.ref q) H'
theorem ok_told_at (T : Txt K mg A) : FnOk P w K mg base CX0 29 A.a_told_at A.fd_told_at ["rule", "n", "place"] sp_told_at := by
  refine T.F_told_at.ok sc_told_at (fun vs H Q E h => ?_) (fun cdv Ar outer s H vs Q E hr h => ?_)
  · obtain ⟨p, rs, rule, hs, m, j, rfl, hp, h2, hln, hm, hj, k⟩ := h
    rfl
  · obtain ⟨p, rs, rule, hs, m, j, rfl, hp, h2, hln, hm, hj, k⟩ := h
    refine ⟨_, (pss_cons (ps_set (i := 3) sc_told_at.nd rfl (by first | exact Or.inl rfl | exact Or.inr rfl) (pe_call (ok_kept_of T) (hr.mono (by decide)) rfl T.g_kept_of T.F_kept_of.kp T.b_kept_of .nil pass01 (pa_cons (pv 0) (pa_cons (pv 1) pa_nil))))
        (pss_cons (ps_if (PW.pt (pw_or (pt_cmpR op_lt (pv 2) pe_int (nomark _)) (pw_or1 (pt_cmpR op_ge (pv 2) (pe_callB call_len_seq rfl T.b_len PySem.boot_len (pa_cons (pv 3) pa_nil)) (nomark _)))))
          (pss_one ps_never) pss_nil)
        (pss_one (ps_ret (pe_ix ix_list (pv 3) (pv 2) (fun _ _ => rfl)))))), ?_⟩
    refine ⟨_, rfl, _, rfl, p, rs, rule, (m : Int), rfl, hp, h2, hln, .inl ⟨m, rfl, hm, fun l xs H1 gl h1 s1 nl => ?_⟩⟩
    have hjl : j < xs.length := by rw [← h1.length]; exact (List.getElem?_eq_some_iff.mp hj).1
    refine ⟨_, rfl, _, _, rfl, rfl, _, rfl, ?_⟩
    refine ite2 (fun hc => absurd (of_decide_eq_true hc) (by omega)) (fun _ => ?_)
    refine ⟨_, rfl, _, rfl, l, _, rfl, .inl (SqL.of gl), _, _, rfl, rfl, _, rfl, ?_⟩
    refine ite2 (fun hc => absurd (of_decide_eq_true hc) (by omega)) (fun _ => ?_)
    obtain ⟨x, hx⟩ : ∃ x, xs[j]? = some x := ⟨_, List.getElem?_eq_getElem hjl⟩
    obtain ⟨hs', hhs, q, rfl, hq⟩ := h1.get hx
    rw [hj] at hhs
    cases hhs
    exact ⟨_, rfl, _, rfl, l, _, _, _, rfl, rfl, SqL.of gl, atI_nat hx, k q H1 hq s1⟩
def n_choices_among : List Str := ["numbers", "choices", "number"]
theorem sc_choices_among : FnScope n_choices_among ["numbers"] (defScope s_choices_among) := ⟨rfl, rfl, rfl, by decide +kernel, rfl, by decide +kernel, by decide +kernel⟩
def sp_choices : Sp := fun vs H Q _ => ∃ (a : Addr) (ns : List Int), vs = [.ref a] ∧ H a = some (.lst (ns.map V.int)) ∧ ns.length ≤ 6 ∧
  ∀ (l : Addr) (xs : List V) (H' : Hp), H' l = some (.lst xs) → All2 Tup1 H' (chG ns) xs → Same H H' → H l = none → Q (.ref l) H'
theorem ok_choices_among (T : Txt K mg A) : FnOk P w K mg base CX0 1 A.a_choices_among A.fd_choices_among ["numbers"] sp_choices := by
  refine T.F_choices_among.ok sc_choices_among (fun vs H Q E h => ?_) (fun cdv Ar outer s H vs Q E hr h => ?_)
  · obtain ⟨a, ns, rfl, ha, hln, k⟩ := h
    rfl
  · obtain ⟨a, ns, rfl, ha, hln, k⟩ := h
    refine ⟨_, (pss_cons (ps_set (i := 1) sc_choices_among.nd rfl (by first | exact Or.inl rfl | exact Or.inr rfl) (pe_lst (pa_cons (pe_tup pa_nil) pa_nil)))
        (pss_cons (ps_for PassesOwn.never rfl (pi_list (pv 0)) (pg_name (i := 2) sc_choices_among.nd rfl (by first | exact Or.inl rfl | exact Or.inr rfl))
          (pss_one (ps_set (i := 1) sc_choices_among.nd rfl (by first | exact Or.inl rfl | exact Or.inr rfl) (pe_op op_cat (pv 1) (pe_comp (ls := ["choice"]) (fr := [("number", 2)]) (cs_of (defScope s_choices_among) n_choices_among rfl rfl (by decide +kernel)) rfl (pi_list (pv 1)) (fun _ _ _ _ => pgc 0 (by decide +kernel) rfl rfl) (fun _ _ _ _ => pf_nil) (fun _ _ _ _ => (pe_op (op_catAK K rfl) (pvc (defScope s_choices_among) 0) (pe_tup (pa_cons (pvc (defScope s_choices_among) 1) pa_nil)))))))))
        (pss_one (ps_ret (pv 1))))), ?_⟩
    refine ⟨by show 0 ≤ sizeLine; decide, fun e he => ⟨by show 1 ≤ sizeLine; decide, fun l0 hl0 => ?_⟩⟩
    have ne0 : H l0 = none := (Same.new he).free hl0
    refine ⟨_, rfl, a, rfl, ⟨_, SqL.of ((Same.new he).trans (Same.new hl0) _ _ ha)⟩, for_list (xs := ns.map V.int) (fun i σ' H' => Same H H' ∧ i ≤ 6 ∧ ∃ l xs v, σ' = [some (.ref a), some (.ref l), v] ∧ H' l = some (.lst xs) ∧ H l = none ∧ All2 Tup1 H' (chG (ns.take i)) xs) ?_ ?_ ?_ ?_⟩
    · refine ⟨(Same.new he).trans (Same.new hl0), Nat.zero_le _, l0, [.ref e], _, rfl, upd_same, ne0, .cons ⟨e, rfl, ?_⟩ .nil⟩
      exact Same.new hl0 _ _ upd_same
    · rintro i σ' H' _ ⟨s, _⟩
      exact SqL.of (s _ _ ha)
    · rintro i x σ' H' hx ⟨s, hi6, l, xs, v, rfl, gl, nl, h2⟩
      obtain ⟨z, hz, rfl⟩ := map_at hx
      have hi := (List.getElem?_eq_some_iff.mp hz).1
      have ez := (List.getElem?_eq_some_iff.mp hz).2
      have hlen := chG_len i (ns.take i) (by rw [List.length_take]; omega)
      have hmem := chG_mem i (ns.take i) (by rw [List.length_take]; omega)
      have hlx : xs.length ≤ 64 := by
        rw [← h2.length, hlen]
        exact Nat.le_trans (Nat.pow_le_pow_right (by decide) hi6) (by decide)
      refine ⟨_, rfl, _, rfl, l, rfl, ⟨_, SqL.of gl⟩, comp_list (xs := xs) (fun j ys σ' H2 => Same H' H2 ∧ (∃ v, σ' = [v, some (.int z)]) ∧ All2 Tup1 H2 (((chG (ns.take i)).take j).map (· ++ [z])) ys) ⟨fun _ _ h => h, ⟨_, rfl⟩, .nil⟩ ?_ ?_ ?_⟩
      · rintro j ys σ' H2 hj ⟨s2, _, h3⟩
        refine ⟨SqL.of (s2 _ _ gl), ?_⟩
        rw [← h3.length, List.length_map, List.length_take]
        refine Nat.le_trans (m := 64) (by omega) (by decide)
      · rintro j x ys σ' H2 hx ⟨s2, ⟨v, rfl⟩, h3⟩
        obtain ⟨hs, hhs, q, rfl, hq⟩ := h2.get hx
        have hj := (List.getElem?_eq_some_iff.mp hhs).1
        have eh := (List.getElem?_eq_some_iff.mp hhs).2
        refine ⟨_, rfl, _, rfl, by show 1 ≤ sizeLine; decide, fun t ht => ?_⟩
        have hl1 : hs.length ≤ 60 := by
          have := (hmem hs (List.mem_of_getElem? hhs)).1
          omega
        refine cat_one (Same.new ht _ _ (s2 _ _ hq)) upd_same hl1 fun v H3 hv s3 => ?_
        have sn := (Same.new (o := .tup [V.int z]) ht).trans s3
        refine ⟨s2.trans sn, ⟨_, rfl⟩, ?_⟩
        rw [List.take_succ_eq_append_getElem hj, List.map_append, eh]
        exact (h3.mv sn.tups).snoc hv
      · rintro ys σ' H2 ⟨s2, ⟨v, rfl⟩, h3⟩ l2 hl2
        have et : (chG (ns.take i)).take xs.length = chG (ns.take i) := by rw [← h2.length, List.take_length]
        rw [et] at h3
        have hly : ys.length ≤ 64 := by
          rw [← h3.length, List.length_map, h2.length]
          exact hlx
        refine ⟨l, l2, xs, ys, rfl, rfl, Same.new hl2 _ _ (s2 _ _ gl), upd_same, Nat.le_trans (m := 128) (by omega) (by decide), fun l3 hl3 => ?_⟩
        have sn := s2.trans ((Same.new (o := .lst ys) hl2).trans (Same.new (o := .lst (xs ++ ys)) hl3))
        refine ⟨s.trans sn, by omega, l3, xs ++ ys, _, rfl, upd_same, (s.trans (s2.trans (Same.new hl2))).free hl3, ?_⟩
        rw [List.take_succ_eq_append_getElem hi, ez, chG_snoc]
        exact (h2.mv sn.tups).append (h3.mv ((Same.new hl2).trans (Same.new hl3)).tups)
    · rintro σ' H' ⟨s, _, l, xs, v, rfl, gl, nl, h2⟩
      rw [List.length_map, List.take_length] at h2
      exact ⟨_, rfl, k l xs H' gl h2 s nl⟩
def n_choices_of : List Str := ["rule"]
theorem sc_choices_of : FnScope n_choices_of ["rule"] (defScope s_choices_of) := ⟨rfl, rfl, rfl, by decide +kernel, rfl, by decide +kernel, by decide +kernel⟩
def sp_choices_of : Sp := fun vs H Q _ => ∃ (a : Addr) (rs : List V), vs = [.ref a] ∧ H a = some (.tup rs) ∧ rs.length ≤ 6 ∧
  ∀ (l : Addr) (xs : List V) (H' : Hp), H' l = some (.lst xs) → All2 Tup1 H' (chG (upto rs.length)) xs → Same H H' → H l = none → Q (.ref l) H'
theorem ok_choices_of (T : Txt K mg A) : FnOk P w K mg base CX0 2 A.a_choices_of A.fd_choices_of ["rule"] sp_choices_of := by
  refine T.F_choices_of.ok sc_choices_of (fun vs H Q E h => ?_) (fun cdv Ar outer s H vs Q E hr h => ?_)
  · obtain ⟨a, rs, rfl, ha, hln, k⟩ := h
    rfl
  · obtain ⟨a, rs, rfl, ha, hln, k⟩ := h
    refine ⟨_, (pss_one (ps_ret (pe_call (ok_choices_among T) (hr.mono (by decide)) rfl T.g_choices_among T.F_choices_among.kp T.b_choices_among .nil pass0 (pa_cons (pe_callTy (call_list_rng rfl) rfl T.b_list boot_list (pa_cons (pe_rng1 rfl T.b_range (pa_cons (pe_callB call_len_seq rfl T.b_len PySem.boot_len (pa_cons (pv 0) pa_nil)) pa_nil)) pa_nil)) pa_nil)))), ?_⟩
    refine ⟨_, rfl, a, _, rfl, .inr (SqT.of ha), _, rfl, fun r hr' => ⟨r, _, rfl, upd_same, by omega, by omega, fun l hl => ?_⟩⟩
    rw [Int.toNat_natCast]
    refine ⟨l, upto rs.length, rfl, upd_same, by rw [upto_len]; exact hln, fun l2 xs H' gl h2 s nl => ?_⟩
    exact k l2 xs H' gl h2 (((Same.new hr').trans (Same.new hl)).trans s) (((Same.new hr').trans (Same.new hl)).free nl)
def n_unlike_parts : List Str := ["heaps", "seen", "heap", "part"]
theorem sc_unlike_parts : FnScope n_unlike_parts ["heaps"] (defScope s_unlike_parts) := ⟨rfl, rfl, rfl, by decide +kernel, rfl, by decide +kernel, by decide +kernel⟩
def sp_unlike : Sp := fun vs H Q _ => ∃ (a : Addr) (xs : List V) (ls : List (List Int)), vs = [.ref a] ∧ H a = some (.lst xs) ∧ All2 Tup1 H ls xs ∧ ((∃ D : List Int, D.length < 64 ∧ ∀ x ∈ ls.flatten, x ∈ D) ∧ ls.flatten.length < 1000) ∧
  ∀ (l : Addr) (us : List Int) (H' : Hp), H' l = some (.lst (us.map V.int)) → us.Nodup → us.Pairwise (· ≥ ·) → (∀ x, x ∈ us ↔ x ∈ ls.flatten) → us.length < 64 → Same H H' → H l = none → Q (.ref l) H'
theorem ok_unlike_parts (T : Txt K mg A) : FnOk P w K mg base CX0 1 A.a_unlike_parts A.fd_unlike_parts ["heaps"] sp_unlike := by
  refine T.F_unlike_parts.ok sc_unlike_parts (fun vs H Q E h => ?_) (fun cdv Ar outer s H vs Q E hr h => ?_)
  · obtain ⟨a, xs, ls, rfl, ha, h2, ⟨⟨D, hD, hDm⟩, hln⟩, k⟩ := h
    rfl
  · obtain ⟨a, xs, ls, rfl, ha, h2, ⟨⟨D, hD, hDm⟩, hln⟩, k⟩ := h
    refine ⟨_, (pss_cons (ps_set (i := 1) sc_unlike_parts.nd rfl (by first | exact Or.inl rfl | exact Or.inr rfl) pe_dnewK)
        (pss_cons (ps_for PassesOwn.never rfl (pi_list (pv 0)) (pg_name (i := 2) sc_unlike_parts.nd rfl (by first | exact Or.inl rfl | exact Or.inr rfl))
          (pss_one (ps_for PassesOwn.never rfl (pi_tup (pv 2)) (pg_name (i := 3) sc_unlike_parts.nd rfl (by first | exact Or.inl rfl | exact Or.inr rfl))
          (pss_one (ps_dput (huR hr) (pv 1) (pv 3) pe_bl rfl)))))
        (pss_one (ps_ret (pe_sortD rfl rfl T.b_sorted (pv 1)))))), ?_⟩
    refine fun d hd => ?_
    have hlc : ∀ i j (x : List Int), ls[i]? = some x → ((ls.take i).flatten ++ x.take j).length < 1000 := fun i j x hx => by
      have hi := (List.getElem?_eq_some_iff.mp hx).1
      have ex := (List.getElem?_eq_some_iff.mp hx).2
      have e1 : ls.flatten = (ls.take i).flatten ++ (x ++ (ls.drop (i + 1)).flatten) := by
        conv => lhs; rw [← List.take_append_drop i ls]
        rw [List.flatten_append, List.drop_eq_getElem_cons hi, ex, List.flatten_cons]
      rw [e1] at hln
      simp only [List.length_append, List.length_take] at hln ⊢
      omega
    have hlen := h2.length
    refine ⟨_, rfl, a, rfl, ⟨_, SqL.of (Same.new hd _ _ ha)⟩, for_list (xs := xs) (fun i σ' H' => SeenU H H' d (ls.take i).flatten ∧ ∃ v w, σ' = [some (.ref a), some (.ref d), v, w]) ⟨⟨⟨[], [], upd_same, rfl, .nil, Nat.le_refl _, fun x => Iff.rfl⟩, Same.new hd, hd⟩, _, _, rfl⟩ ?_ ?_ ?_⟩
    · rintro i σ' H' _ ⟨S, _⟩
      exact SqL.of (S.sm _ _ ha)
    · rintro i x σ' H' hx ⟨S, v, w', rfl⟩
      obtain ⟨hs, hhs, q, rfl, hq⟩ := h2.get hx
      refine ⟨_, rfl, q, rfl, ⟨_, SqT.of (S.sm _ _ hq)⟩, for_tup (xs := hs.map V.int) (fun j σ' H' => SeenU H H' d ((ls.take i).flatten ++ hs.take j) ∧ ∃ w, σ' = [some (.ref a), some (.ref d), some (.ref q), w]) ⟨by rw [List.take_zero, List.append_nil]; exact S, _, rfl⟩ ?_ ?_ ?_⟩
      · rintro j σ' H2 _ ⟨S2, _⟩
        exact SqT.of (S2.sm _ _ hq)
      · rintro j x σ' H2 hx2 ⟨S2, w2, rfl⟩
        obtain ⟨z, hz, rfl⟩ := map_at hx2
        have hj := (List.getElem?_eq_some_iff.mp hz).1
        have ez := (List.getElem?_eq_some_iff.mp hz).2
        obtain ⟨H3, hp, S3⟩ := S2.put (z := z) (by have := hlc i j hs hhs; omega)
        refine ⟨_, rfl, _, rfl, d, H3, rfl, hp, ?_, _, rfl⟩
        rw [List.take_succ_eq_append_getElem hj, ez, ← List.append_assoc]
        exact S3
      · rintro σ' H2 ⟨S2, w2, rfl⟩
        rw [List.length_map, List.take_length] at S2
        have hi := (List.getElem?_eq_some_iff.mp hhs).1
        have ez := (List.getElem?_eq_some_iff.mp hhs).2
        refine ⟨?_, _, _, rfl⟩
        rw [List.take_succ_eq_append_getElem hi, List.flatten_append, ez]
        simpa using S2
    · rintro σ' H2 ⟨S2, v, w2, rfl⟩
      rw [← hlen, List.take_length] at S2
      obtain ⟨⟨kvs, ns, hd2, hk, hnd, hn, hm⟩, sm, nw⟩ := S2
      have hlD : ns.length ≤ D.length := nodup_len hnd fun x hx => hDm x ((hm x).mp hx)
      refine ⟨_, rfl, d, kvs, ns, rfl, hd2, hk, by omega, fun us l nd hperm hord hl => ?_⟩
      exact k l us _ upd_same (hperm.nodup_iff.mpr nd) hord (fun x => by rw [hperm.mem_iff, hm]) (by rw [hperm.length_eq]; omega) (Same.trans sm (Same.new hl)) (Same.free sm hl)
def n_joined : List Str := ["heaps", "parts", "part"]
theorem sc_joined : FnScope n_joined ["heaps"] (defScope s_joined) := ⟨rfl, rfl, rfl, by decide +kernel, rfl, by decide +kernel, by decide +kernel⟩
def sp_joined : Sp := fun vs H Q _ => ∃ (a : Addr) (xs : List V) (ls : List (List Int)), vs = [.ref a] ∧ H a = some (.lst xs) ∧ All2 Tup1 H ls xs ∧ ((∃ D : List Int, D.length < 64 ∧ ∀ x ∈ ls.flatten, x ∈ D) ∧ ls.flatten.length < 1000) ∧ ls.length ≤ 60 ∧
  ∀ (p : Addr) (ms : List Int) (H' : Hp), H' p = some (.tup (ms.map V.int)) → IsJoin ls ms → ms.length ≤ 100000 → Same H H' → H p = none → Q (.ref p) H'
theorem ok_joined (T : Txt K mg A) : FnOk P w K mg base CX0 2 A.a_joined A.fd_joined ["heaps"] sp_joined := by
  refine T.F_joined.ok sc_joined (fun vs H Q E h => ?_) (fun cdv Ar outer s H vs Q E hr h => ?_)
  · obtain ⟨a, xs, ls, rfl, ha, h2, hln, hls, k⟩ := h
    rfl
  · obtain ⟨a, xs, ls, rfl, ha, h2, hln, hls, k⟩ := h
    refine ⟨_, (pss_cons (ps_set (i := 1) sc_joined.nd rfl (by first | exact Or.inl rfl | exact Or.inr rfl) (pe_lst pa_nil))
        (pss_cons (ps_for PassesOwn.never rfl (pi_list (pe_call (ok_unlike_parts T) (hr.mono (by decide)) rfl T.g_unlike_parts T.F_unlike_parts.kp T.b_unlike_parts .nil pass0 (pa_cons (pv 0) pa_nil))) (pg_name (i := 2) sc_joined.nd rfl (by first | exact Or.inl rfl | exact Or.inr rfl))
          (pss_one (ps_expr (pe_bm PySem.F.plainAttrs_list PySem.F.slot_list_extend PySem.F.type_list_extend mt_extend (pv 1) (pa_cons (pe_op op_rep (pe_lst (pa_cons (pv 2 (hv := Or.inr (Or.inl rfl))) pa_nil)) (pe_callB (call_max_ints rfl) rfl T.b_max boot_max (pa_cons (pe_comp (ls := ["heap"]) (fr := [("part", 2)]) (cs_of (defScope s_joined) n_joined rfl rfl (by decide +kernel)) rfl (pi_list (pv 0)) (fun _ _ _ _ => pgc 0 (by decide +kernel) rfl rfl) (fun _ _ _ _ => pf_nil) (fun _ _ _ _ => (pe_call (ok_often T) (hr.mono (by decide)) (glc (defScope s_joined)) T.g_often T.F_often.kp T.b_often .nil pass0 (pa_cons (pvc (defScope s_joined) 0) (pa_cons (pvc (defScope s_joined) 1) pa_nil))))) pa_nil))) pa_nil)))))
        (pss_one (ps_ret (pe_callTy call_tuple_of rfl T.b_tuple boot_tuple (pa_cons (pv 1) pa_nil)))))), ?_⟩
    refine ⟨by show 0 ≤ sizeLine; decide, fun pa hpa => ?_⟩
    have h2a := h2.mv (Same.new (o := .lst []) hpa).tups
    refine ⟨_, rfl, a, xs, ls, rfl, Same.new hpa _ _ ha, h2a, hln, fun l us H1 hl nd pw hm hul s1 nl => ?_⟩
    have s01 : Same H H1 := (Same.new hpa).trans s1
    have npl : pa ≠ l := ne_of_none (upd_same (H := H) (a := pa) (o := .lst [])) nl
    refine ⟨l, rfl, ⟨_, SqL.of hl⟩, for_list (xs := us.map V.int) (fun i σ' H' => (∀ b o, H1 b = some o → b ≠ pa → H' b = some o) ∧ H' pa = some (.lst ((blow (maxC ls) (us.take i)).map V.int)) ∧ (blow (maxC ls) (us.take i)).length ≤ 1000 * i ∧ i ≤ 64 ∧ ∃ v, σ' = [some (.ref a), some (.ref pa), v]) ⟨fun _ _ h _ => h, s1 _ _ upd_same, Nat.le_refl _, Nat.zero_le _, _, rfl⟩ ?_ ?_ ?_⟩
    · rintro i σ' H' _ ⟨kp, _⟩
      exact SqL.of (kp _ _ hl npl.symm)
    · rintro i x σ' H' hx ⟨kp, gp, hle, hi64, v, rfl⟩
      obtain ⟨z, hz, rfl⟩ := map_at hx
      have hi := (List.getElem?_eq_some_iff.mp hz).1
      have ez := (List.getElem?_eq_some_iff.mp hz).2
      have ha' : H' a = some (.lst xs) := kp _ _ (s01 _ _ ha) (ne_of_none ha hpa)
      have t1 : Tups H H' := fun b ys e => kp _ _ (s01 _ _ e) (ne_of_none e hpa)
      have h2' := h2.mv t1
      have zm : z ∈ ls.flatten := (hm z).mp (List.mem_of_getElem? hz)
      refine ⟨_, rfl, .inl ⟨rfl, _, SqL.of gp⟩, _, rfl, by show 1 ≤ sizeLine; decide, fun l1 hl1 => ?_⟩
      have h2b := h2'.mv (Same.new (o := .lst [V.int z]) hl1).tups
      have hab := (Same.new (o := .lst [V.int z]) hl1) _ _ ha'
      have gpb := (Same.new (o := .lst [V.int z]) hl1) _ _ gp
      generalize hHb : upd H' l1 (.lst [V.int z]) = Hb at h2b hab gpb
      have gl1 : Hb l1 = some (.lst [V.int z]) := by rw [← hHb]; exact upd_same
      have sb : Same H' Hb := by rw [← hHb]; exact Same.new hl1
      refine ⟨_, rfl, a, rfl, ⟨_, SqL.of hab⟩, comp_list (xs := xs) (fun j ys σ' H' => H' = Hb ∧ (∃ v, σ' = [v, some (.int z)]) ∧ ys = ((ls.take j).map fun h => ((h.count z : Nat) : Int)).map V.int) ⟨rfl, ⟨_, rfl⟩, rfl⟩ ?_ ?_ ?_⟩
      · rintro j ys σ' H'' hj ⟨rfl, _, rfl⟩
        refine ⟨SqL.of hab, ?_⟩
        rw [List.length_map, List.length_map, List.length_take]
        exact small64 (by omega)
      · rintro j x ys σ' H'' hx ⟨rfl, ⟨v, rfl⟩, rfl⟩
        obtain ⟨hs, hhs, q, rfl, hq⟩ := h2b.get hx
        have hj := (List.getElem?_eq_some_iff.mp hhs).1
        have eh := (List.getElem?_eq_some_iff.mp hhs).2
        refine ⟨_, rfl, _, rfl, q, hs, z, rfl, hq, rfl, ⟨_, rfl⟩, ?_⟩
        rw [List.take_succ_eq_append_getElem hj, List.map_append, List.map_append, eh]
        rfl
      · rintro ys σ' Hb ⟨rfl, _, rfl⟩ l2 hl2
        have elen : ls.take xs.length = ls := by rw [← h2.length, List.take_length]
        rw [elen]
        have hne : (ls.map fun h => ((h.count z : Nat) : Int)) ≠ [] := fun e => by
          have : ls = [] := List.map_eq_nil_iff.mp e
          rw [this] at zm
          cases zm
        refine ⟨l2, _, rfl, SqL.of upd_same, hne, fun m hmx => ?_⟩
        have em := max_of_counts hmx
        have hM : maxC ls z ≤ 1000 := by
          have h1 := maxC_flat ls z
          have h2 := List.count_le_length (a := z) (l := ls.flatten)
          omega
        refine ⟨l1, m, [V.int z], rfl, rfl, Same.new hl2 _ _ gl1, by omega, by omega, ?_, fun l3 hl3 => ?_⟩
        · show 1 * m.toNat ≤ sizeLine
          refine Nat.le_trans (m := 1000) (by omega) (by decide)
        have er : (List.replicate m.toNat [V.int z]).flatten = (List.replicate (maxC ls z) z).map V.int := by
          have : m.toNat = maxC ls z := by omega
          rw [this]
          simp
        rw [er]
        have gp3 := (Same.new (o := .lst ((List.replicate (maxC ls z) z).map V.int)) hl3) _ _ ((Same.new (o := .lst ((ls.map fun h => ((h.count z : Nat) : Int)).map V.int)) hl2) _ _ gpb)
        have sn : Same H' (upd (upd Hb l2 (.lst ((ls.map fun h => ((h.count z : Nat) : Int)).map V.int))) l3 (.lst ((List.replicate (maxC ls z) z).map V.int))) := sb.trans ((Same.new hl2).trans (Same.new hl3))
        refine ⟨pa, l3, _, _, rfl, rfl, gp3, upd_same, ?_, ?_⟩
        · rw [List.length_map, List.length_map, List.length_replicate]
          refine Nat.le_trans (m := 1000 * 64 + 1000) ?_ (by decide)
          have : 1000 * i ≤ 1000 * 64 := Nat.mul_le_mul_left _ hi64
          omega
        · have eb : blow (maxC ls) (us.take (i + 1)) = blow (maxC ls) (us.take i) ++ List.replicate (maxC ls z) z := by
            rw [List.take_succ_eq_append_getElem hi, blow_append, ez]
            simp [blow]
          refine ⟨fun b o e ne => ?_, ?_, ?_, by omega, _, rfl⟩
          · rw [upd_ne ne]
            exact sn _ _ (kp _ _ e ne)
          · rw [upd_same, eb, List.map_append]
          · rw [eb, List.length_append, List.length_replicate]
            omega
    · rintro σ' H' ⟨kp, gp, hle, _, v, rfl⟩
      rw [List.length_map, List.take_length] at gp hle
      refine ⟨_, rfl, pa, _, rfl, .inl ⟨SqL.of gp, fun p hp => ?_⟩⟩
      have sH : Same H H' := fun b o e => kp _ _ (s01 _ _ e) (ne_of_none e hpa)
      refine k p _ _ upd_same (blow_join nd pw hm) (by omega) (sH.trans (Same.new hp)) (sH.free hp)
def n_joined_of : List Str := ["rule", "choice"]
theorem sc_joined_of : FnScope n_joined_of ["rule", "choice"] (defScope s_joined_of) := ⟨rfl, rfl, rfl, by decide +kernel, rfl, by decide +kernel, by decide +kernel⟩
def sp_joined_of : Sp := fun vs H Q _ => ∃ (p c : Addr) (rs : List V) (rule : List (List Int)) (ch : List Int), vs = [.ref p, .ref c] ∧ H p = some (.tup rs) ∧ All2 Tup1 H rule rs ∧ H c = some (.tup (ch.map V.int)) ∧
  (((∃ D : List Int, D.length < 64 ∧ ∀ x ∈ (pickG rule ch).flatten, x ∈ D) ∧ (pickG rule ch).flatten.length < 1000) ∧ ch.length ≤ 60) ∧ (∀ j ∈ ch, 0 ≤ j ∧ j < rule.length) ∧
  ∀ (q : Addr) (ms : List Int) (H' : Hp), H' q = some (.tup (ms.map V.int)) → IsJoin (pickG rule ch) ms → ms.length ≤ 100000 → Same H H' → H q = none → Q (.ref q) H'
theorem ok_joined_of (T : Txt K mg A) : FnOk P w K mg base CX0 3 A.a_joined_of A.fd_joined_of ["rule", "choice"] sp_joined_of := by
  refine T.F_joined_of.ok sc_joined_of (fun vs H Q E h => ?_) (fun cdv Ar outer s H vs Q E hr h => ?_)
  · obtain ⟨p, c, rs, rule, ch, rfl, hp, h2, hc, hln, hch, k⟩ := h
    rfl
  · obtain ⟨p, c, rs, rule, ch, rfl, hp, h2, hc, hln, hch, k⟩ := h
    refine ⟨_, (pss_one (ps_ret (pe_call (ok_joined T) (hr.mono (by decide)) rfl T.g_joined T.F_joined.kp T.b_joined .nil pass0 (pa_cons (pe_comp (ls := ["number"]) (fr := [("rule", 0)]) (cs_of (defScope s_joined_of) n_joined_of rfl rfl (by decide +kernel)) rfl (pi_tup (pv 1)) (fun _ _ _ _ => pgc 0 (by decide +kernel) rfl rfl) (fun _ _ _ _ => pf_nil) (fun _ _ _ _ => (pe_ix (ix_tupK K rfl) (pvc (defScope s_joined_of) 1) (pvc (defScope s_joined_of) 0) (fun _ _ => rfl)))) pa_nil)))), ?_⟩
    refine ⟨_, rfl, c, rfl, ⟨_, SqT.of hc⟩, comp_tup (xs := ch.map V.int) (fun i ys σ' H' => H' = H ∧ (∃ v, σ' = [v, some (.ref p)]) ∧ All2 Tup1 H (pickG rule (ch.take i)) ys) ⟨rfl, ⟨_, rfl⟩, .nil⟩ ?_ ?_ ?_⟩
    · rintro i ys σ' H' hi ⟨rfl, _, h3⟩
      refine ⟨SqT.of hc, ?_⟩
      rw [← h3.length]
      unfold pickG
      rw [List.length_map, List.length_take]
      exact small64 (by omega)
    · rintro i x ys σ' H' hx ⟨rfl, ⟨v, rfl⟩, h3⟩
      obtain ⟨z, hz, rfl⟩ := map_at hx
      have hi := (List.getElem?_eq_some_iff.mp hz).1
      have ez := (List.getElem?_eq_some_iff.mp hz).2
      have hb := hch z (List.mem_of_getElem? hz)
      obtain ⟨w', hw, r⟩ := pick_at h2 hb.1 hb.2
      refine ⟨_, rfl, _, rfl, p, _, z, _, rfl, rfl, SqT.of hp, hw, rfl, ⟨_, rfl⟩, ?_⟩
      rw [List.take_succ_eq_append_getElem hi, ez]
      unfold pickG
      rw [List.map_append]
      exact h3.snoc r
    · rintro ys σ' H' ⟨rfl, _, h3⟩ l hl
      rw [List.length_map, List.take_length] at h3
      have hll : (pickG rule ch).length ≤ 60 := by unfold pickG; rw [List.length_map]; exact hln.2
      exact ⟨l, ys, _, rfl, upd_same, h3.mv (Same.new hl).tups, hln.1, hll, fun q ms H2 gq hj hl4 s nq => k q ms H2 gq hj hl4 ((Same.new hl).trans s) ((Same.new hl).free nq)⟩
def n_sign_of : List Str := ["pair"]
theorem sc_sign_of : FnScope n_sign_of ["pair"] (defScope s_sign_of) := ⟨rfl, rfl, rfl, by decide +kernel, rfl, by decide +kernel, by decide +kernel⟩
def sp_sign_of : Sp := fun vs H Q _ => ∃ (pc : List Int × List Int) (v : V), vs = [v] ∧ Pair1 pc v H ∧ Q (.int (sgnG pc.2)) H
theorem ok_sign_of (T : Txt K mg A) : FnOk P w K mg base CX0 1 A.a_sign_of A.fd_sign_of ["pair"] sp_sign_of := by
  refine T.F_sign_of.ok sc_sign_of (fun vs H Q E h => ?_) (fun cdv Ar outer s H vs Q E hr h => ?_)
  · obtain ⟨pc, v, rfl, hv, k⟩ := h
    rfl
  · obtain ⟨pc, v, rfl, hv, k⟩ := h
    refine ⟨_, (pss_one (ps_ret (pe_ifExp (pt_cmpR op_eq (pe_op op_mod (pe_callB call_len_seq rfl T.b_len PySem.boot_len (pa_cons (pe_ix ix_tup (pv 0) pe_int (fun _ _ => rfl)) pa_nil)) pe_int) pe_int (nomark _)) pe_int (pe_un un_neg pe_int)))), ?_⟩
    obtain ⟨q, a, b, rfl, g1, g2, g3⟩ := hv
    refine ⟨_, rfl, q, _, _, _, rfl, rfl, SqT.of g1, atI_nat (j := 1) rfl, b, _, rfl, .inr (SqT.of g3), _, _, rfl, rfl, (show (0 : Int) < 2 by decide), rfl, _, rfl, ?_⟩
    rw [List.length_map]
    unfold sgnG at k
    refine ite2 (fun hc => ?_) (fun hc => ?_)
    · have e : ((pc.2.length : Nat) : Int) % 2 = 0 := by simpa using hc
      rw [if_pos (by omega)] at k
      exact k
    · have e : ¬ ((pc.2.length : Nat) : Int) % 2 = 0 := fun z => hc (by simpa using z)
      rw [if_neg (by omega)] at k
      exact ⟨_, rfl, k⟩
def n_next_way : List Str := ["ways", "n", "total", "sign", "m"]
theorem sc_next_way : FnScope n_next_way ["ways"] (defScope s_next_way) := ⟨rfl, rfl, rfl, by decide +kernel, rfl, by decide +kernel, by decide +kernel⟩
def sp_next_way : Sp := fun vs H Q _ => ∃ (l : Addr) (n : Nat), vs = [.ref l] ∧ H l = some (.lst ((wayR n).reverse.map V.int)) ∧ n ≤ 400 ∧ Q (.int (nextR (wayR n) (n + 1 : Nat) (n + 3) 1 1 0)) H
theorem ok_next_way (T : Txt K mg A) : FnOk P w K mg base CX0 1 A.a_next_way A.fd_next_way ["ways"] sp_next_way := by
  refine T.F_next_way.ok sc_next_way (fun vs H Q E h => ?_) (fun cdv Ar outer s H vs Q E hr h => ?_)
  · obtain ⟨l, n, rfl, hl, hn, k⟩ := h
    rfl
  · obtain ⟨l, n, rfl, hl, hn, k⟩ := h
    refine ⟨_, (pss_cons (ps_set (i := 1) sc_next_way.nd rfl (by first | exact Or.inl rfl | exact Or.inr rfl) (pe_callB call_len_seq rfl T.b_len PySem.boot_len (pa_cons (pv 0) pa_nil)))
        (pss_cons (ps_set (i := 2) sc_next_way.nd rfl (by first | exact Or.inl rfl | exact Or.inr rfl) pe_int)
        (pss_cons (ps_set (i := 3) sc_next_way.nd rfl (by first | exact Or.inl rfl | exact Or.inr rfl) pe_int)
        (pss_cons (ps_set (i := 4) sc_next_way.nd rfl (by first | exact Or.inl rfl | exact Or.inr rfl) pe_int)
        (pss_cons (ps_while PassesOwn.never (pt_cmpR op_le (pe_op op_fdivB (pe_op op_mul (pv 4) (pe_op op_sub (pe_op op_mul pe_int (pv 4)) pe_int)) pe_int) (pv 1) (nomark _))
          (pss_cons (ps_aug (i := 2) sc_next_way.nd rfl (by first | exact Or.inl rfl | exact Or.inr rfl) (pe_op op_mul (pv 3) (pe_ix ix_list (pv 0) (pe_op op_sub (pv 1) (pe_op op_fdivB (pe_op op_mul (pv 4) (pe_op op_sub (pe_op op_mul pe_int (pv 4)) pe_int)) pe_int)) (fun _ _ => rfl))) ip_add)
        (pss_cons (ps_if (pt_cmpR op_le (pe_op op_fdivB (pe_op op_mul (pv 4) (pe_op op_add (pe_op op_mul pe_int (pv 4)) pe_int)) pe_int) (pv 1) (nomark _))
          (pss_one (ps_aug (i := 2) sc_next_way.nd rfl (by first | exact Or.inl rfl | exact Or.inr rfl) (pe_op op_mul (pv 3) (pe_ix ix_list (pv 0) (pe_op op_sub (pv 1) (pe_op op_fdivB (pe_op op_mul (pv 4) (pe_op op_add (pe_op op_mul pe_int (pv 4)) pe_int)) pe_int)) (fun _ _ => rfl))) ip_add)) pss_nil)
        (pss_cons (ps_set (i := 3) sc_next_way.nd rfl (by first | exact Or.inl rfl | exact Or.inr rfl) (pe_un un_neg (pv 3)))
        (pss_one (ps_aug (i := 4) sc_next_way.nd rfl (by first | exact Or.inl rfl | exact Or.inr rfl) pe_int ip_add))))))
        (pss_one (ps_ret (pv 2)))))))), ?_⟩
    have hlen : ((wayR n).reverse.map V.int).length = n + 1 := by rw [List.length_map, List.length_reverse, wayR_len]
    refine ⟨_, rfl, l, _, rfl, .inl (SqL.of hl), ?_⟩
    rw [hlen]
    refine ⟨fun f σ' H' => H' = H ∧ ∃ (m s t : Int), σ' = [some (.ref l), some (.int ((n + 1 : Nat) : Int)), some (.int t), some (.int s), some (.int m)] ∧ 1 ≤ m ∧ m ≤ n + 2 ∧ (n : Int) + 3 ≤ m + f ∧ (s = 1 ∨ s = -1) ∧ nextR (wayR n) (n + 1 : Nat) f m s t = nextR (wayR n) (n + 1 : Nat) (n + 3) 1 1 0, ⟨n + 3, rfl, 1, 1, 0, rfl, by decide, by omega, by omega, .inl rfl, rfl⟩, ?_⟩
    rintro f σ' H' ⟨eH, m, s, t, rfl, m1, m2, hf, hs, ht⟩
    subst eH
    have hw := wayR_len n
    refine ⟨_, rfl, _, rfl, _, _, rfl, rfl, .inl (by decide), _, _, rfl, rfl, _, _, rfl, rfl, .inl ⟨by omega, by omega⟩, _, _, rfl, rfl, ⟨by decide, by decide⟩, _, rfl, _, _, rfl, rfl, _, rfl, ?_⟩
    refine ite2 (fun hA => ?_) (fun hA => ?_)
    · have hA' : pentA m ≤ ((n + 1 : Nat) : Int) := of_decide_eq_true hA
      have gA := pentA_ge m1
      have gB := pentB_ge m1
      have hsb : -(2 ^ 64) < s ∧ s < 2 ^ 64 := by rcases hs with rfl | rfl <;> exact ⟨by decide, by decide⟩
      obtain ⟨g, rfl⟩ : ∃ g, f = g + 1 := ⟨f - 1, by omega⟩
      rw [nextR, if_pos hA'] at ht
      refine ⟨fun σ3 H3 => H3 = H' ∧ σ3 = [some (.ref l), some (.int ((n + 1 : Nat) : Int)), some (.int (if pentB m ≤ ((n + 1 : Nat) : Int) then t + s * nth19 (wayR n) (pentA m - 1).toNat + s * nth19 (wayR n) (pentB m - 1).toNat else t + s * nth19 (wayR n) (pentA m - 1).toNat)), some (.int (-s)), some (.int (m + 1))], fun σ3 H3 ⟨e1, e3⟩ => ⟨g, by omega, e1, m + 1, -s, _, e3, by omega, by omega, by omega, (by rcases hs with rfl | rfl; exact .inr rfl; exact .inl rfl), ht⟩, ?_⟩
      refine ⟨_, rfl, _, rfl, _, rfl, _, rfl, _, rfl, _, rfl, _, _, rfl, rfl, .inl (by decide), _, _, rfl, rfl, _, _, rfl, rfl, .inl ⟨by omega, by omega⟩, _, _, rfl, rfl, ⟨by decide, by decide⟩, _, _, rfl, rfl, l, _, _, _, rfl, rfl, SqL.of hl, way_get (q := pentA m) hw (by omega) hA', _, _, rfl, rfl, .inl hsb, _, _, rfl, rfl, ?_⟩
      refine ⟨_, rfl, _, rfl, _, _, rfl, rfl, .inl (by decide), _, _, rfl, rfl, _, _, rfl, rfl, .inl ⟨by omega, by omega⟩, _, _, rfl, rfl, ⟨by decide, by decide⟩, _, rfl, _, _, rfl, rfl, _, rfl, ?_⟩
      refine ite2 (fun hB => ?_) (fun hB => ?_)
      · have hB' : pentB m ≤ ((n + 1 : Nat) : Int) := of_decide_eq_true hB
        refine ⟨_, rfl, _, rfl, _, rfl, _, rfl, _, rfl, _, rfl, _, _, rfl, rfl, .inl (by decide), _, _, rfl, rfl, _, _, rfl, rfl, .inl ⟨by omega, by omega⟩, _, _, rfl, rfl, ⟨by decide, by decide⟩, _, _, rfl, rfl, l, _, _, _, rfl, rfl, SqL.of hl, way_get (q := pentB m) hw (by omega) hB', _, _, rfl, rfl, .inl hsb, _, _, rfl, rfl, ?_⟩
        rw [if_pos hB']
        exact ⟨_, rfl, _, rfl, _, rfl, _, _, rfl, rfl, rfl, rfl⟩
      · have hB' : ¬ pentB m ≤ ((n + 1 : Nat) : Int) := fun z => hB (decide_eq_true z)
        rw [if_neg hB']
        exact ⟨_, rfl, _, rfl, _, rfl, _, _, rfl, rfl, rfl, rfl⟩
    · have hA' : ¬ pentA m ≤ ((n + 1 : Nat) : Int) := fun z => hA (decide_eq_true z)
      rw [nextR_stop _ _ _ _ _ _ hA'] at ht
      refine ⟨_, rfl, ?_⟩
      rw [ht]
      exact k
def n_ways_to : List Str := ["n", "ways"]
theorem sc_ways_to : FnScope n_ways_to ["n"] (defScope s_ways_to) := ⟨rfl, rfl, rfl, by decide +kernel, rfl, by decide +kernel, by decide +kernel⟩
def sp_ways_to : Sp := fun vs H Q _ => ∃ (n : Nat), vs = [.int n] ∧ n ≤ 400 ∧ ∀ (l : Addr) (H' : Hp), H' l = some (.lst ((wayR n).reverse.map V.int)) → Same H H' → H l = none → Q (.ref l) H'
theorem ok_ways_to (T : Txt K mg A) : FnOk P w K mg base CX0 2 A.a_ways_to A.fd_ways_to ["n"] sp_ways_to := by
  refine T.F_ways_to.ok sc_ways_to (fun vs H Q E h => ?_) (fun cdv Ar outer s H vs Q E hr h => ?_)
  · obtain ⟨n, rfl, hn, k⟩ := h
    rfl
  · obtain ⟨n, rfl, hn, k⟩ := h
    refine ⟨_, (pss_cons (ps_set (i := 1) sc_ways_to.nd rfl (by first | exact Or.inl rfl | exact Or.inr rfl) (pe_lst (pa_cons pe_int pa_nil)))
        (pss_cons (ps_while PassesOwn.never (pt_cmpR op_le (pe_callB call_len_seq rfl T.b_len PySem.boot_len (pa_cons (pv 1) pa_nil)) (pv 0) (nomark _))
          (pss_one (ps_expr (pe_bm PySem.F.plainAttrs_list PySem.F.slot_list_append PySem.F.type_list_append mt_append (pv 1) (pa_cons (pe_call (ok_next_way T) (hr.mono (by decide)) rfl T.g_next_way T.F_next_way.kp T.b_next_way .nil pass0 (pa_cons (pv 1) pa_nil)) pa_nil)))))
        (pss_one (ps_ret (pv 1))))), ?_⟩
    refine ⟨by show 1 ≤ sizeLine; decide, fun l hl => ?_⟩
    refine ⟨fun f σ' H' => ∃ i : Nat, i ≤ n ∧ f = n - i ∧ σ' = [some (.int n), some (.ref l)] ∧ H' l = some (.lst ((wayR i).reverse.map V.int)) ∧ Same H H', ⟨n, 0, Nat.zero_le _, rfl, rfl, upd_same, Same.new hl⟩, ?_⟩
    rintro f σ' H' ⟨i, hi, rfl, rfl, g, s⟩
    have hlen : ((wayR i).reverse.map V.int).length = i + 1 := by rw [List.length_map, List.length_reverse, wayR_len]
    refine ⟨_, rfl, l, _, rfl, .inl (SqL.of g), _, rfl, _, _, rfl, rfl, _, rfl, ?_⟩
    rw [hlen]
    refine ite2 (fun hc => ?_) (fun hc => ?_)
    · have hc' : ((i + 1 : Nat) : Int) ≤ (n : Int) := of_decide_eq_true hc
      refine ⟨fun σ3 H3 => σ3 = [some (.int n), some (.ref l)] ∧ H3 l = some (.lst ((wayR (i + 1)).reverse.map V.int)) ∧ Same H H3, fun σ3 H3 ⟨e1, e2, e3⟩ => ⟨n - (i + 1), by omega, i + 1, by omega, rfl, e1, e2, e3⟩, ?_⟩
      refine ⟨_, rfl, .inl ⟨rfl, _, SqL.of g⟩, _, rfl, l, i, rfl, g, by omega, ?_⟩
      refine ⟨l, _, _, rfl, rfl, g, ?_, rfl, ?_, fun b o e => ?_⟩
      · rw [hlen]
        exact Nat.lt_of_lt_of_le (m := 402) (by omega) (by decide)
      · rw [upd_same, wayR, List.reverse_cons, List.map_append]
        rfl
      · rw [upd_ne (ne_of_none e hl)]
        exact s _ _ e
    · have hc' : ¬ ((i + 1 : Nat) : Int) ≤ (n : Int) := fun z => hc (decide_eq_true z)
      have e : i = n := by omega
      subst e
      exact ⟨_, rfl, k l H' g s hl⟩
def n_count_of : List Str := ["rule", "n", "ways", "total", "choice", "heap"]
theorem sc_count_of : FnScope n_count_of ["rule", "n"] (defScope s_count_of) := ⟨rfl, rfl, rfl, by decide +kernel, rfl, by decide +kernel, by decide +kernel⟩
def sp_count_of (A : Adr) : Sp := fun vs H Q E => ∃ (p : Addr) (rs : List V) (rule : List (List Int)) (n : Int), vs = [.ref p, .int n] ∧ H p = some (.tup rs) ∧ All2 Tup1 H rule rs ∧ rule.length ≤ 6 ∧ RuleJ rule ∧
  ((∃ m : Nat, n = m ∧ m ≤ 400 ∧ ∀ H', Same H H' → Q (.int (signedX rule (wayF m) m (chG (upto rule.length)))) H') ∨ ((n < 0 ∨ 400 < n) ∧ E (.ref A.c_NoSum) none H))
theorem ok_count_of (T : Txt K mg A) : FnOk P w K mg base (CX1 P w) 4 A.a_count_of A.fd_count_of ["rule", "n"] (sp_count_of A) := by
  refine T.F_count_of.okE sc_count_of (fun vs H Q E h => ?_) (fun cdv Ar outer s H vs Q E hr h => ?_)
  · obtain ⟨p, rs, rule, n, rfl, hp, h2, hln, hJ, h⟩ := h
    rfl
  · obtain ⟨p, rs, rule, n, rfl, hp, h2, hln, hJ, h⟩ := h
    refine ⟨_, (pss_cons (ps_expr (pe_call (ok_refuse_beyond T) (hr.mono (by decide)) rfl T.g_refuse_beyond T.F_refuse_beyond.kp T.b_refuse_beyond .nil passE (pa_cons (pv 1) (pa_cons (pe_glob (v := .int 400) rfl T.v_MOST_COUNTED.choose_spec ⟨_, rfl⟩) pa_nil))))
        (pss_cons (ps_set (i := 2) sc_count_of.nd rfl (by first | exact Or.inl rfl | exact Or.inr rfl) (pe_call (ok_ways_to T) (hr.mono (by decide)) rfl T.g_ways_to T.F_ways_to.kp T.b_ways_to .nil pass0 (pa_cons (pv 1) pa_nil)))
        (pss_cons (ps_set (i := 3) sc_count_of.nd rfl (by first | exact Or.inl rfl | exact Or.inr rfl) pe_int)
        (pss_cons (ps_ok fun ok => ps_for (ownE ok) rfl (pi_list (pe_call (ok_choices_of T) (hr.mono (by decide)) rfl T.g_choices_of T.F_choices_of.kp T.b_choices_of .nil pass0 (pa_cons (pv 0) pa_nil))) (pg_name (i := 4) sc_count_of.nd rfl (by first | exact Or.inl rfl | exact Or.inr rfl))
          (pss_cons (ps_set (i := 5) sc_count_of.nd rfl (by first | exact Or.inl rfl | exact Or.inr rfl) (pe_call (ok_joined_of T) (hr.mono (by decide)) rfl T.g_joined_of T.F_joined_of.kp T.b_joined_of .nil pass0 (pa_cons (pv 0) (pa_cons (pv 4) pa_nil))))
        (pss_one (ps_if (pt_cmpR op_le (pe_call (ok_sum_of T) (hr.mono (by decide)) rfl T.g_sum_of T.F_sum_of.kp T.b_sum_of .nil pass0 (pa_cons (pv 5) pa_nil)) (pv 1) (nomark _))
          (pss_one (ps_aug (i := 3) sc_count_of.nd rfl (by first | exact Or.inl rfl | exact Or.inr rfl) (pe_op op_mul (pe_call (ok_sign_of T) (hr.mono (by decide)) rfl T.g_sign_of T.F_sign_of.kp T.b_sign_of .nil pass0 (pa_cons (pe_tup (pa_cons (pv 5) (pa_cons (pv 4) pa_nil))) pa_nil)) (pe_ix ix_list (pv 2) (pe_op op_sub (pv 1) (pe_call (ok_sum_of T) (hr.mono (by decide)) rfl T.g_sum_of T.F_sum_of.kp T.b_sum_of .nil pass0 (pa_cons (pv 5) pa_nil))) (fun _ _ => rfl))) ip_add)) pss_nil))))
        (pss_one (ps_ret (pv 3))))))), ?_⟩
    rcases h with ⟨m, rfl, hm, k⟩ | ⟨hb, hE⟩
    · refine ⟨_, rfl, (m : Int), 400, rfl, ⟨by decide, by decide⟩, .inl ⟨by omega, by omega, ?_⟩⟩
      refine ⟨_, rfl, m, rfl, hm, fun w H1 gw s1 nw => ?_⟩
      have hrl := h2.length
      refine ⟨_, rfl, p, rs, rfl, s1 _ _ hp, by omega, fun cl cs H2 gc h4 s2 ncl => ?_⟩
      rw [← hrl] at h4
      have hcl := h4.length
      have s12 := s1.trans s2
      refine ⟨cl, rfl, ⟨_, SqL.of gc⟩, for_list (xs := cs) (fun i σ' H' => Same H2 H' ∧ i ≤ cs.length ∧ ∃ v4 v5, σ' = [some (.ref p), some (.int m), some (.ref w), some (.int (signedX rule (wayF m) m ((chG (upto rule.length)).take i))), v4, v5]) ⟨fun _ _ z => z, Nat.zero_le _, _, _, rfl⟩ ?_ ?_ ?_⟩
      · rintro i σ' H' _ ⟨s', _⟩
        exact SqL.of (s' _ _ gc)
      · rintro i x σ' H' hx ⟨s', hi', v4, v5, rfl⟩
        obtain ⟨ch, hch, c, rfl, gcc⟩ := h4.get hx
        have hi := (List.getElem?_eq_some_iff.mp hx).1
        have s02 := s12.trans s'
        obtain ⟨cm1, cm2⟩ := chG_mem rule.length (upto rule.length) (upto_len _) ch (List.mem_of_getElem? hch)
        have chb : ∀ j ∈ ch, 0 ≤ j ∧ j < rule.length := fun j hj => by
          have := upto_mem (cm2 j hj)
          omega
        have etake : (chG (upto rule.length)).take (i + 1) = (chG (upto rule.length)).take i ++ [ch] := by rw [List.take_succ, hch]; rfl
        refine ⟨_, rfl, _, rfl, p, c, rs, rule, ch, rfl, s02 _ _ hp, h2.mv s02.tups, s' _ _ gcc, ⟨hJ.pick (by omega), by omega⟩, chb, fun q ms H4 gq hj hl4 s4 nq => ?_⟩
        have ej := joinX_eq hj
        have nn := joinX_nonneg hJ ch
        rw [ej] at nn
        refine ⟨_, rfl, q, ms, rfl, SqT.of gq, _, rfl, _, _, rfl, rfl, _, rfl, ite2 (fun hc => ?_) (fun hc => ?_)⟩
        · have hc' : ms.sum ≤ (m : Int) := of_decide_eq_true hc
          refine ⟨_, rfl, _, rfl, _, rfl, by show 2 ≤ sizeLine; decide, fun T1 hT1 => ?_⟩
          have s5 := Same.new (o := .tup [V.ref q, V.ref c]) hT1
          refine ⟨(ms, ch), _, rfl, ⟨T1, q, c, rfl, upd_same, s5 _ _ gq, s5 _ _ (s4 _ _ (s' _ _ gcc))⟩, ?_⟩
          have gw5 := s5 _ _ (s4 _ _ (s' _ _ (s2 _ _ gw)))
          have hw := wayR_len m
          have hsub : (m : Int) - ms.sum = ((m - ms.sum.toNat : Nat) : Int) := by omega
          have hlt : m - ms.sum.toNat < (wayR m).reverse.length := by rw [List.length_reverse]; omega
          have hsg : -(2 ^ 64) < sgnG ch ∧ sgnG ch < 2 ^ 64 := by unfold sgnG; split <;> exact ⟨by decide, by decide⟩
          refine ⟨_, rfl, _, rfl, _, rfl, q, ms, rfl, SqT.of (s5 _ _ gq), _, _, rfl, rfl, w, _, _, V.int (wayF m (m - ms.sum.toNat)), rfl, rfl, SqL.of gw5, ?_, _, _, rfl, rfl, .inl hsg, _, _, rfl, rfl, ?_⟩
          · rw [hsub]
            refine atI_nat ?_
            unfold wayF
            rw [List.getElem?_map, List.getD_eq_getElem?_getD, List.getElem?_eq_getElem hlt]
            rfl
          · refine ⟨s'.trans (s4.trans s5), by omega, some (.ref c), some (.ref q), ?_⟩
            rw [etake, signedX_snoc, ej, if_pos hc']
            rfl
        · have hc' : ¬ ms.sum ≤ (m : Int) := fun z => hc (decide_eq_true z)
          refine ⟨s'.trans s4, by omega, some (.ref c), some (.ref q), ?_⟩
          rw [etake, signedX_snoc, ej, if_neg hc', Int.mul_zero, Int.add_zero]
          rfl
      · rintro σ' H' ⟨s', _, v4, v5, rfl⟩
        rw [← hcl, List.take_length]
        exact ⟨_, rfl, k H' (s12.trans s')⟩
    · exact ⟨_, rfl, n, 400, rfl, ⟨by decide, by decide⟩, .inr ⟨hb, hE⟩⟩
def n__law_start : List Str := ["_law_script", "_law_great"]
theorem sc__law_start : FnScope n__law_start ["_law_script"] (defScope s__law_start) := ⟨rfl, rfl, rfl, by decide +kernel, rfl, by decide +kernel, by decide +kernel⟩
def sp_start (K : PySem.W.Frag) : Sp := fun vs H Q _ => ∃ (a : Addr) (ns : List Int), vs = [.ref a] ∧ SqL K H a (ns.map V.int) ∧ ns.length ≤ 63 ∧
  ∀ (st ga ca : Addr) (H' : Hp), StAt H' st ga ca 0 → H st = none → H ga = none → H ca = none → Same H H' → Q (.ref st) H'
theorem ok__law_start (T : Txt K mg A) : FnOk P w K mg base CX0 1 A.a__law_start A.fd__law_start ["_law_script"] (sp_start K) := by
  refine T.F__law_start.ok sc__law_start (fun vs H Q E h => ?_) (fun cdv Ar outer s H vs Q E hr h => ?_)
  · obtain ⟨a, ns, rfl, hS, hl, k⟩ := h
    rfl
  · obtain ⟨a, ns, rfl, hS, hl, k⟩ := h
    refine ⟨_, (pss_cons (ps_comp (i := 1) (ls := ["_law_cell"]) (fr := []) (cs_of (defScope s__law_start) n__law_start rfl rfl (by decide +kernel)) rfl (pi_list (pv 0)) (fun _ _ _ _ => pgc 0 (by decide +kernel) rfl rfl) (fun _ _ _ _ => pf_one (pt_cmpR op_ge (pvc (defScope s__law_start) 0) (pe_op op_pow pe_int pe_int) (nomark _))) (fun _ _ _ _ => (pvc (defScope s__law_start) 0)) sc__law_start.nd rfl rfl rfl)
        (pss_one (ps_ret (pe_lst (pa_cons (pv 1) (pa_cons pe_int (pa_cons (pe_comp (ls := ["_law_cell"]) (fr := []) (cs_of (defScope s__law_start) n__law_start rfl rfl (by decide +kernel)) rfl (pi_list (pv 0)) (fun _ _ _ _ => pgc 0 (by decide +kernel) rfl rfl) (fun _ _ _ _ => pf_nil) (fun _ _ _ _ => (pe_op op_mod (pvc (defScope s__law_start) 0) pe_int))) (pa_cons pe_int pa_nil)))))))), ?_⟩
    refine ⟨_, rfl, a, rfl, ⟨_, hS⟩, comp_list (xs := ns.map V.int) (fun i ys σ' H' => H' = H ∧ (∃ v, σ' = [v]) ∧ ∃ gs : List Int, ys = gs.map V.int ∧ gs.length ≤ i ∧ ∀ x ∈ gs, 0 < x) ⟨rfl, ⟨_, rfl⟩, [], rfl, Nat.zero_le _, fun _ hx => nomatch hx⟩ ?_ ?_ ?_⟩
    · rintro i ys σ' H' hi ⟨rfl, _, gs, rfl, hg, _⟩
      refine ⟨hS, ?_⟩
      rw [List.length_map] at hi ⊢
      exact Nat.le_trans (Nat.le_trans hg (Nat.le_trans hi hl)) (by decide)
    · rintro i x ys σ' H' hx ⟨rfl, ⟨v, rfl⟩, gs, rfl, hg, hp⟩
      rw [List.getElem?_map] at hx
      cases hn : ns[i]? with
      | none => rw [hn] at hx; cases hx
      | some z =>
        rw [hn] at hx
        cases hx
        refine ⟨_, rfl, _, _, rfl, rfl, ⟨by decide, by decide, by decide⟩, _, _, rfl, rfl, _, rfl, ?_⟩
        refine ite2 (fun hz => ⟨_, rfl, rfl, ⟨_, rfl⟩, gs ++ [z], by simp, by simp; exact hg, fun y hy => ?_⟩) (fun hz => ⟨rfl, ⟨_, rfl⟩, gs, rfl, Nat.le_succ_of_le hg, hp⟩)
        rcases List.mem_append.mp hy with hy | hy
        · exact hp y hy
        · have : y = z := by simpa using hy
          subst this
          exact Int.lt_of_lt_of_le (by decide) (of_decide_eq_true hz)
    · rintro ys σ' H' ⟨rfl, _, gs, rfl, hg, hp⟩ g0 hg0
      rw [List.length_map] at hg
      have s1 : Same H' (upd H' g0 (.lst (gs.map V.int))) := Same.new hg0
      refine ⟨_, rfl, _, rfl, a, rfl, ⟨_, s1.seq hS⟩, comp_list (xs := ns.map V.int) (fun i ys σ' H2 => H2 = upd H' g0 (.lst (gs.map V.int)) ∧ (∃ v, σ' = [v]) ∧ ∃ cs : List Int, ys = cs.map V.int ∧ cs.length = i) ⟨rfl, ⟨_, rfl⟩, [], rfl, rfl⟩ ?_ ?_ ?_⟩
      · rintro i ys σ' H2 hi ⟨rfl, _, cs, rfl, hc⟩
        refine ⟨s1.seq hS, ?_⟩
        rw [List.length_map] at hi ⊢
        exact Nat.le_trans (Nat.le_trans (Nat.le_of_eq hc) (Nat.le_trans hi hl)) (by decide)
      · rintro i x ys σ' H2 hx ⟨rfl, ⟨v, rfl⟩, cs, rfl, hc⟩
        rw [List.getElem?_map] at hx
        cases hn : ns[i]? with
        | none => rw [hn] at hx; cases hx
        | some z =>
          rw [hn] at hx
          cases hx
          refine ⟨_, rfl, _, _, rfl, rfl, (by show (0 : Int) < 2147483629; decide), rfl, ⟨_, rfl⟩, cs ++ [z % 2147483629], by simp, by simp [hc]⟩
      · rintro ys σ' H2 ⟨rfl, _, cs, rfl, hc⟩ c0 hc0
        refine ⟨by show 4 ≤ sizeLine; decide, fun st hst => ?_⟩
        have n1 : g0 ≠ c0 := fun z => by rw [← z, upd_same] at hc0; cases hc0
        have n2 : st ≠ c0 := fun z => by rw [z, upd_same] at hst; cases hst
        have hst1 : upd H' g0 (.lst (gs.map V.int)) st = none := by rw [upd_ne n2] at hst; exact hst
        have n3 : st ≠ g0 := fun z => by rw [z, upd_same] at hst1; cases hst1
        refine k st g0 c0 _ ⟨⟨gs, cs, 0, 0, upd_same, ?_, ?_, Nat.le_trans hg hl, hp, Int.le_refl _, Int.le_refl _, Int.le_refl _⟩, n1, n3, n2⟩ ?_ hg0 ?_ (s1.trans ((Same.new hc0).trans (Same.new hst)))
        · rw [upd_ne n3.symm, upd_ne n1, upd_same]
        · rw [upd_ne n2.symm, upd_same]
        · rw [upd_ne n3] at hst1; exact hst1
        · rw [upd_ne n1.symm] at hc0; exact hc0
def n__law_mix : List Str := ["_law_state", "_law_count", "_law_cell", "_law_stirred"]
theorem sc__law_mix : FnScope n__law_mix ["_law_state"] (defScope s__law_mix) := ⟨rfl, rfl, rfl, by decide +kernel, rfl, by decide +kernel, by decide +kernel⟩
def sp_mix : Sp := fun vs H Q _ => ∃ (st ga ca : Addr) (N : Nat), vs = [.ref st] ∧ StAt H st ga ca N ∧ N ≤ 10 ^ 9 ∧
  ∀ (r : Int) (H' : Hp), 0 ≤ r → StAt H' st ga ca (N + 1) → Keep [st, ga] H H' → Q (.int r) H'
theorem ok__law_mix (T : Txt K mg A) : FnOk P w K mg base CX0 1 A.a__law_mix A.fd__law_mix ["_law_state"] sp_mix := by
  refine T.F__law_mix.ok sc__law_mix (fun vs H Q E h => ?_) (fun cdv Ar outer s H vs Q E hr h => ?_)
  · obtain ⟨st, ga, ca, N, rfl, S, hN, k⟩ := h
    rfl
  · obtain ⟨st, ga, ca, N, rfl, S, hN, k⟩ := h
    refine ⟨_, (pss_cons (ps_augS (pv 0) pe_int get_list pe_int ip_add set_list)
        (pss_cons (ps_set (i := 1) sc__law_mix.nd rfl (by first | exact Or.inl rfl | exact Or.inr rfl) (pe_ix ix_list (pv 0) pe_int (fun _ _ => rfl)))
        (pss_cons (ps_set (i := 2) sc__law_mix.nd rfl (by first | exact Or.inl rfl | exact Or.inr rfl) pe_int)
        (pss_cons (ps_if (pt_truth (pe_ix ix_list (pv 0) pe_int (fun _ _ => rfl)) (fun _ => rfl))
          (pss_one (ps_set (i := 2) sc__law_mix.nd rfl (by first | exact Or.inl rfl | exact Or.inr rfl) (pe_ix ix_list (pe_ix ix_list (pv 0) pe_int (fun _ _ => rfl)) (pe_op op_mod (pv 1) (pe_callB call_len_seq rfl T.b_len PySem.boot_len (pa_cons (pe_ix ix_list (pv 0) pe_int (fun _ _ => rfl)) pa_nil))) (fun _ _ => rfl)))) pss_nil)
        (pss_cons (ps_set (i := 3) sc__law_mix.nd rfl (by first | exact Or.inl rfl | exact Or.inr rfl) (pe_op op_mod (pe_op op_mul (pe_op op_add (pe_op op_add (pe_op op_add (pv 2) (pe_op op_mul (pe_op op_mul pe_int (pv 1)) (pv 1))) (pe_op op_mul pe_int (pv 1))) pe_int) pe_int) pe_int))
        (pss_one (ps_ret (pe_op op_mod (pe_op op_mul (pe_op op_add (pe_op op_add (pv 3) (pe_op op_mul pe_int (pv 1))) pe_int) pe_int) pe_int)))))))), ?_⟩
    obtain ⟨⟨gs, cs, q, n, h1, h2, h3, h4, h5, h6, h7, h8⟩, gc, sg, sc⟩ := S
    have hn : -(2 ^ 64) < n + 1 ∧ n + 1 < 2 ^ 64 := by omega
    refine ⟨_, rfl, st, _, 3, _, rfl, rfl, SqL.of h1, by decide, rfl, _, _, rfl, rfl, st, _, 3, 3, rfl, rfl, h1, rfl, ?_⟩
    have e1 : upd H st (.lst ([V.ref ga, V.int q, V.ref ca, V.int n].set 3 (V.int (n + 1)))) st = some (.lst [.ref ga, .int q, .ref ca, .int (n + 1)]) := upd_same
    refine ⟨_, rfl, st, _, 3, _, rfl, rfl, SqL.of e1, rfl, ?_⟩
    refine ⟨_, rfl, st, _, 2, _, rfl, rfl, SqL.of e1, rfl, ?_⟩
    have e3 : upd H st (.lst ([V.ref ga, V.int q, V.ref ca, V.int n].set 3 (V.int (n + 1)))) ca = some (.lst (cs.map V.int)) := by rw [upd_ne sc.symm]; exact h3
    have e2 : upd H st (.lst ([V.ref ga, V.int q, V.ref ca, V.int n].set 3 (V.int (n + 1)))) ga = some (.lst (gs.map V.int)) := by rw [upd_ne sg.symm]; exact h2
    refine ⟨_, Or.inl ⟨_, SqL.of e3, rfl⟩, ?_⟩
    have fin : ∀ (c : Int), (tSeq (tAsg (tOp (rI (fun _ j => 0 < j) fun i j => V.int (i % j)) (tOp (rI CMul fun i j => V.int (i * j)) (tOp (rI0 fun i j => V.int (i + j)) (tOp (rI0 fun i j => V.int (i + j)) (tOp (rI0 fun i j => V.int (i + j)) (tVar 2) (tOp (rI CMul fun i j => V.int (i * j)) (tOp (rI CMul fun i j => V.int (i * j)) (tC (V.int 7)) (tVar 1)) (tVar 1))) (tOp (rI CMul fun i j => V.int (i * j)) (tC (V.int 13)) (tVar 1))) (tC (V.int 5))) (tC (V.int 1220703125))) (tC (V.int 2147483647))) (gName 3))
        (tRet (tOp (rI (fun _ j => 0 < j) fun i j => V.int (i % j)) (tOp (rI CMul fun i j => V.int (i * j)) (tOp (rI0 fun i j => V.int (i + j)) (tOp (rI0 fun i j => V.int (i + j)) (tVar 3) (tOp (rI CMul fun i j => V.int (i * j)) (tC (V.int 17)) (tVar 1))) (tC (V.int 3))) (tC (V.int 39373))) (tC (V.int 1000000007)))))
        { nx := fun _ H' => Q .non H', rt := Q } [some (.ref st), some (.int (n + 1)), some (.int c), none] (upd H st (.lst ([V.ref ga, V.int q, V.ref ca, V.int n].set 3 (V.int (n + 1))))) := fun c => by
      refine ⟨_, rfl, _, rfl, _, _, rfl, rfl, .inl (by decide), _, rfl, _, _, rfl, rfl, .inr hn, _, _, rfl, rfl, _, rfl, _, _, rfl, rfl, .inl (by decide), _, _, rfl, rfl, _, _, rfl, rfl, _, _, rfl, rfl, .inr (by decide), _, _, rfl, rfl, (by show (0 : Int) < 2147483647; decide), ?_⟩
      refine ⟨_, rfl, _, rfl, _, _, rfl, rfl, .inl (by decide), _, _, rfl, rfl, _, _, rfl, rfl, _, _, rfl, rfl, .inr (by decide), _, _, rfl, rfl, (by show (0 : Int) < 1000000007; decide), ?_⟩
      exact k _ _ (Int.emod_nonneg _ (by decide)) ⟨⟨gs, cs, q, n + 1, e1, e2, e3, h4, h5, h6, by omega, by omega⟩, gc, sg, sc⟩ (Keep.set (by simp))
    cases hc : cs with
    | nil =>
      refine iteF ?_
      exact fin 5
    | cons c0 cr =>
      refine iteT ?_
      rw [hc] at e3
      refine ⟨_, rfl, st, _, 2, _, rfl, rfl, SqL.of e1, rfl, _, rfl, _, rfl, st, _, 2, _, rfl, rfl, SqL.of e1, rfl, ca, _, rfl, .inl (SqL.of e3), _, _, rfl, rfl, ?_, ?_⟩
      · rw [List.length_map]; simp only [List.length_cons]; omega
      · have hpos : (0 : Int) < ((c0 :: cr).length : Int) := by simp only [List.length_cons]; omega
        rw [List.length_map]
        have hm0 := Int.emod_nonneg (n + 1) (Int.ne_of_gt hpos)
        have hm1 := Int.emod_lt_of_pos (n + 1) hpos
        obtain ⟨j, hj⟩ : ∃ j : Nat, (n + 1) % ((c0 :: cr).length : Int) = (j : Int) := ⟨((n + 1) % ((c0 :: cr).length : Int)).toNat, by omega⟩
        have hjl : j < (c0 :: cr).length := by omega
        refine ⟨ca, _, _, _, rfl, rfl, SqL.of e3, by rw [hj]; exact atI_nat (v := V.int ((c0 :: cr)[j])) (by rw [List.getElem?_map, List.getElem?_eq_getElem hjl]; rfl), ?_⟩
        exact fin _
def n__law_draw : List Str := ["_law_state", "_law_many", "_law_told", "_law_size"]
theorem sc__law_draw : FnScope n__law_draw ["_law_state", "_law_many"] (defScope s__law_draw) := ⟨rfl, rfl, rfl, by decide +kernel, rfl, by decide +kernel, by decide +kernel⟩
def sp_draw : Sp := fun vs H Q _ => ∃ (st ga ca : Addr) (N : Nat) (m : Int), vs = [.ref st, .int m] ∧ StAt H st ga ca N ∧ N ≤ 10 ^ 8 ∧ 0 < m ∧ m ≤ 10 ^ 60 ∧
  ∀ (r : Int) (H' : Hp), 0 ≤ r → r < m → StAt H' st ga ca (N + 7) → Keep [st, ga] H H' → Q (.int r) H'
theorem ok__law_draw (T : Txt K mg A) : FnOk P w K mg base CX0 2 A.a__law_draw A.fd__law_draw ["_law_state", "_law_many"] sp_draw := by
  refine T.F__law_draw.ok sc__law_draw (fun vs H Q E h => ?_) (fun cdv Ar outer s H vs Q E hr h => ?_)
  · obtain ⟨st, ga, ca, N, m, rfl, S, hN, hm0, hm1, k⟩ := h
    rfl
  · obtain ⟨st, ga, ca, N, m, rfl, S, hN, hm0, hm1, k⟩ := h
    refine ⟨_, (pss_cons (ps_if (PW.pt (pw_and (pt_cmpR op_eq (pe_ix ix_list (pv 0) pe_int (fun _ _ => rfl)) pe_int (nomark _)) (pw_and1 (pt_truth (pe_ix ix_list (pv 0) pe_int (fun _ _ => rfl)) (fun _ => rfl)))))
          (pss_one (ps_asg (pe_bm PySem.F.plainAttrs_list PySem.F.slot_list_pop PySem.F.type_list_pop mt_popAt (pe_ix ix_list (pv 0) pe_int (fun _ _ => rfl)) (pa_cons pe_int pa_nil)) (pg_sub (pv 0) pe_int set_list))) pss_nil)
        (pss_cons (ps_if (pt_cmpR op_gt (pe_ix ix_list (pv 0) pe_int (fun _ _ => rfl)) pe_int (nomark _))
          (pss_cons (ps_set (i := 2) sc__law_draw.nd rfl (by first | exact Or.inl rfl | exact Or.inr rfl) (pe_op op_mod (pe_ix ix_list (pv 0) pe_int (fun _ _ => rfl)) (pv 1)))
        (pss_cons (ps_asg (pe_op op_fdivB (pe_ix ix_list (pv 0) pe_int (fun _ _ => rfl)) (pv 1)) (pg_sub (pv 0) pe_int set_list))
        (pss_one (ps_ret (pv 2))))) pss_nil)
        (pss_cons (ps_set (i := 2) sc__law_draw.nd rfl (by first | exact Or.inl rfl | exact Or.inr rfl) pe_int)
        (pss_cons (ps_set (i := 3) sc__law_draw.nd rfl (by first | exact Or.inl rfl | exact Or.inr rfl) pe_int)
        (pss_cons (ps_while PassesOwn.never (pt_cmpR op_lt (pv 3) (pv 1) (nomark _))
          (pss_cons (ps_set (i := 2) sc__law_draw.nd rfl (by first | exact Or.inl rfl | exact Or.inr rfl) (pe_op op_add (pe_op op_mul (pv 2) pe_int) (pe_call (ok__law_mix T) (hr.mono (by decide)) rfl T.g__law_mix T.F__law_mix.kp T.b__law_mix .nil pass0 (pa_cons (pv 0) pa_nil))))
        (pss_one (ps_set (i := 3) sc__law_draw.nd rfl (by first | exact Or.inl rfl | exact Or.inr rfl) (pe_op op_mul (pv 3) pe_int)))))
        (pss_one (ps_ret (pe_op op_mod (pv 2) (pv 1))))))))), ?_⟩
    obtain ⟨⟨gs, cs, q, n, h1, h2, h3, h4, h5, h6, h7, h8⟩, gc, sg, sc⟩ := S
    have hb : ∀ (g : List Int) (x : Int) (H' : Hp), H' = upd (upd H ga (.lst (g.map V.int))) st (.lst [.ref ga, .int x, .ref ca, .int n]) → H' st = some (.lst [.ref ga, .int x, .ref ca, .int n]) ∧ H' ga = some (.lst (g.map V.int)) ∧ H' ca = some (.lst (cs.map V.int)) ∧ Keep [st, ga] H H' := fun g x H' e => by
      subst e
      refine ⟨upd_same, by rw [upd_ne sg.symm, upd_same], by rw [upd_ne sc.symm, upd_ne gc.symm]; exact h3, fun b o e hn => ?_⟩
      have n1 : b ≠ st := fun z => hn (by simp [z])
      have n2 : b ≠ ga := fun z => hn (by simp [z])
      rw [upd_ne n1, upd_ne n2]
      exact e
    refine seqJoin (fun σ' H' => σ' = [some (.ref st), some (.int m), none, none] ∧ ∃ (g : List Int) (x : Int), H' st = some (.lst [.ref ga, .int x, .ref ca, .int n]) ∧ H' ga = some (.lst (g.map V.int)) ∧ H' ca = some (.lst (cs.map V.int)) ∧ Keep [st, ga] H H' ∧ g.length ≤ 63 ∧ (∀ x ∈ g, 0 < x) ∧ 0 ≤ x) (fun nx hnx => ?_) ?_
    · have skip : nx [some (.ref st), some (.int m), none, none] H := hnx _ _ ⟨rfl, gs, q, h1, h2, h3, Keep.refl _ _, h4, h5, h6⟩
      refine ⟨_, rfl, st, _, 1, _, rfl, rfl, SqL.of h1, rfl, rfl, _, rfl, ?_⟩
      refine ite2 (fun hq => ?_) (fun hq => iteF skip)
      have hq0 : q = 0 := by simpa using hq
      subst hq0
      refine ⟨_, rfl, st, _, 0, _, rfl, rfl, SqL.of h1, rfl, _, .inl ⟨_, SqL.of h2, rfl⟩, ?_⟩
      cases gs with
      | nil => exact iteF skip
      | cons g0 gr =>
        refine iteT ?_
        have eg : upd H ga (.lst ((V.int g0 :: gr.map V.int).eraseIdx 0)) st = some (.lst [.ref ga, .int 0, .ref ca, .int n]) := by rw [upd_ne sg]; exact h1
        refine ⟨_, rfl, st, _, 0, _, rfl, rfl, SqL.of h1, rfl, .inl ⟨rfl, _, SqL.of h2⟩, ga, _, 0, 0, V.int g0, rfl, rfl, h2, by decide, by decide, (by simp [seqIndex?]), rfl, ?_⟩
        refine ⟨_, rfl, st, _, 1, 1, rfl, rfl, eg, rfl, ?_⟩
        obtain ⟨b1, b2, b3, b4⟩ := hb gr g0 _ rfl
        exact hnx _ _ ⟨rfl, gr, g0, b1, b2, b3, b4, by simp only [List.length_cons] at h4; omega, fun y hy => h5 y (List.mem_cons_of_mem _ hy), Int.le_of_lt (h5 g0 List.mem_cons_self)⟩
    · rintro σ1 H1 ⟨rfl, g, x, c1, c2, c3, c4, c5, c6, c7⟩
      refine ⟨_, rfl, st, _, 1, _, rfl, rfl, SqL.of c1, rfl, _, _, rfl, rfl, _, rfl, ?_⟩
      refine ite2 (fun hx => ?_) (fun hx => ?_)
      · refine ⟨_, rfl, st, _, 1, _, rfl, rfl, SqL.of c1, rfl, _, rfl, _, _, rfl, rfl, hm0, ?_⟩
        refine ⟨_, rfl, st, _, 1, _, rfl, rfl, SqL.of c1, rfl, _, rfl, _, _, rfl, rfl, ⟨hm0, Int.le_trans hm1 (by decide)⟩, ?_⟩
        refine ⟨_, rfl, st, _, 1, 1, rfl, rfl, c1, rfl, ?_⟩
        refine ⟨_, rfl, k _ _ (Int.emod_nonneg _ (Int.ne_of_gt hm0)) (Int.emod_lt_of_pos _ hm0) ⟨⟨g, cs, x / m, n, upd_same, by rw [upd_ne sg.symm]; exact c2, by rw [upd_ne sc.symm]; exact c3, c5, c6, Int.ediv_nonneg c7 (Int.le_of_lt hm0), h7, by omega⟩, gc, sg, sc⟩ (c4.trans (Keep.set (by simp)))⟩
      · refine ⟨fun mm σ2 H2 => ∃ (j : Nat) (told : Int), j ≤ 7 ∧ mm = 7 - j ∧ σ2 = [some (.ref st), some (.int m), some (.int told), some (.int (1000000007 ^ j))] ∧ StAt H2 st ga ca (N + j) ∧ Keep [st, ga] H H2,
          ⟨7, 0, 0, by decide, rfl, rfl, ⟨⟨g, cs, x, n, c1, c2, c3, c5, c6, c7, h7, by omega⟩, gc, sg, sc⟩, c4⟩, ?_⟩
        rintro mm σ2 H2 ⟨j, told, hj, rfl, rfl, S2, k2⟩
        refine ⟨_, rfl, _, rfl, _, _, rfl, rfl, _, rfl, ?_⟩
        refine ite2 (fun hlt => ?_) (fun hlt => ?_)
        · have hlt' : (1000000007 : Int) ^ j < m := of_decide_eq_true hlt
          have hj6 : j < 7 := by
            rcases Nat.lt_or_ge j 7 with z | z
            · exact z
            · have e7 : j = 7 := by omega
              subst e7
              exact absurd (Int.lt_of_lt_of_le hlt' hm1) (by decide)
          refine ⟨fun σ3 H3 => ∃ (told : Int), σ3 = [some (.ref st), some (.int m), some (.int told), some (.int (1000000007 ^ (j + 1)))] ∧ StAt H3 st ga ca (N + (j + 1)) ∧ Keep [st, ga] H H3, fun σ3 H3 ⟨td, e3, S3, k3⟩ => ⟨7 - (j + 1), by omega, j + 1, td, hj6, rfl, e3, S3, k3⟩, ?_⟩
          refine ⟨_, rfl, _, _, rfl, rfl, .inr (by decide), _, rfl, st, ga, ca, N + j, rfl, S2, by omega, fun r H3 hr0 S3 k3 => ?_⟩
          refine ⟨_, _, rfl, rfl, ?_⟩
          refine ⟨_, rfl, _, _, rfl, rfl, .inr (by decide), ?_⟩
          refine ⟨told * 1000000007 + r, ?_, S3, k2.trans k3⟩
          show [some (V.ref st), some (V.int m), some (V.int _), some (V.int (1000000007 ^ j * 1000000007))] = _
          rw [← Int.pow_succ]
        · refine ⟨_, rfl, _, rfl, _, _, rfl, rfl, hm0, ?_⟩
          exact k _ _ (Int.emod_nonneg _ (Int.ne_of_gt hm0)) (Int.emod_lt_of_pos _ hm0) (S2.mono (by omega)) k2
def n__law_lane : List Str := ["_law_left", "_law_right", "_law_split", "_law_levels", "_law_base", "_law_by", "_law_ones", "_law_others", "_law_level"]
theorem sc__law_lane : FnScope n__law_lane ["_law_left", "_law_right", "_law_split", "_law_levels"] (defScope s__law_lane) := ⟨rfl, rfl, rfl, by decide +kernel, rfl, by decide +kernel, by decide +kernel⟩
def sp_lane : Sp := fun vs H Q _ => ∃ (L R : Nat) (sp : Bool) (lv : Addr) (lev : List Nat), vs = [.int L, .int R, .bl sp, .ref lv] ∧ H lv = some (.lst (lev.map natV)) ∧ (1 ≤ L ∧ L ≤ 8 ∧ 1 ≤ R ∧ R ≤ 8) ∧ (sp = true → R * (L / R) = L ∧ R < L) ∧ lev.length ≤ 60 ∧ (∀ v ∈ lev, v ≤ 2) ∧
  ∀ (p o1 o2 : Addr) (xs ys : List V) (m n : Nat) (H' : Hp), H' p = some (.tup [.ref o1, .ref o2]) → H' o1 = some (.lst xs) → H' o2 = some (.lst ys) → (⟨L, R, m, n, sp, lev⟩ : LD).Ok → All2 Lst1 H' (lev.map (⟨L, R, m, n, sp, lev⟩ : LD).lrow) xs → All2 Lst1 H' (lev.map (⟨L, R, m, n, sp, lev⟩ : LD).rrow) ys → Same H H' → Q (.ref p) H'
theorem ok__law_lane (T : Txt K mg A) : FnOk P w K mg base CX0 1 A.a__law_lane A.fd__law_lane ["_law_left", "_law_right", "_law_split", "_law_levels"] sp_lane := by
  refine T.F__law_lane.ok sc__law_lane (fun vs H Q E h => ?_) (fun cdv Ar outer s H vs Q E hr h => ?_)
  · obtain ⟨L, R, sp, lv, lev, rfl, hlv, hb, hsp, hl, hv, k⟩ := h
    rfl
  · obtain ⟨L, R, sp, lv, lev, rfl, hlv, hb, hsp, hl, hv, k⟩ := h
    refine ⟨_, (pss_cons (ps_set (i := 4) sc__law_lane.nd rfl (by first | exact Or.inl rfl | exact Or.inr rfl) (pe_op op_mul (pv 0) (pv 1)))
        (pss_cons (ps_for PassesOwn.never rfl (pi_range2 rfl T.b_range (pa_cons pe_int (pa_cons pe_int pa_nil))) (pg_name (i := 5) sc__law_lane.nd rfl (by first | exact Or.inl rfl | exact Or.inr rfl))
          (pss_one (ps_while PassesOwn.never (PW.pt (pw_and (pt_cmpR op_eq (pe_op op_mod (pv 0) (pv 5)) pe_int (nomark _)) (pw_and1 (pt_cmpR op_eq (pe_op op_mod (pv 1) (pv 5)) pe_int (nomark _)))))
          (pss_cons (ps_set (i := 0) sc__law_lane.nd rfl (by first | exact Or.inl rfl | exact Or.inr rfl) (pe_op op_fdivB (pv 0) (pv 5)))
        (pss_cons (ps_set (i := 1) sc__law_lane.nd rfl (by first | exact Or.inl rfl | exact Or.inr rfl) (pe_op op_fdivB (pv 1) (pv 5)))
        (pss_one (ps_set (i := 4) sc__law_lane.nd rfl (by first | exact Or.inl rfl | exact Or.inr rfl) (pe_op op_fdivB (pv 4) (pv 5)))))))))
        (pss_cons (ps_par (i := 0) (j := 1) rfl sc__law_lane.nd rfl rfl (by decide) rfl rfl (pa_cons (pe_op op_fdivB (pv 4) (pv 1)) (pa_cons (pe_op op_fdivB (pv 4) (pv 0)) pa_nil)) rfl)
        (pss_cons (ps_set (i := 6) sc__law_lane.nd rfl (by first | exact Or.inl rfl | exact Or.inr rfl) (pe_lst pa_nil))
        (pss_cons (ps_set (i := 7) sc__law_lane.nd rfl (by first | exact Or.inl rfl | exact Or.inr rfl) (pe_lst pa_nil))
        (pss_cons (ps_for PassesOwn.never rfl (pi_list (pv 3)) (pg_name (i := 8) sc__law_lane.nd rfl (by first | exact Or.inl rfl | exact Or.inr rfl))
          (pss_one (ps_if (pt_truth (pv 2) (fun _ => rfl))
          (pss_cons (ps_expr (pe_bm PySem.F.plainAttrs_list PySem.F.slot_list_append PySem.F.type_list_append mt_append (pv 6) (pa_cons (pe_op op_rep (pe_lst (pa_cons (pv 0) pa_nil)) (pv 8)) pa_nil)))
        (pss_one (ps_expr (pe_bm PySem.F.plainAttrs_list PySem.F.slot_list_append PySem.F.type_list_append mt_append (pv 7) (pa_cons (pe_slice sl_list (pe_op op_cat (pe_lst (pa_cons (pv 0) pa_nil)) (pe_op op_rep (pe_lst (pa_cons (pv 1) pa_nil)) (pe_op op_fdivB (pv 0) (pv 1)))) po_none (po_some (pe_ix ix_list (pe_lst (pa_cons pe_int (pa_cons pe_int (pa_cons (pe_op op_add pe_int (pe_op op_fdivB (pv 0) (pv 1))) pa_nil)))) (pv 8) (fun _ _ => rfl)))) pa_nil))))) (pss_cons (ps_expr (pe_bm PySem.F.plainAttrs_list PySem.F.slot_list_append PySem.F.type_list_append mt_append (pv 6) (pa_cons (pe_op op_rep (pe_lst (pa_cons (pv 0) pa_nil)) (pe_op op_mul (pv 8) (pe_op op_fdivB (pv 4) (pv 0)))) pa_nil)))
        (pss_one (ps_expr (pe_bm PySem.F.plainAttrs_list PySem.F.slot_list_append PySem.F.type_list_append mt_append (pv 7) (pa_cons (pe_op op_rep (pe_lst (pa_cons (pv 1) pa_nil)) (pe_op op_mul (pv 8) (pe_op op_fdivB (pv 4) (pv 1)))) pa_nil))))))))
        (pss_one (ps_ret (pe_tup (pa_cons (pv 6) (pa_cons (pv 7) pa_nil))))))))))), ?_⟩
    refine ⟨_, rfl, _, rfl, _, _, rfl, rfl, .inl ⟨by omega, by omega⟩, ?_⟩
    refine ⟨2, 9, rfl, ⟨by decide, by decide, by decide, by decide⟩, for_range (lo := 2) (n := 7) (fun i σ' H' => H' = H ∧ ∃ (l r m : Nat) (v : Option V), σ' = [some (.int l), some (.int r), some (.bl sp), some (.ref lv), some (.int ((l * r * m : Nat) : Int)), v, none, none, none] ∧ l * m = L ∧ r * m = R) ⟨rfl, L, R, 1, none, ?_, Nat.mul_one _, Nat.mul_one _⟩ ?_ ?_⟩
    · show [some (V.int L), some (V.int R), some (V.bl sp), some (V.ref lv), some (V.int ((L : Int) * (R : Int))), none, none, none, none] = _
      rw [Nat.mul_one, Int.natCast_mul]
    · rintro i σ' H' hi ⟨rfl, l, r, m, v, rfl, e1, e2⟩
      have hby : (0 : Int) < 2 + (i : Int) := by omega
      refine ⟨fun mm σ2 H2 => H2 = H' ∧ ∃ (l r m : Nat), mm = l ∧ σ2 = [some (.int l), some (.int r), some (.bl sp), some (.ref lv), some (.int ((l * r * m : Nat) : Int)), some (.int (2 + (i : Int))), none, none, none] ∧ l * m = L ∧ r * m = R, ⟨l, rfl, l, r, m, rfl, rfl, e1, e2⟩, ?_⟩
      rintro l σ2 H2 ⟨rfl, _, r, m, rfl, rfl, e1, e2⟩
      refine ⟨_, rfl, _, rfl, _, _, rfl, rfl, hby, rfl, _, rfl, ?_⟩
      refine ite2 (fun h1 => ?_) (fun h1 => iteF ⟨rfl, _, r, m, _, rfl, e1, e2⟩)
      refine ⟨_, rfl, _, rfl, _, _, rfl, rfl, hby, rfl, _, rfl, ?_⟩
      refine ite2 (fun h2 => ?_) (fun h2 => ⟨rfl, _, r, m, _, rfl, e1, e2⟩)
      have d1 : (l : Int) % (2 + (i : Int)) = 0 := by have := of_decide_eq_true h1; injection this
      have d2 : (r : Int) % (2 + (i : Int)) = 0 := by have := of_decide_eq_true h2; injection this
      have c1 : ((2 + i : Nat) : Int) = 2 + (i : Int) := by omega
      rw [← c1] at d1 d2
      obtain ⟨l', rfl⟩ : (2 + i) ∣ l := Nat.dvd_of_mod_eq_zero (by exact_mod_cast d1)
      obtain ⟨r', rfl⟩ : (2 + i) ∣ r := Nat.dvd_of_mod_eq_zero (by exact_mod_cast d2)
      have q1 : (((2 + i) * l' : Nat) : Int) / (2 + (i : Int)) = (l' : Int) := by
        rw [← c1, ← Int.natCast_ediv, Nat.mul_div_cancel_left _ (by omega)]
      have q2 : (((2 + i) * r' : Nat) : Int) / (2 + (i : Int)) = (r' : Int) := by
        rw [← c1, ← Int.natCast_ediv, Nat.mul_div_cancel_left _ (by omega)]
      have q3 : (((2 + i) * l' * ((2 + i) * r') * m : Nat) : Int) / (2 + (i : Int)) = ((l' * r' * ((2 + i) * m) : Nat) : Int) := by
        have e : (2 + i) * l' * ((2 + i) * r') * m = (2 + i) * (l' * r' * ((2 + i) * m)) := by
          simp only [Nat.mul_assoc, Nat.mul_left_comm, Nat.mul_comm]
        rw [← c1, ← Int.natCast_ediv, e, Nat.mul_div_cancel_left _ (by omega)]
      have l0 : 0 < l' := by
        rcases Nat.eq_zero_or_pos l' with z | z
        · subst z; simp at e1; omega
        · exact z
      refine ⟨fun σ3 H3 => H3 = H2 ∧ σ3 = [some (.int l'), some (.int r'), some (.bl sp), some (.ref lv), some (.int ((l' * r' * ((2 + i) * m) : Nat) : Int)), some (.int (2 + (i : Int))), none, none, none], ?_, ?_⟩
      · rintro σ3 H3 ⟨rfl, rfl⟩
        refine ⟨l', ?_, rfl, l', r', (2 + i) * m, rfl, rfl, ?_, ?_⟩
        · have : 2 * l' ≤ (2 + i) * l' := Nat.mul_le_mul_right _ (by omega)
          omega
        · rw [← e1, Nat.mul_comm (2 + i) l', Nat.mul_assoc]
        · rw [← e2, Nat.mul_comm (2 + i) r', Nat.mul_assoc]
      · have hb100 : (2 + (i : Int)) ≤ 10 ^ 100 := Int.le_trans (show 2 + (i : Int) ≤ 9 by omega) (by decide)
        refine ⟨_, rfl, _, rfl, _, _, rfl, rfl, ⟨hby, hb100⟩, _, rfl, _, rfl, _, _, rfl, rfl, ⟨hby, hb100⟩, _, rfl, _, rfl, _, _, rfl, rfl, ⟨hby, hb100⟩, rfl, ?_⟩
        show [some (V.int (((2 + i) * l' : Nat) / (2 + (i : Int)))), some (V.int (((2 + i) * r' : Nat) / (2 + (i : Int)))), some (V.bl sp), some (V.ref lv), some (V.int (((2 + i) * l' * ((2 + i) * r') * m : Nat) / (2 + (i : Int)))), some (V.int (2 + (i : Int))), none, none, none] = _
        rw [q1, q2, q3]
    · rintro σ' H' ⟨rfl, l, r, m, v, rfl, e1, e2⟩
      have l0 : 0 < l := by
        rcases Nat.eq_zero_or_pos l with z | z
        · subst z; simp at e1; omega
        · exact z
      have r0 : 0 < r := by
        rcases Nat.eq_zero_or_pos r with z | z
        · subst z; simp at e2; omega
        · exact z
      have m0 : 0 < m := by
        rcases Nat.eq_zero_or_pos m with z | z
        · subst z; simp at e1; omega
        · exact z
      have ll : l ≤ L := by rw [← e1]; exact Nat.le_mul_of_pos_right _ m0
      have rl : r ≤ R := by rw [← e2]; exact Nat.le_mul_of_pos_right _ m0
      have b100 : ∀ n : Nat, n ≤ 8 → (n : Int) ≤ 10 ^ 100 := fun n hn => Int.le_trans (show (n : Int) ≤ 8 by omega) (by decide)
      have q1 : ((l * r * m : Nat) : Int) / (r : Int) = (L : Int) := by
        rw [← Int.natCast_ediv, ← e1, show l * r * m = r * (l * m) by rw [Nat.mul_comm l r, Nat.mul_assoc], Nat.mul_div_cancel_left _ r0]
      have q2 : ((l * r * m : Nat) : Int) / (l : Int) = (R : Int) := by
        rw [← Int.natCast_ediv, ← e2, Nat.mul_assoc, Nat.mul_div_cancel_left _ l0]
      have q3 : ((l * r * m : Nat) : Int) / (L : Int) = (r : Int) := by
        rw [← Int.natCast_ediv, ← e1, show l * r * m = l * m * r by rw [Nat.mul_assoc, Nat.mul_comm r m, ← Nat.mul_assoc], Nat.mul_div_cancel_left _ (Nat.mul_pos l0 m0)]
      have q4 : ((l * r * m : Nat) : Int) / (R : Int) = (l : Int) := by
        rw [← Int.natCast_ediv, ← e2, show l * r * m = r * m * l by rw [Nat.mul_comm l r, Nat.mul_assoc, Nat.mul_comm l m, ← Nat.mul_assoc], Nat.mul_div_cancel_left _ (Nat.mul_pos r0 m0)]
      have q5 : (L : Int) / (R : Int) = ((L / R : Nat) : Int) := (Int.natCast_ediv L R).symm
      have okD : (⟨L, R, r, l, sp, lev⟩ : LD).Ok := ⟨hb.1, hb.2.1, hb.2.2.1, hb.2.2.2, by show r ≤ 8; omega, by show l ≤ 8; omega, by show L * r = R * l; rw [← e1, ← e2, Nat.mul_assoc, Nat.mul_comm m r, Nat.mul_comm l], hsp, hv⟩
      refine ⟨_, rfl, _, rfl, _, _, rfl, rfl, ⟨by omega, b100 r (by omega)⟩, _, rfl, _, rfl, _, _, rfl, rfl, ⟨by omega, b100 l (by omega)⟩, _, _, rfl, ?_⟩
      dsimp only
      rw [q1, q2]
      refine ⟨by show 0 ≤ sizeLine; decide, fun o1 ho1 => ⟨by show 0 ≤ sizeLine; decide, fun o2 ho2 => ?_⟩⟩
      have s2 := (Same.new (o := .lst []) ho1).trans (Same.new (o := .lst []) ho2)
      have g1 := Same.new (o := .lst []) ho2 _ _ (upd_same (H := H') (a := o1) (o := .lst []))
      have g2 := upd_same (H := upd H' o1 (.lst [])) (a := o2) (o := .lst [])
      have n12 : o1 ≠ o2 := ne_of_none (upd_same (H := H') (a := o1) (o := .lst [])) ho2
      have no2 : H' o2 = none := (Same.new (o := .lst []) ho1).free ho2
      generalize upd (upd H' o1 (.lst [])) o2 (.lst []) = H2 at s2 g1 g2
      refine ⟨_, rfl, lv, rfl, ⟨_, SqL.of (s2 _ _ hlv)⟩, for_list (xs := lev.map natV) (fun i σ' H3 => (∃ v w, σ' = [some (.int L), some (.int R), some (.bl sp), some (.ref lv), some (.int ((l * r * m : Nat) : Int)), v, some (.ref o1), some (.ref o2), w]) ∧ Same H' H3 ∧ ∃ xs ys, H3 o1 = some (.lst xs) ∧ H3 o2 = some (.lst ys) ∧ All2 (LstN [o1, o2]) H3 ((lev.take i).map (⟨L, R, r, l, sp, lev⟩ : LD).lrow) xs ∧ All2 (LstN [o1, o2]) H3 ((lev.take i).map (⟨L, R, r, l, sp, lev⟩ : LD).rrow) ys) ⟨⟨_, _, rfl⟩, s2, [], [], g1, g2, .nil, .nil⟩ ?_ ?_ ?_⟩
      · rintro i σ' H3 _ ⟨_, s3, _⟩
        exact SqL.of (s3 _ _ hlv)
      · rintro i x σ' H3 hx ⟨⟨w1, w2, rfl⟩, s3, xs, ys, f1, f2, A1, A2⟩
        obtain ⟨v, hv', rfl⟩ := nat_at hx
        have hv2 : v ≤ 2 := hv v (List.mem_of_getElem? hv')
        have hi := (List.getElem?_eq_some_iff.mp hv').1
        have xl : xs.length < sizeLine := by
          rw [← A1.length, List.length_map, List.length_take]
          exact Nat.lt_of_lt_of_le (show _ < 100 by omega) (by decide)
        have yl : ys.length < sizeLine := by
          rw [← A2.length, List.length_map, List.length_take]
          exact Nat.lt_of_lt_of_le (show _ < 100 by omega) (by decide)
        have fin : ∀ (a b : Addr) (H5 : Hp), Keep [o1, o2] H3 H5 → H5 o1 = some (.lst (xs ++ [.ref a])) → H5 o2 = some (.lst (ys ++ [.ref b])) → a ∉ [o1, o2] → b ∉ [o1, o2] → H5 a = some (.lst (((⟨L, R, r, l, sp, lev⟩ : LD).lrow v).map V.int)) → H5 b = some (.lst (((⟨L, R, r, l, sp, lev⟩ : LD).rrow v).map V.int)) →
            Same H' H5 ∧ ∃ xs ys, H5 o1 = some (.lst xs) ∧ H5 o2 = some (.lst ys) ∧ All2 (LstN [o1, o2]) H5 ((lev.take (i + 1)).map (⟨L, R, r, l, sp, lev⟩ : LD).lrow) xs ∧ All2 (LstN [o1, o2]) H5 ((lev.take (i + 1)).map (⟨L, R, r, l, sp, lev⟩ : LD).rrow) ys := fun a b H5 K5 e1 e2 na nb ea eb => by
          refine ⟨fun c o e => K5 _ _ (s3 _ _ e) (nin_two' ho1 no2 e), _, _, e1, e2, ?_, ?_⟩
          · rw [List.take_succ, hv', List.map_append]
            exact (A1.mvN K5).snoc ⟨a, rfl, na, ea⟩
          · rw [List.take_succ, hv', List.map_append]
            exact (A2.mvN K5).snoc ⟨b, rfl, nb, eb⟩
        refine ⟨_, rfl, sp, rfl, ?_⟩
        cases sp with
        | true =>
          refine iteT ⟨_, rfl, .inl ⟨rfl, _, SqL.of f1⟩, _, rfl, by show 1 ≤ sizeLine; decide, fun a1 ha1 => ⟨_, rfl, a1, (v : Int), [V.int (L : Int)], rfl, rfl, upd_same, by omega, by omega, ?_, fun a2 ha2 => ?_⟩⟩
          · show 1 * (v : Int).toNat ≤ sizeLine
            exact Nat.le_trans (m := 2) (by omega) (by decide)
          rw [Int.toNat_natCast, rep_flat]
          have s4 := (Same.new (o := .lst [V.int (L : Int)]) ha1).trans (Same.new (o := .lst ((List.replicate v (L : Int)).map V.int)) ha2)
          have ga2 := upd_same (H := upd H3 a1 (.lst [V.int (L : Int)])) (a := a2) (o := .lst ((List.replicate v (L : Int)).map V.int))
          have na2 : a2 ∉ [o1, o2] := nin_two (Same.new ha1 _ _ f1) (Same.new ha1 _ _ f2) ha2
          generalize upd (upd H3 a1 (.lst [V.int (L : Int)])) a2 (.lst ((List.replicate v (L : Int)).map V.int)) = H4 at s4 ga2
          refine ⟨o1, _, _, rfl, rfl, s4 _ _ f1, xl, ?_⟩
          have K4 : Keep [o1, o2] H3 (upd H4 o1 (.lst (xs ++ [.ref a2]))) := s4.keep.trans (Keep.set (by simp))
          have e1 := upd_same (H := H4) (a := o1) (o := .lst (xs ++ [.ref a2]))
          have e2 : upd H4 o1 (.lst (xs ++ [.ref a2])) o2 = some (.lst ys) := by rw [upd_ne n12.symm]; exact s4 _ _ f2
          have ea : upd H4 o1 (.lst (xs ++ [.ref a2])) a2 = some (.lst ((List.replicate v (L : Int)).map V.int)) := by rw [upd_ne (fun z => na2 (by simp [z]))]; exact ga2
          generalize upd H4 o1 (.lst (xs ++ [.ref a2])) = H5 at K4 e1 e2 ea
          have dv : (0 : Int) < (R : Int) ∧ (R : Int) ≤ 10 ^ 100 := ⟨by omega, b100 R (by omega)⟩
          have hq8 : L / R ≤ 8 := Nat.le_trans (Nat.div_le_self _ _) hb.2.1
          refine ⟨_, rfl, .inl ⟨rfl, _, SqL.of e2⟩, _, rfl, by show 1 ≤ sizeLine; decide, fun b1 hb1 => ⟨_, rfl, by show 1 ≤ sizeLine; decide, fun b2 hb2 => ⟨_, rfl, _, rfl, _, _, rfl, rfl, dv, ?_⟩⟩⟩
          dsimp only
          rw [q5]
          have hqI : ((L / R : Nat) : Int) ≤ 8 := by exact_mod_cast hq8
          refine ⟨b2, ((L / R : Nat) : Int), [V.int (R : Int)], rfl, rfl, upd_same, Int.le_trans (by decide) (Int.natCast_nonneg _), Int.lt_of_le_of_lt hqI (by decide), ?_, fun b3 hb3 => ?_⟩
          · show 1 * ((L / R : Nat) : Int).toNat ≤ sizeLine
            exact Nat.le_trans (m := 8) (by omega) (by decide)
          rw [Int.toNat_natCast, rep_flat]
          have sb := (Same.new (o := .lst [V.int (R : Int)]) hb2).trans (Same.new (o := .lst ((List.replicate (L / R) (R : Int)).map V.int)) hb3)
          refine ⟨b1, b3, _, _, rfl, rfl, sb _ _ upd_same, upd_same, ?_, fun b4 hb4 => ?_⟩
          · rw [List.length_map, List.length_replicate]
            show 1 + L / R ≤ sizeLine
            exact Nat.le_trans (m := 9) (by omega) (by decide)
          have sc := (Same.new (o := .lst [V.int (L : Int)]) hb1).trans (sb.trans (Same.new (o := .lst ([V.int (L : Int)] ++ (List.replicate (L / R) (R : Int)).map V.int)) hb4))
          have g4 := upd_same (H := upd (upd (upd H5 b1 (.lst [V.int (L : Int)])) b2 (.lst [V.int (R : Int)])) b3 (.lst ((List.replicate (L / R) (R : Int)).map V.int))) (a := b4) (o := .lst ([V.int (L : Int)] ++ (List.replicate (L / R) (R : Int)).map V.int))
          generalize upd (upd (upd (upd H5 b1 (.lst [V.int (L : Int)])) b2 (.lst [V.int (R : Int)])) b3 (.lst ((List.replicate (L / R) (R : Int)).map V.int))) b4 (.lst ([V.int (L : Int)] ++ (List.replicate (L / R) (R : Int)).map V.int)) = H6 at sc g4
          dsimp only [tNoPart, tNil]
          refine ⟨_, rfl, _, rfl, _, _, rfl, rfl, dv, _, _, rfl, rfl, by show 3 ≤ sizeLine; decide, fun b5 hb5 => ?_⟩
          dsimp only
          rw [q5]
          have em : atI [V.int 0, V.int 1, V.int (1 + ((L / R : Nat) : Int))] (v : Int) = some (.int (((⟨L, R, r, l, true, lev⟩ : LD).cut v : Nat) : Int)) := by
            match v, hv2 with
            | 0, _ => rfl
            | 1, _ => rfl
            | 2, _ =>
              show some (V.int (1 + ((L / R : Nat) : Int))) = some (V.int ((1 + L / R : Nat) : Int))
              rw [Int.natCast_add]
              rfl
          refine ⟨_, rfl, b5, _, v, _, rfl, rfl, SqL.of upd_same, em, _, rfl, b4, _, rfl, SqL.of (Same.new hb5 _ _ g4), fun b6 hb6 => ?_⟩
          rw [cut_take]
          have er : ([V.int (L : Int)] ++ (List.replicate (L / R) (R : Int)).map V.int).take ((⟨L, R, r, l, true, lev⟩ : LD).cut v) = ((⟨L, R, r, l, true, lev⟩ : LD).rrow v).map V.int := by
            unfold LD.rrow
            rw [if_pos rfl, List.map_take]
            rfl
          rw [er]
          have sd := sc.trans ((Same.new (o := .lst [V.int 0, V.int 1, V.int (1 + ((L / R : Nat) : Int))]) hb5).trans (Same.new (o := .lst (((⟨L, R, r, l, true, lev⟩ : LD).rrow v).map V.int)) hb6))
          have g6 := upd_same (H := upd H6 b5 (.lst [V.int 0, V.int 1, V.int (1 + ((L / R : Nat) : Int))])) (a := b6) (o := .lst (((⟨L, R, r, l, true, lev⟩ : LD).rrow v).map V.int))
          have n6 : b6 ∉ [o1, o2] := nin_two (Same.new hb5 _ _ (sc _ _ e1)) (Same.new hb5 _ _ (sc _ _ e2)) hb6
          generalize upd (upd H6 b5 (.lst [V.int 0, V.int 1, V.int (1 + ((L / R : Nat) : Int))])) b6 (.lst (((⟨L, R, r, l, true, lev⟩ : LD).rrow v).map V.int)) = H7 at sd g6
          refine ⟨o2, _, _, rfl, rfl, sd _ _ e2, yl, ⟨_, _, rfl⟩, fin a2 b6 _ (K4.trans (sd.keep.trans (Keep.set (by simp)))) (by rw [upd_ne n12]; exact sd _ _ e1) upd_same na2 n6 ?_ ?_⟩
          · rw [upd_ne (fun z => na2 (by simp [z]))]
            exact sd _ _ ea
          · rw [upd_ne (fun z => n6 (by simp [z]))]
            exact g6
        | false =>
          have dL : (0 : Int) < (L : Int) ∧ (L : Int) ≤ 10 ^ 100 := ⟨by omega, b100 L (by omega)⟩
          have dR : (0 : Int) < (R : Int) ∧ (R : Int) ≤ 10 ^ 100 := ⟨by omega, b100 R (by omega)⟩
          refine iteF ⟨_, rfl, .inl ⟨rfl, _, SqL.of f1⟩, _, rfl, by show 1 ≤ sizeLine; decide, fun a1 ha1 => ⟨_, rfl, _, rfl, _, rfl, _, _, rfl, rfl, dL, ?_⟩⟩
          dsimp only
          rw [q3]
          refine ⟨_, _, rfl, rfl, .inl ⟨by omega, by omega⟩, ?_⟩
          dsimp only
          rw [← Int.natCast_mul]
          have vr : v * r ≤ 16 := Nat.mul_le_mul hv2 (show r ≤ 8 by omega)
          have vl : v * l ≤ 16 := Nat.mul_le_mul hv2 (show l ≤ 8 by omega)
          refine ⟨a1, ((v * r : Nat) : Int), [V.int (L : Int)], rfl, rfl, upd_same, by omega, by omega, ?_, fun a2 ha2 => ?_⟩
          · show 1 * ((v * r : Nat) : Int).toNat ≤ sizeLine
            exact Nat.le_trans (m := 16) (by omega) (by decide)
          rw [Int.toNat_natCast, rep_flat]
          have s4 := (Same.new (o := .lst [V.int (L : Int)]) ha1).trans (Same.new (o := .lst ((List.replicate (v * r) (L : Int)).map V.int)) ha2)
          have ga2 := upd_same (H := upd H3 a1 (.lst [V.int (L : Int)])) (a := a2) (o := .lst ((List.replicate (v * r) (L : Int)).map V.int))
          have na2 : a2 ∉ [o1, o2] := nin_two (Same.new ha1 _ _ f1) (Same.new ha1 _ _ f2) ha2
          generalize upd (upd H3 a1 (.lst [V.int (L : Int)])) a2 (.lst ((List.replicate (v * r) (L : Int)).map V.int)) = H4 at s4 ga2
          refine ⟨o1, _, _, rfl, rfl, s4 _ _ f1, xl, ?_⟩
          have K4 : Keep [o1, o2] H3 (upd H4 o1 (.lst (xs ++ [.ref a2]))) := s4.keep.trans (Keep.set (by simp))
          have e1 := upd_same (H := H4) (a := o1) (o := .lst (xs ++ [.ref a2]))
          have e2 : upd H4 o1 (.lst (xs ++ [.ref a2])) o2 = some (.lst ys) := by rw [upd_ne n12.symm]; exact s4 _ _ f2
          have ea : upd H4 o1 (.lst (xs ++ [.ref a2])) a2 = some (.lst ((List.replicate (v * r) (L : Int)).map V.int)) := by rw [upd_ne (fun z => na2 (by simp [z]))]; exact ga2
          generalize upd H4 o1 (.lst (xs ++ [.ref a2])) = H5 at K4 e1 e2 ea
          refine ⟨_, rfl, .inl ⟨rfl, _, SqL.of e2⟩, _, rfl, by show 1 ≤ sizeLine; decide, fun b1 hb1 => ⟨_, rfl, _, rfl, _, rfl, _, _, rfl, rfl, dR, ?_⟩⟩
          dsimp only
          rw [q4]
          refine ⟨_, _, rfl, rfl, .inl ⟨by omega, by omega⟩, ?_⟩
          dsimp only
          rw [← Int.natCast_mul]
          refine ⟨b1, ((v * l : Nat) : Int), [V.int (R : Int)], rfl, rfl, upd_same, by omega, by omega, ?_, fun b2 hb2 => ?_⟩
          · show 1 * ((v * l : Nat) : Int).toNat ≤ sizeLine
            exact Nat.le_trans (m := 16) (by omega) (by decide)
          rw [Int.toNat_natCast, rep_flat]
          have sd := (Same.new (o := .lst [V.int (R : Int)]) hb1).trans (Same.new (o := .lst ((List.replicate (v * l) (R : Int)).map V.int)) hb2)
          have g6 := upd_same (H := upd H5 b1 (.lst [V.int (R : Int)])) (a := b2) (o := .lst ((List.replicate (v * l) (R : Int)).map V.int))
          have n6 : b2 ∉ [o1, o2] := nin_two (Same.new hb1 _ _ e1) (Same.new hb1 _ _ e2) hb2
          generalize upd (upd H5 b1 (.lst [V.int (R : Int)])) b2 (.lst ((List.replicate (v * l) (R : Int)).map V.int)) = H7 at sd g6
          refine ⟨o2, _, _, rfl, rfl, sd _ _ e2, yl, ⟨_, _, rfl⟩, fin a2 b2 _ (K4.trans (sd.keep.trans (Keep.set (by simp)))) (by rw [upd_ne n12]; exact sd _ _ e1) upd_same na2 n6 ?_ ?_⟩
          · rw [upd_ne (fun z => na2 (by simp [z]))]
            exact sd _ _ ea
          · rw [upd_ne (fun z => n6 (by simp [z]))]
            exact g6
      · rintro σ' H3 ⟨⟨w1, w2, rfl⟩, s3, xs, ys, f1, f2, A1, A2⟩
        rw [List.length_map, List.take_length] at A1 A2
        refine ⟨_, rfl, _, rfl, by show 2 ≤ sizeLine; decide, fun p hp => ?_⟩
        have s4 := Same.new (o := .tup [V.ref o1, V.ref o2]) hp
        exact k p o1 o2 xs ys r l _ upd_same (s4 _ _ f1) (s4 _ _ f2) okD (A1.toL.mvI s4) (A2.toL.mvI s4) (s3.trans s4)
def n__law_rule : List Str := ["_law_rows"]
theorem sc__law_rule : FnScope n__law_rule ["_law_rows"] (defScope s__law_rule) := ⟨rfl, rfl, rfl, by decide +kernel, rfl, by decide +kernel, by decide +kernel⟩
def sp_rule : Sp := fun vs H Q _ => ∃ (a : Addr) (xs : List V) (rows : List (List Int)), vs = [.ref a] ∧ H a = some (.lst xs) ∧ All2 Lst1 H rows xs ∧ (∀ r ∈ rows, r.length ≤ 1000) ∧ rows.length ≤ 60 ∧
  ∀ (p : Addr) (rs : List V) (H' : Hp), H' p = some (.tup rs) → All2 Tup1 H' (rows.map sortD) rs → Same H H' → Q (.ref p) H'
theorem ok__law_rule (T : Txt K mg A) : FnOk P w K mg base CX0 1 A.a__law_rule A.fd__law_rule ["_law_rows"] sp_rule := by
  refine T.F__law_rule.ok sc__law_rule (fun vs H Q E h => ?_) (fun cdv Ar outer s H vs Q E hr h => ?_)
  · obtain ⟨a, xs, rows, rfl, ha, h2, hb, hl, k⟩ := h
    rfl
  · obtain ⟨a, xs, rows, rfl, ha, h2, hb, hl, k⟩ := h
    refine ⟨_, (pss_one (ps_ret (pe_callTy call_tuple_of rfl T.b_tuple boot_tuple (pa_cons (pe_comp (ls := ["_law_row_here"]) (fr := []) (cs_of (defScope s__law_rule) n__law_rule rfl rfl (by decide +kernel)) rfl (pi_list (pv 0)) (fun _ _ _ _ => pgc 0 (by decide +kernel) rfl rfl) (fun _ _ _ _ => pf_nil) (fun _ _ _ _ => (pe_callTy (call_tuple_ofK K rfl) (glc (defScope s__law_rule)) T.b_tuple boot_tuple (pa_cons (pe_sortRBK K rfl (glc (defScope s__law_rule)) T.b_sorted (pvc (defScope s__law_rule) 0)) pa_nil)))) pa_nil)))), ?_⟩
    have hlen := h2.length
    refine comp_map1L Tup1 (rows.map sortD) [] (by rw [List.length_map]; exact hlen) (Nat.le_trans (m := 60) (by omega) (by decide)) (fun _ _ _ _ s h => h.mv s.tups) rfl rfl ha (fun j x b H' P hx hb' s' hP => ?_) (fun zs H' p s' a2 hp => ?_)
    · obtain ⟨row, hrow, q, rfl, hq⟩ := h2.get hx
      rw [List.getElem?_map, hrow] at hb'
      have hbl := hb row (List.mem_of_getElem? hrow)
      refine ⟨_, rfl, q, row, rfl, .inl (SqL.of (s' _ _ hq)), Nat.le_trans hbl (by decide), fun ns' l hperm hord hl0 => ⟨l, _, rfl, .inl ⟨SqL.of upd_same, fun t ht => ?_⟩⟩⟩
      refine hP _ _ ((Same.new hl0).trans (Same.new ht)) ⟨t, rfl, ?_⟩
      rw [upd_same, sortD_eq hperm hord, ← Option.some.inj hb']
    · refine ⟨p, _, rfl, .inl ⟨SqL.of upd_same, fun t ht => ?_⟩⟩
      have sn := (Same.new (o := .lst zs) hp).trans (Same.new (o := .tup zs) ht)
      exact k t zs _ upd_same (a2.mv sn.tups) (s'.trans sn)
def n__law_matched : List Str := ["_law_state", "_law_top", "_law_many", "_law_ones", "_law_others", "_law_lefts", "_law_rights", "_law_lane_here", "_law_left", "_law_right", "_law_split", "_law_levels", "_law_mine", "_law_theirs"]
theorem sc__law_matched : FnScope n__law_matched ["_law_state", "_law_top"] (defScope s__law_matched) := ⟨rfl, rfl, rfl, by decide +kernel, rfl, by decide +kernel, by decide +kernel⟩
def sp_matched : Sp := fun vs H Q _ => ∃ (st ga ca : Addr) (N : Nat) (topp : Int), vs = [.ref st, .int topp] ∧ StAt H st ga ca N ∧ N ≤ 10 ^ 6 ∧ 0 ≤ topp ∧ topp ≤ 6 ∧
  ∀ (p q1 q2 : Addr) (rs qs : List V) (one other : List (List Int)) (n : Nat) (H' : Hp), H' p = some (.tup [.ref q1, .ref q2]) → H' q1 = some (.tup rs) → All2 Tup1 H' one rs → H' q2 = some (.tup qs) → All2 Tup1 H' other qs → Matched one other n → (n : Int) ≤ topp → StAt H' st ga ca (N + 1000) → Keep [st, ga] H H' → Q (.ref p) H'
structure MatI (H H' : Hp) (st ga ca : Addr) (M n i : Nat) (oa ta la ra : Addr) (xs ys : List V) (ds : List LD) : Prop where
  go : H' oa = some (.lst xs)
  gt : H' ta = some (.lst ys)
  ax : All2 (LstN [st, ga, la, ra]) H' ((List.range n).map (lefH ds)) xs
  ay : All2 (LstN [st, ga, la, ra]) H' ((List.range n).map (rigH ds)) ys
  gl : H' la = some (.lst ((ds.flatMap LD.lparts).map V.int))
  gr : H' ra = some (.lst ((ds.flatMap LD.rparts).map V.int))
  ld : LDi ds n i
  no : oa ∉ [st, ga, la, ra]
  nt : ta ∉ [st, ga, la, ra]
  sa : StAt H' st ga ca M
  kp : Keep [st, ga] H H'
theorem nin42 {st ga la ra q : Addr} (h : q ∉ [st, ga, la, ra]) : q ∉ [st, ga] := fun z => h (by
  simp only [List.mem_cons, List.not_mem_nil, or_false] at z ⊢
  rcases z with z | z
  · exact .inl z
  · exact .inr (.inl z))
theorem wide4 {st ga la ra : Addr} {H H' : Hp} (k : Keep [st, ga] H H') : Keep [st, ga, la, ra] H H' := k.wide fun a ha => by
  simp only [List.mem_cons, List.not_mem_nil, or_false] at ha ⊢
  rcases ha with z | z
  · exact .inl z
  · exact .inr (.inl z)
theorem MatI.drawn {H H' H2 : Hp} {st ga ca : Addr} {M M2 n i : Nat} {oa ta la ra : Addr} {xs ys : List V} {ds : List LD} (m : MatI H H' st ga ca M n i oa ta la ra xs ys ds) (hl : la ∉ [st, ga, ca]) (hr : ra ∉ [st, ga, ca]) (S : StAt H2 st ga ca M2) (K : Keep [st, ga] H' H2) : MatI H H2 st ga ca M2 n i oa ta la ra xs ys ds :=
  ⟨K.at m.go (nin42 m.no), K.at m.gt (nin42 m.nt), m.ax.mvN (wide4 K), m.ay.mvN (wide4 K), K.at m.gl (nin2 hl), K.at m.gr (nin2 hr), m.ld, m.no, m.nt, S, m.kp.trans K⟩
theorem MatI.same {H H' H2 : Hp} {st ga ca : Addr} {M n i : Nat} {oa ta la ra : Addr} {xs ys : List V} {ds : List LD} (m : MatI H H' st ga ca M n i oa ta la ra xs ys ds) (s : Same H' H2) : MatI H H2 st ga ca M n i oa ta la ra xs ys ds :=
  ⟨s _ _ m.go, s _ _ m.gt, m.ax.mvN s.keep, m.ay.mvN s.keep, s _ _ m.gl, s _ _ m.gr, m.ld, m.no, m.nt, m.sa.same s, m.kp.trans s.keep⟩
theorem MatI.mono {H H' : Hp} {st ga ca : Addr} {M M' n i i' : Nat} {oa ta la ra : Addr} {xs ys : List V} {ds : List LD} (m : MatI H H' st ga ca M n i oa ta la ra xs ys ds) (h : M ≤ M') (hi : i ≤ i') : MatI H H' st ga ca M' n i' oa ta la ra xs ys ds :=
  ⟨m.go, m.gt, m.ax, m.ay, m.gl, m.gr, m.ld.mono hi, m.no, m.nt, m.sa.mono h, m.kp⟩
theorem ok__law_matched (T : Txt K mg A) : FnOk P w K mg base CX0 5 A.a__law_matched A.fd__law_matched ["_law_state", "_law_top"] sp_matched := by
  refine T.F__law_matched.ok sc__law_matched (fun vs H Q E h => ?_) (fun cdv Ar outer s H vs Q E hr h => ?_)
  · obtain ⟨st, ga, ca, N, topp, rfl, S, hN, t0, t1, k⟩ := h
    rfl
  · obtain ⟨st, ga, ca, N, topp, rfl, S, hN, t0, t1, k⟩ := h
    refine ⟨_, (pss_cons (ps_set (i := 2) sc__law_matched.nd rfl (by first | exact Or.inl rfl | exact Or.inr rfl) (pe_call (ok__law_draw T) (hr.mono (by decide)) rfl T.g__law_draw T.F__law_draw.kp T.b__law_draw .nil pass0 (pa_cons (pv 0 (hv := Or.inr (Or.inl rfl))) (pa_cons (pe_op op_add (pv 1) pe_int) pa_nil))))
        (pss_cons (ps_comp (i := 3) (ls := ["_law_k"]) (fr := []) (cs_of (defScope s__law_matched) n__law_matched rfl rfl (by decide +kernel)) rfl (pi_range1 rfl T.b_range (pa_cons (pv 2) pa_nil)) (fun _ _ _ _ => pgc 0 (by decide +kernel) rfl rfl) (fun _ _ _ _ => pf_nil) (fun _ _ _ _ => (pe_lst pa_nil)) sc__law_matched.nd rfl rfl rfl)
        (pss_cons (ps_comp (i := 4) (ls := ["_law_k"]) (fr := []) (cs_of (defScope s__law_matched) n__law_matched rfl rfl (by decide +kernel)) rfl (pi_range1 rfl T.b_range (pa_cons (pv 2) pa_nil)) (fun _ _ _ _ => pgc 0 (by decide +kernel) rfl rfl) (fun _ _ _ _ => pf_nil) (fun _ _ _ _ => (pe_lst pa_nil)) sc__law_matched.nd rfl rfl rfl)
        (pss_cons (ps_set (i := 5) sc__law_matched.nd rfl (by first | exact Or.inl rfl | exact Or.inr rfl) (pe_lst pa_nil))
        (pss_cons (ps_set (i := 6) sc__law_matched.nd rfl (by first | exact Or.inl rfl | exact Or.inr rfl) (pe_lst pa_nil))
        (pss_cons (ps_for PassesOwn.never rfl (pi_range1 rfl T.b_range (pa_cons (pe_op op_add pe_int (pe_call (ok__law_draw T) (hr.mono (by decide)) rfl T.g__law_draw T.F__law_draw.kp T.b__law_draw .nil pass0 (pa_cons (pv 0 (hv := Or.inr (Or.inl rfl))) (pa_cons pe_int pa_nil)))) pa_nil)) (pg_name (i := 7) sc__law_matched.nd rfl (by first | exact Or.inl rfl | exact Or.inr rfl))
          (pss_cons (ps_set (i := 8) sc__law_matched.nd rfl (by first | exact Or.inl rfl | exact Or.inr rfl) (pe_op op_add pe_int (pe_call (ok__law_draw T) (hr.mono (by decide)) rfl T.g__law_draw T.F__law_draw.kp T.b__law_draw .nil pass0 (pa_cons (pv 0 (hv := Or.inr (Or.inl rfl))) (pa_cons pe_int pa_nil)))))
        (pss_cons (ps_set (i := 9) sc__law_matched.nd rfl (by first | exact Or.inl rfl | exact Or.inr rfl) (pe_op op_add pe_int (pe_call (ok__law_draw T) (hr.mono (by decide)) rfl T.g__law_draw T.F__law_draw.kp T.b__law_draw .nil pass0 (pa_cons (pv 0 (hv := Or.inr (Or.inl rfl))) (pa_cons pe_int pa_nil)))))
        (pss_cons (ps_set (i := 10) sc__law_matched.nd rfl (by first | exact Or.inl rfl | exact Or.inr rfl) (pe_and (pe_cmpR op_eq (pe_call (ok__law_draw T) (hr.mono (by decide)) rfl T.g__law_draw T.F__law_draw.kp T.b__law_draw .nil pass0 (pa_cons (pv 0 (hv := Or.inr (Or.inl rfl))) (pa_cons pe_int pa_nil))) pe_int (nomark _)) (pe_and (pe_cmpR op_eq (pe_op op_mod (pv 8) (pv 9)) pe_int (nomark _)) (pe_and (pe_cmpR op_gt (pv 8) (pv 9) (nomark _)) (pe_one (pe_cmpR op_notIn_seq (pv 8) (pv 6) rfl))))))
        (pss_cons (ps_comp (i := 11) (ls := ["_law_k"]) (fr := [("_law_state", 0)]) (cs_of (defScope s__law_matched) n__law_matched rfl rfl (by decide +kernel)) rfl (pi_range1 rfl T.b_range (pa_cons (pv 2) pa_nil)) (fun _ _ _ _ => pgc 0 (by decide +kernel) rfl rfl) (fun _ _ _ _ => pf_nil) (fun _ _ _ _ => (pe_call (ok__law_draw T) (hr.mono (by decide)) (glc (defScope s__law_matched)) T.g__law_draw T.F__law_draw.kp T.b__law_draw .nil pass0 (pa_cons (pvc (defScope s__law_matched) 1) (pa_cons pe_int pa_nil)))) sc__law_matched.nd rfl rfl rfl)
        (pss_one (ps_if (PW.pt (pw_and (pt_cmpR op_notIn_seq (pv 8) (pv 5) rfl) (pw_and1 (pt_cmpR op_notIn_seq (pv 9) (pv 6) rfl))))
          (pss_cons (ps_expr (pe_bm PySem.F.plainAttrs_list PySem.F.slot_list_append PySem.F.type_list_append mt_append (pv 5) (pa_cons (pv 8) pa_nil)))
        (pss_cons (ps_expr (pe_bm PySem.F.plainAttrs_list PySem.F.slot_list_append PySem.F.type_list_append mt_append (pv 6) (pa_cons (pv 9) pa_nil)))
        (pss_cons (ps_if (pt_truth (pv 10) (fun _ => rfl))
          (pss_one (ps_expr (pe_bm PySem.F.plainAttrs_list PySem.F.slot_list_append PySem.F.type_list_append mt_append (pv 6) (pa_cons (pv 8) pa_nil)))) pss_nil)
        (pss_cons (ps_asg (pe_call (ok__law_lane T) (hr.mono (by decide)) rfl T.g__law_lane T.F__law_lane.kp T.b__law_lane .nil pass0 (pa_cons (pv 8) (pa_cons (pv 9) (pa_cons (pv 10) (pa_cons (pv 11) pa_nil))))) (pg_tup rfl (pgs_cons (pg_name (i := 12) sc__law_matched.nd rfl (by first | exact Or.inl rfl | exact Or.inr rfl)) (pgs_cons (pg_name (i := 13) sc__law_matched.nd rfl (by first | exact Or.inl rfl | exact Or.inr rfl)) pgs_nil))))
        (pss_cons (ps_comp (i := 3) (ls := ["_law_heap", "_law_more"]) (fr := []) (cs_of (defScope s__law_matched) n__law_matched rfl rfl (by decide +kernel)) rfl (pi_zip false false rfl T.b_zip (pa_cons (pv 3) (pa_cons (pv 12) pa_nil))) (fun _ _ _ _ => pg_tupC 2 rfl (pgs_cons (pgc (ls := ["_law_heap", "_law_more"]) (fr := []) 0 (by decide +kernel) rfl rfl) (pgs_cons (pgc (ls := ["_law_heap", "_law_more"]) (fr := []) 1 (by decide +kernel) rfl rfl) pgs_nil)) rfl rfl) (fun _ _ _ _ => pf_nil) (fun _ _ _ _ => (pe_op op_cat (pvc (defScope s__law_matched) 0) (pvc (defScope s__law_matched) 1))) sc__law_matched.nd rfl rfl rfl)
        (pss_one (ps_comp (i := 4) (ls := ["_law_heap", "_law_more"]) (fr := []) (cs_of (defScope s__law_matched) n__law_matched rfl rfl (by decide +kernel)) rfl (pi_zip false false rfl T.b_zip (pa_cons (pv 4) (pa_cons (pv 13) pa_nil))) (fun _ _ _ _ => pg_tupC 2 rfl (pgs_cons (pgc (ls := ["_law_heap", "_law_more"]) (fr := []) 0 (by decide +kernel) rfl rfl) (pgs_cons (pgc (ls := ["_law_heap", "_law_more"]) (fr := []) 1 (by decide +kernel) rfl rfl) pgs_nil)) rfl rfl) (fun _ _ _ _ => pf_nil) (fun _ _ _ _ => (pe_op op_cat (pvc (defScope s__law_matched) 0) (pvc (defScope s__law_matched) 1))) sc__law_matched.nd rfl rfl rfl))))))) pss_nil)))))))
        (pss_cons (ps_if (pt_cmpR op_eq (pe_call (ok__law_draw T) (hr.mono (by decide)) rfl T.g__law_draw T.F__law_draw.kp T.b__law_draw .nil pass0 (pa_cons (pv 0 (hv := Or.inr (Or.inl rfl))) (pa_cons pe_int pa_nil))) pe_int (nomark _))
          (pss_one (ps_par (i := 3) (j := 4) rfl sc__law_matched.nd rfl rfl (by decide) rfl rfl (pa_cons (pv 4) (pa_cons (pv 3) pa_nil)) rfl)) pss_nil)
        (pss_one (ps_ret (pe_tup (pa_cons (pe_call (ok__law_rule T) (hr.mono (by decide)) rfl T.g__law_rule T.F__law_rule.kp T.b__law_rule .nil pass0 (pa_cons (pv 3) pa_nil)) (pa_cons (pe_call (ok__law_rule T) (hr.mono (by decide)) rfl T.g__law_rule T.F__law_rule.kp T.b__law_rule .nil pass0 (pa_cons (pv 4) pa_nil)) pa_nil)))))))))))), ?_⟩
    refine ⟨_, rfl, _, rfl, _, _, rfl, rfl, st, ga, ca, N, topp + 1, rfl, S, by omega, by omega, Int.le_trans (show topp + 1 ≤ 7 by omega) (by decide), fun many H1 m0 m1 S1 K1 => ?_⟩
    obtain ⟨n, rfl⟩ : ∃ n : Nat, many = (n : Int) := ⟨many.toNat, by omega⟩
    have n6 : n ≤ 6 := by omega
    have mk : ∀ (Ha : Hp) (ys : List V) (i : Nat) (q : Addr), Same H1 Ha → All2 (LstF H1) Ha (List.replicate i []) ys → Ha q = none → All2 (LstF H1) (upd Ha q (.lst [])) (List.replicate (i + 1) []) (ys ++ [.ref q]) := fun Ha ys i q s a hq => by
      rw [List.replicate_succ']
      exact (a.mvF (Same.new hq)).snoc ⟨q, rfl, s.free hq, upd_same⟩
    refine ⟨_, rfl, _, rfl, by omega, by omega, comp_range (fun i ys σ' H' => Same H1 H' ∧ (∃ v, σ' = [v]) ∧ All2 (LstF H1) H' (List.replicate i []) ys ∧ i ≤ n) ⟨Same.refl _, ⟨_, rfl⟩, .nil, Nat.zero_le _⟩ ?_ ?_ ?_⟩
    · rintro i ys σ' H' hi ⟨_, _, a2, _⟩
      rw [← a2.length, List.length_replicate]
      exact small64 (by omega)
    · rintro i ys σ' H' hi ⟨s, ⟨v, rfl⟩, a2, _⟩
      exact ⟨by show 0 ≤ sizeLine; decide, fun q hq => ⟨s.trans (Same.new hq), ⟨_, rfl⟩, mk _ _ _ _ s a2 hq, by omega⟩⟩
    rintro xs σ' H2 ⟨s2, _, ax, _⟩ oa hoa
    rw [Int.toNat_natCast] at ax
    have s3 := s2.trans (Same.new (o := .lst xs) hoa)
    have goa := upd_same (H := H2) (a := oa) (o := .lst xs)
    have ax3 := ax.mvF (Same.new (o := .lst xs) hoa)
    generalize upd H2 oa (.lst xs) = H3 at s3 goa ax3
    refine ⟨_, rfl, _, rfl, by omega, by omega, comp_range (fun i ys σ' H' => Same H3 H' ∧ (∃ v, σ' = [v]) ∧ All2 (LstF H1) H' (List.replicate i []) ys ∧ i ≤ n) ⟨Same.refl _, ⟨_, rfl⟩, .nil, Nat.zero_le _⟩ ?_ ?_ ?_⟩
    · rintro i ys σ' H' hi ⟨_, _, a2, _⟩
      rw [← a2.length, List.length_replicate]
      exact small64 (by omega)
    · rintro i ys σ' H' hi ⟨s, ⟨v, rfl⟩, a2, _⟩
      exact ⟨by show 0 ≤ sizeLine; decide, fun q hq => ⟨s.trans (Same.new hq), ⟨_, rfl⟩, mk _ _ _ _ (s3.trans s) a2 hq, by omega⟩⟩
    rintro ys σ' H4 ⟨s4, _, ay, _⟩ ta hta
    rw [Int.toNat_natCast] at ay
    have s5 := s4.trans (Same.new (o := .lst ys) hta)
    have gta := upd_same (H := H4) (a := ta) (o := .lst ys)
    have ay5 := ay.mvF (Same.new (o := .lst ys) hta)
    generalize upd H4 ta (.lst ys) = H5 at s5 gta ay5
    have goa5 := s5 _ _ goa
    have ax5 := ax3.mvF s5
    refine ⟨by show 0 ≤ sizeLine; decide, fun la hla => ⟨by show 0 ≤ sizeLine; decide, fun ra hra => ?_⟩⟩
    have s6 := (Same.new (o := .lst []) hla).trans (Same.new (o := .lst []) hra)
    have gla := Same.new (o := .lst []) hra _ _ (upd_same (H := H5) (a := la) (o := .lst []))
    have gra := upd_same (H := upd H5 la (.lst [])) (a := ra) (o := .lst [])
    have nra : H5 ra = none := (Same.new (o := .lst []) hla).free hra
    have nlr : la ≠ ra := ne_of_none (upd_same (H := H5) (a := la) (o := .lst [])) hra
    generalize upd (upd H5 la (.lst [])) ra (.lst []) = H6 at s6 gla gra
    have s15 := s3.trans s5
    have S6 := S1.same (s15.trans s6)
    have nin4 : ∀ (q : Addr) (o : HO), H5 q = some o → H1 q = none → q ∉ [st, ga, la, ra] := fun q o e hn z => by
      have h2 := S1.nin hn
      simp only [List.mem_cons, List.not_mem_nil, or_false] at z h2
      rcases z with rfl | rfl | rfl | rfl
      · exact h2 (.inl rfl)
      · exact h2 (.inr rfl)
      · rw [hla] at e; cases e
      · rw [nra] at e; cases e
    have ax6 := (ax5.toN nin4).mvN (Same.keep s6)
    have ay6 := (ay5.toN nin4).mvN (Same.keep s6)
    have noa := nin4 oa _ goa5 (s2.free hoa)
    have nta := nin4 ta _ gta ((s3.trans s4).free hta)
    have ela0 : H la = none := K1.free (s15.free hla) (S1.nin (s15.free hla))
    have era : H ra = none := K1.free (s15.free nra) (S1.nin (s15.free nra))
    have nla : la ∉ [st, ga, ca] := S1.nin3 (s15.free hla)
    have nra3 : ra ∉ [st, ga, ca] := S1.nin3 (s15.free nra)
    rw [← (nil_rows n).1] at ax6
    rw [← (nil_rows n).2] at ay6
    have M0 : MatI H H6 st ga ca (N + 7) n 0 oa ta la ra xs ys [] := ⟨s6 _ _ goa5, s6 _ _ gta, ax6, ay6, gla, gra, LDi.nil n, noa, nta, S6.mono (by omega), K1.trans (s15.trans s6).keep⟩
    clear ax ax3 ax5 ay ay5 ax6 ay6
    refine ⟨_, rfl, st, ga, ca, _, 4, rfl, M0.sa, by omega, by decide, by decide, fun lanes H7 l0 l1 S7 K7 => ⟨_, _, rfl, rfl, _, rfl, by omega, by omega, ?_⟩⟩
    have M7 := M0.drawn nla nra3 S7 K7
    refine for_range (fun i σ' H' => ∃ (oa ta : Addr) (xs ys : List V) (ds : List LD) (v7 v8 v9 v10 v11 v12 v13 : Option V), σ' = [some (.ref st), some (.int topp), some (.int (n : Int)), some (.ref oa), some (.ref ta), some (.ref la), some (.ref ra), v7, v8, v9, v10, v11, v12, v13] ∧ MatI H H' st ga ca (N + 14 + 63 * i) n i oa ta la ra xs ys ds) ⟨oa, ta, xs, ys, [], none, none, none, none, none, none, none, rfl, M7⟩ ?_ ?_
    · clear M0 M7 goa goa5 gta gla gra noa nta
      rintro i σ' H' hi ⟨oa, ta, xs, ys, ds, v7, v8, v9, v10, v11, v12, v13, rfl, M⟩
      have i4 : i + 1 ≤ 4 := by omega
      refine ⟨_, rfl, st, ga, ca, _, 8, rfl, M.sa, by omega, by decide, by decide, fun a1 HA a10 a11 SA KA => ⟨_, _, rfl, rfl, ?_⟩⟩
      have MA := M.drawn nla nra3 SA KA
      obtain ⟨L, eL⟩ : ∃ L : Nat, 1 + a1 = (L : Int) := ⟨(1 + a1).toNat, by omega⟩
      dsimp only
      rw [eL]
      refine ⟨_, rfl, st, ga, ca, _, 8, rfl, MA.sa, by omega, by decide, by decide, fun a2 HB a20 a21 SB KB => ⟨_, _, rfl, rfl, ?_⟩⟩
      have MB := MA.drawn nla nra3 SB KB
      obtain ⟨R, eR⟩ : ∃ R : Nat, 1 + a2 = (R : Int) := ⟨(1 + a2).toNat, by omega⟩
      dsimp only
      rw [eR]
      have hb : 1 ≤ L ∧ L ≤ 8 ∧ 1 ≤ R ∧ R ≤ 8 := by omega
      refine seqJoin (fun σ' H' => ∃ b : Bool, σ' = [some (.ref st), some (.int topp), some (.int (n : Int)), some (.ref oa), some (.ref ta), some (.ref la), some (.ref ra), some (.int (0 + (i : Int))), some (.int (L : Int)), some (.int (R : Int)), some (.bl b), v11, v12, v13] ∧ (b = true → (L % R = 0 ∧ R < L) ∧ (L : Int) ∉ ds.flatMap LD.rparts) ∧ MatI H H' st ga ca (N + 14 + 63 * i + 21) n i oa ta la ra xs ys ds) (fun nx hnx => ?_) ?_
      · refine ⟨_, rfl, st, ga, ca, _, 3, rfl, MB.sa, by omega, by decide, by decide, fun a3 HC a30 a31 SC KC => ⟨rfl, ?_⟩⟩
        have MC := (MB.drawn nla nra3 SC KC).mono (M' := N + 14 + 63 * i + 21) (by omega) (Nat.le_refl _)
        refine ⟨_, rfl, ite2 (fun h1 => ?_) (fun h1 => hnx _ _ ⟨_, rfl, (fun z => by cases z), MC⟩)⟩
        refine ⟨_, rfl, _, rfl, _, _, rfl, rfl, by omega, rfl, _, rfl, ite2 (fun h2 => ?_) (fun h2 => hnx _ _ ⟨_, rfl, (fun z => by cases z), MC⟩)⟩
        refine ⟨_, rfl, _, rfl, _, _, rfl, rfl, _, rfl, ite2 (fun h3 => ?_) (fun h3 => hnx _ _ ⟨_, rfl, (fun z => by cases z), MC⟩)⟩
        refine ⟨_, rfl, _, rfl, ra, _, rfl, .inl (SqL.of MC.gr), rfl, flat_ints _, ?_⟩
        rw [if_pos rfl, inV_ints]
        have d2 : (L : Int) % (R : Int) = 0 := by have := of_decide_eq_true h2; injection this
        have d3 : (R : Int) < (L : Int) := of_decide_eq_true h3
        exact hnx _ _ ⟨_, rfl, fun z => ⟨⟨by exact_mod_cast d2, by omega⟩, by simpa using z⟩, MC⟩
      · rintro σ1 HC ⟨sp, rfl, hsp, MC⟩
        refine ⟨_, rfl, _, rfl, by omega, by omega, comp_range (fun j zs σ' H' => (∃ v, σ' = [v, some (.ref st)]) ∧ ∃ lev : List Nat, zs = lev.map natV ∧ lev.length = j ∧ (∀ v ∈ lev, v ≤ 2) ∧ MatI H H' st ga ca (N + 14 + 63 * i + 21 + 7 * j) n i oa ta la ra xs ys ds) ⟨⟨_, rfl⟩, [], rfl, rfl, (fun _ h => by cases h), MC⟩ ?_ ?_ ?_⟩
        · rintro j zs σ' H' hj ⟨_, lev, rfl, hl, _⟩
          rw [List.length_map, hl]
          exact small64 (by omega)
        · rintro j zs σ' H' hj ⟨⟨v, rfl⟩, lev, rfl, hl, hv, M'⟩
          refine ⟨_, rfl, st, ga, ca, _, 3, rfl, M'.sa, by omega, by decide, by decide, fun a4 HD a40 a41 SD KD => ⟨⟨_, rfl⟩, lev ++ [a4.toNat], ?_, by simp [hl], fun v hv' => ?_, (M'.drawn nla nra3 SD KD).mono (by omega) (Nat.le_refl _)⟩⟩
          · rw [List.map_append]
            show _ = _ ++ [V.int (a4.toNat : Int)]
            rw [Int.toNat_of_nonneg a40]
          · rcases List.mem_append.mp hv' with h | h
            · exact hv v h
            · rw [List.mem_singleton.mp h]
              omega
        rintro zs σ' HD0 ⟨_, lev, rfl, hl, hv, MD0⟩ lv hlv
        rw [Int.toNat_natCast] at hl
        have MD := (MD0.same (Same.new (o := .lst (lev.map natV)) hlv)).mono (M' := N + 14 + 63 * (i + 1)) (by rw [Int.toNat_natCast]; omega) (Nat.le_refl _)
        have glv := upd_same (H := HD0) (a := lv) (o := .lst (lev.map natV))
        have nlv : lv ≠ la ∧ lv ≠ ra := ⟨(fun z => by rw [z, MD0.gl] at hlv; cases hlv), (fun z => by rw [z, MD0.gr] at hlv; cases hlv)⟩
        generalize upd HD0 lv (.lst (lev.map natV)) = HD at MD glv
        have skip : ∀ (w7 w8 w9 w10 w11 w12 w13 : Option V), ∃ (oa' ta' : Addr) (xs' ys' : List V) (ds' : List LD) (v7 v8 v9 v10 v11 v12 v13 : Option V), [some (V.ref st), some (.int topp), some (.int (n : Int)), some (.ref oa), some (.ref ta), some (.ref la), some (.ref ra), w7, w8, w9, w10, w11, w12, w13] = [some (V.ref st), some (.int topp), some (.int (n : Int)), some (.ref oa'), some (.ref ta'), some (.ref la), some (.ref ra), v7, v8, v9, v10, v11, v12, v13] ∧ MatI H HD st ga ca (N + 14 + 63 * (i + 1)) n (i + 1) oa' ta' la ra xs' ys' ds' :=
          fun w7 w8 w9 w10 w11 w12 w13 => ⟨oa, ta, xs, ys, ds, w7, w8, w9, w10, w11, w12, w13, rfl, MD.mono (Nat.le_refl _) (by omega)⟩
        refine ⟨_, rfl, _, rfl, la, _, rfl, .inl (SqL.of MD.gl), rfl, flat_ints _, _, rfl, ?_⟩
        rw [if_pos rfl, inV_ints]
        by_cases h1 : (L : Int) ∈ ds.flatMap LD.lparts
        · rw [decide_eq_true h1]
          exact iteF (iteF (skip _ _ _ _ _ _ _))
        rw [decide_eq_false h1]
        refine iteT ⟨_, rfl, _, rfl, ra, _, rfl, .inl (SqL.of MD.gr), rfl, flat_ints _, _, rfl, ?_⟩
        rw [if_pos rfl, inV_ints]
        by_cases h2 : (R : Int) ∈ ds.flatMap LD.rparts
        · rw [decide_eq_true h2]
          exact iteF (skip _ _ _ _ _ _ _)
        rw [decide_eq_false h2]
        refine iteT ?_
        have ll : (ds.flatMap LD.lparts).length ≤ 4 := by
          have := flat_len_le LD.lparts 1 ds (fun d _ => by simp [LD.lparts])
          have := MD.ld.few
          omega
        have rl : (ds.flatMap LD.rparts).length ≤ 8 := by
          have := flat_len_le LD.rparts 2 ds (fun d _ => by unfold LD.rparts; split <;> simp)
          have := MD.ld.few
          omega
        refine ⟨_, rfl, .inl ⟨rfl, _, SqL.of MD.gl⟩, _, rfl, la, _, _, rfl, rfl, MD.gl, by rw [List.length_map]; exact Nat.lt_of_le_of_lt ll (by decide), ?_⟩
        have KE : Keep [la, ra] HD (upd HD la (.lst ((ds.flatMap LD.lparts).map V.int ++ [V.int (L : Int)]))) := Keep.set (by simp)
        have gr1 : upd HD la (.lst ((ds.flatMap LD.lparts).map V.int ++ [V.int (L : Int)])) ra = some (.lst ((ds.flatMap LD.rparts).map V.int)) := by rw [upd_ne nlr.symm]; exact MD.gr
        have gl1 := upd_same (H := HD) (a := la) (o := .lst ((ds.flatMap LD.lparts).map V.int ++ [V.int (L : Int)]))
        generalize upd HD la (.lst ((ds.flatMap LD.lparts).map V.int ++ [V.int (L : Int)])) = HE at KE gr1 gl1
        refine ⟨_, rfl, .inl ⟨rfl, _, SqL.of gr1⟩, _, rfl, ra, _, _, rfl, rfl, gr1, by rw [List.length_map]; exact Nat.lt_of_le_of_lt rl (by decide), ?_⟩
        have KF : Keep [la, ra] HD (upd HE ra (.lst ((ds.flatMap LD.rparts).map V.int ++ [V.int (R : Int)]))) := KE.trans (Keep.set (by simp))
        have gl2 : upd HE ra (.lst ((ds.flatMap LD.rparts).map V.int ++ [V.int (R : Int)])) la = some (.lst ((ds.flatMap LD.lparts).map V.int ++ [V.int (L : Int)])) := by rw [upd_ne nlr]; exact gl1
        have gr2 := upd_same (H := HE) (a := ra) (o := .lst ((ds.flatMap LD.rparts).map V.int ++ [V.int (R : Int)]))
        generalize upd HE ra (.lst ((ds.flatMap LD.rparts).map V.int ++ [V.int (R : Int)])) = HF at KF gl2 gr2
        dsimp only [tNext, gName]
        refine seqJoin (fun σ' H' => σ' = [some (.ref st), some (.int topp), some (.int (n : Int)), some (.ref oa), some (.ref ta), some (.ref la), some (.ref ra), some (.int (0 + (i : Int))), some (.int (L : Int)), some (.int (R : Int)), some (.bl sp), some (.ref lv), v12, v13] ∧ Keep [la, ra] HD H' ∧ H' la = some (.lst ((ds.flatMap LD.lparts).map V.int ++ [V.int (L : Int)])) ∧ H' ra = some (.lst ((ds.flatMap LD.rparts).map V.int ++ (if sp then [V.int (R : Int), V.int (L : Int)] else [V.int (R : Int)])))) (fun nx hnx => ?_) ?_
        · refine ⟨_, rfl, sp, rfl, ?_⟩
          cases sp with
          | false => exact iteF (hnx _ _ ⟨rfl, KF, gl2, gr2⟩)
          | true =>
            refine iteT ⟨_, rfl, .inl ⟨rfl, _, SqL.of gr2⟩, _, rfl, ra, _, _, rfl, rfl, gr2, ?_, hnx _ _ ⟨rfl, KF.trans (Keep.set (by simp)), by rw [upd_ne nlr]; exact gl2, ?_⟩⟩
            · rw [List.length_append, List.length_map]
              exact Nat.lt_of_le_of_lt (show (ds.flatMap LD.rparts).length + 1 ≤ 9 by omega) (by decide)
            · rw [upd_same, List.append_assoc]
              rfl
        rintro σ2 HG ⟨rfl, KG, gl3, gr3⟩
        have glvG : HG lv = some (.lst (lev.map natV)) := KG.at glv (by simp [nlv.1, nlv.2])
        refine ⟨_, rfl, _, rfl, _, rfl, _, rfl, L, R, sp, lv, lev, rfl, glvG, hb, fun z => ⟨Nat.mul_div_cancel' (Nat.dvd_of_mod_eq_zero (hsp z).1.1), (hsp z).1.2⟩, by omega, hv, fun p o1 o2 xs' ys' m k' HI hp h1' h2' okD A1 A2 sI => ?_⟩
        refine ⟨p, _, rfl, SqT.of hp, rfl, _, _, rfl, _, _, rfl, rfl, ?_⟩
        generalize hd : (⟨L, R, m, k', sp, lev⟩ : LD) = d at okD A1 A2
        have hdl : d.lev = lev := by rw [← hd]
        have w4 : ∀ a ∈ [la, ra], a ∈ [st, ga, la, ra] := fun a ha => List.mem_cons_of_mem _ (List.mem_cons_of_mem _ ha)
        have KI : Keep [la, ra] HD HI := KG.trans sI.keep
        have AXa := MD.ax.mvN (KI.wide w4)
        have AYa := MD.ay.mvN (KI.wide w4)
        have n2 : ∀ q, q ∉ [st, ga, la, ra] → q ∉ [la, ra] := fun q hq z => hq (w4 q z)
        have Ga := KI.at MD.go (n2 _ MD.no)
        have Gb := KI.at MD.gt (n2 _ MD.nt)
        have SI : StAt HI st ga ca (N + 14 + 63 * (i + 1)) := by
          obtain ⟨⟨gs, cs, q0, nn, c1, c2, c3, c4⟩, c5, c6, c7⟩ := MD.sa
          have na : ∀ x ∈ [st, ga, ca], x ∉ [la, ra] := fun x hx z => by
            simp only [List.mem_cons, List.not_mem_nil, or_false] at z
            rcases z with rfl | rfl
            · exact nla hx
            · exact nra3 hx
          exact ⟨⟨gs, cs, q0, nn, KI.at c1 (na _ (by simp)), KI.at c2 (na _ (by simp)), KI.at c3 (na _ (by simp)), c4⟩, c5, c6, c7⟩
        have gl4 := sI _ _ gl3
        have gr4 := sI _ _ gr3
        have nin4' : ∀ {q : Addr}, HI q = none → q ∉ [st, ga, la, ra] := fun {q} hq z => by
          have h2 := SI.nin hq
          simp only [List.mem_cons, List.not_mem_nil, or_false] at z h2
          rcases z with rfl | rfl | rfl | rfl
          · exact h2 (.inl rfl)
          · exact h2 (.inr rfl)
          · rw [gl4] at hq; cases hq
          · rw [gr4] at hq; cases hq
        have hv2L : ∀ {j v : Nat}, lev[j]? = some v → d.at j = v := fun {j v} h => LD.at_some (by rw [hdl]; exact h)
        have Ba : ∀ j v, lev[j]? = some v → (lefH ds j ++ d.lrow v).length ≤ sizeLine := fun j v hv' => by
          rw [List.length_append]
          have e1 := lrows_len (MD.ld.lds (by omega)) j
          have e2 := LD.lrow_len okD (hv v (List.mem_of_getElem? hv'))
          exact Nat.le_trans (m := 100) (by omega) (by decide)
        refine ⟨_, rfl, _, rfl, oa, o1, rfl, ⟨_, SqL.of Ga⟩, ⟨_, SqL.of h1'⟩, comp_zip (xs := xs) (ys := xs') (fun j zs σ' H' => Same HI H' ∧ (∃ v w, σ' = [v, w]) ∧ All2 (LstN [st, ga, la, ra]) H' (((List.range n).take j).map fun j => lefH (ds ++ [d]) j) zs ∧ j ≤ n) ⟨Same.refl _, ⟨_, _, rfl⟩, .nil, Nat.zero_le _⟩ ?_ ?_ ?_⟩
        · rintro j zs σ' H' hj ⟨s', _, a', hj'⟩
          refine ⟨SqL.of (s' _ _ Ga), SqL.of (s' _ _ h1'), ?_⟩
          rw [← a'.length, List.length_map, List.length_take]
          exact small64 (by omega)
        · rintro j x y zs σ' H' T' hx hy ⟨s', ⟨v, w', rfl⟩, a', hj'⟩ hT
          obtain ⟨row, hrow, q, rfl, nq, gq⟩ := AXa.get hx
          obtain ⟨row2, hrow2, q', rfl, gq'⟩ := A1.get hy
          have hj : j < n := by
            have := (List.getElem?_eq_some_iff.mp hrow).1
            rw [List.length_map, List.length_range] at this
            exact this
          rw [List.getElem?_map, List.getElem?_range hj] at hrow
          have er : lefH ds j = row := Option.some.inj hrow
          rw [List.getElem?_map] at hrow2
          obtain ⟨v2, hv2, er2⟩ : ∃ v2, lev[j]? = some v2 ∧ d.lrow v2 = row2 := by
            cases e : lev[j]? with
            | none => rw [e] at hrow2; cases hrow2
            | some v2 => rw [e] at hrow2; exact ⟨v2, rfl, Option.some.inj hrow2⟩
          have hbl := Ba j v2 hv2
          rw [er, er2, List.length_append] at hbl
          have sT := s'.trans (Same.new (o := .tup [V.ref q, V.ref q']) hT)
          refine ⟨T', _, rfl, SqT.of upd_same, rfl, _, _, rfl, _, _, rfl, rfl, ?_⟩
          refine ⟨_, rfl, _, rfl, q, q', _, _, rfl, rfl, sT _ _ gq, sT _ _ gq', by rw [List.length_map, List.length_map]; exact hbl, fun z hz => ⟨sT.trans (Same.new hz), ⟨_, _, rfl⟩, ?_, hj⟩⟩
          rw [List.take_succ, List.getElem?_range hj, List.map_append]
          refine (a'.mvN ((Same.new (o := .tup [V.ref q, V.ref q']) hT).trans (Same.new hz)).keep).snoc ⟨z, rfl, nin4' (sT.free hz), ?_⟩
          rw [upd_same]
          show _ = some (HO.lst ((lefH (ds ++ [d]) j).map V.int))
          rw [lef_snoc, hv2L hv2, er, er2, List.map_append]
        rintro zs1 σ' HJ ⟨sa', _, aa', _⟩ oa2 hoa2
        have ela : min xs.length xs'.length = n ∧ min ys.length ys'.length = n := by
          rw [← MD.ax.length, ← MD.ay.length, ← A1.length, ← A2.length, List.length_map, List.length_map, List.length_map, List.length_map, List.length_range, hl]
          simp
        rw [ela.1, List.take_of_length_le (by rw [List.length_range]; exact Nat.le_refl _)] at aa'
        have sJ := sa'.trans (Same.new (o := .lst zs1) hoa2)
        have goa2 := upd_same (H := HJ) (a := oa2) (o := .lst zs1)
        have az1 := aa'.mvN (Same.new (o := .lst zs1) hoa2).keep
        have noa2 := nin4' (sa'.free hoa2)
        generalize upd HJ oa2 (.lst zs1) = HK at sJ goa2 az1
        have AYK := AYa.mvN sJ.keep
        have A2K := A2.mvI sJ
        have GbK := sJ _ _ Gb
        have g2K := sJ _ _ h2'
        have Bb : ∀ j v, lev[j]? = some v → (rigH ds j ++ d.rrow v).length ≤ sizeLine := fun j v hv' => by
          rw [List.length_append]
          have e1 := lrows_len (MD.ld.lds (by omega)) j
          have e2 := LD.rrow_len okD (hv v (List.mem_of_getElem? hv'))
          exact Nat.le_trans (m := 100) (by omega) (by decide)
        refine ⟨_, rfl, _, rfl, ta, o2, rfl, ⟨_, SqL.of GbK⟩, ⟨_, SqL.of g2K⟩, comp_zip (xs := ys) (ys := ys') (fun j zs σ' H' => Same HK H' ∧ (∃ v w, σ' = [v, w]) ∧ All2 (LstN [st, ga, la, ra]) H' (((List.range n).take j).map fun j => rigH (ds ++ [d]) j) zs ∧ j ≤ n) ⟨Same.refl _, ⟨_, _, rfl⟩, .nil, Nat.zero_le _⟩ ?_ ?_ ?_⟩
        · rintro j zs σ' H' hj ⟨s', _, a', hj'⟩
          refine ⟨SqL.of (s' _ _ GbK), SqL.of (s' _ _ g2K), ?_⟩
          rw [← a'.length, List.length_map, List.length_take]
          exact small64 (by omega)
        · rintro j x y zs σ' H' T' hx hy ⟨s', ⟨v, w', rfl⟩, a', hj'⟩ hT
          obtain ⟨row, hrow, q, rfl, nq, gq⟩ := AYK.get hx
          obtain ⟨row2, hrow2, q', rfl, gq'⟩ := A2K.get hy
          have hj : j < n := by
            have := (List.getElem?_eq_some_iff.mp hrow).1
            rw [List.length_map, List.length_range] at this
            exact this
          rw [List.getElem?_map, List.getElem?_range hj] at hrow
          have er : rigH ds j = row := Option.some.inj hrow
          rw [List.getElem?_map] at hrow2
          obtain ⟨v2, hv2, er2⟩ : ∃ v2, lev[j]? = some v2 ∧ d.rrow v2 = row2 := by
            cases e : lev[j]? with
            | none => rw [e] at hrow2; cases hrow2
            | some v2 => rw [e] at hrow2; exact ⟨v2, rfl, Option.some.inj hrow2⟩
          have hbl := Bb j v2 hv2
          rw [er, er2, List.length_append] at hbl
          have sT := s'.trans (Same.new (o := .tup [V.ref q, V.ref q']) hT)
          refine ⟨T', _, rfl, SqT.of upd_same, rfl, _, _, rfl, _, _, rfl, rfl, ?_⟩
          refine ⟨_, rfl, _, rfl, q, q', _, _, rfl, rfl, sT _ _ gq, sT _ _ gq', by rw [List.length_map, List.length_map]; exact hbl, fun z hz => ⟨sT.trans (Same.new hz), ⟨_, _, rfl⟩, ?_, hj⟩⟩
          rw [List.take_succ, List.getElem?_range hj, List.map_append]
          refine (a'.mvN ((Same.new (o := .tup [V.ref q, V.ref q']) hT).trans (Same.new hz)).keep).snoc ⟨z, rfl, nin4' ((sJ.trans sT).free hz), ?_⟩
          rw [upd_same]
          show _ = some (HO.lst ((rigH (ds ++ [d]) j).map V.int))
          rw [rig_snoc, hv2L hv2, er, er2, List.map_append]
        rintro zs2 σ' HL ⟨sb', _, ab', _⟩ ta2 hta2
        have elb : min xs.length xs'.length = n ∧ min ys.length ys'.length = n := by
          rw [← MD.ax.length, ← MD.ay.length, ← A1.length, ← A2.length, List.length_map, List.length_map, List.length_map, List.length_map, List.length_range, hl]
          simp
        rw [elb.2, List.take_of_length_le (by rw [List.length_range]; exact Nat.le_refl _)] at ab'
        have sL := sb'.trans (Same.new (o := .lst zs2) hta2)
        have gta2 := upd_same (H := HL) (a := ta2) (o := .lst zs2)
        have az2 := ab'.mvN (Same.new (o := .lst zs2) hta2).keep
        have nta2 := nin4' ((sJ.trans sb').free hta2)
        generalize upd HL ta2 (.lst zs2) = HM at sL gta2 az2
        have sIM := sJ.trans sL
        have eLp : d.L = L ∧ d.R = R ∧ d.sp = sp := by rw [← hd]; exact ⟨rfl, rfl, rfl⟩
        refine ⟨oa2, ta2, zs1, zs2, ds ++ [d], _, _, _, _, _, _, _, rfl, ⟨sL _ _ goa2, gta2, az1.mvN sL.keep, az2, ?_, ?_, MD.ld.snoc okD (by rw [hdl]; exact hl) (by rw [eLp.1]; exact h1) (by rw [eLp.2.1]; exact h2) (fun z => by rw [eLp.1]; exact (hsp (by rw [← eLp.2.2]; exact z)).2), noa2, nta2, SI.same sIM, fun b o e hn => sIM _ _ (KI _ _ (MD.kp _ _ e hn) (nin_two' ela0 era e))⟩⟩
        · rw [sIM _ _ gl4, List.flatMap_append, List.map_append]
          simp only [List.flatMap_cons, List.flatMap_nil, LD.lparts, eLp.1, List.append_nil, List.map_cons, List.map_nil]
        · rw [sIM _ _ gr4, List.flatMap_append, List.map_append]
          simp only [List.flatMap_cons, List.flatMap_nil, LD.rparts, eLp.1, eLp.2.1, eLp.2.2, List.append_nil]
          cases sp <;> rfl
    · clear M0 M7 goa goa5 gta gla gra noa nta
      rintro σ' H' ⟨oa, ta, xs, ys, ds, v7, v8, v9, v10, v11, v12, v13, rfl, M⟩
      have hL := M.ld.lds (show (1 + lanes).toNat ≤ 4 by omega)
      have mt := matched_of hL
      have rl := lrows_len hL
      dsimp only [tNext, gName]
      refine seqJoin (fun σ' H' => ∃ (oa ta : Addr) (xs ys : List V) (r1 r2 : List (List Int)), σ' = [some (.ref st), some (.int topp), some (.int (n : Int)), some (.ref oa), some (.ref ta), some (.ref la), some (.ref ra), v7, v8, v9, v10, v11, v12, v13] ∧ H' oa = some (.lst xs) ∧ H' ta = some (.lst ys) ∧ All2 Lst1 H' r1 xs ∧ All2 Lst1 H' r2 ys ∧ (∀ r ∈ r1, r.length ≤ 1000) ∧ (∀ r ∈ r2, r.length ≤ 1000) ∧ r1.length ≤ 60 ∧ r2.length ≤ 60 ∧ Matched (r1.map sortD) (r2.map sortD) n ∧ StAt H' st ga ca (N + 1000) ∧ Keep [st, ga] H H') (fun nx hnx => ?_) ?_
      · refine ⟨_, rfl, st, ga, ca, _, 2, rfl, M.sa, by omega, by decide, by decide, fun r H8 r0 r1 S8 K8 => ⟨rfl, _, rfl, ?_⟩⟩
        have M8 := M.drawn nla nra3 S8 K8
        have e1 : ((List.range n).map (lefH ds)).map sortD = sideR lefH ds n := by rw [List.map_map]; rfl
        have e2 : ((List.range n).map (rigH ds)).map sortD = sideR rigH ds n := by rw [List.map_map]; rfl
        have b1 : ∀ r ∈ (List.range n).map (lefH ds), r.length ≤ 1000 := fun r hr' => by
          obtain ⟨j, _, rfl⟩ := List.mem_map.mp hr'
          have := (rl j).1
          omega
        have b2 : ∀ r ∈ (List.range n).map (rigH ds), r.length ≤ 1000 := fun r hr' => by
          obtain ⟨j, _, rfl⟩ := List.mem_map.mp hr'
          have := (rl j).2
          omega
        have ln : ∀ f : Nat → List Int, ((List.range n).map f).length ≤ 60 := fun f => by rw [List.length_map, List.length_range]; omega
        have S9 := M8.sa.mono (show _ ≤ N + 1000 by omega)
        refine ite2 (fun _ => ?_) (fun _ => hnx _ _ ⟨oa, ta, xs, ys, _, _, rfl, M8.go, M8.gt, M8.ax.toL, M8.ay.toL, b1, b2, ln _, ln _, by rw [e1, e2]; exact mt, S9, M8.kp⟩)
        exact ⟨_, rfl, _, rfl, _, _, rfl, hnx _ _ ⟨ta, oa, ys, xs, _, _, rfl, M8.gt, M8.go, M8.ay.toL, M8.ax.toL, b2, b1, ln _, ln _, by rw [e1, e2]; exact mt.swap, S9, M8.kp⟩⟩
      · rintro σ2 H8 ⟨oa, ta, xs, ys, r1, r2, rfl, g1, g2, a1, a2, b1, b2, l1, l2, mm, S9, K9⟩
        refine ⟨_, rfl, oa, xs, r1, rfl, g1, a1, b1, l1, fun p1 rs HA gA aA sA => ?_⟩
        refine ⟨_, rfl, ta, ys, r2, rfl, sA _ _ g2, a2.mvI sA, b2, l2, fun p2 qs HB gB aB sB => ?_⟩
        refine ⟨by show 2 ≤ sizeLine; decide, fun p hp => ?_⟩
        have sC := Same.new (o := .tup [V.ref p1, V.ref p2]) hp
        have s8 := sA.trans (sB.trans sC)
        exact k p p1 p2 rs qs _ _ n _ upd_same (sC _ _ (sB _ _ gA)) (aA.mv (sB.trans sC).tups) (sC _ _ gB) (aB.mv sC.tups) mm (by omega) (S9.same s8) (K9.trans s8.keep)
def n__law_whole : List Str := ["_law_found"]
theorem sc__law_whole : FnScope n__law_whole ["_law_found"] (defScope s__law_whole) := ⟨rfl, rfl, rfl, by decide +kernel, rfl, by decide +kernel, by decide +kernel⟩
def sp_whole : Sp := fun vs H Q _ => ∃ (i : Int), vs = [.int i] ∧ Q (.bl true) H
theorem ok__law_whole (T : Txt K mg A) : FnOk P w K mg base CX0 1 A.a__law_whole A.fd__law_whole ["_law_found"] sp_whole := by
  refine T.F__law_whole.ok sc__law_whole (fun vs H Q E h => ?_) (fun cdv Ar outer s H vs Q E hr h => ?_)
  · obtain ⟨i, rfl, k⟩ := h
    rfl
  · obtain ⟨i, rfl, k⟩ := h
    refine ⟨_, (pss_one (ps_ret (pe_and (pe_callB call_isi rfl T.b_isinstance boot_isinstance (pa_cons (pv 0) (pa_cons (pe_bltn (v := .ty "int") rfl T.b_int boot_int rfl) pa_nil))) (pe_one (pe_not (pe_callB call_isi rfl T.b_isinstance boot_isinstance (pa_cons (pv 0) (pa_cons (pe_bltn (v := .ty "bool") rfl T.b_bool boot_bool rfl) pa_nil)))))))), ?_⟩
    exact ⟨_, rfl, _, _, _, true, rfl, TyOf.int _, kit_int_int, true, rfl, _, rfl, _, _, _, false, rfl, TyOf.int _, kit_int_bool, false, rfl, k⟩
def n__law_lies : List Str := ["_law_one", "_law_other"]
theorem sc__law_lies : FnScope n__law_lies ["_law_one", "_law_other"] (defScope s__law_lies) := ⟨rfl, rfl, rfl, by decide +kernel, rfl, by decide +kernel, by decide +kernel⟩
def sp_llies : Sp := fun vs H Q _ => ∃ (a b : Addr) (ns ms : List Int), vs = [.ref a, .ref b] ∧ H a = some (.tup (ns.map V.int)) ∧ H b = some (.tup (ms.map V.int)) ∧ ns.length ≤ 10000 ∧ ∀ H', Same H H' → Q (.bl (lies ns ms)) H'
theorem ok__law_lies (T : Txt K mg A) : FnOk P w K mg base CX0 1 A.a__law_lies A.fd__law_lies ["_law_one", "_law_other"] sp_llies := by
  refine T.F__law_lies.ok sc__law_lies (fun vs H Q E h => ?_) (fun cdv Ar outer s H vs Q E hr h => ?_)
  · obtain ⟨a, b, ns, ms, rfl, ha, hb, hln, k⟩ := h
    rfl
  · obtain ⟨a, b, ns, ms, rfl, ha, hb, hln, k⟩ := h
    refine ⟨_, (pss_one (ps_ret (pe_callB (call_all_bools rfl) rfl T.b_all boot_all (pa_cons (pe_comp (ls := ["_law_part"]) (fr := [("_law_one", 0), ("_law_other", 1)]) (cs_of (defScope s__law_lies) n__law_lies rfl rfl (by decide +kernel)) rfl (pi_tup (pv 0 (hv := Or.inr (Or.inl rfl)))) (fun _ _ _ _ => pgc 0 (by decide +kernel) rfl rfl) (fun _ _ _ _ => pf_nil) (fun _ _ _ _ => (pe_cmpR op_le (pe_bmK K rfl PySem.F.plainAttrs_tuple PySem.F.slot_tuple_count PySem.F.type_tuple_count (mt_countTK K rfl) (pvc (defScope s__law_lies) 1) (pa_cons (pvc (defScope s__law_lies) 0) pa_nil)) (pe_bmK K rfl PySem.F.plainAttrs_tuple PySem.F.slot_tuple_count PySem.F.type_tuple_count (mt_countTK K rfl) (pvc (defScope s__law_lies) 2) (pa_cons (pvc (defScope s__law_lies) 0) pa_nil)) (nomark _)))) pa_nil)))), ?_⟩
    refine ⟨_, rfl, a, rfl, ⟨_, SqT.of ha⟩, comp_tup (xs := ns.map V.int) (fun i ys σ' H' => H' = H ∧ (∃ v, σ' = [v, some (.ref a), some (.ref b)]) ∧ ys = ((ns.take i).map fun x => decide (ns.count x ≤ ms.count x)).map V.bl) ⟨rfl, ⟨_, rfl⟩, rfl⟩ ?_ ?_ ?_⟩
    · rintro i ys σ' H' hi ⟨rfl, _, rfl⟩
      refine ⟨SqT.of ha, ?_⟩
      rw [List.length_map, List.length_map, List.length_take]
      exact Nat.le_trans (m := 10000) (by omega) (by decide)
    · rintro i x ys σ' H' hx ⟨rfl, ⟨v, rfl⟩, rfl⟩
      obtain ⟨z, hz, rfl⟩ := map_at hx
      have hi := (List.getElem?_eq_some_iff.mp hz).1
      have ez := (List.getElem?_eq_some_iff.mp hz).2
      refine ⟨_, rfl, .inr (.inl ⟨rfl, .inr ⟨_, ha⟩⟩), _, rfl, a, _, _, rfl, rfl, SqT.of ha, rfl, flat_ints _, ?_⟩
      refine ⟨_, rfl, .inr (.inl ⟨rfl, .inr ⟨_, hb⟩⟩), _, rfl, b, _, _, rfl, rfl, SqT.of hb, rfl, flat_ints _, ?_⟩
      refine ⟨_, _, rfl, rfl, rfl, ⟨_, rfl⟩, ?_⟩
      rw [List.take_succ_eq_append_getElem hi, List.map_append, List.map_append, ez]
      show _ ++ [V.bl (decide (((cntV (V.int z) (ns.map V.int) : Nat) : Int) ≤ ((cntV (V.int z) (ms.map V.int) : Nat) : Int)))] = _
      rw [cntV_ints, cntV_ints]
      have e : decide (((ns.count z : Nat) : Int) ≤ ((ms.count z : Nat) : Int)) = decide (ns.count z ≤ ms.count z) := by
        rw [decide_eq_decide]; omega
      rw [e]
      rfl
    · rintro ys σ' H' ⟨rfl, _, rfl⟩ l hl
      rw [List.length_map, List.take_length]
      refine ⟨l, _, rfl, SqL.of upd_same, ?_⟩
      have e : (ns.map fun x => decide (ns.count x ≤ ms.count x)).all id = lies ns ms := by
        unfold lies
        rw [List.all_map]
        rfl
      rw [e]
      exact k _ (Same.new hl)
def n__law_first : List Str := ["_law_rule_here", "_law_heap", "_law_number"]
theorem sc__law_first : FnScope n__law_first ["_law_rule_here", "_law_heap"] (defScope s__law_first) := ⟨rfl, rfl, rfl, by decide +kernel, rfl, by decide +kernel, by decide +kernel⟩
def sp_lfirst : Sp := fun vs H Q _ => ∃ (p q : Addr) (rs : List V) (rule : List (List Int)) (hs : List Int), vs = [.ref p, .ref q] ∧ H p = some (.tup rs) ∧ All2 Tup1 H rule rs ∧ H q = some (.tup (hs.map V.int)) ∧ rule.length ≤ 60 ∧ (∀ h ∈ rule, h.length ≤ 1000) ∧
  ∀ (H' : Hp), Same H H' → Q (optV (firstG rule hs)) H'
theorem ok__law_first (T : Txt K mg A) : FnOk P w K mg base CX0 2 A.a__law_first A.fd__law_first ["_law_rule_here", "_law_heap"] sp_lfirst := by
  refine T.F__law_first.ok sc__law_first (fun vs H Q E h => ?_) (fun cdv Ar outer s H vs Q E hr h => ?_)
  · obtain ⟨p, q, rs, rule, hs, rfl, hp, h2, hq, hln, hlr, k⟩ := h
    rfl
  · obtain ⟨p, q, rs, rule, hs, rfl, hp, h2, hq, hln, hlr, k⟩ := h
    refine ⟨_, (pss_cons (ps_for PassesOwn.never rfl (pi_range1 rfl T.b_range (pa_cons (pe_callB call_len_seq rfl T.b_len PySem.boot_len (pa_cons (pv 0) pa_nil)) pa_nil)) (pg_name (i := 2) sc__law_first.nd rfl (by first | exact Or.inl rfl | exact Or.inr rfl))
          (pss_one (ps_if (pt_truth (pe_call (ok__law_lies T) (hr.mono (by decide)) rfl T.g__law_lies T.F__law_lies.kp T.b__law_lies .nil pass0 (pa_cons (pe_ix ix_tup (pv 0) (pv 2) (fun _ _ => rfl)) (pa_cons (pv 1) pa_nil))) (fun _ => rfl))
          (pss_one (ps_ret (pv 2))) pss_nil)))
        (pss_one (ps_ret pe_non))), ?_⟩
    have hrl := h2.length
    refine ⟨_, rfl, p, _, rfl, .inr (SqT.of hp), _, rfl, by omega, by omega, for_range (n := rs.length) (fun i σ' H' => Same H H' ∧ (∃ v, σ' = [some (.ref p), some (.ref q), v]) ∧ idxP rule hs i = []) ⟨fun _ _ h => h, ⟨_, rfl⟩, rfl⟩ ?_ ?_⟩
    · rintro i σ' H' hi ⟨s, ⟨v, rfl⟩, h0⟩
      have hir : i < rule.length := by omega
      obtain ⟨x, hx, q1, rfl, hq1⟩ := h2.at (List.getElem?_eq_getElem hir)
      have e1 : rule.getD i [] = rule[i] := by simp [hir]
      refine ⟨_, rfl, _, rfl, p, _, _, _, rfl, rfl, SqT.of (s _ _ hp), by rw [Int.zero_add]; exact atI_nat hx, ?_⟩
      refine ⟨_, rfl, q1, q, rule[i], hs, rfl, s _ _ hq1, s _ _ hq, Nat.le_trans (hlr _ (List.getElem_mem hir)) (by decide), fun H2 s2 => ⟨_, rfl, ?_⟩⟩
      have s3 := s.trans s2
      refine ite2 (fun hc => ?_) (fun hc => ⟨s3, ⟨_, rfl⟩, ?_⟩)
      · refine ⟨_, rfl, ?_⟩
        have := k H2 s3
        rw [first_some h0 hir (by rw [e1]; exact hc)] at this
        rw [Int.zero_add]
        exact this
      · rw [idxP_succ, e1, if_neg hc, h0]
        rfl
    · rintro σ' H' ⟨s, _, h0⟩
      rw [← hrl] at h0
      have := k H' s
      rw [first_none h0] at this
      exact this
def n__law_row : List Str := ["_law_found"]
theorem sc__law_row : FnScope n__law_row ["_law_found"] (defScope s__law_row) := ⟨rfl, rfl, rfl, by decide +kernel, rfl, by decide +kernel, by decide +kernel⟩
def sp_row : Sp := fun vs H Q _ => ∃ (a : Addr) (ns : List Int), vs = [.ref a] ∧ H a = some (.tup (ns.map V.int)) ∧ ns.length ≤ 100000 ∧ ∀ (H' : Hp), Same H H' → Q (.bl true) H'
theorem ok__law_row (T : Txt K mg A) : FnOk P w K mg base CX0 2 A.a__law_row A.fd__law_row ["_law_found"] sp_row := by
  refine T.F__law_row.ok sc__law_row (fun vs H Q E h => ?_) (fun cdv Ar outer s H vs Q E hr h => ?_)
  · obtain ⟨a, ns, rfl, ha, hln, k⟩ := h
    rfl
  · obtain ⟨a, ns, rfl, ha, hln, k⟩ := h
    refine ⟨_, (pss_one (ps_ret (pe_and (pe_callB call_isi rfl T.b_isinstance boot_isinstance (pa_cons (pv 0) (pa_cons (pe_bltn (v := .ty "tuple") rfl T.b_tuple boot_tuple rfl) pa_nil))) (pe_one (pe_callB (call_all_bools rfl) rfl T.b_all boot_all (pa_cons (pe_comp (ls := ["_law_part"]) (fr := []) (cs_of (defScope s__law_row) n__law_row rfl rfl (by decide +kernel)) rfl (pi_tup (pv 0)) (fun _ _ _ _ => pgc 0 (by decide +kernel) rfl rfl) (fun _ _ _ _ => pf_nil) (fun _ _ _ _ => (pe_call (ok__law_whole T) (hr.mono (by decide)) (glc (defScope s__law_row)) T.g__law_whole T.F__law_whole.kp T.b__law_whole .nil pass0 (pa_cons (pvc (defScope s__law_row) 0) pa_nil)))) pa_nil)))))), ?_⟩
    refine ⟨_, rfl, _, _, _, true, rfl, TyOf.tup ha, kit_tup_tup, true, rfl, _, rfl, a, rfl, ⟨_, SqT.of ha⟩, comp_tup (xs := ns.map V.int) (fun i ys σ' H' => H' = H ∧ (∃ v, σ' = [v]) ∧ ys = (List.replicate i true).map V.bl ∧ i ≤ ns.length) ⟨rfl, ⟨_, rfl⟩, rfl, Nat.zero_le _⟩ ?_ ?_ ?_⟩
    · rintro i ys σ' H' hi ⟨rfl, _, rfl, hi'⟩
      refine ⟨SqT.of ha, ?_⟩
      rw [List.length_map, List.length_replicate]
      exact Nat.le_trans (Nat.le_trans hi' hln) (by decide)
    · rintro i x ys σ' H' hx ⟨rfl, ⟨v, rfl⟩, rfl, hi'⟩
      obtain ⟨z, hz, rfl⟩ := map_at hx
      have hi := (List.getElem?_eq_some_iff.mp hz).1
      refine ⟨_, rfl, z, rfl, rfl, ⟨_, rfl⟩, ?_, hi⟩
      rw [List.replicate_succ', List.map_append]
      rfl
    · rintro ys σ' H' ⟨rfl, _, rfl, hi'⟩ l hl0
      refine ⟨l, _, rfl, SqL.of upd_same, ?_⟩
      have e : (List.replicate (ns.map V.int).length true).all id = true := by simp
      rw [e]
      exact k _ (Same.new hl0)
def n__law_listed : List Str := ["_law_rule_here", "_law_n", "_law_kept"]
theorem sc__law_listed : FnScope n__law_listed ["_law_rule_here", "_law_n"] (defScope s__law_listed) := ⟨rfl, rfl, rfl, by decide +kernel, rfl, by decide +kernel, by decide +kernel⟩
def sp_listed : Sp := fun vs H Q _ => ∃ (p : Addr) (rs : List V) (rule : List (List Int)) (m : Nat), vs = [.ref p, .int (m : Int)] ∧ H p = some (.tup rs) ∧ All2 Tup1 H rule rs ∧ rule.length ≤ 60 ∧ (∀ h ∈ rule, h.length ≤ 1000) ∧ m ≤ 24 ∧
  ∀ (l : Addr) (xs : List V) (H' : Hp), H' l = some (.lst xs) → All2 Tup1 H' (keptG rule m) xs → Same H H' → H l = none → Q (.ref l) H'
theorem all2_tail {H : Hp} {ls : List (List Int)} {xs : List V} (h : All2 Tup1 H ls xs) : All2 Tup1 H ls.tail xs.tail := by
  cases h with
  | nil => exact .nil
  | cons _ t => exact t
theorem cut_tail (xs : List V) : cutV xs (some 1) none = xs.tail := by
  unfold cutV
  rw [show HT.sIx xs.length 0 (some 1) = min 1 xs.length from HT.sIx_nat _ _ 1, HT.sIx_none]
  cases xs with
  | nil => rfl
  | cons x r => simp [List.take_of_length_le]
theorem ok__law_listed (T : Txt K mg A) : FnOk P w K mg base CX0 29 A.a__law_listed A.fd__law_listed ["_law_rule_here", "_law_n"] sp_listed := by
  refine T.F__law_listed.ok sc__law_listed (fun vs H Q E h => ?_) (fun cdv Ar outer s H vs Q E hr h => ?_)
  · obtain ⟨p, rs, rule, m, rfl, hp, h2, hln, hlr, hm, k⟩ := h
    rfl
  · obtain ⟨p, rs, rule, m, rfl, hp, h2, hln, hlr, hm, k⟩ := h
    refine ⟨_, (pss_cons (ps_set (i := 2) sc__law_listed.nd rfl (by first | exact Or.inl rfl | exact Or.inr rfl) (pe_call (ok_kept_of T) (hr.mono (by decide)) rfl T.g_kept_of T.F_kept_of.kp T.b_kept_of .nil pass01 (pa_cons (pv 0 (hv := Or.inr (Or.inl rfl))) (pa_cons (pv 1 (hv := Or.inr (Or.inl rfl))) pa_nil))))
        (pss_cons (ps_if (PW.pt (pw_or (pt_not (pt_truth (pe_callB call_isi rfl T.b_isinstance boot_isinstance (pa_cons (pv 2) (pa_cons (pe_bltn (v := .ty "list") rfl T.b_list boot_list rfl) pa_nil))) (fun _ => rfl))) (pw_or1 (pt_not (pt_truth (pe_callB (call_all_bools rfl) rfl T.b_all boot_all (pa_cons (pe_comp (ls := ["_law_heap"]) (fr := [("_law_n", 1)]) (cs_of (defScope s__law_listed) n__law_listed rfl rfl (by decide +kernel)) rfl (pi_list (pv 2)) (fun _ _ _ _ => pgc 0 (by decide +kernel) rfl rfl) (fun _ _ _ _ => pf_nil) (fun _ _ _ _ => (pe_and (pe_call (ok__law_row T) (hr.mono (by decide)) (glc (defScope s__law_listed)) T.g__law_row T.F__law_row.kp T.b__law_row .nil pass0 (pa_cons (pvc (defScope s__law_listed) 0) pa_nil)) (pe_one (pe_cmpR op_eq (pe_callB (call_sum_intsK K rfl rfl) (glc (defScope s__law_listed)) T.b_sum boot_sum (pa_cons (pvc (defScope s__law_listed) 0) pa_nil)) (pvc (defScope s__law_listed) 1) (nomark _)))))) pa_nil)) (fun _ => rfl))))))
          (pss_one (ps_ret pe_non)) pss_nil)
        (pss_cons (ps_if (pt_not (pt_truth (pe_callB (call_all_bools rfl) rfl T.b_all boot_all (pa_cons (pe_comp (ls := ["_law_one", "_law_later"]) (fr := []) (cs_of (defScope s__law_listed) n__law_listed rfl rfl (by decide +kernel)) rfl (pi_zip false false rfl T.b_zip (pa_cons (pv 2) (pa_cons (pe_slice sl_list (pv 2) (po_some pe_int) po_none) pa_nil))) (fun _ _ _ _ => pg_tupC 2 rfl (pgs_cons (pgc (ls := ["_law_one", "_law_later"]) (fr := []) 0 (by decide +kernel) rfl rfl) (pgs_cons (pgc (ls := ["_law_one", "_law_later"]) (fr := []) 1 (by decide +kernel) rfl rfl) pgs_nil)) rfl rfl) (fun _ _ _ _ => pf_nil) (fun _ _ _ _ => (pe_cmpR (op_gtTK K rfl hr.units0) (pvc (defScope s__law_listed) 0) (pvc (defScope s__law_listed) 1) (nomark _)))) pa_nil)) (fun _ => rfl)))
          (pss_one (ps_ret pe_non)) pss_nil)
        (pss_cons (ps_if (pt_not (pt_truth (pe_callB (call_all_bools rfl) rfl T.b_all boot_all (pa_cons (pe_comp (ls := ["_law_heap"]) (fr := [("_law_rule_here", 0)]) (cs_of (defScope s__law_listed) n__law_listed rfl rfl (by decide +kernel)) rfl (pi_list (pv 2)) (fun _ _ _ _ => pgc 0 (by decide +kernel) rfl rfl) (fun _ _ _ _ => pf_nil) (fun _ _ _ _ => (pe_cmpR op_isN (pe_call (ok__law_first T) (hr.mono (by decide)) (glc (defScope s__law_listed)) T.g__law_first T.F__law_first.kp T.b__law_first .nil pass0 (pa_cons (pvc (defScope s__law_listed) 1) (pa_cons (pvc (defScope s__law_listed) 0) pa_nil))) pe_non (nomark _)))) pa_nil)) (fun _ => rfl)))
          (pss_one (ps_ret pe_non)) pss_nil)
        (pss_one (ps_ret (pv 2))))))), ?_⟩
    refine ⟨_, rfl, _, rfl, p, rs, rule, (m : Int), rfl, hp, h2, hln, .inl ⟨m, rfl, hm, fun t ts H1 gt h4 s1 nt => ?_⟩⟩
    have hlt : ts.length ≤ sizeLine := by rw [← h4.length]; exact Nat.le_trans (keptG_len _ _) (pow24 hm)
    refine ⟨_, rfl, _, _, _, true, rfl, TyOf.lst gt, kit_list_list, true, rfl, iteF ?_⟩
    -- each is a row of the sum
    refine comp_trueL [some (.int m)] hlt rfl rfl gt (fun j x H' P hx s' hP => ?_) (fun HC l1 sC hl1 => ?_)
    · obtain ⟨hs, hhs, q, rfl, hq⟩ := h4.get hx
      have hmem := List.mem_of_getElem? hhs
      have hlen := keptG_mem hmem
      refine ⟨_, rfl, q, hs, rfl, s' _ _ hq, by omega, fun H2 s2 => ⟨_, rfl, ?_⟩⟩
      refine iteT ⟨_, rfl, q, hs, rfl, .inr (SqT.of (s2 _ _ (s' _ _ hq))), _, rfl, rfl, ?_⟩
      rw [(kept_is hm hmem).1, decide_eq_true rfl]
      exact hP H2 s2
    refine ⟨l1, _, rfl, SqL.of upd_same, ?_⟩
    rw [all_reps]
    refine ⟨true, rfl, iteF ?_⟩
    have sBD := sC.trans (Same.new (o := .lst ((List.replicate ts.length true).map V.bl)) hl1)
    generalize upd HC l1 (.lst ((List.replicate ts.length true).map V.bl)) = HD at sBD
    have gtD := sBD _ _ gt
    have h4D := h4.mv sBD.tups
    -- each after a greater one
    refine ⟨_, rfl, _, rfl, _, rfl, ?_⟩
    dsimp only [tNoPart, tNil]
    refine ⟨t, ts, rfl, SqL.of gtD, fun l2 hl2 => ?_⟩
    rw [cut_tail]
    have s2 := Same.new (o := .lst ts.tail) hl2
    refine ⟨t, l2, rfl, ⟨_, SqL.of (s2 _ _ gtD)⟩, ⟨_, SqL.of upd_same⟩, comp_zip (xs := ts) (ys := ts.tail) (fun i zs σ' H' => Same (upd HD l2 (.lst ts.tail)) H' ∧ (∃ v w, σ' = [v, w]) ∧ zs = (List.replicate i true).map V.bl ∧ i ≤ ts.length) ⟨fun _ _ z => z, ⟨_, _, rfl⟩, rfl, Nat.zero_le _⟩ ?_ ?_ ?_⟩
    · rintro i zs σ' H' hi ⟨s', _, rfl, hi'⟩
      refine ⟨SqL.of (s' _ _ (s2 _ _ gtD)), SqL.of (s' _ _ upd_same), ?_⟩
      rw [List.length_map, List.length_replicate]
      omega
    · rintro i x y zs σ' H' T' hx hy ⟨s', ⟨v, w', rfl⟩, rfl, hi'⟩ hT
      have hi := (List.getElem?_eq_some_iff.mp hx).1
      have sn := s2.trans (s'.trans (Same.new (o := .tup [x, y]) hT))
      obtain ⟨hs, hhs, q, rfl, hq⟩ := h4D.get hx
      obtain ⟨hs', hhs', q', rfl, hq'⟩ := (all2_tail h4D).get hy
      have hgt := kept_next hm hhs hhs'
      refine ⟨T', _, rfl, SqT.of upd_same, rfl, _, _, rfl, _, _, rfl, rfl, ?_⟩
      refine ⟨_, rfl, _, rfl, q, q', hs, hs', rfl, rfl, SqT.of (sn _ _ hq), SqT.of (sn _ _ hq'), s'.trans (Same.new hT), ⟨_, _, rfl⟩, ?_, by omega⟩
      rw [List.replicate_succ', List.map_append, hgt]
      rfl
    rintro zs σ' HE ⟨sE, _, rfl, _⟩ l3 hl3
    refine ⟨l3, _, rfl, SqL.of upd_same, ?_⟩
    rw [all_reps]
    refine ⟨true, rfl, iteF ?_⟩
    have sDF := (s2.trans sE).trans (Same.new (o := .lst ((List.replicate (min ts.length ts.tail.length) true).map V.bl)) hl3)
    generalize upd HE l3 (.lst ((List.replicate (min ts.length ts.tail.length) true).map V.bl)) = HF at sDF
    have gtF := sDF _ _ gtD
    have h4F := h4D.mv sDF.tups
    have s1F := s1.trans (sBD.trans sDF)
    -- each keeps the rule
    refine comp_trueL [some (.ref p)] hlt rfl rfl gtF (fun j x H' P hx s' hP => ?_) (fun HG l4 sG hl4 => ?_)
    · obtain ⟨hs, hhs, q, rfl, hq⟩ := h4F.get hx
      have hmem := List.mem_of_getElem? hhs
      have s'1 := s1F.trans s'
      refine ⟨_, rfl, _, rfl, p, q, rs, rule, hs, rfl, s'1 _ _ hp, h2.mv s'1.tups, s' _ _ hq, hln, hlr, fun H2 s2 => ⟨rfl, ?_⟩⟩
      rw [(kept_is hm hmem).2.2]
      exact hP H2 s2
    refine ⟨l4, _, rfl, SqL.of upd_same, ?_⟩
    rw [all_reps]
    refine ⟨true, rfl, iteF ?_⟩
    have sGH := sG.trans (Same.new (o := .lst ((List.replicate ts.length true).map V.bl)) hl4)
    exact ⟨_, rfl, k t ts _ (sGH _ _ gtF) (h4F.mv sGH.tups) (s1F.trans sGH) nt⟩
def n_law : List Str := ["_law_script", "_law_state", "_law_ones", "_law_others", "_law_far", "_law_many", "_law_n", "_law_mine", "_law_theirs", "_law_at", "_law_rule_here", "_law_kept"]
theorem sc_law : FnScope n_law ["_law_script"] (defScope s_law) := ⟨rfl, rfl, rfl, by decide +kernel, rfl, by decide +kernel, by decide +kernel⟩
def sp_law (K : PySem.W.Frag) : Sp := fun vs H Q _ => ∃ (a : Addr) (ns : List Int), vs = [.ref a] ∧ SqL K H a (ns.map V.int) ∧ ns.length ≤ 63 ∧ ∀ H', Q (.bl true) H'
structure RAt (H : Hp) (p : Addr) (rs : List V) (rule : List (List Int)) : Prop where
  at_ : H p = some (.tup rs)
  h2 : All2 Tup1 H rule rs
theorem RAt.mv {H H' : Hp} {p : Addr} {rs : List V} {rule : List (List Int)} (h : RAt H p rs rule) (t : Tups H H') : RAt H' p rs rule := ⟨t _ _ h.at_, h.h2.mv t⟩
theorem ok_law (T : Txt K mg A) : FnOk P w K mg base CX0 31 A.a_law A.fd_law ["_law_script"] (sp_law K) := by
  refine T.F_law.ok sc_law (fun vs H Q E h => ?_) (fun cdv Ar outer s H vs Q E hr h => ?_)
  · obtain ⟨a, ns, rfl, hS, hl, k⟩ := h
    rfl
  · obtain ⟨a, ns, rfl, hS, hl, k⟩ := h
    refine ⟨_, (pss_cons (ps_set (i := 1) sc_law.nd rfl (by first | exact Or.inl rfl | exact Or.inr rfl) (pe_call (ok__law_start T) (hr.mono (by decide)) rfl T.g__law_start T.F__law_start.kp T.b__law_start .nil pass0 (pa_cons (pv 0) pa_nil)))
        (pss_cons (ps_asg (pe_call (ok__law_matched T) (hr.mono (by decide)) rfl T.g__law_matched T.F__law_matched.kp T.b__law_matched .nil pass0 (pa_cons (pv 1) (pa_cons pe_int pa_nil))) (pg_tup rfl (pgs_cons (pg_name (i := 2) sc_law.nd rfl (by first | exact Or.inl rfl | exact Or.inr rfl)) (pgs_cons (pg_name (i := 3) sc_law.nd rfl (by first | exact Or.inl rfl | exact Or.inr rfl)) pgs_nil))))
        (pss_cons (ps_set (i := 4) sc_law.nd rfl (by first | exact Or.inl rfl | exact Or.inr rfl) (pe_call (ok__law_draw T) (hr.mono (by decide)) rfl T.g__law_draw T.F__law_draw.kp T.b__law_draw .nil pass0 (pa_cons (pv 1) (pa_cons pe_int pa_nil))))
        (pss_cons (ps_if (pt_cmpR op_eq (pe_call (ok__law_draw T) (hr.mono (by decide)) rfl T.g__law_draw T.F__law_draw.kp T.b__law_draw .nil pass0 (pa_cons (pv 1) (pa_cons pe_int pa_nil))) pe_int (nomark _))
          (pss_one (ps_set (i := 4) sc_law.nd rfl (by first | exact Or.inl rfl | exact Or.inr rfl) (pe_call (ok__law_draw T) (hr.mono (by decide)) rfl T.g__law_draw T.F__law_draw.kp T.b__law_draw .nil pass0 (pa_cons (pv 1) (pa_cons pe_int pa_nil))))) pss_nil)
        (pss_cons (ps_set (i := 5) sc_law.nd rfl (by first | exact Or.inl rfl | exact Or.inr rfl) (pe_call (ok_count_of T) (hr.mono (by decide)) rfl T.g_count_of T.F_count_of.kp T.b_count_of .nil pass01 (pa_cons (pv 2) (pa_cons (pv 4) pa_nil))))
        (pss_cons (ps_if (PW.pt (pw_or (pt_not (pt_truth (pe_call (ok__law_whole T) (hr.mono (by decide)) rfl T.g__law_whole T.F__law_whole.kp T.b__law_whole .nil pass0 (pa_cons (pv 5) pa_nil)) (fun _ => rfl))) (pw_or (pt_cmpR op_lt (pv 5) pe_int (nomark _)) (pw_or1 (pt_cmpR op_ne (pe_call (ok_count_of T) (hr.mono (by decide)) rfl T.g_count_of T.F_count_of.kp T.b_count_of .nil pass01 (pa_cons (pv 3) (pa_cons (pv 4) pa_nil))) (pv 5) (nomark _))))))
          (pss_one (ps_ret pe_bl)) pss_nil)
        (pss_cons (ps_set (i := 6) sc_law.nd rfl (by first | exact Or.inl rfl | exact Or.inr rfl) (pe_call (ok__law_draw T) (hr.mono (by decide)) rfl T.g__law_draw T.F__law_draw.kp T.b__law_draw .nil pass0 (pa_cons (pv 1) (pa_cons pe_int pa_nil))))
        (pss_cons (ps_set (i := 7) sc_law.nd rfl (by first | exact Or.inl rfl | exact Or.inr rfl) (pe_call (ok__law_listed T) (hr.mono (by decide)) rfl T.g__law_listed T.F__law_listed.kp T.b__law_listed .nil pass0 (pa_cons (pv 2) (pa_cons (pv 6) pa_nil))))
        (pss_cons (ps_set (i := 8) sc_law.nd rfl (by first | exact Or.inl rfl | exact Or.inr rfl) (pe_call (ok__law_listed T) (hr.mono (by decide)) rfl T.g__law_listed T.F__law_listed.kp T.b__law_listed .nil pass0 (pa_cons (pv 3) (pa_cons (pv 6) pa_nil))))
        (pss_cons (ps_if (PW.pt (pw_or (pt_cmpR op_isN (pv 7) pe_non (nomark _)) (pw_or (pt_cmpR op_isN (pv 8) pe_non (nomark _)) (pw_or1 (pt_cmpR op_ne (pe_callB call_len_seq rfl T.b_len PySem.boot_len (pa_cons (pv 7) pa_nil)) (pe_callB call_len_seq rfl T.b_len PySem.boot_len (pa_cons (pv 8) pa_nil)) (nomark _))))))
          (pss_one (ps_ret pe_bl)) pss_nil)
        (pss_cons (ps_if (PW.pt (pw_or (pt_cmpR op_ne (pe_call (ok_count_of T) (hr.mono (by decide)) rfl T.g_count_of T.F_count_of.kp T.b_count_of .nil pass01 (pa_cons (pv 2) (pa_cons (pv 6) pa_nil))) (pe_callB call_len_seq rfl T.b_len PySem.boot_len (pa_cons (pv 7) pa_nil)) (nomark _)) (pw_or1 (pt_cmpR op_ne (pe_call (ok_count_of T) (hr.mono (by decide)) rfl T.g_count_of T.F_count_of.kp T.b_count_of .nil pass01 (pa_cons (pv 3) (pa_cons (pv 6) pa_nil))) (pe_callB call_len_seq rfl T.b_len PySem.boot_len (pa_cons (pv 7) pa_nil)) (nomark _)))))
          (pss_one (ps_ret pe_bl)) pss_nil)
        (pss_cons (ps_if (PW.pt (pw_or (pt_cmpR op_ne (pe_callB (call_sum_ints rfl) rfl T.b_sum boot_sum (pa_cons (pe_call (ok_by_parts T) (hr.mono (by decide)) rfl T.g_by_parts T.F_by_parts.kp T.b_by_parts .nil pass01 (pa_cons (pv 2) (pa_cons (pv 6) pa_nil))) pa_nil)) (pe_callB call_len_seq rfl T.b_len PySem.boot_len (pa_cons (pv 7) pa_nil)) (nomark _)) (pw_or1 (pt_cmpR op_ne (pe_callB (call_sum_ints rfl) rfl T.b_sum boot_sum (pa_cons (pe_call (ok_by_parts T) (hr.mono (by decide)) rfl T.g_by_parts T.F_by_parts.kp T.b_by_parts .nil pass01 (pa_cons (pv 3) (pa_cons (pv 6) pa_nil))) pa_nil)) (pe_callB call_len_seq rfl T.b_len PySem.boot_len (pa_cons (pv 7) pa_nil)) (nomark _)))))
          (pss_one (ps_ret pe_bl)) pss_nil)
        (pss_cons (ps_if (pt_not (pt_truth (pv 7) (fun _ => rfl)))
          (pss_one (ps_ret pe_bl)) pss_nil)
        (pss_cons (ps_set (i := 9) sc_law.nd rfl (by first | exact Or.inl rfl | exact Or.inr rfl) (pe_call (ok__law_draw T) (hr.mono (by decide)) rfl T.g__law_draw T.F__law_draw.kp T.b__law_draw .nil pass0 (pa_cons (pv 1) (pa_cons (pe_callB call_len_seq rfl T.b_len PySem.boot_len (pa_cons (pv 7) pa_nil)) pa_nil))))
        (pss_cons (ps_for PassesOwn.never rfl (pi_tup (pe_tup (pa_cons (pe_tup (pa_cons (pv 2) (pa_cons (pv 7) pa_nil))) (pa_cons (pe_tup (pa_cons (pv 3) (pa_cons (pv 8) pa_nil))) pa_nil)))) (pg_tup rfl (pgs_cons (pg_name (i := 10) sc_law.nd rfl (by first | exact Or.inl rfl | exact Or.inr rfl)) (pgs_cons (pg_name (i := 11) sc_law.nd rfl (by first | exact Or.inl rfl | exact Or.inr rfl)) pgs_nil)))
          (pss_one (ps_if (PW.pt (pw_or (pt_cmpR op_ne (pe_call (ok_place_of T) (hr.mono (by decide)) rfl T.g_place_of T.F_place_of.kp T.b_place_of .nil pass0 (pa_cons (pv 10) (pa_cons (pe_ix ix_list (pv 11) (pv 9) (fun _ _ => rfl)) pa_nil))) (pv 9) (nomark _)) (pw_or1 (pt_cmpR (op_neT' eqk_int (huR hr)) (pe_call (ok_told_at T) (hr.mono (by decide)) rfl T.g_told_at T.F_told_at.kp T.b_told_at .nil pass0 (pa_cons (pv 10) (pa_cons (pv 6) (pa_cons (pv 9) pa_nil)))) (pe_ix ix_list (pv 11) (pv 9) (fun _ _ => rfl)) (nomark _)))))
          (pss_one (ps_ret pe_bl)) pss_nil)))
        (pss_one (ps_ret pe_bl))))))))))))))))), ?_⟩
    refine ⟨_, rfl, a, ns, rfl, hS, hl, fun st ga ca H1 S1 n1 n2 n3 s1 => ?_⟩
    refine ⟨_, rfl, st, ga, ca, 0, 6, rfl, S1, by decide, by decide, by decide, fun p q1 q2 rs qs one other n H2 hp hq1 a1 hq2 a2 mt hn S2 K2 => ?_⟩
    refine ⟨p, _, rfl, SqT.of hp, rfl, _, _, rfl, _, _, rfl, rfl, ?_⟩
    have R1 : RAt H2 q1 rs one := ⟨hq1, a1⟩
    have R2 : RAt H2 q2 qs other := ⟨hq2, a2⟩
    have l1 : one.length ≤ 6 := by rw [mt.l1]; omega
    have l2 : other.length ≤ 6 := by rw [mt.l2]; omega
    clear hq1 hq2 a1 a2
    refine ⟨_, rfl, st, ga, ca, _, 61, rfl, S2, by decide, by decide, by decide, fun far0 H3 f0 f1 S3 K3 => ?_⟩
    obtain ⟨fa, rfl⟩ : ∃ n : Nat, far0 = (n : Int) := ⟨far0.toNat, by omega⟩
    have R13 := R1.mv (K3.tups S2)
    have R23 := R2.mv (K3.tups S2)
    clear R1 R2
    dsimp only [tNext, gName]
    refine seqJoin (fun σ' H' => ∃ far : Nat, far ≤ 400 ∧ σ' = [some (.ref a), some (.ref st), some (.ref q1), some (.ref q2), some (.int far), none, none, none, none, none, none, none] ∧ RAt H' q1 rs one ∧ RAt H' q2 qs other ∧ StAt H' st ga ca 2000) (fun nx hnx => ?_) ?_
    · refine ⟨_, rfl, st, ga, ca, _, 8, rfl, S3, by decide, by decide, by decide, fun c H4 c0 c1 S4 K4 => ?_⟩
      have R14 := R13.mv (K4.tups S3)
      have R24 := R23.mv (K4.tups S3)
      refine ⟨rfl, _, rfl, ite2 (fun _ => ?_) (fun _ => hnx _ _ ⟨fa, by omega, rfl, R14, R24, S4.mono (by decide)⟩)⟩
      refine ⟨_, rfl, st, ga, ca, _, 401, rfl, S4, by decide, by decide, by decide, fun c2 H5 c20 c21 S5 K5 => ?_⟩
      exact hnx _ _ ⟨c2.toNat, by omega, by rw [Int.toNat_of_nonneg c20]; rfl, R14.mv (K5.tups S4), R24.mv (K5.tups S4), S5.mono (by decide)⟩
    rintro σ1 H4 ⟨far, hfar, rfl, R1, R2, S4⟩
    clear R13 R23
    refine ⟨_, rfl, _, rfl, q1, rs, one, (far : Int), rfl, R1.at_, R1.h2, l1, mt.J, .inl ⟨far, rfl, hfar, fun H5 s5 => ?_⟩⟩
    have h0 := signed_nonneg mt.J.2.2 hfar
    have e2 := mt.signed (wayF far) far
    generalize signedX one (wayF far) far (chG (upto one.length)) = many at h0 e2
    have R15 := R1.mv s5.tups
    have R25 := R2.mv s5.tups
    refine ⟨_, rfl, many, rfl, true, rfl, iteF ?_⟩
    refine ⟨_, rfl, _, _, rfl, rfl, _, rfl, ite2 (fun hc => absurd (of_decide_eq_true hc) (by omega)) (fun _ => ?_)⟩
    refine ⟨_, rfl, _, rfl, q2, qs, other, (far : Int), rfl, R25.at_, R25.h2, l2, mt.swap.J, .inl ⟨far, rfl, hfar, fun H6 s6 => ?_⟩⟩
    rw [← e2]
    refine ⟨_, rfl, rfl, _, rfl, iteNS rfl ?_⟩
    have S6 := S4.same (s5.trans s6)
    refine ⟨_, rfl, st, ga, ca, _, 15, rfl, S6, by decide, by decide, by decide, fun nn0 H7 nn1 nn2 S7 K7 => ?_⟩
    obtain ⟨nn, rfl⟩ : ∃ n : Nat, nn0 = (n : Int) := ⟨nn0.toNat, by omega⟩
    have h24 : nn ≤ 24 := by omega
    have R17 := R15.mv (s6.tups.trans (K7.tups S6))
    have R27 := R25.mv (s6.tups.trans (K7.tups S6))
    clear R1 R2 R15 R25
    have z1 : ∀ h ∈ one, h.length ≤ 1000 := fun h hh => Nat.le_trans (mt.g1 h hh).1 (by decide)
    have z2 : ∀ h ∈ other, h.length ≤ 1000 := fun h hh => Nat.le_trans (mt.g2 h hh).1 (by decide)
    refine ⟨_, rfl, _, rfl, q1, rs, one, nn, rfl, R17.at_, R17.h2, by omega, z1, h24, fun m1 xs H8 g8 a8 s8 n8 => ?_⟩
    refine ⟨_, rfl, _, rfl, q2, qs, other, nn, rfl, (R27.mv s8.tups).at_, (R27.mv s8.tups).h2, by omega, z2, h24, fun m2 ys H9 g9 a9 s9 n9 => ?_⟩
    have R19 := R17.mv (s8.trans s9).tups
    have R29 := R27.mv (s8.trans s9).tups
    have S9 := S7.same (s8.trans s9)
    have g8 := s9 _ _ g8
    have a8 := a8.mv s9.tups
    clear R17 R27
    have ek := mt.kept h24
    have lx : xs.length = (keptG one nn).length := a8.length.symm
    have ly : ys.length = xs.length := by rw [lx, ek, a9.length]
    refine ⟨_, rfl, rfl, _, rfl, iteF ?_⟩
    refine ⟨_, rfl, rfl, _, rfl, iteF ?_⟩
    refine ⟨_, rfl, m1, _, rfl, .inl (SqL.of g8), _, rfl, m2, _, rfl, .inl (SqL.of g9), rfl, _, rfl, iteNS (by rw [ly]) ?_⟩
    have kw1 := kept_way (rule := one) mt.J.2.2 h24
    have kw2 := kept_way (rule := other) mt.swap.J.2.2 h24
    refine ⟨_, rfl, _, rfl, q1, rs, one, (nn : Int), rfl, R19.at_, R19.h2, l1, mt.J, .inl ⟨nn, rfl, by omega, fun Ha sa => ?_⟩⟩
    rw [← kw1]
    refine ⟨_, rfl, m1, _, rfl, .inl (SqL.of (sa _ _ g8)), rfl, _, rfl, iteNS (by rw [lx]) ?_⟩
    refine ⟨_, rfl, _, rfl, q2, qs, other, (nn : Int), rfl, (R29.mv sa.tups).at_, (R29.mv sa.tups).h2, l2, mt.swap.J, .inl ⟨nn, rfl, by omega, fun Hb sb => ?_⟩⟩
    rw [← kw2]
    have sab := sa.trans sb
    refine ⟨_, rfl, m1, _, rfl, .inl (SqL.of (sab _ _ g8)), rfl, _, rfl, iteNS (by rw [lx, ek]) ?_⟩
    refine ⟨_, rfl, _, rfl, q1, rs, one, (nn : Int), rfl, (R19.mv sab.tups).at_, (R19.mv sab.tups).h2, by omega, .inl ⟨nn, rfl, h24, fun d Hc gd sc nd => ?_⟩⟩
    have sabc := sab.trans sc
    refine ⟨d, _, rfl, .inl (SqL.of gd), _, rfl, m1, _, rfl, .inl (SqL.of (sabc _ _ g8)), rfl, _, rfl, iteNS (by rw [parts_sum _ _ fun x hx => keptG_mem hx, lx]) ?_⟩
    refine ⟨_, rfl, _, rfl, q2, qs, other, (nn : Int), rfl, (R29.mv sabc.tups).at_, (R29.mv sabc.tups).h2, by omega, .inl ⟨nn, rfl, h24, fun d2 Hd gd2 sd nd2 => ?_⟩⟩
    have sX := sabc.trans sd
    refine ⟨d2, _, rfl, .inl (SqL.of gd2), _, rfl, m1, _, rfl, .inl (SqL.of (sX _ _ g8)), rfl, _, rfl, iteNS (by rw [parts_sum _ _ fun x hx => keptG_mem hx, lx, ek]) ?_⟩
    have RA := R19.mv sX.tups
    have RB := R29.mv sX.tups
    have SX := S9.same sX
    have gX := sX _ _ g8
    have aX := a8.mv sX.tups
    have gY := sX _ _ g9
    have aY := a9.mv sX.tups
    clear R19 R29 g8 a8 g9 a9 gd gd2 nd nd2 sabc sab sa sb sc sd
    refine ⟨_, rfl, _, .inl ⟨_, SqL.of gX, rfl⟩, ?_⟩
    obtain _ | ⟨x0, xr⟩ := xs
    · exact iteT (k _)
    refine iteF ?_
    generalize hxs : x0 :: xr = xs at gX aX lx ly
    have hx0 : 0 < xs.length := by rw [← hxs]; exact Nat.succ_pos _
    have hxl : xs.length ≤ 2 ^ 24 := by rw [lx]; exact Nat.le_trans (keptG_len _ _) (Nat.pow_le_pow_right (by decide) h24)
    refine ⟨_, rfl, _, rfl, m1, _, rfl, .inl (SqL.of gX), st, ga, ca, _, (xs.length : Int), rfl, SX, by decide, by omega, Int.le_trans (show (xs.length : Int) ≤ 2 ^ 24 by omega) (by decide), fun at0 HY a0 a1 SY KY => ?_⟩
    obtain ⟨at_, rfl⟩ : ∃ n : Nat, at0 = (n : Int) := ⟨at0.toNat, by omega⟩
    have hat : at_ < xs.length := by omega
    have RAY := RA.mv (KY.tups SX)
    have RBY := RB.mv (KY.tups SX)
    have aXY := aX.mv (KY.tups SX)
    have aYY := aY.mv (KY.tups SX)
    have gXY : HY m1 = some (.lst xs) := KY.at gX (S7.nin n8)
    have gYY : HY m2 = some (.lst ys) := KY.at gY ((S7.same s8).nin n9)
    refine ⟨_, rfl, _, rfl, by show 2 ≤ sizeLine; decide, fun t1 ht1 => ⟨_, rfl, _, rfl, by show 2 ≤ sizeLine; decide, fun t2 ht2 => ⟨by show 2 ≤ sizeLine; decide, fun t3 ht3 => ?_⟩⟩⟩
    have sZ := (Same.new (o := .tup [V.ref q1, V.ref m1]) ht1).trans ((Same.new (o := .tup [V.ref q2, V.ref m2]) ht2).trans (Same.new (o := .tup [V.ref t1, V.ref t2]) ht3))
    have gt3 := upd_same (H := upd (upd HY t1 (.tup [V.ref q1, V.ref m1])) t2 (.tup [V.ref q2, V.ref m2])) (a := t3) (o := .tup [V.ref t1, V.ref t2])
    have gt1 := ((Same.new (o := .tup [V.ref q2, V.ref m2]) ht2).trans (Same.new (o := .tup [V.ref t1, V.ref t2]) ht3)) _ _ (upd_same (H := HY) (a := t1) (o := .tup [V.ref q1, V.ref m1]))
    have gt2 := (Same.new (o := .tup [V.ref t1, V.ref t2]) ht3) _ _ (upd_same (H := upd HY t1 (.tup [V.ref q1, V.ref m1])) (a := t2) (o := .tup [V.ref q2, V.ref m2]))
    generalize upd (upd (upd HY t1 (.tup [V.ref q1, V.ref m1])) t2 (.tup [V.ref q2, V.ref m2])) t3 (.tup [V.ref t1, V.ref t2]) = HZ at sZ gt3 gt1 gt2
    have ex : ∀ (i : Nat) (x : V) (H' : Hp), [V.ref t1, V.ref t2][i]? = some x → Same HZ H' → ∃ (t q mm : Addr) (rs' xs' : List V) (rule : List (List Int)), x = .ref t ∧ H' t = some (.tup [.ref q, .ref mm]) ∧ RAt H' q rs' rule ∧ H' mm = some (.lst xs') ∧ All2 Tup1 H' (keptG rule nn) xs' ∧ at_ < xs'.length ∧ rule.length ≤ 60 := fun i x H' hx s' => by
      have s2 := sZ.trans s'
      match i, hx with
      | 0, hx =>
        cases hx
        exact ⟨t1, q1, m1, rs, xs, one, rfl, s' _ _ gt1, RAY.mv s2.tups, s2 _ _ gXY, aXY.mv s2.tups, hat, by omega⟩
      | 1, hx =>
        cases hx
        exact ⟨t2, q2, m2, qs, ys, other, rfl, s' _ _ gt2, RBY.mv s2.tups, s2 _ _ gYY, aYY.mv s2.tups, by omega, by omega⟩
      | i + 2, hx => cases hx
    refine ⟨t3, rfl, ⟨_, SqT.of gt3⟩, for_tup (xs := [V.ref t1, V.ref t2]) (fun i σ' H' => Same HZ H' ∧ ∃ v w, σ' = [some (.ref a), some (.ref st), some (.ref q1), some (.ref q2), some (.int far), some (.int many), some (.int nn), some (.ref m1), some (.ref m2), some (.int at_), v, w]) ⟨Same.refl _, _, _, rfl⟩ ?_ ?_ ?_⟩
    · rintro i σ' H' _ ⟨s', _⟩
      exact SqT.of (s' _ _ gt3)
    · rintro i x σ' H' hx ⟨s', v, w, rfl⟩
      obtain ⟨t, q, mm, rs', xs', rule, rfl, gt, R, gm, am, hat', hln⟩ := ex i x H' hx s'
      obtain ⟨z, hz⟩ : ∃ z, xs'[at_]? = some z := ⟨_, List.getElem?_eq_getElem hat'⟩
      obtain ⟨hs, hhs, hq, rfl, gq⟩ := am.get hz
      have ki := kept_is h24 (List.mem_of_getElem? hhs)
      refine ⟨t, _, rfl, SqT.of gt, rfl, _, _, rfl, _, _, rfl, rfl, ?_⟩
      refine ⟨_, rfl, _, rfl, _, rfl, mm, _, _, _, rfl, rfl, SqL.of gm, atI_nat hz, q, hq, rs', rule, hs, nn, at_, rfl, R.at_, R.h2, gq, hln, ki.1, h24, ki.2.2, hhs, fun i hi => kept_once h24 hhs hi, fun Ha sa => ?_⟩
      refine ⟨_, rfl, rfl, _, rfl, iteNS rfl ?_⟩
      refine ⟨_, rfl, _, rfl, _, rfl, q, rs', rule, hs, nn, at_, rfl, (R.mv sa.tups).at_, (R.mv sa.tups).h2, hln, h24, hhs, fun tq Hb gtq sb => ?_⟩
      refine ⟨_, rfl, _, rfl, mm, _, _, _, rfl, rfl, SqL.of (sb _ _ (sa _ _ gm)), atI_nat hz, hs, hs, ⟨tq, _, rfl, SqT.of gtq, all2_ints _⟩, ⟨hq, _, rfl, SqT.of (sb _ _ (sa _ _ gq)), all2_ints _⟩, _, rfl, iteNS rfl ?_⟩
      exact ⟨s'.trans (sa.trans sb), _, _, rfl⟩
    · rintro σ' H' _
      exact k _
end
theorem all_mk {l : PySem.W.OpenLaw} {w : World} {K : PySem.W.Frag} {h : Heap} {mg : Str → Option Value} {fa : Addr} (X : K.In h) (G : h.Ns mainGlobals mg) (hfa : mg "law" = some (.ref fa))
    {f0 : Addr} {od0 an0 : Option Addr} {sl0 : Array (Option Value)} {oc0 kV0 dc0 pm0 cd0 ct0 : Value}
    {f1 : Addr} {od1 an1 : Option Addr} {sl1 : Array (Option Value)} {oc1 kV1 dc1 pm1 cd1 ct1 : Value}
    {f2 : Addr} {od2 an2 : Option Addr} {sl2 : Array (Option Value)} {oc2 kV2 dc2 pm2 cd2 ct2 : Value}
    {f3 : Addr} {od3 an3 : Option Addr} {sl3 : Array (Option Value)} {oc3 kV3 dc3 pm3 cd3 ct3 : Value}
    {f4 : Addr} {od4 an4 : Option Addr} {sl4 : Array (Option Value)} {oc4 kV4 dc4 pm4 cd4 ct4 : Value}
    {f5 : Addr} {od5 an5 : Option Addr} {sl5 : Array (Option Value)} {oc5 kV5 dc5 pm5 cd5 ct5 : Value}
    {f6 : Addr} {od6 an6 : Option Addr} {sl6 : Array (Option Value)} {oc6 kV6 dc6 pm6 cd6 ct6 : Value}
    {f7 : Addr} {od7 an7 : Option Addr} {sl7 : Array (Option Value)} {oc7 kV7 dc7 pm7 cd7 ct7 : Value}
    {f8 : Addr} {od8 an8 : Option Addr} {sl8 : Array (Option Value)} {oc8 kV8 dc8 pm8 cd8 ct8 : Value}
    {f9 : Addr} {od9 an9 : Option Addr} {sl9 : Array (Option Value)} {oc9 kV9 dc9 pm9 cd9 ct9 : Value}
    {f10 : Addr} {od10 an10 : Option Addr} {sl10 : Array (Option Value)} {oc10 kV10 dc10 pm10 cd10 ct10 : Value}
    {f11 : Addr} {od11 an11 : Option Addr} {sl11 : Array (Option Value)} {oc11 kV11 dc11 pm11 cd11 ct11 : Value}
    {f12 : Addr} {od12 an12 : Option Addr} {sl12 : Array (Option Value)} {oc12 kV12 dc12 pm12 cd12 ct12 : Value}
    {f13 : Addr} {od13 an13 : Option Addr} {sl13 : Array (Option Value)} {oc13 kV13 dc13 pm13 cd13 ct13 : Value}
    {f14 : Addr} {od14 an14 : Option Addr} {sl14 : Array (Option Value)} {oc14 kV14 dc14 pm14 cd14 ct14 : Value}
    {f15 : Addr} {od15 an15 : Option Addr} {sl15 : Array (Option Value)} {oc15 kV15 dc15 pm15 cd15 ct15 : Value}
    {f16 : Addr} {od16 an16 : Option Addr} {sl16 : Array (Option Value)} {oc16 kV16 dc16 pm16 cd16 ct16 : Value}
    {f17 : Addr} {od17 an17 : Option Addr} {sl17 : Array (Option Value)} {oc17 kV17 dc17 pm17 cd17 ct17 : Value}
    {f18 : Addr} {od18 an18 : Option Addr} {sl18 : Array (Option Value)} {oc18 kV18 dc18 pm18 cd18 ct18 : Value}
    {f19 : Addr} {od19 an19 : Option Addr} {sl19 : Array (Option Value)} {oc19 kV19 dc19 pm19 cd19 ct19 : Value}
    {f20 : Addr} {od20 an20 : Option Addr} {sl20 : Array (Option Value)} {oc20 kV20 dc20 pm20 cd20 ct20 : Value}
    {f21 : Addr} {od21 an21 : Option Addr} {sl21 : Array (Option Value)} {oc21 kV21 dc21 pm21 cd21 ct21 : Value}
    {f22 : Addr} {od22 an22 : Option Addr} {sl22 : Array (Option Value)} {oc22 kV22 dc22 pm22 cd22 ct22 : Value}
    {f23 : Addr} {od23 an23 : Option Addr} {sl23 : Array (Option Value)} {oc23 kV23 dc23 pm23 cd23 ct23 : Value}
    {f24 : Addr} {od24 an24 : Option Addr} {sl24 : Array (Option Value)} {oc24 kV24 dc24 pm24 cd24 ct24 : Value}
    {f25 : Addr} {od25 an25 : Option Addr} {sl25 : Array (Option Value)} {oc25 kV25 dc25 pm25 cd25 ct25 : Value}
    {f26 : Addr} {od26 an26 : Option Addr} {sl26 : Array (Option Value)} {oc26 kV26 dc26 pm26 cd26 ct26 : Value}
    {f27 : Addr} {od27 an27 : Option Addr} {sl27 : Array (Option Value)} {oc27 kV27 dc27 pm27 cd27 ct27 : Value}
    {f28 : Addr} {od28 an28 : Option Addr} {sl28 : Array (Option Value)} {oc28 kV28 dc28 pm28 cd28 ct28 : Value}
    {f29 : Addr} {od29 an29 : Option Addr} {sl29 : Array (Option Value)} {oc29 kV29 dc29 pm29 cd29 ct29 : Value}
    {f30 : Addr} {od30 an30 : Option Addr} {sl30 : Array (Option Value)} {oc30 kV30 dc30 pm30 cd30 ct30 : Value}
    {f31 : Addr} {od31 an31 : Option Addr} {sl31 : Array (Option Value)} {oc31 kV31 dc31 pm31 cd31 ct31 : Value}
    {f32 : Addr} {od32 an32 : Option Addr} {sl32 : Array (Option Value)} {oc32 kV32 dc32 pm32 cd32 ct32 : Value}
    {f33 : Addr} {od33 an33 : Option Addr} {sl33 : Array (Option Value)} {oc33 kV33 dc33 pm33 cd33 ct33 : Value}
    {f34 : Addr} {od34 an34 : Option Addr} {sl34 : Array (Option Value)} {oc34 kV34 dc34 pm34 cd34 ct34 : Value}
    {q_NoSum : Addr}
    {q_NotKept : Addr}
    {q_NoPlace : Addr}
    (a0 : PySem.W.nsIn K mainGlobals "often" = some (some (.ref f0))) (l0 : K.lookup f0 = some ⟨oc0, od0, .func (PySem.W.fnOf "often" "often" (defArgs s_often) (defBody s_often) (defScope s_often) .none kV0 dc0 pm0 an0 cd0 ct0), sl0⟩) (c0 : PySem.W.codeIn K cd0 "often" = true) (k0 : PySem.W.keepIn K (.ref f0) = true)
    (a1 : PySem.W.nsIn K mainGlobals "lies_in" = some (some (.ref f1))) (l1 : K.lookup f1 = some ⟨oc1, od1, .func (PySem.W.fnOf "lies_in" "lies_in" (defArgs s_lies_in) (defBody s_lies_in) (defScope s_lies_in) .none kV1 dc1 pm1 an1 cd1 ct1), sl1⟩) (c1 : PySem.W.codeIn K cd1 "lies_in" = true) (k1 : PySem.W.keepIn K (.ref f1) = true)
    (a2 : PySem.W.nsIn K mainGlobals "all_in" = some (some (.ref f2))) (l2 : K.lookup f2 = some ⟨oc2, od2, .func (PySem.W.fnOf "all_in" "all_in" (defArgs s_all_in) (defBody s_all_in) (defScope s_all_in) .none kV2 dc2 pm2 an2 cd2 ct2), sl2⟩) (c2 : PySem.W.codeIn K cd2 "all_in" = true) (k2 : PySem.W.keepIn K (.ref f2) = true)
    (a3 : PySem.W.nsIn K mainGlobals "first_in" = some (some (.ref f3))) (l3 : K.lookup f3 = some ⟨oc3, od3, .func (PySem.W.fnOf "first_in" "first_in" (defArgs s_first_in) (defBody s_first_in) (defScope s_first_in) .none kV3 dc3 pm3 an3 cd3 ct3), sl3⟩) (c3 : PySem.W.codeIn K cd3 "first_in" = true) (k3 : PySem.W.keepIn K (.ref f3) = true)
    (a4 : PySem.W.nsIn K mainGlobals "keeps" = some (some (.ref f4))) (l4 : K.lookup f4 = some ⟨oc4, od4, .func (PySem.W.fnOf "keeps" "keeps" (defArgs s_keeps) (defBody s_keeps) (defScope s_keeps) .none kV4 dc4 pm4 an4 cd4 ct4), sl4⟩) (c4 : PySem.W.codeIn K cd4 "keeps" = true) (k4 : PySem.W.keepIn K (.ref f4) = true)
    (a5 : PySem.W.nsIn K mainGlobals "refuse_beyond" = some (some (.ref f5))) (l5 : K.lookup f5 = some ⟨oc5, od5, .func (PySem.W.fnOf "refuse_beyond" "refuse_beyond" (defArgs s_refuse_beyond) (defBody s_refuse_beyond) (defScope s_refuse_beyond) .none kV5 dc5 pm5 an5 cd5 ct5), sl5⟩) (c5 : PySem.W.codeIn K cd5 "refuse_beyond" = true) (k5 : PySem.W.keepIn K (.ref f5) = true)
    (a6 : PySem.W.nsIn K mainGlobals "partings_to" = some (some (.ref f6))) (l6 : K.lookup f6 = some ⟨oc6, od6, .func (PySem.W.fnOf "partings_to" "partings_to" (defArgs s_partings_to) (defBody s_partings_to) (defScope s_partings_to) .none kV6 dc6 pm6 an6 cd6 ct6), sl6⟩) (c6 : PySem.W.codeIn K cd6 "partings_to" = true) (k6 : PySem.W.keepIn K (.ref f6) = true)
    (a7 : PySem.W.nsIn K mainGlobals "partings_of" = some (some (.ref f7))) (l7 : K.lookup f7 = some ⟨oc7, od7, .func (PySem.W.fnOf "partings_of" "partings_of" (defArgs s_partings_of) (defBody s_partings_of) (defScope s_partings_of) .none kV7 dc7 pm7 an7 cd7 ct7), sl7⟩) (c7 : PySem.W.codeIn K cd7 "partings_of" = true) (k7 : PySem.W.keepIn K (.ref f7) = true)
    (a8 : PySem.W.nsIn K mainGlobals "kept_of" = some (some (.ref f8))) (l8 : K.lookup f8 = some ⟨oc8, od8, .func (PySem.W.fnOf "kept_of" "kept_of" (defArgs s_kept_of) (defBody s_kept_of) (defScope s_kept_of) .none kV8 dc8 pm8 an8 cd8 ct8), sl8⟩) (c8 : PySem.W.codeIn K cd8 "kept_of" = true) (k8 : PySem.W.keepIn K (.ref f8) = true)
    (a9 : PySem.W.nsIn K mainGlobals "by_parts" = some (some (.ref f9))) (l9 : K.lookup f9 = some ⟨oc9, od9, .func (PySem.W.fnOf "by_parts" "by_parts" (defArgs s_by_parts) (defBody s_by_parts) (defScope s_by_parts) .none kV9 dc9 pm9 an9 cd9 ct9), sl9⟩) (c9 : PySem.W.codeIn K cd9 "by_parts" = true) (k9 : PySem.W.keepIn K (.ref f9) = true)
    (a10 : PySem.W.nsIn K mainGlobals "sum_of" = some (some (.ref f10))) (l10 : K.lookup f10 = some ⟨oc10, od10, .func (PySem.W.fnOf "sum_of" "sum_of" (defArgs s_sum_of) (defBody s_sum_of) (defScope s_sum_of) .none kV10 dc10 pm10 an10 cd10 ct10), sl10⟩) (c10 : PySem.W.codeIn K cd10 "sum_of" = true) (k10 : PySem.W.keepIn K (.ref f10) = true)
    (a11 : PySem.W.nsIn K mainGlobals "refuse_unkept" = some (some (.ref f11))) (l11 : K.lookup f11 = some ⟨oc11, od11, .func (PySem.W.fnOf "refuse_unkept" "refuse_unkept" (defArgs s_refuse_unkept) (defBody s_refuse_unkept) (defScope s_refuse_unkept) .none kV11 dc11 pm11 an11 cd11 ct11), sl11⟩) (c11 : PySem.W.codeIn K cd11 "refuse_unkept" = true) (k11 : PySem.W.keepIn K (.ref f11) = true)
    (a12 : PySem.W.nsIn K mainGlobals "place_of" = some (some (.ref f12))) (l12 : K.lookup f12 = some ⟨oc12, od12, .func (PySem.W.fnOf "place_of" "place_of" (defArgs s_place_of) (defBody s_place_of) (defScope s_place_of) .none kV12 dc12 pm12 an12 cd12 ct12), sl12⟩) (c12 : PySem.W.codeIn K cd12 "place_of" = true) (k12 : PySem.W.keepIn K (.ref f12) = true)
    (a13 : PySem.W.nsIn K mainGlobals "told_at" = some (some (.ref f13))) (l13 : K.lookup f13 = some ⟨oc13, od13, .func (PySem.W.fnOf "told_at" "told_at" (defArgs s_told_at) (defBody s_told_at) (defScope s_told_at) .none kV13 dc13 pm13 an13 cd13 ct13), sl13⟩) (c13 : PySem.W.codeIn K cd13 "told_at" = true) (k13 : PySem.W.keepIn K (.ref f13) = true)
    (a14 : PySem.W.nsIn K mainGlobals "choices_among" = some (some (.ref f14))) (l14 : K.lookup f14 = some ⟨oc14, od14, .func (PySem.W.fnOf "choices_among" "choices_among" (defArgs s_choices_among) (defBody s_choices_among) (defScope s_choices_among) .none kV14 dc14 pm14 an14 cd14 ct14), sl14⟩) (c14 : PySem.W.codeIn K cd14 "choices_among" = true) (k14 : PySem.W.keepIn K (.ref f14) = true)
    (a15 : PySem.W.nsIn K mainGlobals "choices_of" = some (some (.ref f15))) (l15 : K.lookup f15 = some ⟨oc15, od15, .func (PySem.W.fnOf "choices_of" "choices_of" (defArgs s_choices_of) (defBody s_choices_of) (defScope s_choices_of) .none kV15 dc15 pm15 an15 cd15 ct15), sl15⟩) (c15 : PySem.W.codeIn K cd15 "choices_of" = true) (k15 : PySem.W.keepIn K (.ref f15) = true)
    (a16 : PySem.W.nsIn K mainGlobals "unlike_parts" = some (some (.ref f16))) (l16 : K.lookup f16 = some ⟨oc16, od16, .func (PySem.W.fnOf "unlike_parts" "unlike_parts" (defArgs s_unlike_parts) (defBody s_unlike_parts) (defScope s_unlike_parts) .none kV16 dc16 pm16 an16 cd16 ct16), sl16⟩) (c16 : PySem.W.codeIn K cd16 "unlike_parts" = true) (k16 : PySem.W.keepIn K (.ref f16) = true)
    (a17 : PySem.W.nsIn K mainGlobals "joined" = some (some (.ref f17))) (l17 : K.lookup f17 = some ⟨oc17, od17, .func (PySem.W.fnOf "joined" "joined" (defArgs s_joined) (defBody s_joined) (defScope s_joined) .none kV17 dc17 pm17 an17 cd17 ct17), sl17⟩) (c17 : PySem.W.codeIn K cd17 "joined" = true) (k17 : PySem.W.keepIn K (.ref f17) = true)
    (a18 : PySem.W.nsIn K mainGlobals "joined_of" = some (some (.ref f18))) (l18 : K.lookup f18 = some ⟨oc18, od18, .func (PySem.W.fnOf "joined_of" "joined_of" (defArgs s_joined_of) (defBody s_joined_of) (defScope s_joined_of) .none kV18 dc18 pm18 an18 cd18 ct18), sl18⟩) (c18 : PySem.W.codeIn K cd18 "joined_of" = true) (k18 : PySem.W.keepIn K (.ref f18) = true)
    (a19 : PySem.W.nsIn K mainGlobals "sign_of" = some (some (.ref f19))) (l19 : K.lookup f19 = some ⟨oc19, od19, .func (PySem.W.fnOf "sign_of" "sign_of" (defArgs s_sign_of) (defBody s_sign_of) (defScope s_sign_of) .none kV19 dc19 pm19 an19 cd19 ct19), sl19⟩) (c19 : PySem.W.codeIn K cd19 "sign_of" = true) (k19 : PySem.W.keepIn K (.ref f19) = true)
    (a20 : PySem.W.nsIn K mainGlobals "next_way" = some (some (.ref f20))) (l20 : K.lookup f20 = some ⟨oc20, od20, .func (PySem.W.fnOf "next_way" "next_way" (defArgs s_next_way) (defBody s_next_way) (defScope s_next_way) .none kV20 dc20 pm20 an20 cd20 ct20), sl20⟩) (c20 : PySem.W.codeIn K cd20 "next_way" = true) (k20 : PySem.W.keepIn K (.ref f20) = true)
    (a21 : PySem.W.nsIn K mainGlobals "ways_to" = some (some (.ref f21))) (l21 : K.lookup f21 = some ⟨oc21, od21, .func (PySem.W.fnOf "ways_to" "ways_to" (defArgs s_ways_to) (defBody s_ways_to) (defScope s_ways_to) .none kV21 dc21 pm21 an21 cd21 ct21), sl21⟩) (c21 : PySem.W.codeIn K cd21 "ways_to" = true) (k21 : PySem.W.keepIn K (.ref f21) = true)
    (a22 : PySem.W.nsIn K mainGlobals "count_of" = some (some (.ref f22))) (l22 : K.lookup f22 = some ⟨oc22, od22, .func (PySem.W.fnOf "count_of" "count_of" (defArgs s_count_of) (defBody s_count_of) (defScope s_count_of) .none kV22 dc22 pm22 an22 cd22 ct22), sl22⟩) (c22 : PySem.W.codeIn K cd22 "count_of" = true) (k22 : PySem.W.keepIn K (.ref f22) = true)
    (a23 : PySem.W.nsIn K mainGlobals "_law_start" = some (some (.ref f23))) (l23 : K.lookup f23 = some ⟨oc23, od23, .func (PySem.W.fnOf "_law_start" "_law_start" (defArgs s__law_start) (defBody s__law_start) (defScope s__law_start) .none kV23 dc23 pm23 an23 cd23 ct23), sl23⟩) (c23 : PySem.W.codeIn K cd23 "_law_start" = true) (k23 : PySem.W.keepIn K (.ref f23) = true)
    (a24 : PySem.W.nsIn K mainGlobals "_law_mix" = some (some (.ref f24))) (l24 : K.lookup f24 = some ⟨oc24, od24, .func (PySem.W.fnOf "_law_mix" "_law_mix" (defArgs s__law_mix) (defBody s__law_mix) (defScope s__law_mix) .none kV24 dc24 pm24 an24 cd24 ct24), sl24⟩) (c24 : PySem.W.codeIn K cd24 "_law_mix" = true) (k24 : PySem.W.keepIn K (.ref f24) = true)
    (a25 : PySem.W.nsIn K mainGlobals "_law_draw" = some (some (.ref f25))) (l25 : K.lookup f25 = some ⟨oc25, od25, .func (PySem.W.fnOf "_law_draw" "_law_draw" (defArgs s__law_draw) (defBody s__law_draw) (defScope s__law_draw) .none kV25 dc25 pm25 an25 cd25 ct25), sl25⟩) (c25 : PySem.W.codeIn K cd25 "_law_draw" = true) (k25 : PySem.W.keepIn K (.ref f25) = true)
    (a26 : PySem.W.nsIn K mainGlobals "_law_lane" = some (some (.ref f26))) (l26 : K.lookup f26 = some ⟨oc26, od26, .func (PySem.W.fnOf "_law_lane" "_law_lane" (defArgs s__law_lane) (defBody s__law_lane) (defScope s__law_lane) .none kV26 dc26 pm26 an26 cd26 ct26), sl26⟩) (c26 : PySem.W.codeIn K cd26 "_law_lane" = true) (k26 : PySem.W.keepIn K (.ref f26) = true)
    (a27 : PySem.W.nsIn K mainGlobals "_law_rule" = some (some (.ref f27))) (l27 : K.lookup f27 = some ⟨oc27, od27, .func (PySem.W.fnOf "_law_rule" "_law_rule" (defArgs s__law_rule) (defBody s__law_rule) (defScope s__law_rule) .none kV27 dc27 pm27 an27 cd27 ct27), sl27⟩) (c27 : PySem.W.codeIn K cd27 "_law_rule" = true) (k27 : PySem.W.keepIn K (.ref f27) = true)
    (a28 : PySem.W.nsIn K mainGlobals "_law_matched" = some (some (.ref f28))) (l28 : K.lookup f28 = some ⟨oc28, od28, .func (PySem.W.fnOf "_law_matched" "_law_matched" (defArgs s__law_matched) (defBody s__law_matched) (defScope s__law_matched) .none kV28 dc28 pm28 an28 cd28 ct28), sl28⟩) (c28 : PySem.W.codeIn K cd28 "_law_matched" = true) (k28 : PySem.W.keepIn K (.ref f28) = true)
    (a29 : PySem.W.nsIn K mainGlobals "_law_whole" = some (some (.ref f29))) (l29 : K.lookup f29 = some ⟨oc29, od29, .func (PySem.W.fnOf "_law_whole" "_law_whole" (defArgs s__law_whole) (defBody s__law_whole) (defScope s__law_whole) .none kV29 dc29 pm29 an29 cd29 ct29), sl29⟩) (c29 : PySem.W.codeIn K cd29 "_law_whole" = true) (k29 : PySem.W.keepIn K (.ref f29) = true)
    (a30 : PySem.W.nsIn K mainGlobals "_law_lies" = some (some (.ref f30))) (l30 : K.lookup f30 = some ⟨oc30, od30, .func (PySem.W.fnOf "_law_lies" "_law_lies" (defArgs s__law_lies) (defBody s__law_lies) (defScope s__law_lies) .none kV30 dc30 pm30 an30 cd30 ct30), sl30⟩) (c30 : PySem.W.codeIn K cd30 "_law_lies" = true) (k30 : PySem.W.keepIn K (.ref f30) = true)
    (a31 : PySem.W.nsIn K mainGlobals "_law_first" = some (some (.ref f31))) (l31 : K.lookup f31 = some ⟨oc31, od31, .func (PySem.W.fnOf "_law_first" "_law_first" (defArgs s__law_first) (defBody s__law_first) (defScope s__law_first) .none kV31 dc31 pm31 an31 cd31 ct31), sl31⟩) (c31 : PySem.W.codeIn K cd31 "_law_first" = true) (k31 : PySem.W.keepIn K (.ref f31) = true)
    (a32 : PySem.W.nsIn K mainGlobals "_law_row" = some (some (.ref f32))) (l32 : K.lookup f32 = some ⟨oc32, od32, .func (PySem.W.fnOf "_law_row" "_law_row" (defArgs s__law_row) (defBody s__law_row) (defScope s__law_row) .none kV32 dc32 pm32 an32 cd32 ct32), sl32⟩) (c32 : PySem.W.codeIn K cd32 "_law_row" = true) (k32 : PySem.W.keepIn K (.ref f32) = true)
    (a33 : PySem.W.nsIn K mainGlobals "_law_listed" = some (some (.ref f33))) (l33 : K.lookup f33 = some ⟨oc33, od33, .func (PySem.W.fnOf "_law_listed" "_law_listed" (defArgs s__law_listed) (defBody s__law_listed) (defScope s__law_listed) .none kV33 dc33 pm33 an33 cd33 ct33), sl33⟩) (c33 : PySem.W.codeIn K cd33 "_law_listed" = true) (k33 : PySem.W.keepIn K (.ref f33) = true)
    (a34 : PySem.W.nsIn K mainGlobals "law" = some (some (.ref f34))) (l34 : K.lookup f34 = some ⟨oc34, od34, .func (PySem.W.fnOf "law" "law" (defArgs s_law) (defBody s_law) (defScope s_law) .none kV34 dc34 pm34 an34 cd34 ct34), sl34⟩) (c34 : PySem.W.codeIn K cd34 "law" = true) (k34 : PySem.W.keepIn K (.ref f34) = true)
    (z_all : PySem.W.nsIn K mainGlobals "all" = some none)
    (z_bool : PySem.W.nsIn K mainGlobals "bool" = some none)
    (z_enumerate : PySem.W.nsIn K mainGlobals "enumerate" = some none)
    (z_int : PySem.W.nsIn K mainGlobals "int" = some none)
    (z_isinstance : PySem.W.nsIn K mainGlobals "isinstance" = some none)
    (z_len : PySem.W.nsIn K mainGlobals "len" = some none)
    (z_list : PySem.W.nsIn K mainGlobals "list" = some none)
    (z_max : PySem.W.nsIn K mainGlobals "max" = some none)
    (z_min : PySem.W.nsIn K mainGlobals "min" = some none)
    (z_range : PySem.W.nsIn K mainGlobals "range" = some none)
    (z_sorted : PySem.W.nsIn K mainGlobals "sorted" = some none)
    (z_sum : PySem.W.nsIn K mainGlobals "sum" = some none)
    (z_tuple : PySem.W.nsIn K mainGlobals "tuple" = some none)
    (z_zip : PySem.W.nsIn K mainGlobals "zip" = some none)
    {tk_MOST_LISTED : Tok} (w_MOST_LISTED : PySem.W.nsIn K mainGlobals "MOST_LISTED" = some (some (.int 24 tk_MOST_LISTED)))
    {tk_MOST_COUNTED : Tok} (w_MOST_COUNTED : PySem.W.nsIn K mainGlobals "MOST_COUNTED" = some (some (.int 400 tk_MOST_COUNTED)))
    (m_NoSum : PySem.W.nsIn K mainGlobals "NoSum" = some (some (.ref q_NoSum)))
    (m_NotKept : PySem.W.nsIn K mainGlobals "NotKept" = some (some (.ref q_NotKept)))
    (m_NoPlace : PySem.W.nsIn K mainGlobals "NoPlace" = some (some (.ref q_NoPlace)))
    (x_NoSum : PySem.W.excIn K q_NoSum bmV "ValueError.__new__" = true) (y_NoSum : PySem.W.keepIn K (.ref q_NoSum) = true)
    (e1_NoSum : PySem.W.findIn K (.ref q_NoSum) "__getattribute__" = some (some (.builtin "BaseException.__getattribute__"))) (e2_NoSum : PySem.W.findIn K (.ref q_NoSum) "__getattr__" = some none) (e3_NoSum : PySem.W.findIn K (.ref q_NoSum) "__class__" = some (some (.builtin "object.__class__"))) (e4_NoSum : PySem.W.specialIn K (.builtin "object.__class__") "__get__" = some (some (.builtin "getset_descriptor.__get__"))) (e5_NoSum : PySem.W.takesIn K (.builtin "object.__class__") = some true) (e6_NoSum : PySem.W.mroIn K q_NoSum (.type "object") = some true) (e7_NoSum : PySem.W.mroIn K q_NoSum (.type "BaseException") = some true) :
    ∃ fd : FuncData, (∀ (s : Shared) (v : Value), BindsTo s fd ⟨[v], []⟩ [("_law_script", v)]) ∧ ∀ base : Heap, K.In base → base.Ns mainGlobals mg → FnOk l.prog w K mg base CX0 31 fa fd ["_law_script"] (sp_law K) := by
  have e := hfa.symm.trans (PySem.W.mg_of X G a34)
  cases e
  have T : Txt K mg ⟨f0, PySem.W.fnOf "often" "often" (defArgs s_often) (defBody s_often) (defScope s_often) .none kV0 dc0 pm0 an0 cd0 ct0, f1, PySem.W.fnOf "lies_in" "lies_in" (defArgs s_lies_in) (defBody s_lies_in) (defScope s_lies_in) .none kV1 dc1 pm1 an1 cd1 ct1, f2, PySem.W.fnOf "all_in" "all_in" (defArgs s_all_in) (defBody s_all_in) (defScope s_all_in) .none kV2 dc2 pm2 an2 cd2 ct2, f3, PySem.W.fnOf "first_in" "first_in" (defArgs s_first_in) (defBody s_first_in) (defScope s_first_in) .none kV3 dc3 pm3 an3 cd3 ct3, f4, PySem.W.fnOf "keeps" "keeps" (defArgs s_keeps) (defBody s_keeps) (defScope s_keeps) .none kV4 dc4 pm4 an4 cd4 ct4, f5, PySem.W.fnOf "refuse_beyond" "refuse_beyond" (defArgs s_refuse_beyond) (defBody s_refuse_beyond) (defScope s_refuse_beyond) .none kV5 dc5 pm5 an5 cd5 ct5, f6, PySem.W.fnOf "partings_to" "partings_to" (defArgs s_partings_to) (defBody s_partings_to) (defScope s_partings_to) .none kV6 dc6 pm6 an6 cd6 ct6, f7, PySem.W.fnOf "partings_of" "partings_of" (defArgs s_partings_of) (defBody s_partings_of) (defScope s_partings_of) .none kV7 dc7 pm7 an7 cd7 ct7, f8, PySem.W.fnOf "kept_of" "kept_of" (defArgs s_kept_of) (defBody s_kept_of) (defScope s_kept_of) .none kV8 dc8 pm8 an8 cd8 ct8, f9, PySem.W.fnOf "by_parts" "by_parts" (defArgs s_by_parts) (defBody s_by_parts) (defScope s_by_parts) .none kV9 dc9 pm9 an9 cd9 ct9, f10, PySem.W.fnOf "sum_of" "sum_of" (defArgs s_sum_of) (defBody s_sum_of) (defScope s_sum_of) .none kV10 dc10 pm10 an10 cd10 ct10, f11, PySem.W.fnOf "refuse_unkept" "refuse_unkept" (defArgs s_refuse_unkept) (defBody s_refuse_unkept) (defScope s_refuse_unkept) .none kV11 dc11 pm11 an11 cd11 ct11, f12, PySem.W.fnOf "place_of" "place_of" (defArgs s_place_of) (defBody s_place_of) (defScope s_place_of) .none kV12 dc12 pm12 an12 cd12 ct12, f13, PySem.W.fnOf "told_at" "told_at" (defArgs s_told_at) (defBody s_told_at) (defScope s_told_at) .none kV13 dc13 pm13 an13 cd13 ct13, f14, PySem.W.fnOf "choices_among" "choices_among" (defArgs s_choices_among) (defBody s_choices_among) (defScope s_choices_among) .none kV14 dc14 pm14 an14 cd14 ct14, f15, PySem.W.fnOf "choices_of" "choices_of" (defArgs s_choices_of) (defBody s_choices_of) (defScope s_choices_of) .none kV15 dc15 pm15 an15 cd15 ct15, f16, PySem.W.fnOf "unlike_parts" "unlike_parts" (defArgs s_unlike_parts) (defBody s_unlike_parts) (defScope s_unlike_parts) .none kV16 dc16 pm16 an16 cd16 ct16, f17, PySem.W.fnOf "joined" "joined" (defArgs s_joined) (defBody s_joined) (defScope s_joined) .none kV17 dc17 pm17 an17 cd17 ct17, f18, PySem.W.fnOf "joined_of" "joined_of" (defArgs s_joined_of) (defBody s_joined_of) (defScope s_joined_of) .none kV18 dc18 pm18 an18 cd18 ct18, f19, PySem.W.fnOf "sign_of" "sign_of" (defArgs s_sign_of) (defBody s_sign_of) (defScope s_sign_of) .none kV19 dc19 pm19 an19 cd19 ct19, f20, PySem.W.fnOf "next_way" "next_way" (defArgs s_next_way) (defBody s_next_way) (defScope s_next_way) .none kV20 dc20 pm20 an20 cd20 ct20, f21, PySem.W.fnOf "ways_to" "ways_to" (defArgs s_ways_to) (defBody s_ways_to) (defScope s_ways_to) .none kV21 dc21 pm21 an21 cd21 ct21, f22, PySem.W.fnOf "count_of" "count_of" (defArgs s_count_of) (defBody s_count_of) (defScope s_count_of) .none kV22 dc22 pm22 an22 cd22 ct22, f23, PySem.W.fnOf "_law_start" "_law_start" (defArgs s__law_start) (defBody s__law_start) (defScope s__law_start) .none kV23 dc23 pm23 an23 cd23 ct23, f24, PySem.W.fnOf "_law_mix" "_law_mix" (defArgs s__law_mix) (defBody s__law_mix) (defScope s__law_mix) .none kV24 dc24 pm24 an24 cd24 ct24, f25, PySem.W.fnOf "_law_draw" "_law_draw" (defArgs s__law_draw) (defBody s__law_draw) (defScope s__law_draw) .none kV25 dc25 pm25 an25 cd25 ct25, f26, PySem.W.fnOf "_law_lane" "_law_lane" (defArgs s__law_lane) (defBody s__law_lane) (defScope s__law_lane) .none kV26 dc26 pm26 an26 cd26 ct26, f27, PySem.W.fnOf "_law_rule" "_law_rule" (defArgs s__law_rule) (defBody s__law_rule) (defScope s__law_rule) .none kV27 dc27 pm27 an27 cd27 ct27, f28, PySem.W.fnOf "_law_matched" "_law_matched" (defArgs s__law_matched) (defBody s__law_matched) (defScope s__law_matched) .none kV28 dc28 pm28 an28 cd28 ct28, f29, PySem.W.fnOf "_law_whole" "_law_whole" (defArgs s__law_whole) (defBody s__law_whole) (defScope s__law_whole) .none kV29 dc29 pm29 an29 cd29 ct29, f30, PySem.W.fnOf "_law_lies" "_law_lies" (defArgs s__law_lies) (defBody s__law_lies) (defScope s__law_lies) .none kV30 dc30 pm30 an30 cd30 ct30, f31, PySem.W.fnOf "_law_first" "_law_first" (defArgs s__law_first) (defBody s__law_first) (defScope s__law_first) .none kV31 dc31 pm31 an31 cd31 ct31, f32, PySem.W.fnOf "_law_row" "_law_row" (defArgs s__law_row) (defBody s__law_row) (defScope s__law_row) .none kV32 dc32 pm32 an32 cd32 ct32, f33, PySem.W.fnOf "_law_listed" "_law_listed" (defArgs s__law_listed) (defBody s__law_listed) (defScope s__law_listed) .none kV33 dc33 pm33 an33 cd33 ct33, fa, PySem.W.fnOf "law" "law" (defArgs s_law) (defBody s_law) (defScope s_law) .none kV34 dc34 pm34 an34 cd34 ct34, q_NoSum, q_NotKept, q_NoPlace⟩ := ⟨fun_mk (st := s_often) l0 c0 k0,
    (fun_mk (st := s_often) l0 c0 k0).binds (fun _ _ _ _ _ _ us hl => match us, hl with | [_, _], _ => rfl),
    PySem.W.mg_of X G a0,
    fun_mk (st := s_lies_in) l1 c1 k1,
    (fun_mk (st := s_lies_in) l1 c1 k1).binds (fun _ _ _ _ _ _ us hl => match us, hl with | [_, _], _ => rfl),
    PySem.W.mg_of X G a1,
    fun_mk (st := s_all_in) l2 c2 k2,
    (fun_mk (st := s_all_in) l2 c2 k2).binds (fun _ _ _ _ _ _ us hl => match us, hl with | [_, _], _ => rfl),
    PySem.W.mg_of X G a2,
    fun_mk (st := s_first_in) l3 c3 k3,
    (fun_mk (st := s_first_in) l3 c3 k3).binds (fun _ _ _ _ _ _ us hl => match us, hl with | [_, _], _ => rfl),
    PySem.W.mg_of X G a3,
    fun_mk (st := s_keeps) l4 c4 k4,
    (fun_mk (st := s_keeps) l4 c4 k4).binds (fun _ _ _ _ _ _ us hl => match us, hl with | [_, _], _ => rfl),
    PySem.W.mg_of X G a4,
    fun_mk (st := s_refuse_beyond) l5 c5 k5,
    (fun_mk (st := s_refuse_beyond) l5 c5 k5).binds (fun _ _ _ _ _ _ us hl => match us, hl with | [_, _], _ => rfl),
    PySem.W.mg_of X G a5,
    fun_mk (st := s_partings_to) l6 c6 k6,
    (fun_mk (st := s_partings_to) l6 c6 k6).binds (fun _ _ _ _ _ _ us hl => match us, hl with | [_, _], _ => rfl),
    PySem.W.mg_of X G a6,
    fun_mk (st := s_partings_of) l7 c7 k7,
    (fun_mk (st := s_partings_of) l7 c7 k7).binds (fun _ _ _ _ _ _ us hl => match us, hl with | [_], _ => rfl),
    PySem.W.mg_of X G a7,
    fun_mk (st := s_kept_of) l8 c8 k8,
    (fun_mk (st := s_kept_of) l8 c8 k8).binds (fun _ _ _ _ _ _ us hl => match us, hl with | [_, _], _ => rfl),
    PySem.W.mg_of X G a8,
    fun_mk (st := s_by_parts) l9 c9 k9,
    (fun_mk (st := s_by_parts) l9 c9 k9).binds (fun _ _ _ _ _ _ us hl => match us, hl with | [_, _], _ => rfl),
    PySem.W.mg_of X G a9,
    fun_mk (st := s_sum_of) l10 c10 k10,
    (fun_mk (st := s_sum_of) l10 c10 k10).binds (fun _ _ _ _ _ _ us hl => match us, hl with | [_], _ => rfl),
    PySem.W.mg_of X G a10,
    fun_mk (st := s_refuse_unkept) l11 c11 k11,
    (fun_mk (st := s_refuse_unkept) l11 c11 k11).binds (fun _ _ _ _ _ _ us hl => match us, hl with | [_, _], _ => rfl),
    PySem.W.mg_of X G a11,
    fun_mk (st := s_place_of) l12 c12 k12,
    (fun_mk (st := s_place_of) l12 c12 k12).binds (fun _ _ _ _ _ _ us hl => match us, hl with | [_, _], _ => rfl),
    PySem.W.mg_of X G a12,
    fun_mk (st := s_told_at) l13 c13 k13,
    (fun_mk (st := s_told_at) l13 c13 k13).binds (fun _ _ _ _ _ _ us hl => match us, hl with | [_, _, _], _ => rfl),
    PySem.W.mg_of X G a13,
    fun_mk (st := s_choices_among) l14 c14 k14,
    (fun_mk (st := s_choices_among) l14 c14 k14).binds (fun _ _ _ _ _ _ us hl => match us, hl with | [_], _ => rfl),
    PySem.W.mg_of X G a14,
    fun_mk (st := s_choices_of) l15 c15 k15,
    (fun_mk (st := s_choices_of) l15 c15 k15).binds (fun _ _ _ _ _ _ us hl => match us, hl with | [_], _ => rfl),
    PySem.W.mg_of X G a15,
    fun_mk (st := s_unlike_parts) l16 c16 k16,
    (fun_mk (st := s_unlike_parts) l16 c16 k16).binds (fun _ _ _ _ _ _ us hl => match us, hl with | [_], _ => rfl),
    PySem.W.mg_of X G a16,
    fun_mk (st := s_joined) l17 c17 k17,
    (fun_mk (st := s_joined) l17 c17 k17).binds (fun _ _ _ _ _ _ us hl => match us, hl with | [_], _ => rfl),
    PySem.W.mg_of X G a17,
    fun_mk (st := s_joined_of) l18 c18 k18,
    (fun_mk (st := s_joined_of) l18 c18 k18).binds (fun _ _ _ _ _ _ us hl => match us, hl with | [_, _], _ => rfl),
    PySem.W.mg_of X G a18,
    fun_mk (st := s_sign_of) l19 c19 k19,
    (fun_mk (st := s_sign_of) l19 c19 k19).binds (fun _ _ _ _ _ _ us hl => match us, hl with | [_], _ => rfl),
    PySem.W.mg_of X G a19,
    fun_mk (st := s_next_way) l20 c20 k20,
    (fun_mk (st := s_next_way) l20 c20 k20).binds (fun _ _ _ _ _ _ us hl => match us, hl with | [_], _ => rfl),
    PySem.W.mg_of X G a20,
    fun_mk (st := s_ways_to) l21 c21 k21,
    (fun_mk (st := s_ways_to) l21 c21 k21).binds (fun _ _ _ _ _ _ us hl => match us, hl with | [_], _ => rfl),
    PySem.W.mg_of X G a21,
    fun_mk (st := s_count_of) l22 c22 k22,
    (fun_mk (st := s_count_of) l22 c22 k22).binds (fun _ _ _ _ _ _ us hl => match us, hl with | [_, _], _ => rfl),
    PySem.W.mg_of X G a22,
    fun_mk (st := s__law_start) l23 c23 k23,
    (fun_mk (st := s__law_start) l23 c23 k23).binds (fun _ _ _ _ _ _ us hl => match us, hl with | [_], _ => rfl),
    PySem.W.mg_of X G a23,
    fun_mk (st := s__law_mix) l24 c24 k24,
    (fun_mk (st := s__law_mix) l24 c24 k24).binds (fun _ _ _ _ _ _ us hl => match us, hl with | [_], _ => rfl),
    PySem.W.mg_of X G a24,
    fun_mk (st := s__law_draw) l25 c25 k25,
    (fun_mk (st := s__law_draw) l25 c25 k25).binds (fun _ _ _ _ _ _ us hl => match us, hl with | [_, _], _ => rfl),
    PySem.W.mg_of X G a25,
    fun_mk (st := s__law_lane) l26 c26 k26,
    (fun_mk (st := s__law_lane) l26 c26 k26).binds (fun _ _ _ _ _ _ us hl => match us, hl with | [_, _, _, _], _ => rfl),
    PySem.W.mg_of X G a26,
    fun_mk (st := s__law_rule) l27 c27 k27,
    (fun_mk (st := s__law_rule) l27 c27 k27).binds (fun _ _ _ _ _ _ us hl => match us, hl with | [_], _ => rfl),
    PySem.W.mg_of X G a27,
    fun_mk (st := s__law_matched) l28 c28 k28,
    (fun_mk (st := s__law_matched) l28 c28 k28).binds (fun _ _ _ _ _ _ us hl => match us, hl with | [_, _], _ => rfl),
    PySem.W.mg_of X G a28,
    fun_mk (st := s__law_whole) l29 c29 k29,
    (fun_mk (st := s__law_whole) l29 c29 k29).binds (fun _ _ _ _ _ _ us hl => match us, hl with | [_], _ => rfl),
    PySem.W.mg_of X G a29,
    fun_mk (st := s__law_lies) l30 c30 k30,
    (fun_mk (st := s__law_lies) l30 c30 k30).binds (fun _ _ _ _ _ _ us hl => match us, hl with | [_, _], _ => rfl),
    PySem.W.mg_of X G a30,
    fun_mk (st := s__law_first) l31 c31 k31,
    (fun_mk (st := s__law_first) l31 c31 k31).binds (fun _ _ _ _ _ _ us hl => match us, hl with | [_, _], _ => rfl),
    PySem.W.mg_of X G a31,
    fun_mk (st := s__law_row) l32 c32 k32,
    (fun_mk (st := s__law_row) l32 c32 k32).binds (fun _ _ _ _ _ _ us hl => match us, hl with | [_], _ => rfl),
    PySem.W.mg_of X G a32,
    fun_mk (st := s__law_listed) l33 c33 k33,
    (fun_mk (st := s__law_listed) l33 c33 k33).binds (fun _ _ _ _ _ _ us hl => match us, hl with | [_, _], _ => rfl),
    PySem.W.mg_of X G a33,
    fun_mk (st := s_law) l34 c34 k34,
    (fun_mk (st := s_law) l34 c34 k34).binds (fun _ _ _ _ _ _ us hl => match us, hl with | [_], _ => rfl),
    PySem.W.mg_of X G a34,
    PySem.W.mg_none_of X G z_all,
    PySem.W.mg_none_of X G z_bool,
    PySem.W.mg_none_of X G z_enumerate,
    PySem.W.mg_none_of X G z_int,
    PySem.W.mg_none_of X G z_isinstance,
    PySem.W.mg_none_of X G z_len,
    PySem.W.mg_none_of X G z_list,
    PySem.W.mg_none_of X G z_max,
    PySem.W.mg_none_of X G z_min,
    PySem.W.mg_none_of X G z_range,
    PySem.W.mg_none_of X G z_sorted,
    PySem.W.mg_none_of X G z_sum,
    PySem.W.mg_none_of X G z_tuple,
    PySem.W.mg_none_of X G z_zip,
    ⟨_, PySem.W.mg_of X G w_MOST_LISTED⟩,
    ⟨_, PySem.W.mg_of X G w_MOST_COUNTED⟩,
    ⟨h, X⟩,
    PySem.W.mg_of X G m_NoSum,
    PySem.W.mg_of X G m_NotKept,
    PySem.W.mg_of X G m_NoPlace,
    ⟨x_NoSum, y_NoSum⟩,
    ⟨e1_NoSum, e2_NoSum, e3_NoSum, e4_NoSum, e5_NoSum, e6_NoSum, e7_NoSum⟩⟩
  exact ⟨PySem.W.fnOf "law" "law" (defArgs s_law) (defBody s_law) (defScope s_law) .none kV34 dc34 pm34 an34 cd34 ct34, fun s v => .of_eq rfl, fun base _ _ => ok_law T⟩
theorem walk {l : PySem.W.OpenLaw} {q : Program} {loose : List Str} {XP : (Str → Option Value) → Heap → Prop} {YP : World → Heap → Prop} {d : DefRec} {K : Params → PySem.W.Frag} (hn : l.most = some 63) (hdf : d.params.defaults = [])
    (hY : ∀ (w : World) (h : Heap), YP w h → (K w.params).In h)
    (F : ∀ (w : World) (mg : Str → Option Value) (fa : Addr) (h : Heap), (K w.params).In h → h.Ns mainGlobals mg → mg d.name = some (.ref fa) →
      ∃ fd : FuncData, (∀ (s : Shared) (u : Value), BindsTo s fd ⟨[u], []⟩ [("_law_script", u)]) ∧ ∀ base : Heap, (K w.params).In base → base.Ns mainGlobals mg → FnOk l.prog w (K w.params) mg base CX0 31 fa fd ["_law_script"] (sp_law (K w.params))) :
    PySem.W.WalkO q loose XP YP l.row.toRowW d [] (fun f vs => PySem.call f vs) :=
  L2.walk_of (n := 63) (k := 31) (x := "_law_script") (CX := fun _ => CX0) (sp := fun w => sp_law (K w.params)) hn (by decide) hdf ⟨fun _ => rfl, by decide, by decide⟩ hY F (fun _ _ a ns hl _ hS => ⟨a, ns, rfl, hS, hl, fun _ => rfl⟩) fun _ _ _ _ _ z => z
end My
namespace PySem.W.Fast
def tw15201366868733823692 : Nat := 0
def tw15167609108576742259 : Nat := 0
def tw6110994027485223089 : Nat := 0
def tw16451613360594939927 : Nat := 0
def tw17656092648018928631 : Nat := 0
def tw9311659608578950296 : Nat := 0
def tw7074740179822957429 : Nat := 0
def tw17108547331886969541 : Nat := 0
def tw2221876426884184139 : Nat := 0
def tw13004112336823139634 : Nat := 0
def tw12359864905253924556 : Nat := 0
def tw6328807783909570066 : Nat := 0
def tw13566184822654269051 : Nat := 0
def tw14854027006739554145 : Nat := 0
def tw3075447068766688785 : Nat := 0
def tw15503609687508349340 : Nat := 0
def tw5605302533368715020 : Nat := 0
def tw659469226215603377 : Nat := 0
def tw4898486084754218200 : Nat := 0
def tw4597374546142250778 : Nat := 0
def tw10795104807839812105 : Nat := 0
def tw14861209963683802701 : Nat := 0
def tw17919903538848010204 : Nat := 0
def tw3006609499563663334 : Nat := 0
def tw11049402131494636858 : Nat := 0
def tw13578802533095038950 : Nat := 0
def tw17519625829416036994 : Nat := 0
def tw12160741455240923706 : Nat := 0
def tw4626779479983410789 : Nat := 0
def tw15178186718477703275 : Nat := 0
def tw1734295834628076569 : Nat := 0
def tw2964265813605263786 : Nat := 0
def tw10143212075539223659 : Nat := 0
def tw8397908076092119586 : Nat := 0
def tw13750911041893664723 : Nat := 0
def tw16671333244223527367 : Nat := 0
def tw734862811434816451 : Nat := 0
def tw9212897795795299809 : Nat := 0
def tw4794720502928798908 : Nat := 0
def tw7506682558399488330 : Nat := 0
def tw9061915167205802317 : Nat := 0
def tw11113509489422378761 : Nat := 0
def tw14837909655018101165 : Nat := 0
def tw9589654700096075495 : Nat := 0
def tw2714288151523735922 : Nat := 0
def tw18042084595063007650 : Nat := 0
def tw11616552260395442171 : Nat := 0
def tw5526045273238943087 : Nat := 0
def tw11418898533788385063 : Nat := 0
def tw6121535455629162334 : Nat := 0
def tw6730690246321482652 : Nat := 0
def tw16245569577389414031 : Nat := 0
def tw15276552486541493768 : Nat := 0
def tw17743777254333086444 : Nat := 0
def tw4054365822947583703 : Nat := 0
def tw3135799772748357752 : Nat := 0
def tw82370265570537383 : Nat := 0
def tw10884074892938875457 : Nat := 0
def tw14777248435094412865 : Nat := 0
def tw6845672248985498107 : Nat := 0
def tw8082379670074578046 : Nat := 0
def tw6303144975501250984 : Nat := 0
def tw18341553608901463108 : Nat := 0
def tw17404846647049169419 : Nat := 0
def tw11498136720324079168 : Nat := 0
def tw6349568193393512366 : Nat := 0
def tw2059366166218241225 : Nat := 0
def tw13983285124609968237 : Nat := 0
def tw4951942411126098048 : Nat := 0
def tw6028516899784559891 : Nat := 0
def tw18006919928302466042 : Nat := 0
def tw5336909570301297563 : Nat := 0
def tw7611390614604751688 : Nat := 0
def tw16136258660485679683 : Nat := 0
def tw9389337638466219446 : Nat := 0
def tw16990627843833131413 : Nat := 0
def tw4689090811943763600 : Nat := 0
def tw12820830729999609773 : Nat := 0
def tw7862895285533491007 : Nat := 0
def tw2489396651254986959 : Nat := 0
def tw15619688194941823291 : Nat := 0
def tw11674879710989608333 : Nat := 0
def tw5075689516423094859 : Nat := 0
def tw14873647052782719480 : Nat := 0
def tw13332613960723754959 : Nat := 0
def tw12833554415321166745 : Nat := 0
def tw13096766274691388166 : Nat := 0
def tw8816829923468696256 : Nat := 0
def tw4013035685519475521 : Nat := 0
def tw11678432484564342759 : Nat := 0
def tw11763617747366622692 : Nat := 0
def tw8337100463969615695 : Nat := 0
def tw10372616294334543225 : Nat := 0
def tw7024238769310725602 : Nat := 0
def tw17107081340536036600 : Nat := 0
def tw11210403007592024060 : Nat := 0
def tw8247220702868770217 : Nat := 0
def tw18271913376576579562 : Nat := 0
def tw13378682040766171746 : Nat := 0
def tw12374245875002713443 : Nat := 0
def tw16249147059137380921 : Nat := 0
def tw3826879808440630823 : Nat := 0
def tw11017745089808184911 : Nat := 0
def tw1408211143743475288 : Nat := 0
def tw3409395521044870463 : Nat := 0
def tw13729169913383242837 : Nat := 0
def tw1744298900313582353 : Nat := 0
def tw504606816589603448 : Nat := 0
def tw6685340904619997016 : Nat := 0
end PySem.W.Fast
open PySem PySem.W PyProof.Rows
set_option maxRecDepth 100000 in
set_option maxHeartbeats 0 in
theorem PySem.Challenge.cw_shutpairs_k52_whole_as_many_keep_holds : PySem.Challenge.rw_shutpairs_k52_whole_as_many_keep.Holds := by
  w_on; o_law; k_head; (case hw => w_witness2)
  k_fill
  refine My.walk (l := PySem.Challenge.rw_shutpairs_k52_whole_as_many_keep) rfl rfl (fun w h Y => PySem.W.kIn_of Y) ?F
  case F =>
    intro w mg fa h KX G hmg
    refine' My.all_mk KX G hmg ?a0 ?l0 ?c0 ?k0 ?a1 ?l1 ?c1 ?k1 ?a2 ?l2 ?c2 ?k2 ?a3 ?l3 ?c3 ?k3 ?a4 ?l4 ?c4 ?k4 ?a5 ?l5 ?c5 ?k5 ?a6 ?l6 ?c6 ?k6 ?a7 ?l7 ?c7 ?k7 ?a8 ?l8 ?c8 ?k8 ?a9 ?l9 ?c9 ?k9 ?a10 ?l10 ?c10 ?k10 ?a11 ?l11 ?c11 ?k11 ?a12 ?l12 ?c12 ?k12 ?a13 ?l13 ?c13 ?k13 ?a14 ?l14 ?c14 ?k14 ?a15 ?l15 ?c15 ?k15 ?a16 ?l16 ?c16 ?k16 ?a17 ?l17 ?c17 ?k17 ?a18 ?l18 ?c18 ?k18 ?a19 ?l19 ?c19 ?k19 ?a20 ?l20 ?c20 ?k20 ?a21 ?l21 ?c21 ?k21 ?a22 ?l22 ?c22 ?k22 ?a23 ?l23 ?c23 ?k23 ?a24 ?l24 ?c24 ?k24 ?a25 ?l25 ?c25 ?k25 ?a26 ?l26 ?c26 ?k26 ?a27 ?l27 ?c27 ?k27 ?a28 ?l28 ?c28 ?k28 ?a29 ?l29 ?c29 ?k29 ?a30 ?l30 ?c30 ?k30 ?a31 ?l31 ?c31 ?k31 ?a32 ?l32 ?c32 ?k32 ?a33 ?l33 ?c33 ?k33 ?a34 ?l34 ?c34 ?k34 ?z_all ?z_bool ?z_enumerate ?z_int ?z_isinstance ?z_len ?z_list ?z_max ?z_min ?z_range ?z_sorted ?z_sum ?z_tuple ?z_zip ?w_MOST_LISTED ?w_MOST_COUNTED ?m_NoSum ?m_NotKept ?m_NoPlace ?x_NoSum ?y_NoSum ?e1_NoSum ?e2_NoSum ?e3_NoSum ?e4_NoSum ?e5_NoSum ?e6_NoSum ?e7_NoSum
    (case a0 => k_is)
    (case l0 => k_is)
    (case c0 => k_is)
    (case k0 => k_is)
    (case a1 => k_is)
    (case l1 => k_is)
    (case c1 => k_is)
    (case k1 => k_is)
    (case a2 => k_is)
    (case l2 => k_is)
    (case c2 => k_is)
    (case k2 => k_is)
    (case a3 => k_is)
    (case l3 => k_is)
    (case c3 => k_is)
    (case k3 => k_is)
    (case a4 => k_is)
    (case l4 => k_is)
    (case c4 => k_is)
    (case k4 => k_is)
    (case a5 => k_is)
    (case l5 => k_is)
    (case c5 => k_is)
    (case k5 => k_is)
    (case a6 => k_is)
    (case l6 => k_is)
    (case c6 => k_is)
    (case k6 => k_is)
    (case a7 => k_is)
    (case l7 => k_is)
    (case c7 => k_is)
    (case k7 => k_is)
    (case a8 => k_is)
    (case l8 => k_is)
    (case c8 => k_is)
    (case k8 => k_is)
    (case a9 => k_is)
    (case l9 => k_is)
    (case c9 => k_is)
    (case k9 => k_is)
    (case a10 => k_is)
    (case l10 => k_is)
    (case c10 => k_is)
    (case k10 => k_is)
    (case a11 => k_is)
    (case l11 => k_is)
    (case c11 => k_is)
    (case k11 => k_is)
    (case a12 => k_is)
    (case l12 => k_is)
    (case c12 => k_is)
    (case k12 => k_is)
    (case a13 => k_is)
    (case l13 => k_is)
    (case c13 => k_is)
    (case k13 => k_is)
    (case a14 => k_is)
    (case l14 => k_is)
    (case c14 => k_is)
    (case k14 => k_is)
    (case a15 => k_is)
    (case l15 => k_is)
    (case c15 => k_is)
    (case k15 => k_is)
    (case a16 => k_is)
    (case l16 => k_is)
    (case c16 => k_is)
    (case k16 => k_is)
    (case a17 => k_is)
    (case l17 => k_is)
    (case c17 => k_is)
    (case k17 => k_is)
    (case a18 => k_is)
    (case l18 => k_is)
    (case c18 => k_is)
    (case k18 => k_is)
    (case a19 => k_is)
    (case l19 => k_is)
    (case c19 => k_is)
    (case k19 => k_is)
    (case a20 => k_is)
    (case l20 => k_is)
    (case c20 => k_is)
    (case k20 => k_is)
    (case a21 => k_is)
    (case l21 => k_is)
    (case c21 => k_is)
    (case k21 => k_is)
    (case a22 => k_is)
    (case l22 => k_is)
    (case c22 => k_is)
    (case k22 => k_is)
    (case a23 => k_is)
    (case l23 => k_is)
    (case c23 => k_is)
    (case k23 => k_is)
    (case a24 => k_is)
    (case l24 => k_is)
    (case c24 => k_is)
    (case k24 => k_is)
    (case a25 => k_is)
    (case l25 => k_is)
    (case c25 => k_is)
    (case k25 => k_is)
    (case a26 => k_is)
    (case l26 => k_is)
    (case c26 => k_is)
    (case k26 => k_is)
    (case a27 => k_is)
    (case l27 => k_is)
    (case c27 => k_is)
    (case k27 => k_is)
    (case a28 => k_is)
    (case l28 => k_is)
    (case c28 => k_is)
    (case k28 => k_is)
    (case a29 => k_is)
    (case l29 => k_is)
    (case c29 => k_is)
    (case k29 => k_is)
    (case a30 => k_is)
    (case l30 => k_is)
    (case c30 => k_is)
    (case k30 => k_is)
    (case a31 => k_is)
    (case l31 => k_is)
    (case c31 => k_is)
    (case k31 => k_is)
    (case a32 => k_is)
    (case l32 => k_is)
    (case c32 => k_is)
    (case k32 => k_is)
    (case a33 => k_is)
    (case l33 => k_is)
    (case c33 => k_is)
    (case k33 => k_is)
    (case a34 => k_is)
    (case l34 => k_is)
    (case c34 => k_is)
    (case k34 => k_is)
    (case z_all => k_is)
    (case z_bool => k_is)
    (case z_enumerate => k_is)
    (case z_int => k_is)
    (case z_isinstance => k_is)
    (case z_len => k_is)
    (case z_list => k_is)
    (case z_max => k_is)
    (case z_min => k_is)
    (case z_range => k_is)
    (case z_sorted => k_is)
    (case z_sum => k_is)
    (case z_tuple => k_is)
    (case z_zip => k_is)
    (case w_MOST_LISTED => k_is)
    (case w_MOST_COUNTED => k_is)
    (case m_NoSum => k_is)
    (case m_NotKept => k_is)
    (case m_NoPlace => k_is)
    (case x_NoSum => k_exc)
    (case y_NoSum => k_is)
    (case e1_NoSum => k_is)
    (case e2_NoSum => k_is)
    (case e3_NoSum => k_is)
    (case e4_NoSum => k_is)
    (case e5_NoSum => k_is)
    (case e6_NoSum => k_is)
    (case e7_NoSum => k_is)
