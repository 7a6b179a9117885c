import PyProof.Rows.All
import Wide.All
import OpenK.AllK
import Wide.FinOn
import Lean
import PyProof.EqAt
import PyProof.EqKinds
import PyProof.TupleCall
import PyProof.NeData
import PyProof.StrWalks
import PyProof.MeetsStr
import PyProof.Draws
import PyProof.EnumMake
import PyProof.Rows.Range3
import PyProof.AttrMissHeap
import PyProof.CollectWalk
import PyProof.TupleIter
import KE.KDictOf
import KE.KEqDict
import OpenK.KOwn
import KE.KTryOn
import PyProof.NsDelKeeps
import PyProof.ExcClass3
import PyProof.DictWalks
import PyProof.ListMulRoad
import PyProof.StrOps2
import PyProof.StrBlockG
import PyProof.ListStr
import PyProof.Rows.SortStr
import PyProof.ExcArgsOwn
import KE.KIsAll
import PyProof.ExcAttrAll.ValueError
import PyProof.Rows.SortShell
import PyProof.DictItems
import PySem.Challenge.RW_gatetown_k46_statements_in_order
-- CHANGE: your row's module here, as the last of these rows
set_option Elab.async false
set_option linter.all false
set_option maxRecDepth 100000
/-! THE HAND LAYER, for ints, bools, texts, own classes, LISTS and tuples (index, slices, in, append, pop ..), calls, loops. Paste it whole ahead of your own text; what your proof does not reach may be deleted. -/
namespace L2
open PySem PySem.Spec PyProof.Rows

/-- a key: an int or a str -/
abbrev Key := Sum Int Str
def keyIs : Key → Value → Bool
  | .inl k, v => Value.isInt k v
  | .inr x, v => Value.isStrOf x v
def keyH (w : World) : Key → Int
  | .inl k => hashInt k
  | .inr x => hashStr w x
theorem keyIs_shape : ∀ {k : Key} {v : Value}, keyIs k v = true → (∃ i t, k = Sum.inl i ∧ v = Value.int i t) ∨ (∃ x t, k = Sum.inr x ∧ v = Value.str x t)
  | .inl i, v, h => by
    obtain ⟨t, e⟩ := Value.isInt_shape (k := i) (v := v) h
    exact .inl ⟨i, t, rfl, e⟩
  | .inr x, v, h => by
    obtain ⟨t, e⟩ := Value.isStrOf_shape (x := x) (v := v) h
    exact .inr ⟨x, t, rfl, e⟩
theorem key_ll (a b : Int) : decide ((Sum.inl a : Key) = Sum.inl b) = (a == b) := by
  by_cases e : a = b
  · subst e; simp
  · have h : ¬ (Sum.inl a : Key) = Sum.inl b := fun q => e (Sum.inl.inj q)
    rw [decide_eq_false h]
    exact (beq_eq_false_iff_ne.mpr e).symm
theorem key_rr (a b : Str) : decide ((Sum.inr a : Key) = Sum.inr b) = decide (a = b) := by
  by_cases e : a = b
  · subst e; simp
  · have h : ¬ (Sum.inr a : Key) = Sum.inr b := fun q => e (Sum.inr.inj q)
    rw [decide_eq_false h, decide_eq_false e]
theorem key_lr (a : Int) (b : Str) : decide ((Sum.inl a : Key) = Sum.inr b) = false := decide_eq_false (fun q => nomatch q)
theorem key_rl (a : Str) (b : Int) : decide ((Sum.inr a : Key) = Sum.inl b) = false := decide_eq_false (fun q => nomatch q)

def mixKind (prog : Program) (w : World) : PySem.KeyKind prog w Key where
  is := keyIs
  hash := keyH w
  inj := fun v a b ha hb => by
    rcases keyIs_shape ha with ⟨i, t, rfl, rfl⟩ | ⟨x, t, rfl, rfl⟩
    · rcases keyIs_shape hb with ⟨j, u, rfl, e⟩ | ⟨y, u, rfl, e⟩
      · injection e with e1 _; rw [e1]
      · exact nomatch e
    · rcases keyIs_shape hb with ⟨j, u, rfl, e⟩ | ⟨y, u, rfl, e⟩
      · exact nomatch e
      · injection e with e1 _; rw [e1]
  byValue := fun k v h => by
    rcases keyIs_shape h with ⟨i, t, rfl, rfl⟩ | ⟨x, t, rfl, rfl⟩ <;> rfl
  pyHash := fun hv h => by
    rcases keyIs_shape hv with ⟨i, t, rfl, rfl⟩ | ⟨x, t, rfl, rfl⟩
    · exact wpAny_pyHash_int h
    · exact wpAny_pyHash_str h
  eqBool := fun hu hv h => by
    rcases keyIs_shape hu with ⟨i, t, rfl, rfl⟩ | ⟨x, t, rfl, rfl⟩
    · rcases keyIs_shape hv with ⟨j, u, rfl, rfl⟩ | ⟨y, u, rfl, rfl⟩
      · rw [key_ll] at h; exact wpAny_eqBool_int h
      · rw [key_lr] at h; exact SeqAt.EqAt.int_str i t y u _ _ _ _ h
    · rcases keyIs_shape hv with ⟨j, u, rfl, rfl⟩ | ⟨y, u, rfl, rfl⟩
      · rw [key_rl] at h; exact SeqAt.EqAt.str_int x t j u _ _ _ _ h
      · rw [key_rr] at h; exact wpAny_eqBool_str h
  «strs» := fun k x t v h => by
    rcases keyIs_shape h with ⟨i, u, rfl, e⟩ | ⟨y, u, rfl, e⟩
    · exact nomatch e
    · injection e with e1 _
      subst e1
      cases v <;> rfl

end L2

namespace L2
open PySem PySem.Spec PyProof.Rows

/-- a value, without the heap -/
inductive V where
  | non | bl (b : Bool) | int (i : Int) | str (x : Str) | byt (b : Array UInt8) | flt (b : UInt64) | ref (a : Addr) | ty (n : String)
  deriving DecidableEq

def RelV : V → Value → Prop
  | .non, u => u = Value.none
  | .bl b, u => u = Value.bool b
  | .int i, u => ∃ t, u = Value.int i t
  | .str x, u => ∃ t, u = Value.str x t
  | .byt b, u => ∃ t, u = Value.bytes b t
  | .flt b, u => ∃ t, u = Value.float b t
  | .ref a, u => u = Value.ref a
  | .ty n, u => u = Value.type n

abbrev Vals : List V → List Value → Prop := Paired RelV
theorem Vals.length {xs : List V} {us : List Value} (r : Vals xs us) : xs.length = us.length := Paired.length r
theorem Vals.get : ∀ {xs : List V} {us : List Value} {i : Nat} {x : V}, Vals xs us → xs[i]? = some x → ∃ u, us[i]? = some u ∧ RelV x u
  | _, _, _, _, .nil, e => by simp at e
  | _, _, 0, _, .cons r _, e => by simp at e; subst e; exact ⟨_, rfl, r⟩
  | _, _, i + 1, x, .cons _ t, e => by
    obtain ⟨u, h1, h2⟩ := Vals.get (i := i) (x := x) t (by simpa using e)
    exact ⟨u, by simpa using h1, h2⟩
theorem Vals.set {x : V} {u : Value} (r : RelV x u) : ∀ {xs : List V} {us : List Value} (i : Nat), Vals xs us → Vals (xs.set i x) (us.set i u)
  | _, _, _, .nil => .nil
  | _, _, 0, .cons _ t => .cons r t
  | _, _, i + 1, .cons q t => .cons q (Vals.set r i t)
theorem Vals.append : ∀ {xs ys : List V} {us ws : List Value}, Vals xs us → Vals ys ws → Vals (xs ++ ys) (us ++ ws)
  | _, _, _, _, .nil, s => s
  | _, _, _, _, .cons r t, s => .cons r (Vals.append t s)
theorem Vals.take : ∀ {xs : List V} {us : List Value} (n : Nat), Vals xs us → Vals (xs.take n) (us.take n)
  | _, _, 0, _ => .nil
  | _, _, _ + 1, .nil => .nil
  | _, _, n + 1, .cons r t => .cons r (Vals.take n t)
theorem Vals.drop : ∀ {xs : List V} {us : List Value} (n : Nat), Vals xs us → Vals (xs.drop n) (us.drop n)
  | _, _, 0, r => r
  | _, _, _ + 1, .nil => .nil
  | _, _, n + 1, .cons _ t => Vals.drop n t

def RelO : Option V → Option Value → Prop
  | some v, some u => RelV v u
  | none, none => True
  | _, _ => False
def KV {κ : Type} : List (κ × V) → List (κ × Value) → Prop := Paired fun (p : κ × V) (q : κ × Value) => p.1 = q.1 ∧ RelV p.2 q.2

/-- a key of a dict (00_mix): an int or a text -/
def kV : Key → V
  | .inl i => .int i
  | .inr x => .str x

/-- what stands at a tracked address -/
inductive HO where
  /-- a list -/
  | lst (xs : List V)
  /-- a tuple (never changes) -/
  | tup (xs : List V)
  /-- a dict whose keys are ints and texts; one whose keys are tuples of ints and texts (the empty one is both) -/
  | dK (kvs : List (Key × V)) | dT (kvs : List (List Key × V))
  /-- a set of ints: its members, its size -/
  | set (S : Int → Bool) (n : Nat)
  /-- an instance of the class at C, its dict at dx, its attributes -/
  | ins (C dx : Addr) (fs : List (Str × V))
  /-- the dict of the instance at x -/
  | own (x : Addr)
  /-- the dict of an exception -/
  | xd (fs : List (Str × V))
  /-- a bound method, f of x -/
  | met (f x : Addr)
  /-- a range object lo, lo + 1, .. below hi -/
  | rng (lo hi : Int)
  /-- a thing that is known to the object (the script; a dict while a loop walks it): read, never written while it is so -/
  | frz (o : Obj) (u : HO)
  /-- a code object's table -/
  | tbl (ps : Array Value)
  /-- any other thing, by what is true of its one object (a def of one's own: SetO a S n := HO.ext fun h => ..) -/
  | ext (φ : Heap → Prop)

abbrev Hp := Addr → Option HO
def upd (H : Hp) (a : Addr) (o : HO) : Hp := fun b => if b = a then some o else H b
theorem upd_same {H : Hp} {a : Addr} {o : HO} : upd H a o a = some o := by unfold upd; rw [if_pos rfl]
theorem upd_ne {H : Hp} {a b : Addr} {o : HO} (h : b ≠ a) : upd H a o b = H b := by unfold upd; rw [if_neg h]
/-- two objects of different content stand apart -/
theorem ne_of {H : Hp} {a b : Addr} {o u : HO} (h : H a = some o) (h' : H b = some u) (d : o ≠ u) : a ≠ b := by
  intro e; subst e; rw [h] at h'; exact d (Option.some.inj h')
theorem ne_of_none {H : Hp} {a b : Addr} {o : HO} (h : H a = some o) (h' : H b = none) : a ≠ b := by
  intro e; subst e; rw [h] at h'; cases h'

section
variable (P : Program) (w : World)
def ObjOk (H : Hp) (h : Heap) (a : Addr) : HO → Prop
  | .lst xs => xs.length ≤ sizeLine ∧ ∃ (its : List Value) (n : Nat), Vals xs its ∧ h.get? a = some { cls := .type "list", data := .seq its.toArray n }
  | .tup xs => xs.length ≤ sizeLine ∧ ∃ its : List Value, Vals xs its ∧ IsTup h a its.toArray
  | .dK kvs => kvs.length ≤ sizeLine ∧ (a == sysModules) = false ∧ ∃ vs, KV kvs vs ∧ h.DictOf (mixKind P w) a vs
  | .dT kvs => kvs.length ≤ sizeLine ∧ (a == sysModules) = false ∧ ∃ xs : List (List Key × Addr × Value),
      Paired (fun (p : List Key × V) (q : List Key × Addr × Value) => p.1 = q.1 ∧ H q.2.1 = some (.tup (p.1.map kV)) ∧ RelV p.2 q.2.2) kvs xs ∧
      ∃ o es ep, h.get? a = some o ∧ o.ExactDict ∧ o.data = .dict es ep ∧ es.toList = xs.map (entryOfKey (tupleKind (mixKind P w))) ∧ (xs.map (·.1)).Nodup
  | .set S n => h.SetOf (intKind P w) a S n
  | .ins C dx fs => H dx = some (.own a) ∧ fs.length ≤ 1000 ∧ dx ≠ a ∧ h.get? a = some (PySem.W.instObj C dx) ∧
      ∃ mA, h.Ns1 dx mA ∧ (∀ f, RelO (fs.lookup f) (mA f)) ∧ PySem.Within mA (fs.map (·.1))
  | .own _ => ∃ o, h.get? a = some o
  | .xd fs => ∃ mA, h.Ns1 a mA ∧ ∀ f, RelO (fs.lookup f) (mA f)
  | .rng lo hi => ∃ t u v, h.get? a = some { cls := .type "range", data := .fields #[.int lo t, .int hi u, .int 1 v] }
  | .frz o u => h.get? a = some o ∧ ObjOk H h a u
  | .tbl ps => h.get? a = some { cls := .none, data := .fields ps }
  | .met f x => h.get? a = some (PySem.W.methodObj (.ref f) (.ref x))
  | .ext φ => φ h ∧ (∃ o, h.get? a = some o) ∧ ∀ h1 h2 : Heap, φ h1 → (∀ o, h1.get? a = some o → h2.get? a = some o) → φ h2
/-- the abstract heap is held -/
def HOk (H : Hp) (h : Heap) : Prop := ∀ a o, H a = some o → ObjOk P w H h a o
end

section
variable {P : Program} {w : World} {H H' : Hp} {h h' : Heap} {a : Addr} {o : HO}
theorem ObjOk.lt (x : ObjOk P w H h a o) : a < h.objs.size := by
  cases o with
  | lst xs => obtain ⟨_, _, _, _, e⟩ := x; exact Heap.lt_size e
  | tup xs => obtain ⟨_, _, _, p⟩ := x; exact p.lt
  | dK kvs => obtain ⟨_, _, _, _, o, _, _, e, _⟩ := x; exact Heap.lt_size e
  | dT kvs => obtain ⟨_, _, _, _, o, _, _, e, _⟩ := x; exact Heap.lt_size e
  | set S n => obtain ⟨o, _, _, _, e, _⟩ := x; exact Heap.lt_size e
  | ins C dx fs => obtain ⟨_, _, _, e, _⟩ := x; exact Heap.lt_size e
  | own y => obtain ⟨_, e⟩ := x; exact Heap.lt_size e
  | xd fs => obtain ⟨_, ⟨_, _, _, e, _⟩, _⟩ := x; exact Heap.lt_size e
  | rng lo hi => obtain ⟨_, _, _, e⟩ := x; exact Heap.lt_size e
  | frz ob u => obtain ⟨e, _⟩ := x; exact Heap.lt_size e
  | tbl ps => exact Heap.lt_size (show h.get? a = some _ from x)
  | met f y => exact Heap.lt_size (show h.get? a = some _ from x)
  | ext φ => obtain ⟨_, ⟨_, e⟩, _⟩ := x; exact Heap.lt_size e
theorem Paired.mapP {α β : Type} {F G : α → β → Prop} : ∀ {l₁ : List α} {l₂ : List β}, Paired F l₁ l₂ → (∀ a b, F a b → G a b) → Paired G l₁ l₂
  | _, _, .nil, _ => .nil
  | _, _, .cons r t, f => .cons (f _ _ r) (Paired.mapP t f)
/-- what an object's description leans on: its own object, its own dict, the tuples -/
theorem ObjOk.stay (x : ObjOk P w H h a o) (k : ∀ b u, (b = a ∨ H b = some (.own a)) → h.get? b = some u → h'.get? b = some u)
    (ho : ∀ b, H b = some (.own a) → H' b = some (.own a)) (ht : ∀ b xs, H b = some (.tup xs) → H' b = some (.tup xs)) : ObjOk P w H' h' a o := by
  induction o with
  | lst xs => obtain ⟨z, its, n, r, e⟩ := x; exact ⟨z, its, n, r, k _ _ (.inl rfl) e⟩
  | tup xs => obtain ⟨z, its, r, ob, e, c⟩ := x; exact ⟨z, its, r, ob, k _ _ (.inl rfl) e, c⟩
  | dK kvs => obtain ⟨z, y, vs, r, ob, es, ep, e, c⟩ := x; exact ⟨z, y, vs, r, ob, es, ep, k _ _ (.inl rfl) e, c⟩
  | dT kvs =>
    obtain ⟨z, y, xs, r, ob, es, ep, e, c⟩ := x
    exact ⟨z, y, xs, Paired.mapP r fun p q z => ⟨z.1, ht _ _ z.2.1, z.2.2⟩, ob, es, ep, k _ _ (.inl rfl) e, c⟩
  | set S n => obtain ⟨ob, es, ep, t, e, c⟩ := x; exact ⟨ob, es, ep, t, k _ _ (.inl rfl) e, c⟩
  | ins C dx fs =>
    obtain ⟨d, z, ne, e, mA, ⟨od, es, ep, e2, c⟩, r⟩ := x
    exact ⟨ho _ d, z, ne, k _ _ (.inl rfl) e, mA, ⟨od, es, ep, k _ _ (.inr d) e2, c⟩, r⟩
  | own y => obtain ⟨ob, e⟩ := x; exact ⟨ob, k _ _ (.inl rfl) e⟩
  | xd fs => obtain ⟨mA, ⟨od, es, ep, e, c⟩, r⟩ := x; exact ⟨mA, ⟨od, es, ep, k _ _ (.inl rfl) e, c⟩, r⟩
  | rng lo hi => obtain ⟨t, u, v, e⟩ := x; exact ⟨t, u, v, k _ _ (.inl rfl) e⟩
  | frz ob u ih => obtain ⟨e, q⟩ := x; exact ⟨k _ _ (.inl rfl) e, ih q⟩
  | tbl ps =>
    have e : h.get? a = some { cls := .none, data := .fields ps } := x
    show h'.get? a = some { cls := .none, data := .fields ps }
    exact k a _ (.inl rfl) e
  | met f y =>
    have e : h.get? a = some (PySem.W.methodObj (.ref f) (.ref y)) := x
    show h'.get? a = some (PySem.W.methodObj (.ref f) (.ref y))
    exact k a _ (.inl rfl) e
  | ext φ => obtain ⟨p, ⟨o, e⟩, st⟩ := x; exact ⟨st _ _ p fun o q => k _ _ (.inl rfl) q, ⟨o, k _ _ (.inl rfl) e⟩, st⟩
theorem HOk.lt (x : HOk P w H h) (e : H a = some o) : a < h.objs.size := (x a o e).lt
theorem HOk.fresh (x : HOk P w H h) (e : h.objs.size ≤ a) : H a = none := by
  cases q : H a with
  | none => rfl
  | some u => exact absurd (Nat.lt_of_lt_of_le (x.lt q) e) (Nat.lt_irrefl _)
/-- every object of the heap is kept -/
theorem HOk.kept (x : HOk P w H h) (k : ∀ b u, h.get? b = some u → h'.get? b = some u) : HOk P w H h' := fun a o e =>
  (x a o e).stay (fun b u _ q => k b u q) (fun _ q => q) fun _ _ q => q
/-- a new object is laid and tracked -/
theorem HOk.laid (x : HOk P w H h) (k : ∀ b u, h.get? b = some u → h'.get? b = some u) (hp : h.objs.size ≤ a) (new : ObjOk P w (upd H a o) h' a o) : HOk P w (upd H a o) h' := fun b u e => by
  have hn := x.fresh hp
  by_cases hb : b = a
  · subst hb; rw [upd_same] at e; cases e; exact new
  · rw [upd_ne hb] at e
    exact (x b u e).stay (fun c v _ q => k c v q) (fun c q => by rw [upd_ne (ne_of_none q hn)]; exact q) fun c xs q => by rw [upd_ne (ne_of_none q hn)]; exact q
end

/-- what may be read as u: it is u, or a known u -/
def Rd (H : Hp) (a : Addr) (u : HO) : Prop := H a = some u ∨ ∃ o, H a = some (.frz o u)
theorem Rd.ok {P : Program} {w : World} {H : Hp} {h : Heap} {a : Addr} {u : HO} (r : Rd H a u) (x : HOk P w H h) : ObjOk P w H h a u := by
  rcases r with r | ⟨o, r⟩
  · exact x a u r
  · obtain ⟨_, q⟩ := x a _ r
    exact q
/-- what may be written -/
def Mut : Option HO → Prop
  | some (.lst _) => True
  | some (.dK _) => True
  | some (.dT _) => True
  | some (.set _ _) => True
  | some (.ins _ _ _) => True
  | some (.ext _) => True
  | _ => False
section
variable {P : Program} {w : World} {H : Hp} {h h' : Heap} {x e : Addr} {o' : HO}
/-- the object at e is changed: x itself, or the dict of the instance x -/
theorem HOk.write (ok : HOk P w H h) (mu : Mut (H x)) (he : e = x ∨ H e = some (.own x)) (k : ∀ b u, b ≠ e → h.get? b = some u → h'.get? b = some u) (heo : ∃ u, h'.get? e = some u)
    (new : ObjOk P w (upd H x o') h' x o') : HOk P w (upd H x o') h' := fun b u q => by
  have nown : ∀ c y, H c = some (.own y) → c ≠ x := fun c y r z => by subst z; rw [r] at mu; exact mu
  have ntup : ∀ c xs, H c = some (.tup xs) → c ≠ x := fun c xs r z => by subst z; rw [r] at mu; exact mu
  by_cases hb : b = x
  · subst hb; rw [upd_same] at q; cases q; exact new
  · rw [upd_ne hb] at q
    by_cases hbe : b = e
    · have q' : H b = some (.own x) := by
        rcases he with z | z
        · exact absurd (hbe.trans z) hb
        · rw [hbe]; exact z
      rw [q] at q'; cases q'
      obtain ⟨v, hv⟩ := heo
      exact ⟨v, by rw [hbe]; exact hv⟩
    · refine (ok b u q).stay (fun c v hc r => k c v ?_ r) (fun c r => by rw [upd_ne (nown c b r)]; exact r) fun c xs r => by rw [upd_ne (ntup c xs r)]; exact r
      rcases hc with rfl | hc
      · exact hbe
      · rintro rfl
        rcases he with z | z
        · exact nown c b hc z
        · rw [hc] at z; cases z; exact hb rfl
end

/-! ### kept unless tracked; of the frames at fs (the callers') the slots may change (an exception that passes writes there); of the records at ex (iterators) nothing is said -/
structure Un (fs ex : List Addr) (H H' : Hp) (h h' : Heap) : Prop where
  keep : ∀ b o, h.get? b = some o → H b = none → b ∉ fs → b ∉ ex → h'.get? b = some o
  slot : ∀ b o, h.get? b = some o → H b = none → b ∈ fs → b ∉ ex → ∃ sl, h'.get? b = some { o with slots := sl }
  free : ∀ b o, h.get? b = some o → H b = none → b ∉ ex → H' b = none
  there : ∀ b o, h.get? b = some o → b ∉ ex → ∃ o', h'.get? b = some o'
  tups : ∀ b xs, H b = some (.tup xs) → H' b = some (.tup xs)
  frzs : ∀ b o u, H b = some (.frz o u) → H' b = some (.frz o u)
  tbls : ∀ b ps, H b = some (.tbl ps) → ∃ more, H' b = some (.tbl (ps ++ more))
section
variable {fs fs' ex ex' : List Addr} {H H1 H2 : Hp} {h h1 h2 h' : Heap} {a x e : Addr} {o : HO}
theorem Un.any (u : Un fs ex H H1 h h1) {b : Addr} {ob : Obj} (q : h.get? b = some ob) (n : H b = none) (hx : b ∉ ex) : ∃ sl, h1.get? b = some { ob with slots := sl } := by
  by_cases hb : b ∈ fs
  · exact u.slot b ob q n hb hx
  · exact ⟨ob.slots, u.keep b ob q n hb hx⟩
theorem Un.kept (k : ∀ b u, h.get? b = some u → h'.get? b = some u) : Un fs ex H H h h' :=
  ⟨fun b ob q _ _ _ => k b ob q, fun b ob q _ _ _ => ⟨ob.slots, k b ob q⟩, fun _ _ _ n _ => n, fun b ob q _ => ⟨ob, k b ob q⟩, fun _ _ q => q, fun _ _ _ q => q, fun _ ps q => ⟨#[], by rw [q]; simp⟩⟩
theorem Un.refl : Un fs ex H H h h := Un.kept fun _ _ q => q
theorem Un.laid (k : ∀ b u, h.get? b = some u → h'.get? b = some u) (hp : h.objs.size ≤ a) (hn : H a = none) : Un fs ex H (upd H a o) h h' where
  keep := fun b u q _ _ _ => k b u q
  slot := fun b u q _ _ _ => ⟨u.slots, k b u q⟩
  free := fun b u q n _ => by rw [upd_ne (Nat.ne_of_lt (Nat.lt_of_lt_of_le (Heap.lt_size q) hp))]; exact n
  there := fun b u q _ => ⟨u, k b u q⟩
  tups := fun b xs q => by rw [upd_ne (ne_of_none q hn)]; exact q
  frzs := fun b u xs q => by rw [upd_ne (ne_of_none q hn)]; exact q
  tbls := fun b ps q => ⟨#[], by rw [upd_ne (ne_of_none q hn), q]; simp⟩
theorem Un.write (mu : Mut (H x)) (he : e = x ∨ H e = some (.own x)) (k : ∀ b u, b ≠ e → h.get? b = some u → h'.get? b = some u) (heo : ∃ u, h'.get? e = some u) : Un fs ex H (upd H x o) h h' := by
  have hx : ∀ b, H b = none → b ≠ x := fun b n z => by subst z; rw [n] at mu; exact mu
  have hb : ∀ b, H b = none → b ≠ e := fun b n z => by
    subst z
    rcases he with r | r
    · exact hx b n r
    · rw [n] at r; cases r
  have hm : ∀ b u, H b = some u → ¬ Mut (some u) → b ≠ x := fun b u q nm z => by subst z; rw [q] at mu; exact nm mu
  refine ⟨fun b u q n _ _ => k b u (hb b n) q, fun b u q n _ _ => ⟨u.slots, k b u (hb b n) q⟩, fun b u q n _ => by rw [upd_ne (hx b n)]; exact n, fun b u q _ => ?_,
    fun b xs q => by rw [upd_ne (hm b _ q fun z => z)]; exact q, fun b u xs q => by rw [upd_ne (hm b _ q fun z => z)]; exact q, fun b ps q => ⟨#[], by rw [upd_ne (hm b _ q fun z => z), q]; simp⟩⟩
  by_cases hbe : b = e
  · subst hbe; exact heo
  · exact ⟨u, k b u hbe q⟩
end

/-! ### the heap without what is tracked -/
def trk (h : Heap) (H : Hp) : List Addr := (List.range h.objs.size).filter fun a => (H a).isSome
def hidT (h : Heap) (H : Hp) : Heap := PySem.W.hideAll h (trk h H)
theorem hidT_size (h : Heap) (H : Hp) : (hidT h H).objs.size = h.objs.size := PySem.W.hideAll_size _ _
theorem hidT_get {h : Heap} {H : Hp} {b : Addr} {o : Obj} (e : h.get? b = some o) (n : H b = none) : (hidT h H).get? b = some o :=
  PySem.W.hideAll_get _ e fun hm => by
    have q : (H b).isSome = true := (List.mem_filter.mp hm).2
    rw [n] at q; simp at q
theorem of_hidT {h : Heap} {H : Hp} {b : Addr} {o : Obj} (e : (hidT h H).get? b = some o) : h.get? b = some o ∧ H b = none := by
  have e' : h.get? b = some o := PySem.W.of_hideAll (trk h H) e
  refine ⟨e', ?_⟩
  cases q : H b with
  | none => rfl
  | some x =>
    have hm : b ∈ trk h H := List.mem_filter.mpr ⟨List.mem_range.mpr (Heap.lt_size e'), by simp [q]⟩
    have z : (hidT h H).get? b = none := PySem.W.hideAll_none (trk h H) hm
    rw [z] at e; cases e

/-! ### OpenK's ledger, filled with every new object but one -/
end L2

namespace L2
open PySem PySem.Spec PyProof.Rows

/-- the module's facts, over the base: the heap at the law's entry without what is tracked there -/
structure Mod (K : PySem.W.Frag) (mg : Str → Option Value) (base : Heap) : Prop where
  kin : K.In base
  glob : base.Ns mainGlobals mg
  blt : ∃ mb, base.Ns builtinsNs mb ∧ ∀ x : Str, x ≠ "__name__" → mb x = bootBuiltins x
  nolimit : base.NoLimit

/-- the context: a def's body (or a comprehension's block) running. base: fixed through the whole law; s₀, H₀: the entry; outer: the frames whose slots others may change (a def's callers); stack: all frames that run;
   ex: iterators that were made ahead of the entry and are walked here (a comprehension's); fn: the names whose cells were made at the entry (a def: all; a comprehension's block: its own); calm: not within an except suite; pn: pins that every state bears; xe: what is wanted of an exception that leaves the code -/
structure Cx where
  prog : Program
  w : World
  K : PySem.W.Frag
  mg : Str → Option Value
  base : Heap
  A : Around
  N : List Str
  s₀ : Shared
  H₀ : Hp
  env : Env
  outer : List Env
  stack : List Env
  ex : List Addr
  fn : Str → Bool
  calm : Bool
  pn : List (Addr × Obj)
  xe : Value → Shared → Prop
/-- the callers' frames -/
def frs (l : List Env) : List Addr := l.filterMap (·.frame)
abbrev Cx.fs (X : Cx) : List Addr := frs X.outer

def Vis (sc : Scope) (x : Str) : Prop := sc.names.lookup x = some .local ∨ sc.names.lookup x = some .cell ∨ sc.names.lookup x = some .free
def Loc (sc : Scope) (x : Str) : Prop := sc.names.lookup x = some .local ∨ sc.names.lookup x = some .cell
def Look (env : Env) (h : Heap) (m : Str → Option Value) (x : Str) (u : Value) : Prop :=
  (env.kindOf x = some .local ∧ m x = some u) ∨ ((env.kindOf x = some .cell ∨ env.kindOf x = some .free) ∧ ∃ c, env.cells.lookup x = some c ∧ h.IsCell c (some u))

structure Cx.Ok (X : Cx) : Prop where
  mod : Mod X.K X.mg X.base
  kind : X.env.scope.kind = .function
  glob : X.env.globals = mainGlobals
  blt : X.env.builtins = builtinsNs
  above : X.s₀.heap.objs.size ≤ X.env.locals
  inj : ∀ x y c, X.env.cells.lookup x = some c → X.env.cells.lookup y = some c → x = y
  has : ∀ x, (X.env.kindOf x = some .cell ∨ X.env.kindOf x = some .free) → ∃ c, X.env.cells.lookup x = some c
  cab : ∀ x c, X.fn x = true → X.env.cells.lookup x = some c → X.s₀.heap.objs.size ≤ c
  hd : X.calm = true → X.A.handled = none
  frames : X.A.frames = some X.stack
  stk : X.stack = X.outer ∨ (X.stack = X.env :: X.outer ∧ X.env.frame = some X.env.locals)
  exf : ∀ b ∈ X.ex, b ≠ X.env.locals ∧ ∀ x c, X.env.cells.lookup x = some c → c ≠ b
  bs : ∀ b o, X.base.get? b = some o → X.s₀.heap.get? b = some o ∧ X.H₀ b = none
  bsz : X.base.objs.size ≤ X.s₀.heap.objs.size
  noex : ∀ b o, X.base.get? b = some o → b ∉ X.ex
  exfs : ∀ b ∈ X.ex, b ∉ X.fs
  funs : X.s₀.heap.FunFrames X.base X.outer
  frf : ∀ b ∈ X.fs, X.H₀ b = none

structure Inv (X : Cx) (pins : List (Addr × Obj)) (σ : List (Option V)) (H : Hp) (s : Shared) : Prop where
  ok : X.Ok
  os : s.os = X.s₀.os
  bare : AllBare s.gens
  base : Un X.fs X.ex X.H₀ H X.s₀.heap s.heap
  loc : ∃ m, s.heap.Ns X.env.locals m ∧ ∀ (i : Nat) (x : Str) (v : V), X.N[i]? = some x → σ[i]? = some (some v) → Vis X.env.scope x → ∃ u, RelV v u ∧ Look X.env s.heap m x u
  cell : ∀ x c, X.env.cells.lookup x = some c → ∃ v, s.heap.IsCell c v
  free : H X.env.locals = none
  freeC : ∀ x c, X.env.cells.lookup x = some c → H c = none
  pin : ∀ p ∈ X.pn ++ pins, s.heap.get? p.1 = some p.2 ∧ H p.1 = none ∧ p.1 ≠ X.env.locals ∧ p.1 ∉ X.fs ∧ ∀ v, p.2.data ≠ .cell v
  hok : HOk X.prog X.w H s.heap
  len : σ.length = X.N.length

section
variable {X : Cx} {pins : List (Addr × Obj)} {σ : List (Option V)} {H H' : Hp} {s : Shared} {h' : Heap}

theorem Cx.Ok.nofr (ok : X.Ok) {b : Addr} {o : Obj} (e : X.base.get? b = some o) : b ∉ X.fs := fun hb => by
  have := (ok.funs.mem hb).1
  rw [e] at this; cases this
theorem Inv.bs (I : Inv X pins σ H s) : ∀ b o, X.base.get? b = some o → s.heap.get? b = some o ∧ H b = none := fun b o e =>
  ⟨I.base.keep b o (I.ok.bs b o e).1 (I.ok.bs b o e).2 (I.ok.nofr e) (I.ok.noex b o e), I.base.free b o (I.ok.bs b o e).1 (I.ok.bs b o e).2 (I.ok.noex b o e)⟩
theorem Inv.bk (I : Inv X pins σ H s) : ∀ b o, X.base.get? b = some o → s.heap.get? b = some o := fun b o e => (I.bs b o e).1
theorem Inv.mod (I : Inv X pins σ H s) : Mod X.K X.mg X.base := I.ok.mod
theorem Inv.kIn (I : Inv X pins σ H s) : X.K.In s.heap := I.ok.mod.kin.keeps I.bk
theorem Inv.lt (I : Inv X pins σ H s) : X.env.locals < s.heap.objs.size := let ⟨_, hn, _⟩ := I.loc; hn.lt
theorem Inv.sz (I : Inv X pins σ H s) : X.s₀.heap.objs.size ≤ s.heap.objs.size := Nat.le_trans I.ok.above (Nat.le_of_lt I.lt)
theorem Inv.nofs (I : Inv X pins σ H s) {a : Addr} (h : s.heap.objs.size ≤ a) : a ∉ X.fs := fun hb => by
  obtain ⟨_, o, ho, _⟩ := I.ok.funs.mem hb
  exact absurd (Nat.lt_of_lt_of_le (Heap.lt_size ho) (Nat.le_trans I.sz h)) (Nat.lt_irrefl _)
theorem Inv.cne (I : Inv X pins σ H s) : ∀ x c, X.env.cells.lookup x = some c → c ≠ X.env.locals := fun x c e z => by
  obtain ⟨v, o, ho, hd⟩ := I.cell x c e
  obtain ⟨m, ⟨o', es, ep, ho', hd', _⟩, _⟩ := I.loc
  rw [z, ho'] at ho; cases ho; rw [hd'] at hd; cases hd
theorem Inv.funs (I : Inv X pins σ H s) : s.heap.FunFrames X.base X.outer := by
  have all : ∀ (l : List Env), (∀ b ∈ frs l, b ∈ X.fs) → X.s₀.heap.FunFrames X.base l → s.heap.FunFrames X.base l := by
    intro l
    induction l with
    | nil => intro _ _; trivial
    | cons env r ih =>
      intro hs hl
      obtain ⟨hk, ⟨L, o, hf, hn, ho, hd⟩, hr⟩ := hl
      have hL : L ∈ X.fs := hs L (by unfold frs; rw [List.filterMap_cons, hf]; exact List.mem_cons_self)
      obtain ⟨sl, e⟩ := I.base.slot L o ho (I.ok.frf L hL) hL fun z => I.ok.exfs L z hL
      exact ⟨hk, ⟨L, _, hf, hn, e, hd⟩, ih (fun b hb => hs b (by unfold frs; rw [List.filterMap_cons, hf]; exact List.mem_cons_of_mem _ hb)) hr⟩
  exact all X.outer (fun _ hb => hb) I.ok.funs

/-- the frames that run, for a call -/
theorem Inv.stack (I : Inv X pins σ H s) : s.heap.FunFrames X.base X.stack := by
  rcases I.ok.stk with e | ⟨e, hf⟩
  · rw [e]; exact I.funs
  · rw [e]
    obtain ⟨m, hn, _⟩ := I.loc
    refine .cons (by rw [I.ok.kind]; decide) hf hn ?_ I.funs
    exact Heap.get?_none_of_le (Nat.le_trans I.ok.bsz I.ok.above)
theorem Inv.stkSub (I : Inv X pins σ H s) : ∀ b ∈ frs X.stack, b ∈ X.env.locals :: X.fs := fun b hb => by
  rcases I.ok.stk with e | ⟨e, hf⟩
  · rw [e] at hb; exact List.mem_cons_of_mem _ hb
  · rw [e] at hb
    unfold frs at hb
    rw [List.filterMap_cons, hf] at hb
    exact hb
theorem Inv.stkFree (I : Inv X pins σ H s) : ∀ b ∈ frs X.stack, H b = none := fun b hb => by
  rcases List.mem_cons.mp (I.stkSub b hb) with e | hb
  · rw [e]; exact I.free
  · obtain ⟨_, o, ho, _⟩ := I.ok.funs.mem hb
    exact I.base.free b o ho (I.ok.frf b hb) fun z => I.ok.exfs b z hb

/-- THE STEP: the untracked objects but the frame and the records at ch are kept (the callers' frames up to slots), the frame's map is kept, the new abstract heap is held -/
theorem Inv.step {g' : Array GenState} {t' : Nat} {d' : Drawn} {ch : List Addr} (I : Inv X pins σ H s)
    (hch : ∀ b ∈ ch, (b ∈ X.ex ∨ X.s₀.heap.objs.size ≤ b) ∧ b ≠ X.env.locals ∧ (∀ x c, X.env.cells.lookup x = some c → c ≠ b) ∧ ∀ p ∈ X.pn ++ pins, p.1 ≠ b)
    (keep : ∀ b o, b ≠ X.env.locals → b ∉ X.fs → b ∉ ch → s.heap.get? b = some o → H b = none → h'.get? b = some o)
    (slot : ∀ b o, b ≠ X.env.locals → b ∈ X.fs → b ∉ ch → s.heap.get? b = some o → H b = none → ∃ sl, h'.get? b = some { o with slots := sl }) (free : ∀ b o, b ∉ ch → s.heap.get? b = some o → H b = none → H' b = none)
    (there : ∀ b o, b ∉ ch → s.heap.get? b = some o → ∃ o', h'.get? b = some o')
    (tups : ∀ b xs, H b = some (.tup xs) → H' b = some (.tup xs)) (frzs : ∀ b o u, H b = some (.frz o u) → H' b = some (.frz o u)) (tbls : ∀ b ps, H b = some (.tbl ps) → ∃ more, H' b = some (.tbl (ps ++ more)))
    (ns : ∀ m, s.heap.Ns X.env.locals m → h'.Ns X.env.locals m) (hok : HOk X.prog X.w H' h') (hg : AllBare g') :
    Inv X pins σ H' { s with heap := h', gens := g', drawn := d', toks := t' } := by
  have neL : ∀ b o, X.s₀.heap.get? b = some o → b ≠ X.env.locals := fun b o e => Nat.ne_of_lt (Nat.lt_of_lt_of_le (Heap.lt_size e) I.ok.above)
  have neC : ∀ b o, X.s₀.heap.get? b = some o → b ∉ X.ex → b ∉ ch := fun b o e hx hb => by
    rcases (hch b hb).1 with z | z
    · exact hx z
    · exact absurd (Nat.lt_of_lt_of_le (Heap.lt_size e) z) (Nat.lt_irrefl _)
  have cellK : ∀ x c, X.env.cells.lookup x = some c → ∀ v, s.heap.IsCell c v → h'.IsCell c v := fun x c e v ⟨o, ho, hd⟩ => by
    have nch : c ∉ ch := fun z => (hch c z).2.2.1 x c e rfl
    by_cases hc : c ∈ X.fs
    · obtain ⟨sl, q⟩ := slot c o (I.cne x c e) hc nch ho (I.freeC x c e)
      exact ⟨_, q, hd⟩
    · exact ⟨o, keep c o (I.cne x c e) hc nch ho (I.freeC x c e), hd⟩
  refine ⟨I.ok, I.os, hg, ⟨fun b o e n hb hx => ?_, fun b o e n hb hx => ?_, fun b o e n hx => ?_, fun b o e hx => ?_, fun b xs e => tups b xs (I.base.tups b xs e), fun b o xs e => frzs b o xs (I.base.frzs b o xs e), fun b ps e => ?_⟩, ?_, fun x c e => ?_, ?_, fun x c e => ?_, fun p hp => ?_, hok, I.len⟩
  · exact keep b o (neL b o e) hb (neC b o e hx) (I.base.keep b o e n hb hx) (I.base.free b o e n hx)
  · obtain ⟨sl, e1⟩ := I.base.slot b o e n hb hx
    obtain ⟨sl', e2⟩ := slot b _ (neL b o e) hb (neC b o e hx) e1 (I.base.free b o e n hx)
    exact ⟨sl', e2⟩
  · obtain ⟨o', e1⟩ := I.base.there b o e hx
    exact free b o' (neC b o e hx) e1 (I.base.free b o e n hx)
  · obtain ⟨o', e1⟩ := I.base.there b o e hx
    exact there b o' (neC b o e hx) e1
  · obtain ⟨m1, e1⟩ := I.base.tbls b ps e
    obtain ⟨m2, e2⟩ := tbls b _ e1
    exact ⟨m1 ++ m2, by rw [e2, Array.append_assoc]⟩
  · obtain ⟨m, hn, hl⟩ := I.loc
    refine ⟨m, ns m hn, fun i x v e1 e2 e3 => ?_⟩
    obtain ⟨u, r, l⟩ := hl i x v e1 e2 e3
    refine ⟨u, r, ?_⟩
    rcases l with l | ⟨k, c, e, z⟩
    · exact .inl l
    · exact .inr ⟨k, c, e, cellK x c e _ z⟩
  · obtain ⟨v, z⟩ := I.cell x c e
    exact ⟨v, cellK x c e v z⟩
  · obtain ⟨m, ⟨o, _, _, ho, _⟩, _⟩ := I.loc
    exact free _ o (fun z => (hch _ z).2.1 rfl) ho I.free
  · obtain ⟨v, o, ho, hd⟩ := I.cell x c e
    exact free c o (fun z => (hch c z).2.2.1 x c e rfl) ho (I.freeC x c e)
  · obtain ⟨e, n, ne, nf, d⟩ := I.pin p hp
    have nch : p.1 ∉ ch := fun z => (hch p.1 z).2.2.2 p hp rfl
    exact ⟨keep p.1 p.2 ne nf nch e n, free p.1 p.2 nch e n, ne, nf, d⟩
/-- .. where the frame's own object is kept too -/
theorem Inv.un {t' : Nat} (I : Inv X pins σ H s) (u : Un X.fs [] H H' s.heap h') (hok : HOk X.prog X.w H' h') : Inv X pins σ H' { s with heap := h', toks := t' } := by
  obtain ⟨m, ⟨o, es, ep, ho, r⟩, _⟩ := id I.loc
  obtain ⟨sl, hL⟩ := u.any ho I.free (by simp)
  exact I.step (g' := s.gens) (d' := s.drawn) (ch := []) (fun _ z => nomatch z) (fun b o _ hb _ e n => u.keep b o e n hb (by simp)) (fun b o _ hb _ e n => u.slot b o e n hb (by simp)) (fun b o _ e n => u.free b o e n (by simp)) (fun b o _ e => u.there b o e (by simp)) u.tups u.frzs u.tbls (fun m' hm => by
    obtain ⟨o', es', ep', ho', r'⟩ := hm
    rw [ho] at ho'; cases ho'
    exact ⟨_, es', ep', hL, r'⟩) hok I.bare
/-- behind a call (or a comprehension's block): the slots of this frame may have changed too, the records at ch may have turned -/
theorem Inv.call {g' : Array GenState} {t' : Nat} {d' : Drawn} {ch : List Addr} (I : Inv X pins σ H s) (u : Un (frs X.stack) ch H H' s.heap h') (hok : HOk X.prog X.w H' h') (hg : AllBare g')
    (hch : ∀ b ∈ ch, (b ∈ X.ex ∨ X.s₀.heap.objs.size ≤ b) ∧ b ≠ X.env.locals ∧ (∀ x c, X.env.cells.lookup x = some c → c ≠ b) ∧ ∀ p ∈ X.pn ++ pins, p.1 ≠ b) :
    Inv X pins σ H' { s with heap := h', gens := g', drawn := d', toks := t' } := by
  obtain ⟨m, ⟨o, es, ep, ho, r⟩, _⟩ := id I.loc
  obtain ⟨sl, hL⟩ := u.any ho I.free fun z => (hch _ z).2.1 rfl
  exact I.step (ch := ch) hch (fun b o hL hb hc e n => u.keep b o e n (fun z => (List.mem_cons.mp (I.stkSub b z)).elim hL hb) hc) (fun b o _ _ hc e n => u.any e n hc) (fun b o hc e n => u.free b o e n hc) (fun b o hc e => u.there b o e hc) u.tups u.frzs u.tbls (fun m' hm => by
    obtain ⟨o', es', ep', ho', r'⟩ := hm
    rw [ho] at ho'; cases ho'
    exact ⟨_, es', ep', hL, r'⟩) hok hg
/-- an untracked record of ours (an iterator) has turned -/
theorem Inv.turned {t' : Nat} {it : Addr} (I : Inv X pins σ H s) (k : ∀ b o, b ≠ it → s.heap.get? b = some o → h'.get? b = some o) (hn : H it = none) (hL : it ≠ X.env.locals)
    (h1 : it ∈ X.ex ∨ X.s₀.heap.objs.size ≤ it) (h2 : ∀ x c, X.env.cells.lookup x = some c → c ≠ it) (h3 : ∀ p ∈ X.pn ++ pins, p.1 ≠ it) : Inv X pins σ H { s with heap := h', toks := t' } := by
  have nit : ∀ b u, H b = some u → b ≠ it := fun b u e z => by rw [z, hn] at e; cases e
  refine I.step (g' := s.gens) (d' := s.drawn) (ch := [it]) (fun b hb => ?_) (fun b o _ _ hc e _ => k b o (fun z => hc (by simp [z])) e) (fun b o _ _ hc e _ => ⟨o.slots, k b o (fun z => hc (by simp [z])) e⟩) (fun _ _ _ _ n => n)
    (fun b o hc e => ⟨o, k b o (fun z => hc (by simp [z])) e⟩) (fun _ _ e => e) (fun _ _ _ e => e) (fun b ps e => ⟨#[], by rw [e]; simp⟩) (fun m hm => ?_) (fun b u e => ?_) I.bare
  · have e : b = it := by simpa using hb
    subst e
    exact ⟨h1, hL, h2, h3⟩
  · obtain ⟨o, es, ep, ho, r⟩ := hm
    exact ⟨o, es, ep, k _ o (Ne.symm hL) ho, r⟩
  · refine (I.hok b u e).stay (fun c v hc q => k c v ?_ q) (fun _ q => q) fun _ _ q => q
    rcases hc with z | z
    · rw [z]; exact nit b u e
    · exact nit c _ z
theorem Inv.tok (I : Inv X pins σ H s) (t : Nat) : Inv X pins σ H { s with toks := t } := I.un (h' := s.heap) (t' := t) Un.refl I.hok
/-- all objects kept -/
theorem Inv.kept {t' : Nat} (I : Inv X pins σ H s) (k : ∀ b u, s.heap.get? b = some u → h'.get? b = some u) : Inv X pins σ H { s with heap := h', toks := t' } := I.un (Un.kept k) (I.hok.kept k)
/-- a new object laid and tracked -/
theorem Inv.laid {a : Addr} {o : HO} {t' : Nat} (I : Inv X pins σ H s) (k : ∀ b u, s.heap.get? b = some u → h'.get? b = some u) (hp : s.heap.objs.size ≤ a) (new : ObjOk X.prog X.w (upd H a o) h' a o) :
    Inv X pins σ (upd H a o) { s with heap := h', toks := t' } := I.un (Un.laid k hp (I.hok.fresh hp)) (I.hok.laid k hp new)
/-- an object written -/
theorem Inv.write {x e : Addr} {o : HO} {t' : Nat} (I : Inv X pins σ H s) (mu : Mut (H x)) (he : e = x ∨ H e = some (.own x)) (k : ∀ b u, b ≠ e → s.heap.get? b = some u → h'.get? b = some u) (heo : ∃ u, h'.get? e = some u)
    (new : ObjOk X.prog X.w (upd H x o) h' x o) : Inv X pins σ (upd H x o) { s with heap := h', toks := t' } := I.un (Un.write mu he k heo) (I.hok.write mu he k heo new)
theorem Inv.pins_of {pins' : List (Addr × Obj)} (I : Inv X pins σ H s) (h : ∀ p ∈ pins', s.heap.get? p.1 = some p.2 ∧ H p.1 = none ∧ p.1 ≠ X.env.locals ∧ p.1 ∉ X.fs ∧ ∀ v, p.2.data ≠ .cell v) : Inv X pins' σ H s :=
  ⟨I.ok, I.os, I.bare, I.base, I.loc, I.cell, I.free, I.freeC, fun p hp => (List.mem_append.mp hp).elim (fun z => I.pin p (List.mem_append_left _ z)) (h p), I.hok, I.len⟩

theorem nodup_ix {N : List Str} (hN : N.Nodup) {i j : Nat} {x : Str} (a : N[i]? = some x) (b : N[j]? = some x) : i = j := by
  obtain ⟨h1, e1⟩ := List.getElem?_eq_some_iff.mp a
  obtain ⟨h2, e2⟩ := List.getElem?_eq_some_iff.mp b
  exact (List.getElem_inj hN).mp (e1.trans e2.symm)

/-- a name is stored; what changed -/
theorem store_ok2 {M : Model} {A : Around} {E : Value → Shared → Prop} {i : Nat} {x : Str} {v : V} {u : Value} {Q : Unit → Shared → Prop} (I : Inv X pins σ H s) (hN : X.N.Nodup) (hi : X.N[i]? = some x) (hx : Loc X.env.scope x) (r : RelV v u)
    (h : ∀ s', Inv X pins (σ.set i (some v)) H s' → (∃ a, Heap.SameBut a s.heap s'.heap ∧ (a = X.env.locals ∨ X.env.cells.lookup x = some a)) → Q () s') (hf : X.fn x = true ∨ X.env.scope.names.lookup x = some .local := by first | exact .inl rfl | exact .inr rfl | assumption) : wpAny M A (storeName X.env x u) Q E s := by
  obtain ⟨m, hn, hl⟩ := id I.loc
  have hcls : (X.env.scope.kind == .class || (X.env.scope.kind == .module && X.env.locals != X.env.globals)) = false := by rw [I.ok.kind]; rfl
  have hiσ : i < σ.length := by rw [I.len]; exact (List.getElem?_eq_some_iff.mp hi).1
  have cne := I.cne
  have tracked : ∀ {a : Addr} {h' : Heap}, (∃ o, s.heap.get? a = some o ∧ H a = none) → Heap.SameBut a s.heap h' → HOk X.prog X.w H h' := fun {a h'} ha hs b ob e => by
    obtain ⟨_, _, hfree⟩ := ha
    refine (I.hok b ob e).stay (fun c w' hc q => (hs.2 c ?_).trans q) (fun _ q => q) fun _ _ q => q
    rintro rfl
    rcases hc with rfl | hc
    · rw [hfree] at e; cases e
    · rw [hfree] at hc; cases hc
  rcases hx with hk | hk
  · refine wpAny_storeName_local hk hn (fun h' hn' hs => ?_) hcls
    obtain ⟨oL, _, _, hoL, _⟩ := id hn
    refine h _ ⟨I.ok, I.os, I.bare, ⟨fun b o e n hb hx => ?_, fun b o e n hb hx => ?_, I.base.free, fun b o e hx => ?_, I.base.tups, I.base.frzs, I.base.tbls⟩, ⟨_, hn', fun j y v' e1 e2 e3 => ?_⟩, fun y c e => ?_, I.free, I.freeC, fun p hp => ?_, tracked ⟨oL, hoL, I.free⟩ hs, by simpa using I.len⟩ ⟨_, hs, .inl rfl⟩
    · exact (hs.2 b (Nat.ne_of_lt (Nat.lt_of_lt_of_le (Heap.lt_size e) I.ok.above))).trans (I.base.keep b o e n hb hx)
    · obtain ⟨sl, e1⟩ := I.base.slot b o e n hb hx
      exact ⟨sl, (hs.2 b (Nat.ne_of_lt (Nat.lt_of_lt_of_le (Heap.lt_size e) I.ok.above))).trans e1⟩
    · obtain ⟨o', e1⟩ := I.base.there b o e hx
      exact ⟨o', (hs.2 b (Nat.ne_of_lt (Nat.lt_of_lt_of_le (Heap.lt_size e) I.ok.above))).trans e1⟩
    · by_cases hj : j = i
      · subst hj
        rw [hi] at e1; cases e1
        rw [List.getElem?_set_self hiσ] at e2
        cases e2
        exact ⟨u, r, .inl ⟨hk, by simp⟩⟩
      · rw [List.getElem?_set_ne (Ne.symm hj)] at e2
        obtain ⟨u', r', q⟩ := hl j y v' e1 e2 e3
        refine ⟨u', r', ?_⟩
        rcases q with ⟨k, e⟩ | ⟨k, c, e, z⟩
        · refine .inl ⟨k, ?_⟩
          have : y ≠ x := fun e => hj (nodup_ix hN e1 (e ▸ hi))
          simp [this, e]
        · exact .inr ⟨k, c, e, z.sameBut hs (cne y c e)⟩
    · obtain ⟨w', z⟩ := I.cell y c e
      exact ⟨w', z.sameBut hs (cne y c e)⟩
    · obtain ⟨e, n, ne, nf, d⟩ := I.pin p hp
      exact ⟨(hs.2 p.1 ne).trans e, n, ne, nf, d⟩
  · have hfn : X.fn x = true := by
      rcases hf with z | z
      · exact z
      · rw [z] at hk; cases hk
    obtain ⟨c, hc⟩ := I.ok.has x (.inl hk)
    obtain ⟨w', z⟩ := I.cell x c hc
    refine wpAny_storeName_cell I.ok.kind hk hc z (fun h' hc' hs => ?_)
    obtain ⟨oc, hoc, hocd⟩ := id z
    refine h { s with heap := h' } ⟨I.ok, I.os, I.bare, ⟨fun b o e n hb hx => ?_, fun b o e n hb hx => ?_, I.base.free, fun b o e hx => ?_, I.base.tups, I.base.frzs, I.base.tbls⟩, ⟨m, hn.sameBut hs (Ne.symm (cne x c hc)), fun j y v' e1 e2 e3 => ?_⟩, fun y c' e => ?_, I.free, I.freeC, fun p hp => ?_, tracked ⟨oc, hoc, I.freeC x c hc⟩ hs, by simpa using I.len⟩ ⟨c, hs, .inr hc⟩
    · exact (hs.2 b (Nat.ne_of_lt (Nat.lt_of_lt_of_le (Heap.lt_size e) (I.ok.cab x c hfn hc)))).trans (I.base.keep b o e n hb hx)
    · obtain ⟨sl, e1⟩ := I.base.slot b o e n hb hx
      exact ⟨sl, (hs.2 b (Nat.ne_of_lt (Nat.lt_of_lt_of_le (Heap.lt_size e) (I.ok.cab x c hfn hc)))).trans e1⟩
    · obtain ⟨o', e1⟩ := I.base.there b o e hx
      exact ⟨o', (hs.2 b (Nat.ne_of_lt (Nat.lt_of_lt_of_le (Heap.lt_size e) (I.ok.cab x c hfn hc)))).trans e1⟩
    · by_cases hj : j = i
      · subst hj
        rw [hi] at e1; cases e1
        rw [List.getElem?_set_self hiσ] at e2
        cases e2
        exact ⟨u, r, .inr ⟨.inl hk, c, hc, hc'⟩⟩
      · rw [List.getElem?_set_ne (Ne.symm hj)] at e2
        obtain ⟨u', r', q⟩ := hl j y v' e1 e2 e3
        refine ⟨u', r', ?_⟩
        rcases q with q | ⟨k, c', e, z'⟩
        · exact .inl q
        · refine .inr ⟨k, c', e, z'.sameBut hs ?_⟩
          rintro rfl
          exact hj (nodup_ix hN e1 (I.ok.inj _ _ _ e hc ▸ hi))
    · by_cases hcc : c' = c
      · subst hcc; exact ⟨_, hc'⟩
      · obtain ⟨w2, z2⟩ := I.cell y c' e
        exact ⟨w2, z2.sameBut hs hcc⟩
    · obtain ⟨e, n, ne, nf, d⟩ := I.pin p hp
      refine ⟨(hs.2 p.1 ?_).trans e, n, ne, nf, d⟩
      intro q
      rw [q, hoc] at e
      have q' : oc = p.2 := Option.some.inj e
      exact d w' (by rw [← q']; exact hocd)
theorem store_ok {M : Model} {A : Around} {E : Value → Shared → Prop} {i : Nat} {x : Str} {v : V} {u : Value} {Q : Unit → Shared → Prop} (I : Inv X pins σ H s) (hN : X.N.Nodup) (hi : X.N[i]? = some x) (hx : Loc X.env.scope x) (r : RelV v u)
    (h : ∀ s', Inv X pins (σ.set i (some v)) H s' → Q () s') (hf : X.fn x = true ∨ X.env.scope.names.lookup x = some .local := by first | exact .inl rfl | exact .inr rfl | assumption) : wpAny M A (storeName X.env x u) Q E s :=
  store_ok2 I hN hi hx r (fun s' I' _ => h s' I') hf
/-- behind a call or a block, the state as it is -/
theorem Inv.call' {s' : Shared} {ch : List Addr} (I : Inv X pins σ H s) (ho : s'.os = s.os) (u : Un (frs X.stack) ch H H' s.heap s'.heap) (hok : HOk X.prog X.w H' s'.heap) (hg : AllBare s'.gens)
    (hch : ∀ b ∈ ch, (b ∈ X.ex ∨ X.s₀.heap.objs.size ≤ b) ∧ b ≠ X.env.locals ∧ (∀ x c, X.env.cells.lookup x = some c → c ≠ b) ∧ ∀ p ∈ X.pn ++ pins, p.1 ≠ b) : Inv X pins σ H' s' := by
  obtain ⟨h', g', d', t', o'⟩ := s'
  have e : o' = s.os := ho
  subst e
  exact I.call (g' := g') (t' := t') (d' := d') u hok hg hch
end

/-! ### the judgements -/
/-- an exception: its class, its own dict's address (where it has one), the abstract heap behind it -/
abbrev XK := Value → Option Addr → Hp → Prop
abbrev St := List (Option V)
abbrev VK := V → Hp → Prop
/-- an expression's reading; a test's; an argument list's -/
abbrev TE := St → Hp → VK → Prop
abbrev TT := St → Hp → (Bool → Hp → Prop) → Prop
abbrev TA := St → Hp → (List V → Hp → Prop) → Prop
/-- what is wanted behind a statement -/
structure Ends where
  nx : St → Hp → Prop
  rt : VK
  bk : St → Hp → Prop := fun _ _ => False
  ct : St → Hp → Prop := fun _ _ => False
abbrev TS := Ends → St → Hp → Prop

def EP (X : Cx) (pins : List (Addr × Obj)) (σ : St) (Q : VK) (u : Value) (s' : Shared) : Prop := ∃ v H', Inv X pins σ H' s' ∧ RelV v u ∧ Q v H'
def TP (X : Cx) (pins : List (Addr × Obj)) (σ : St) (Q : Bool → Hp → Prop) (b : Bool) (s' : Shared) : Prop := ∃ H', Inv X pins σ H' s' ∧ Q b H'
def AP (X : Cx) (pins : List (Addr × Obj)) (σ : St) (Q : List V → Hp → Prop) (us : List Value) (s' : Shared) : Prop := ∃ vs H', Inv X pins σ H' s' ∧ Vals vs us ∧ Q vs H'
def SP (X : Cx) (pins : List (Addr × Obj)) (D : Ends) (f : Flow) (s' : Shared) : Prop :=
  match f with
  | .next => ∃ σ' H', Inv X pins σ' H' s' ∧ D.nx σ' H'
  | .brk => ∃ σ' H', Inv X pins σ' H' s' ∧ D.bk σ' H'
  | .cont => ∃ σ' H', Inv X pins σ' H' s' ∧ D.ct σ' H'
  | .ret u => ∃ v σ' H', Inv X pins σ' H' s' ∧ RelV v u ∧ D.rt v H'

def PE (X : Cx) (e : Expr) (t : TE) : Prop :=
  ∀ (pins : List (Addr × Obj)) (s : Shared) (σ : St) (H : Hp) (Q : VK), Inv X pins σ H s → t σ H Q → wpAny (model X.prog X.w) X.A (eval e X.env) (EP X pins σ Q) X.xe s
def PT (X : Cx) (e : Expr) (t : TT) : Prop :=
  ∀ (pins : List (Addr × Obj)) (s : Shared) (σ : St) (H : Hp) (Q : Bool → Hp → Prop), Inv X pins σ H s → t σ H Q → wpAny (model X.prog X.w) X.A (isTrue e X.env (eval e X.env)) (TP X pins σ Q) X.xe s
/-- a test whatever its 'whole' is (and, or) -/
def PW (X : Cx) (e : Expr) (t : TT) : Prop :=
  ∀ (whole : Sem Value) (pins : List (Addr × Obj)) (s : Shared) (σ : St) (H : Hp) (Q : Bool → Hp → Prop), Inv X pins σ H s → t σ H Q → wpAny (model X.prog X.w) X.A (isTrue e X.env whole) (TP X pins σ Q) X.xe s
theorem PW.pt {X : Cx} {e : Expr} {t : TT} (h : PW X e t) : PT X e t := h _
/-- an argument list (no star), from the left -/
def PA (X : Cx) (es : List Expr) (t : TA) : Prop :=
  ∀ (pos : Pos) (pins : List (Addr × Obj)) (s : Shared) (σ : St) (H : Hp) (Q : List V → Hp → Prop), Inv X pins σ H s → t σ H Q → wpAny (model X.prog X.w) X.A (spliced (backTo pos (starEach es X.env))) (AP X pins σ Q) X.xe s
def PS (X : Cx) (st : Stmt) (t : TS) : Prop :=
  ∀ (pins : List (Addr × Obj)) (s : Shared) (σ : St) (H : Hp) (D : Ends), Inv X pins σ H s → t D σ H → wpAny (model X.prog X.w) X.A (exec st X.env) (SP X pins D) X.xe s
def PSs (X : Cx) (st : List Stmt) (t : TS) : Prop :=
  ∀ (pins : List (Addr × Obj)) (s : Shared) (σ : St) (H : Hp) (D : Ends), Inv X pins σ H s → t D σ H → wpAny (model X.prog X.w) X.A (execs st X.env) (SP X pins D) X.xe s
/-- weaken the end -/
theorem thn {α : Type} {t : Sem α} {Q Q' : α → Shared → Prop} {M : Model} {A : Around} {E : Value → Shared → Prop} {s : Shared} (h : wpAny M A t Q E s) (hQ : ∀ a s, Q a s → Q' a s) : wpAny M A t Q' E s := wpAny_mono h hQ fun _ _ x => x
end L2

namespace L2
open PySem PySem.Spec PyProof.Rows
section
variable {X : Cx}

/-- two expressions in a row -/
theorem bin {a b : Expr} {ta tb : TE} (ha : PE X a ta) (hb : PE X b tb) {pins : List (Addr × Obj)} {s : Shared} {σ : St} {H : Hp} {R : V → V → Hp → Prop} (I : Inv X pins σ H s) (h : ta σ H fun x H1 => tb σ H1 fun y H2 => R x y H2)
    {α : Type} {Q : α → Shared → Prop} {f : Value → Value → Sem α}
    (hf : ∀ v u s2 x y H2, Inv X pins σ H2 s2 → RelV x v → RelV y u → R x y H2 → wpAny (model X.prog X.w) X.A (f v u) Q X.xe s2) :
    wpAny (model X.prog X.w) X.A (eval a X.env) (fun v s₁ => wpAny (model X.prog X.w) X.A (eval b X.env) (fun u s₂ => wpAny (model X.prog X.w) X.A (f v u) Q X.xe s₂) X.xe s₁) X.xe s := by
  refine thn (ha pins s σ H _ I h) fun v s1 ⟨x, H1, I1, r1, q1⟩ => ?_
  refine thn (hb pins s1 σ H1 _ I1 q1) fun u s2 ⟨y, H2, I2, r2, q2⟩ => ?_
  exact hf v u s2 x y H2 I2 r1 r2 q2

/-! ### names and constants -/
def tVar (i : Nat) : TE := fun σ H Q => ∃ v, σ[i]? = some (some v) ∧ Q v H
def tC (v : V) : TE := fun _ H Q => Q v H
theorem pe_var {i : Nat} {x : Str} {pos : Pos} (hN : X.N[i]? = some x) (hv : Vis X.env.scope x) (hd : (x == ("__debug__" : Str)) = false := by decide) (hcd : (x == ("__classdict__" : Str)) = false := by decide) : PE X (.Name x pos) (tVar i) := by
  intro pins s σ H Q I h
  obtain ⟨v, e, h⟩ := h
  obtain ⟨m, hn, hl⟩ := I.loc
  obtain ⟨u, r, l⟩ := hl i x v hN e hv
  have fin : EP X pins σ Q u s := ⟨v, H, I, r, h⟩
  rcases l with ⟨hk, hm⟩ | ⟨hk, c, hc, hcell⟩
  · exact wpAny_Name (wpAny_loadName_local I.ok.kind hk hn hm fin) hd
  · rcases hk with hk | hk
    · exact wpAny_Name (wpAny_loadName_cell I.ok.kind hk hc hcell fin) hd
    · exact wpAny_Name (wpAny_loadName_free I.ok.kind hk hc hcell fin hcd) hd
theorem pe_int {i j pos} : PE X (.Constant (.int i) j pos) (tC (.int i)) := fun _ _ _ H _ I h => wpAny_Constant_int ⟨.int i, H, I.tok _, ⟨_, rfl⟩, h⟩
theorem pe_bl {b j pos} : PE X (.Constant (.bool b) j pos) (tC (.bl b)) := fun _ _ _ H _ I h => Constant_bool ⟨.bl b, H, I, rfl, h⟩
theorem pe_non {j pos} : PE X (.Constant .none j pos) (tC .non) := fun _ _ _ H _ I h => Constant_none ⟨.non, H, I, rfl, h⟩
theorem pe_str {x j pos} : PE X (.Constant (.str x) j pos) (tC (.str x)) := fun _ _ _ H _ I h => Calls.Constant_str ⟨.str x, H, I.tok _, ⟨_, rfl⟩, h⟩

/-- a global name of the def -/
def Gl (X : Cx) (x : Str) : Prop := X.env.kindOf x = some .globalImplicit
theorem ld_glob {E : Value → Shared → Prop} {pins : List (Addr × Obj)} {s : Shared} {σ : St} {H : Hp} {x : Str} {u : Value} {pos : Pos} {Q : Value → Shared → Prop} (I : Inv X pins σ H s) (hg : Gl X x) (hm : X.mg x = some u) (h : Q u s)
    (hd : (x == ("__debug__" : Str)) = false := by decide) : wpAny (model X.prog X.w) X.A (eval (.Name x pos) X.env) Q E s :=
  Calls.Name_function_global I.ok.kind hg (Calls.loadGlobal_global (by rw [I.ok.glob]; exact I.mod.glob.keeps I.bk) hm h) hd
theorem ld_blt {E : Value → Shared → Prop} {pins : List (Addr × Obj)} {s : Shared} {σ : St} {H : Hp} {x : Str} {u : Value} {pos : Pos} {Q : Value → Shared → Prop} (I : Inv X pins σ H s) (hg : Gl X x) (hm : X.mg x = none) (hv : bootBuiltins x = some u) (h : Q u s)
    (hn : x ≠ "__name__" := by decide) (hd : (x == ("__debug__" : Str)) = false := by decide) : wpAny (model X.prog X.w) X.A (eval (.Name x pos) X.env) Q E s := by
  obtain ⟨mb, h1, h2⟩ := I.mod.blt
  exact Calls.Name_function_global I.ok.kind hg (Calls.loadGlobal_builtin (by rw [I.ok.glob]; exact I.mod.glob.keeps I.bk) hm (by rw [I.ok.blt]; exact h1.keeps I.bk) ((h2 x hn).trans hv) h) hd
theorem pe_bltn {x : Str} {v : V} {u : Value} {pos : Pos} (hg : Gl X x) (hm : X.mg x = none) (hv : bootBuiltins x = some u) (r : RelV v u) (hn : x ≠ "__name__" := by decide) (hd : (x == ("__debug__" : Str)) = false := by decide) : PE X (.Name x pos) (tC v) :=
  fun _ _ _ H _ I h => ld_blt I hg hm hv ⟨v, H, I, r, h⟩ hn hd

/-! ### arithmetic -/
variable {a b : Expr} {ta tb : TE} {pos : Pos}

/-! ### comparisons -/
def PC (X : Cx) (op : CmpOp) (a b : Expr) (t : TE) : Prop :=
  ∀ (pins : List (Addr × Obj)) (s : Shared) (σ : St) (H : Hp) (Q : VK), Inv X pins σ H s → t σ H Q →
    wpAny (model X.prog X.w) X.A (eval a X.env) (fun v s₁ => wpAny (model X.prog X.w) X.A (eval b X.env) (fun u s₂ => wpAny (model X.prog X.w) X.A (compareOp op v u) (EP X pins σ Q) X.xe s₂) X.xe s₁) X.xe s
/-- a comparison as a value, as a test -/
def tB (t : TE) : TT := fun σ H Q => t σ H fun x H1 => ∃ c, x = .bl c ∧ Q c H1
theorem pt_cmp {op : CmpOp} {t : TE} (h : PC X op a b t) (h1 : behindInMarks op b = false := by first | exact nobehind _ (by decide) (by decide) | rfl) : PT X (.Compare a [op] [b] pos) (tB t) := by
  intro pins s σ H Q I hw
  refine wpAny_isTrue_Compare1 (thn (h pins s σ H _ I hw) fun v s1 h1 => thn h1 fun u s2 h2 => thn h2 fun c s3 ⟨x, H1, I1, r1, q1⟩ => ?_) h1
  obtain ⟨d, rfl, q⟩ := q1
  cases r1
  exact wpAny_truthy_bool ⟨H1, I1, q⟩
/-- an expression whose value is a bool, as a test -/
theorem pt_val {e : Expr} {t : TE} (h : PE X e t) (he : ∀ whole, isTrue e X.env whole = (do let v ← whole; standAt e.pos; holding [v] (truthy v)) := by intro _; rfl) : PT X e (tB t) := by
  intro pins s σ H Q I hw
  refine isTrue_plain (thn (h pins s σ H _ I hw) fun v s1 ⟨x, H1, I1, r1, q1⟩ => ?_) (he _)
  obtain ⟨d, rfl, q⟩ := q1
  cases r1
  exact wpAny_truthy_bool ⟨H1, I1, q⟩

/-! ### and, or, not -/
variable {tA tB' : TT} {rest : List Expr}
def tAnd (t u : TT) : TT := fun σ H Q => t σ H fun c H1 => if c = true then u σ H1 Q else Q false H1
def tOr (t u : TT) : TT := fun σ H Q => t σ H fun c H1 => if c = true then Q true H1 else u σ H1 Q
def tNot (t : TT) : TT := fun σ H Q => t σ H fun c H1 => Q (!c) H1
theorem pw_and1 (ha : PT X a tA) : PW X (.BoolOp .And [a] pos) tA := by
  intro wh pins s σ H Q I h
  refine isTrue_and (thn (ha pins s σ H Q I h) fun c s1 e => ?_)
  cases c with
  | true => exact isTrue_and_nil e
  | false => exact e
theorem pw_or1 (ha : PT X a tA) : PW X (.BoolOp .Or [a] pos) tA := by
  intro wh pins s σ H Q I h
  refine isTrue_or (thn (ha pins s σ H Q I h) fun c s1 e => ?_)
  cases c with
  | false => exact isTrue_or_nil e
  | true => exact e
theorem pw_and (ha : PT X a tA) (hb : PW X (.BoolOp .And (b :: rest) pos) tB') : PW X (.BoolOp .And (a :: b :: rest) pos) (tAnd tA tB') := by
  intro wh pins s σ H Q I h
  refine isTrue_and (thn (ha pins s σ H _ I h) fun c s1 ⟨H1, I1, q1⟩ => ?_)
  cases c with
  | true => exact hb wh pins s1 σ H1 Q I1 q1
  | false => exact ⟨H1, I1, q1⟩
theorem pw_or (ha : PT X a tA) (hb : PW X (.BoolOp .Or (b :: rest) pos) tB') : PW X (.BoolOp .Or (a :: b :: rest) pos) (tOr tA tB') := by
  intro wh pins s σ H Q I h
  refine isTrue_or (thn (ha pins s σ H _ I h) fun c s1 ⟨H1, I1, q1⟩ => ?_)
  cases c with
  | true => exact ⟨H1, I1, q1⟩
  | false => exact hb wh pins s1 σ H1 Q I1 q1
theorem pt_not (ha : PT X a tA) : PT X (.UnaryOp .Not a pos) (tNot tA) := by
  intro pins s σ H Q I h
  exact isTrue_not (ha pins s σ H (fun c H1 => Q (!c) H1) I h)
/-- .. as values (bools) -/
def tAndV (ta tb : TE) : TE := fun σ H Q => ta σ H fun x H1 => ∃ c, x = .bl c ∧ if c = true then tb σ H1 Q else Q (.bl false) H1
def tNotV (ta : TE) : TE := fun σ H Q => ta σ H fun x H1 => ∃ c, x = .bl c ∧ Q (.bl (!c)) H1
theorem pe_one {op} {t : TE} (h : PE X a t) : PE X (.BoolOp op [a] pos) t := fun pins s σ H Q I hw => BoolOp_one (h pins s σ H Q I hw)
theorem pe_and (ha : PE X a ta) (hb : PE X (.BoolOp .And (b :: rest) pos) tb) : PE X (.BoolOp .And (a :: b :: rest) pos) (tAndV ta tb) := by
  intro pins s σ H Q I h
  refine BoolOp_and (thn (ha pins s σ H _ I h) fun v s1 ⟨x, H1, I1, r1, q1⟩ => ?_)
  obtain ⟨c, rfl, q1⟩ := q1
  cases r1
  refine wpAny_truthy_bool ?_
  cases c with
  | true => exact hb pins s1 σ H1 Q I1 q1
  | false => exact ⟨.bl false, H1, I1, rfl, q1⟩
theorem pe_not (ha : PE X a ta) : PE X (.UnaryOp .Not a pos) (tNotV ta) := by
  intro pins s σ H Q I h
  refine UnaryOp_ (thn (ha pins s σ H _ I h) fun v s1 ⟨x, H1, I1, r1, q1⟩ => ?_)
  obtain ⟨c, rfl, q1⟩ := q1
  cases r1
  exact not_of (wpAny_truthy_bool ⟨.bl (!c), H1, I1, rfl, q1⟩)
end
end L2

namespace L2
open PySem PySem.Spec PyProof.Rows

/-! ### a list, a tuple that is read: tracked, frozen, or an object of the module -/
def SqL (K : PySem.W.Frag) (H : Hp) (a : Addr) (xs : List V) : Prop :=
  Rd H a (.lst xs) ∨
    ∃ (o : Obj) (its : Array Value) (n : Nat), K.lookup a = some o ∧ o.cls = .type "list" ∧ o.dict = none ∧ o.data = .seq its n ∧ its.size ≤ sizeLine ∧ Vals xs its.toList
def SqT (K : PySem.W.Frag) (H : Hp) (a : Addr) (xs : List V) : Prop :=
  Rd H a (.tup xs) ∨
    ∃ (o : Obj) (its : Array Value) (n : Nat), K.lookup a = some o ∧ o.cls = .type "tuple" ∧ o.data = .seq its n ∧ its.size ≤ sizeLine ∧ Vals xs its.toList
def absV : Value → Option V
  | .none => some .non
  | .bool b => some (.bl b)
  | .int i _ => some (.int i)
  | .str x _ => some (.str x)
  | .bytes b _ => some (.byt b)
  | .float b _ => some (.flt b)
  | .ref a => some (.ref a)
  | .type n => some (.ty n)
  | _ => none
theorem RelV.abs {x : V} {u : Value} (r : RelV x u) : absV u = some x := by
  cases x with
  | non => cases r; rfl
  | bl _ => cases r; rfl
  | int _ => obtain ⟨t, rfl⟩ := r; rfl
  | str _ => obtain ⟨t, rfl⟩ := r; rfl
  | byt _ => obtain ⟨t, rfl⟩ := r; rfl
  | flt _ => obtain ⟨t, rfl⟩ := r; rfl
  | ref _ => cases r; rfl
  | ty _ => cases r; rfl
theorem RelV.inj {x y : V} {u : Value} (r : RelV x u) (q : RelV y u) : x = y := Option.some.inj (r.abs.symm.trans q.abs)
theorem Vals.inj : ∀ {xs ys : List V} {us : List Value}, Vals xs us → Vals ys us → xs = ys
  | _, _, _, .nil, .nil => rfl
  | _, _, _, .cons r t, .cons r' t' => by rw [r.inj r', Vals.inj t t']
section
variable {X : Cx} {pins : List (Addr × Obj)} {σ : St} {H : Hp} {s : Shared} {a : Addr} {xs ys : List V}
theorem SqL.of {K : PySem.W.Frag} (h : H a = some (.lst xs)) : SqL K H a xs := .inl (.inl h)
theorem SqT.of {K : PySem.W.Frag} (h : H a = some (.tup xs)) : SqT K H a xs := .inl (.inl h)
theorem Inv.list (I : Inv X pins σ H s) (h : SqL X.K H a xs) : ∃ its : List Value, Vals xs its ∧ PlainL s.heap a its.toArray ∧ xs.length ≤ sizeLine := by
  rcases h with h | ⟨o, its, n, hk, hc, hd, hs, hz, r⟩
  · obtain ⟨z, its, n, r, e⟩ := h.ok I.hok
    exact ⟨its, r, ⟨_, n, e, rfl, rfl, rfl⟩, z⟩
  · refine ⟨its.toList, r, ⟨o, n, I.kIn a o hk, hc, hd, by simpa using hs⟩, ?_⟩
    have e := r.length
    simp only [Array.length_toList] at e
    omega
theorem Inv.tuple (I : Inv X pins σ H s) (h : SqT X.K H a xs) : ∃ its : List Value, Vals xs its ∧ IsTup s.heap a its.toArray ∧ xs.length ≤ sizeLine := by
  rcases h with h | ⟨o, its, n, hk, hc, hs, hz, r⟩
  · obtain ⟨z, its, r, p⟩ := h.ok I.hok
    exact ⟨its, r, p, z⟩
  · refine ⟨its.toList, r, ⟨o, I.kIn a o hk, hc, n, by simpa using hs⟩, ?_⟩
    have e := r.length
    simp only [Array.length_toList] at e
    omega
theorem Inv.list_inj (I : Inv X pins σ H s) (h : SqL X.K H a xs) (h' : SqL X.K H a ys) : xs = ys := by
  obtain ⟨its, r, ⟨o, n, e, _, _, d⟩, _⟩ := I.list h
  obtain ⟨its', r', ⟨o', n', e', _, _, d'⟩, _⟩ := I.list h'
  rw [e] at e'; cases e'
  rw [d] at d'
  injection d' with d1 _
  have : its = its' := by simpa using congrArg Array.toList d1
  subst this
  exact r.inj r'
theorem Inv.tuple_inj (I : Inv X pins σ H s) (h : SqT X.K H a xs) (h' : SqT X.K H a ys) : xs = ys := by
  obtain ⟨its, r, ⟨o, e, _, n, d⟩, _⟩ := I.tuple h
  obtain ⟨its', r', ⟨o', e', _, n', d'⟩, _⟩ := I.tuple h'
  rw [e] at e'; cases e'
  rw [d] at d'
  injection d' with d1 _
  have : its = its' := by simpa using congrArg Array.toList d1
  subst this
  exact r.inj r'
end

/-! ### another wish about exceptions -/
abbrev Cx.wish (X : Cx) (E : Value → Shared → Prop) : Cx := { X with xe := E }
/-- no exception leaves -/
abbrev Cx.nox (X : Cx) : Cx := X.wish fun _ _ => False
theorem Cx.Ok.wish {X : Cx} (ok : X.Ok) (E : Value → Shared → Prop) : (X.wish E).Ok :=
  ⟨ok.mod, ok.kind, ok.glob, ok.blt, ok.above, ok.inj, ok.has, ok.cab, ok.hd, ok.frames, ok.stk, ok.exf, ok.bs, ok.bsz, ok.noex, ok.exfs, ok.funs, ok.frf⟩
theorem Cx.Ok.unwish {X : Cx} {E : Value → Shared → Prop} (ok : (X.wish E).Ok) : X.Ok :=
  ⟨ok.mod, ok.kind, ok.glob, ok.blt, ok.above, ok.inj, ok.has, ok.cab, ok.hd, ok.frames, ok.stk, ok.exf, ok.bs, ok.bsz, ok.noex, ok.exfs, ok.funs, ok.frf⟩
section
variable {X : Cx} {pins : List (Addr × Obj)} {σ : St} {H : Hp} {s : Shared} {E : Value → Shared → Prop}
theorem Inv.wish (I : Inv X pins σ H s) (E : Value → Shared → Prop) : Inv (X.wish E) pins σ H s := ⟨I.ok.wish E, I.os, I.bare, I.base, I.loc, I.cell, I.free, I.freeC, I.pin, I.hok, I.len⟩
theorem Inv.unwish (I : Inv (X.wish E) pins σ H s) : Inv X pins σ H s := ⟨I.ok.unwish, I.os, I.bare, I.base, I.loc, I.cell, I.free, I.freeC, I.pin, I.hok, I.len⟩
theorem SP.unwish {D : Ends} {f : Flow} {s' : Shared} (h : SP (X.wish E) pins D f s') : SP X pins D f s' := by
  cases f with
  | next => obtain ⟨σ', H', I, q⟩ := h; exact ⟨σ', H', I.unwish, q⟩
  | brk => obtain ⟨σ', H', I, q⟩ := h; exact ⟨σ', H', I.unwish, q⟩
  | cont => obtain ⟨σ', H', I, q⟩ := h; exact ⟨σ', H', I.unwish, q⟩
  | ret u => obtain ⟨v, σ', H', I, r, q⟩ := h; exact ⟨v, σ', H', I.unwish, r, q⟩
theorem PSs.nox {st : List Stmt} {t : TS} (h : PSs X.nox st t) : PSs X st t := fun pins s σ H D I hw =>
  wpAny_mono (h pins s σ H D (I.wish _) hw) (fun _ _ q => q.unwish) fun _ _ z => False.elim z
end

/-! ### blocks and small statements -/
section
variable {X : Cx} {st : Stmt} {rest : List Stmt} {t u : TS} {e : Expr} {te : TE} {pos : Pos}
def tNext : TS := fun D σ H => D.nx σ H
def tSeq (t u : TS) : TS := fun D σ H => t { D with nx := u D } σ H
theorem pss_nil : PSs X [] tNext := fun _ _ σ H _ I h => wpAny_execs_nil ⟨σ, H, I, h⟩
theorem pss_cons (h1 : PS X st t) (h2 : PSs X rest u) : PSs X (st :: rest) (tSeq t u) := by
  intro pins s σ H D I h
  refine wpAny_execs_cons (thn (h1 pins s σ H { D with nx := u D } I h) fun f s1 q => ?_)
  cases f with
  | next =>
    obtain ⟨σ', H', I', q⟩ := q
    exact h2 pins s1 σ' H' D I' q
  | ret v => exact q
  | brk => exact q
  | cont => exact q
theorem pss_one (h1 : PS X st t) : PSs X [st] t := by
  intro pins s σ H D I h
  refine wpAny_execs_cons (thn (h1 pins s σ H D I h) fun f s1 q => ?_)
  cases f with
  | next => exact wpAny_execs_nil q
  | ret v => exact q
  | brk => exact q
  | cont => exact q
/-- in a def's body nothing is shown -/
theorem Inv.quiet {pins : List (Addr × Obj)} {σ : St} {H : Hp} {s : Shared} (I : Inv X pins σ H s) : interactive X.env = false := by simp [interactive, I.ok.kind]
/-- an expression whose value is dropped -/
def tDrop (te : TE) : TS := fun D σ H => te σ H fun _ H1 => D.nx σ H1
theorem ps_expr (he : PE X e te) (hs : swapsWith e none pos.line X.env = pure false := by rfl) : PS X (.Expr e pos) (tDrop te) := by
  intro pins s σ H D I h
  exact wpAny_Expr_any (thn (he pins s σ H _ I h) fun v s1 ⟨x, H1, I1, r1, q1⟩ => ⟨σ, H1, I1, q1⟩) I.quiet hs
def tRet (te : TE) : TS := fun D σ H => te σ H D.rt
theorem ps_ret (he : PE X e te) : PS X (.Return (some e) pos) (tRet te) := by
  intro pins s σ H D I h
  exact wpAny_Return_some (thn (he pins s σ H _ I h) fun v s1 ⟨x, H1, I1, r1, q1⟩ => ⟨x, σ, H1, I1, r1, q1⟩)
def tIfS (c : TT) (t u : TS) : TS := fun D σ H => c σ H fun b H1 => if b = true then t D σ H1 else u D σ H1
theorem ps_if {c : Expr} {a b : List Stmt} {tc : TT} (hc : PT X c tc) (ha : PSs X a t) (hb : PSs X b u) : PS X (.If c a b pos) (tIfS tc t u) := by
  intro pins s σ H D I h
  refine wpAny_If (thn (hc pins s σ H _ I h) fun d s1 ⟨H1, I1, q1⟩ => ?_)
  cases d with
  | true => exact ha pins s1 σ H1 D I1 q1
  | false => exact hb pins s1 σ H1 D I1 q1
end

/-! ### targets -/
abbrev TG := V → St → Hp → (St → Hp → Prop) → Prop
abbrev TGs := List V → St → Hp → (St → Hp → Prop) → Prop
def PG (X : Cx) (target : Expr) (t : TG) : Prop :=
  ∀ (pins : List (Addr × Obj)) (s : Shared) (σ : St) (H : Hp) (v : V) (u : Value) (Q : St → Hp → Prop), Inv X pins σ H s → RelV v u → t v σ H Q →
    wpAny (model X.prog X.w) X.A (assign target X.env u) (fun _ s' => ∃ σ' H', Inv X pins σ' H' s' ∧ Q σ' H') X.xe s
/-- several targets, one after another -/
def PGs (X : Cx) (ts : List Expr) (t : TGs) : Prop :=
  ∀ (pins : List (Addr × Obj)) (s : Shared) (σ : St) (H : Hp) (vs : List V) (us : List Value) (Q : St → Hp → Prop), Inv X pins σ H s → Vals vs us → t vs σ H Q →
    wpAny (model X.prog X.w) X.A (assignInOrder ((assignEach ts X.env).map (·.2)) us) (fun _ s' => ∃ σ' H', Inv X pins σ' H' s' ∧ Q σ' H') X.xe s
/-- o[i] = v, by values -/
abbrev TSet := V → V → V → Hp → (Hp → Prop) → Prop
def PSet (X : Cx) (t : TSet) : Prop :=
  ∀ (pins : List (Addr × Obj)) (s : Shared) (σ : St) (H : Hp) (o i v : V) (ov iv u : Value) (Q : Hp → Prop), Inv X pins σ H s → RelV o ov → RelV i iv → RelV v u → t o i v H Q →
    wpAny (model X.prog X.w) X.A (setItem ov iv u) (fun _ s' => ∃ H', Inv X pins σ H' s' ∧ Q H') X.xe s
section
variable {X : Cx} {pos : Pos}
def gName (i : Nat) : TG := fun v σ H Q => Q (σ.set i (some v)) H
theorem pg_name {i : Nat} {x : Str} (hN : X.N.Nodup) (hi : X.N[i]? = some x) (hx : Loc X.env.scope x) (hf : X.fn x = true ∨ X.env.scope.names.lookup x = some .local := by first | exact .inl rfl | exact .inr rfl | assumption) : PG X (.Name x pos) (gName i) := by
  intro pins s σ H v u Q I r h
  exact wpAny_assign_Name (store_ok I hN hi hx r (fun s' I' => ⟨_, H, I', h⟩) hf)
def gNil : TGs := fun vs σ H Q => vs = [] ∧ Q σ H
def gCons (t : TG) (u : TGs) : TGs := fun vs σ H Q => ∃ v r, vs = v :: r ∧ t v σ H fun σ' H' => u r σ' H' Q
theorem pgs_nil : PGs X [] gNil := by
  intro pins s σ H vs us Q I r h
  obtain ⟨e, h⟩ := h
  subst e
  cases r
  exact assignInOrder_nil ⟨σ, H, I, h⟩
theorem pgs_cons {e : Expr} {es : List Expr} {t : TG} {u : TGs} (h1 : PG X e t) (h2 : PGs X es u)
    (hs : (assignEach (e :: es) X.env).map (·.2) = assign e X.env :: (assignEach es X.env).map (·.2) := by rfl) : PGs X (e :: es) (gCons t u) := by
  intro pins s σ H vs us Q I r h
  obtain ⟨v, vr, e1, h⟩ := h
  subst e1
  cases r with
  | cons r rr =>
    rw [hs]
    refine assignInOrder_cons (thn (h1 pins s σ H _ _ _ I r h) fun _ s1 ⟨σ1, H1, I1, q1⟩ => ?_)
    exact h2 pins s1 σ1 H1 _ _ Q I1 rr q1
/-- (a, b, ..) = a tuple of that length -/
def gTup (K : PySem.W.Frag) (n : Nat) (t : TGs) : TG := fun v σ H Q => ∃ a xs, v = .ref a ∧ SqT K H a xs ∧ xs.length = n ∧ t xs σ H Q
theorem pg_tup {es : List Expr} {k : Nat} {t : TGs} {n : Nat} (hc : X.calm = true) (h : PGs X es t)
    (hn : (assignEach es X.env).length = n := by rfl) (hst : (assignEach es X.env).findIdx? (·.1) = none := by rfl) : PG X (.Tuple es k pos) (gTup X.K n t) := by
  intro pins s σ H v u Q I r hw
  obtain ⟨a, xs, e1, hq, hl, hw⟩ := hw
  subst e1
  cases r
  obtain ⟨its, rv, ht, hz⟩ := I.tuple hq
  refine assign_Tuple_tuple (I.ok.hd hc) ht (by simp [hn, ← hl, rv.length]) hst fun h' hx => ?_
  have I1 : Inv X pins σ H { s with heap := h' } := I.kept (t' := s.toks) fun b o e => hx b o (Nat.ne_of_lt (Heap.lt_size e)) e
  exact h pins _ σ H xs _ Q I1 (by simpa using rv) hw
/-- o[i] = .. -/
def gSub (to ti : TE) (t : TSet) : TG := fun v σ H Q => to σ H fun o H1 => ti σ H1 fun i H2 => t o i v H2 fun H3 => Q σ H3
theorem pg_sub {o i : Expr} {to ti : TE} {t : TSet} (ho : PE X o to) (hi : PE X i ti) (hs : PSet X t)
    (ha : ∀ v, assign (.Subscript o i pos) X.env v = (do
      let ov ← holding [v] (eval o X.env)
      let iv ← holding [v, ov] (eval i X.env)
      standAt pos
      holding [v, ov, iv] (setItem ov iv v)
      release [v, ov, iv] []) := by intro _; rfl) : PG X (.Subscript o i pos) (gSub to ti t) := by
  intro pins s σ H v u Q I r h
  rw [ha]
  refine wpAny_bind (wpAny_holding (thn (ho pins s σ H _ I h) fun ov s1 ⟨x, H1, I1, r1, q1⟩ => ?_))
  refine wpAny_bind (wpAny_holding (thn (hi pins s1 σ H1 _ I1 q1) fun iv s2 ⟨y, H2, I2, r2, q2⟩ => ?_))
  refine wpAny_bind (wpAny_standAt (wpAny_bind (wpAny_holding (thn (hs pins s2 σ H2 x y v ov iv u _ I2 r1 r2 r q2) fun _ s3 ⟨H3, I3, q3⟩ => ?_))))
  exact wpAny_release ⟨σ, H3, I3, q3⟩
/-- target = value -/
def tAsg (te : TE) (g : TG) : TS := fun D σ H => te σ H fun x H1 => g x σ H1 D.nx
theorem ps_asg {tg e : Expr} {te : TE} {g : TG} (he : PE X e te) (hg : PG X tg g) (hs : swapsWithSole [tg] e pos.line X.env = pure false := by rfl) (hw : swappedStores [tg] e X.env = pure none := by rfl)
    (h1 : (assignEach [tg] X.env).map (·.2) = [assign tg X.env] := by rfl) : PS X (.Assign [tg] e pos) (tAsg te g) := by
  intro pins s σ H D I h
  refine wpAny_Assign_stores (thn (he pins s σ H _ I h) fun v s1 ⟨x, H1, I1, r1, q1⟩ => ?_) hs hw
  rw [h1]
  exact thn (hg pins s1 σ H1 x v _ I1 r1 q1) fun _ s2 q => q
/-- name = value -/
theorem ps_set {i : Nat} {x : Str} {e : Expr} {te : TE} {pos' : Pos} (hN : X.N.Nodup) (hi : X.N[i]? = some x) (hx : Loc X.env.scope x) (he : PE X e te) (hs : swapsWith e (some (.Name x pos')) pos.line X.env = pure false := by rfl) (hf : X.fn x = true ∨ X.env.scope.names.lookup x = some .local := by first | exact .inl rfl | exact .inr rfl | assumption) :
    PS X (.Assign [.Name x pos'] e pos) (tAsg te (gName i)) := by
  intro pins s σ H D I h
  refine wpAny_Assign_Name (thn (he pins s σ H _ I h) fun v s1 ⟨y, H1, I1, r1, q1⟩ => ?_) hs
  exact store_ok I1 hN hi hx r1 (fun s2 I2 => ⟨_, H1, I2, q1⟩) hf
end

/-! ### while -/
section
variable {X : Cx} {pos : Pos}
end

/-! ### what a loop or a comprehension walks -/
/-- at turn i: it yields x (the heap may grow), or it stops -/
structure It where
  go : Nat → Hp → Prop
  yld : Nat → Hp → V → Hp → Prop
  stop : Nat → Hp → Prop
/-- the iterator's own objects may turn: they are not the frame's, not pinned, younger than the entry (or a comprehension's own) -/
def FpOk (X : Cx) (pins : List (Addr × Obj)) (H : Hp) (b : Addr) : Prop :=
  H b = none ∧ b ≠ X.env.locals ∧ b ∉ X.fs ∧ (b ∈ X.ex ∨ X.s₀.heap.objs.size ≤ b) ∧ (∀ x c, X.env.cells.lookup x = some c → c ≠ b) ∧ ∀ p ∈ X.pn ++ pins, p.1 ≠ b
theorem Inv.fpOk {X : Cx} {pins : List (Addr × Obj)} {σ : St} {H H' : Hp} {s : Shared} {b : Addr} (I : Inv X pins σ H s) (hb : s.heap.objs.size ≤ b) (hn : H' b = none) : FpOk X pins H' b := by
  refine ⟨hn, Nat.ne_of_gt (Nat.lt_of_lt_of_le I.lt hb), I.nofs hb, .inr (Nat.le_trans I.sz hb), fun x c e z => ?_, fun p hp z => ?_⟩
  · obtain ⟨v, q⟩ := I.cell x c e
    exact absurd (Nat.lt_of_lt_of_le q.lt (by rw [z]; exact hb)) (Nat.lt_irrefl _)
  · exact absurd (Nat.lt_of_lt_of_le (Heap.lt_size (I.pin p hp).1) (by rw [z]; exact hb)) (Nat.lt_irrefl _)
structure Turn (P : Program) (w : World) (K : PySem.W.Frag) (tg : Expr) (J : It) (fp : List Addr) (it : Addr) (tn : Nat → Heap → Prop) : Prop where
  mem : it ∈ fp
  obj : ∀ i h, tn i h → ∀ b ∈ fp, ∃ o, h.get? b = some o ∧ ∀ v, o.data ≠ .cell v
  keep : ∀ i h h', tn i h → (∀ b ∈ fp, ∀ o, h.get? b = some o → h'.get? b = some o) → tn i h'
  item : ∀ (X : Cx), X.prog = P → X.w = w → X.K = K → X.calm = true → ∀ (i : Nat) (pins : List (Addr × Obj)) (s : Shared) (σ : St) (H : Hp) (E : Value → Shared → Prop), Inv X pins σ H s → (∀ b ∈ fp, FpOk X pins H b) → tn i s.heap → J.go i H →
    wpAny (model P w) X.A (pyNext (.ref it)) (fun r s1 => ∃ u, r = some u ∧
      wpAny (model P w) X.A (letOwnedTupleGo tg (.ref it) u) (fun _ s2 => ∃ x H', Inv X pins σ H' s2 ∧ RelV x u ∧ J.yld i H x H' ∧ tn (i + 1) s2.heap ∧ ∀ b ∈ fp, H' b = none) E s1) E s
  done : ∀ (X : Cx), X.prog = P → X.w = w → X.K = K → X.calm = true → ∀ (i : Nat) (pins : List (Addr × Obj)) (s : Shared) (σ : St) (H : Hp) (E : Value → Shared → Prop), Inv X pins σ H s → (∀ b ∈ fp, FpOk X pins H b) → tn i s.heap → J.stop i H →
    wpAny (model P w) X.A (pyNext (.ref it)) (fun r s1 => r = none ∧ Inv X pins σ H s1) E s
  self : ∀ (A : Around) (i : Nat) (s : Shared) (Q : Value → Shared → Prop) (E : Value → Shared → Prop), tn i s.heap → Q (.ref it) s → wpAny (model P w) A (pyIter (.ref it)) Q E s
abbrev TI := St → Hp → (It → Hp → Prop) → Prop
/-- an iterator has come -/
def PIE (X : Cx) (pins : List (Addr × Obj)) (σ : St) (tg : Expr) (R : It → Hp → Prop) (itv : Value) (s2 : Shared) : Prop :=
  ∃ (it : Addr) (fp : List Addr) (tn : Nat → Heap → Prop) (J : It) (H' : Hp), itv = .ref it ∧ Inv X pins σ H' s2 ∧ Turn X.prog X.w X.K tg J fp it tn ∧ tn 0 s2.heap ∧ (∀ b ∈ fp, FpOk X pins H' b) ∧ R J H'
def PI (X : Cx) (tg iter : Expr) (wi : TI) : Prop :=
  ∀ (pins : List (Addr × Obj)) (s : Shared) (σ : St) (H : Hp) (R : It → Hp → Prop), Inv X pins σ H s → wi σ H R →
    wpAny (model X.prog X.w) X.A (eval iter X.env) (fun v s1 => wpAny (model X.prog X.w) X.A (pyIter v) (PIE X pins σ tg R) X.xe s1) X.xe s

/-- the step ahead of the store is nothing for an iterator that keeps no tuple -/
theorem go_of {M : Model} {A : Around} {E : Value → Shared → Prop} {s : Shared} {tg : Expr} {it : Addr} {u : Value} {o : Obj} {n : String} {vs : Array Value} {Q : Unit → Shared → Prop} (ho : s.heap.get? it = some o) (hc : o.cls = .type n) (hd : o.data = .fields vs)
    (hn : ["enumerate", "zip", "dict_itemiterator", "dict_reverseitemiterator", "odict_iterator", "itertools.zip_longest", "itertools.pairwise"].contains n = false) (hQ : Q () s) : wpAny M A (letOwnedTupleGo tg (.ref it) u) Q E s := by
  unfold letOwnedTupleGo
  cases tg <;> first
    | exact wpAny_pure hQ
    | (cases u <;> first
        | exact wpAny_pure hQ
        | (refine wpAny_bind (wpAny_load ho ?_)
           rw [hc, hd]
           show wpAny M A (if (["enumerate", "zip", "dict_itemiterator", "dict_reverseitemiterator", "odict_iterator", "itertools.zip_longest", "itertools.pairwise"].contains n && vs[0]? == some (rawInt _)) = true then _ else _) Q E s
           rw [if_neg (by intro h; rw [hn, Bool.false_and] at h; cases h)]
           exact wpAny_pure hQ))

/-- the list at a, as it stands at each turn (a loop may append to it) -/
def Itl (K : PySem.W.Frag) (a : Addr) : It :=
  ⟨fun i H => ∃ xs x, SqL K H a xs ∧ xs[i]? = some x, fun i H x H' => H' = H ∧ ∀ xs, SqL K H a xs → xs[i]? = some x, fun i H => ∃ xs, SqL K H a xs ∧ xs.length ≤ i⟩
def Itt (K : PySem.W.Frag) (a : Addr) : It :=
  ⟨fun i H => ∃ xs x, SqT K H a xs ∧ xs[i]? = some x, fun i H x H' => H' = H ∧ ∀ xs, SqT K H a xs → xs[i]? = some x, fun i H => ∃ xs, SqT K H a xs ∧ xs.length ≤ i⟩
/-- lo, lo + 1, .. (n of them) -/
def Itr (lo : Int) (n : Nat) : It := ⟨fun i _ => i < n, fun i H x H' => H' = H ∧ x = .int (lo + i), fun i _ => n ≤ i⟩
theorem turn_list {P : Program} {w : World} {K : PySem.W.Frag} {tg : Expr} (a it : Addr) : Turn P w K tg (Itl K a) [it] it (fun i h => h.IsListIter it a i) where
  mem := by simp
  obj := fun i h st b hb => by
    have e : b = it := by simpa using hb
    subst e
    obtain ⟨o, e, c, d⟩ := st
    exact ⟨o, e, fun v z => by rw [d] at z; cases z⟩
  keep := fun i h h' st k => st.at fun o e => k it (by simp) o e
  item := by
    intro X hP hw hK hc i pins s σ H E I hf st hg
    subst hP hw hK
    obtain ⟨xs, x, hq, hx⟩ := hg
    obtain ⟨its, rv, p, hz⟩ := I.list hq
    obtain ⟨u, hu, ru⟩ := rv.get hx
    obtain ⟨f0, f1, f2, f3, f4, f5⟩ := hf it (by simp)
    refine wpAny_pyNext_list_item st p.isList (x := u) (by simpa using hu) fun h' st' sb => ?_
    have I1 : Inv X pins σ H { s with heap := h' } := I.turned (t' := s.toks) (fun b o hb e => (sb.2 b hb).trans e) f0 f1 f3 f4 f5
    obtain ⟨o, e, c, d⟩ := id st'
    exact ⟨u, rfl, go_of (s := { s with heap := h' }) e c d (by decide) ⟨x, H, I1, ru, ⟨rfl, fun ys hy => by rw [I.list_inj hy hq]; exact hx⟩, st', fun b hb => (hf b hb).1⟩⟩
  done := by
    intro X hP hw hK hc i pins s σ H E I hf st hg
    subst hP hw hK
    obtain ⟨xs, hq, hx⟩ := hg
    obtain ⟨its, rv, p, hz⟩ := I.list hq
    obtain ⟨f0, f1, f2, f3, f4, f5⟩ := hf it (by simp)
    have hl := rv.length
    exact wpAny_pyNext_list_end (I.ok.hd hc) st p.isList (by simp; omega) fun h' eb => ⟨rfl, I.turned (t' := s.toks) (fun b o hb e => eb b o hb e) f0 f1 f3 f4 f5⟩
  self := fun _ _ _ _ _ st h => wpAny_pyIter_listiter st h
theorem turn_tuple {P : Program} {w : World} {K : PySem.W.Frag} {tg : Expr} (a it : Addr) : Turn P w K tg (Itt K a) [it] it (fun i h => h.IsTupleIter it a i) where
  mem := by simp
  obj := fun i h st b hb => by
    have e : b = it := by simpa using hb
    subst e
    obtain ⟨o, e, c, d⟩ := st
    exact ⟨o, e, fun v z => by rw [d] at z; cases z⟩
  keep := fun i h h' st k => st.at fun o e => k it (by simp) o e
  item := by
    intro X hP hw hK hc i pins s σ H E I hf st hg
    subst hP hw hK
    obtain ⟨xs, x, hq, hx⟩ := hg
    obtain ⟨its, rv, p, hz⟩ := I.tuple hq
    obtain ⟨u, hu, ru⟩ := rv.get hx
    obtain ⟨f0, f1, f2, f3, f4, f5⟩ := hf it (by simp)
    refine wpAny_pyNext_tuple_item st (show s.heap.IsTuple a its.toArray from p) (x := u) (by simpa using hu) fun h' st' sb => ?_
    have I1 : Inv X pins σ H { s with heap := h' } := I.turned (t' := s.toks) (fun b o hb e => (sb.2 b hb).trans e) f0 f1 f3 f4 f5
    obtain ⟨o, e, c, d⟩ := id st'
    exact ⟨u, rfl, go_of (s := { s with heap := h' }) e c d (by decide) ⟨x, H, I1, ru, ⟨rfl, fun ys hy => by rw [I.tuple_inj hy hq]; exact hx⟩, st', fun b hb => (hf b hb).1⟩⟩
  done := by
    intro X hP hw hK hc i pins s σ H E I hf st hg
    subst hP hw hK
    obtain ⟨xs, hq, hx⟩ := hg
    obtain ⟨its, rv, p, hz⟩ := I.tuple hq
    obtain ⟨f0, f1, f2, f3, f4, f5⟩ := hf it (by simp)
    have hl := rv.length
    exact wpAny_pyNext_tuple_end (I.ok.hd hc) st (show s.heap.IsTuple a its.toArray from p) (by simp; omega) fun h' eb => ⟨rfl, I.turned (t' := s.toks) (fun b o hb e => eb b o hb e) f0 f1 f3 f4 f5⟩
  self := fun _ _ _ _ _ st h => wpAny_pyIter_tupleiter st h
theorem turn_range {P : Program} {w : World} {K : PySem.W.Frag} {tg : Expr} (it : Addr) (lo : Int) (n : Nat) : Turn P w K tg (Itr lo n) [it] it (fun i h => IsRangeIter h it (lo + (i : Nat) * 1) ((n : Int) - (i : Nat)) 1) where
  mem := by simp
  obj := fun i h st b hb => by
    have e : b = it := by simpa using hb
    subst e
    exact ⟨_, st, fun v z => by
      have z' : Data.fields _ = Data.cell v := z
      cases z'⟩
  keep := fun i h h' st k => k it (by simp) _ st
  item := by
    intro X hP hw hK hc i pins s σ H E I hf st hg
    subst hP hw hK
    obtain ⟨f0, f1, f2, f3, f4, f5⟩ := hf it (by simp)
    have W := Walks.range (prog := X.prog) (w := X.w) (I.ok.hd hc) it lo 1 n
    refine W.item i s _ _ hg st fun v h' tk hv st' kk => ?_
    obtain ⟨t, rfl⟩ := hv
    have I1 : Inv X pins σ H { s with heap := h', toks := tk } := I.turned (fun b o hb e => kk b o (by simpa using hb) e) f0 f1 f3 f4 f5
    refine ⟨_, rfl, go_of (s := { s with heap := h', toks := tk }) (n := "range_iterator") st' rfl rfl (by decide) ⟨.int (lo + i), H, I1, ⟨t, ?_⟩, ⟨rfl, rfl⟩, st', fun b hb => (hf b hb).1⟩⟩
    rw [Int.mul_one]
  done := by
    intro X hP hw hK hc i pins s σ H E I hf st hg
    subst hP hw hK
    obtain ⟨f0, f1, f2, f3, f4, f5⟩ := hf it (by simp)
    exact wpAny_pyNext_range_end (I.ok.hd hc) st (by have : n ≤ i := hg; omega) fun h' eb => ⟨rfl, I.turned (t' := s.toks) (fun b o hb e => eb b o hb e) f0 f1 f3 f4 f5⟩
  self := fun _ _ _ _ _ st h => wpAny_pyIter_rangeiter st h
end L2

namespace L2
open PySem PySem.Spec PyProof.Rows
section
variable {X : Cx} {tg : Expr}
def iList (K : PySem.W.Frag) (tl : TE) : TI := fun σ H R => tl σ H fun x H1 => ∃ a, x = .ref a ∧ (∃ xs, SqL K H1 a xs) ∧ R (Itl K a) H1
def iTup (K : PySem.W.Frag) (tl : TE) : TI := fun σ H R => tl σ H fun x H1 => ∃ a, x = .ref a ∧ (∃ xs, SqT K H1 a xs) ∧ R (Itt K a) H1
theorem pi_list {l : Expr} {tl : TE} (hl : PE X l tl) : PI X tg l (iList X.K tl) := by
  intro pins s σ H R I h
  refine thn (hl pins s σ H _ I h) fun v s1 ⟨x, H1, I1, r1, q1⟩ => ?_
  obtain ⟨a, e, ⟨xs, hq⟩, q⟩ := q1
  subst e
  cases r1
  obtain ⟨its, rv, p, hz⟩ := I1.list hq
  refine wpAny_pyIter_list p.isList ?_
  refine ⟨s1.heap.objs.size, [s1.heap.objs.size], _, _, H1, rfl, I1.kept (t' := s1.toks) fun b o e => Heap.get?_push_of_some _ e, turn_list a _, ⟨_, Heap.get?_push_size _ rfl, rfl, rfl⟩, fun b hb => ?_, q⟩
  have e : b = s1.heap.objs.size := by simpa using hb
  subst e
  exact I1.fpOk (Nat.le_refl _) (I1.hok.fresh (Nat.le_refl _))
theorem pi_tup {l : Expr} {tl : TE} (hl : PE X l tl) : PI X tg l (iTup X.K tl) := by
  intro pins s σ H R I h
  refine thn (hl pins s σ H _ I h) fun v s1 ⟨x, H1, I1, r1, q1⟩ => ?_
  obtain ⟨a, e, ⟨xs, hq⟩, q⟩ := q1
  subst e
  cases r1
  obtain ⟨its, rv, p, hz⟩ := I1.tuple hq
  refine wpAny_pyIter_tuple (show s1.heap.IsTuple a its.toArray from p) ?_
  refine ⟨s1.heap.objs.size, [s1.heap.objs.size], _, _, H1, rfl, I1.kept (t' := s1.toks) fun b o e => Heap.get?_push_of_some _ e, turn_tuple a _, ⟨_, Heap.get?_push_size _ rfl, rfl, rfl⟩, fun b hb => ?_, q⟩
  have e : b = s1.heap.objs.size := by simpa using hb
  subst e
  exact I1.fpOk (Nat.le_refl _) (I1.hok.fresh (Nat.le_refl _))
/-- a range object just made, walked -/
theorem range_it {pins : List (Addr × Obj)} {σ : St} {H : Hp} {s : Shared} {R : It → Hp → Prop} {E : Value → Shared → Prop} {lo hi : Int} {t u v : Tok} {tk : Nat} (I : Inv X pins σ H s) (h1 : -(2 ^ 62) ≤ lo) (h2 : lo < 2 ^ 62) (h3 : -(2 ^ 62) ≤ hi) (h4 : hi < 2 ^ 62)
    (q : R (Itr lo (hi - lo).toNat) H) : wpAny (model X.prog X.w) X.A (pyIter (.ref s.heap.objs.size)) (PIE X pins σ tg R) E { s with heap := s.heap.push { cls := .type "range", data := .fields #[.int lo t, .int hi u, .int 1 v] }, toks := tk } := by
  refine wpAny_pyIter_range (IsRange.new ..) (small_one h1 h2 h3 h4) ?_
  have I1 : Inv X pins σ H { s with heap := s.heap.push { cls := .type "range", data := .fields #[.int lo t, .int hi u, .int 1 v] }, toks := tk } := I.kept fun b o e => Heap.get?_push_of_some _ e
  refine ⟨(s.heap.push { cls := .type "range", data := .fields #[.int lo t, .int hi u, .int 1 v] }).objs.size, [(s.heap.push { cls := .type "range", data := .fields #[.int lo t, .int hi u, .int 1 v] }).objs.size], _, _, H, rfl,
    I1.kept (t' := tk) fun b o e => Heap.get?_push_of_some _ e, turn_range _ lo (hi - lo).toNat, ?_, fun b hb => ?_, q⟩
  · have e1 : lo + ((0 : Nat) : Int) * 1 = lo := by simp
    have e2 : (((hi - lo).toNat : Nat) : Int) - ((0 : Nat) : Int) = Builtin.Range.rangeSize lo hi 1 := by rw [rangeSize_one]; split <;> omega
    show IsRangeIter _ _ (lo + ((0 : Nat) : Int) * 1) ((((hi - lo).toNat : Nat) : Int) - ((0 : Nat) : Int)) 1
    rw [e1, e2]
    exact Heap.get?_push_size _ rfl
  · have e : b = (s.heap.push { cls := .type "range", data := .fields #[.int lo t, .int hi u, .int 1 v] }).objs.size := by simpa using hb
    subst e
    exact I1.fpOk (Nat.le_refl _) (I1.hok.fresh (Nat.le_refl _))
def iRng1 (ta : TA) : TI := fun σ H R => ta σ H fun vs H1 => ∃ j : Int, vs = [.int j] ∧ -(2 ^ 62) ≤ j ∧ j < 2 ^ 62 ∧ R (Itr 0 j.toNat) H1
theorem pi_range1 {a : Expr} {ta : TA} {p pos : Pos} (hg : Gl X "range") (hm : X.mg "range" = none) (ha : PA X [a] ta) (hs : starEach [a] X.env = [(false, eval a X.env)] := by rfl) : PI X tg (.Call (.Name "range" p) [a] [] pos) (iRng1 ta) := by
  intro pins s σ H R I h
  refine Call_ (ld_blt I hg hm boot_range (PyProof.Rows.callWith_type1 (thn (ha pos pins s σ H _ I h) fun us s1 ⟨vs, H1, I1, r1, q1⟩ => ?_) hs rfl))
  obtain ⟨j, e, q1, q2, q⟩ := q1
  subst e
  cases r1 with
  | cons r rr =>
    cases rr
    obtain ⟨t, rfl⟩ := r
    exact call_range_1 (range_it I1 (by omega) (by omega) q1 q2 (by simpa using q))

/-! ### for -/
/-- W: the invariant by the turn and a measure; N: what the body is to reach -/
def tFor (wi : TI) (g : TG) (tb : TS) : TS := fun D σ H => wi σ H fun J H1 => ∃ W : Nat → Nat → St → Hp → Prop, (∃ m, W 0 m σ H1) ∧ ∀ i m σ H, W i m σ H →
  (J.stop i H ∧ D.nx σ H) ∨ (J.go i H ∧ ∃ N : St → Hp → Prop, (∀ σ' H', N σ' H' → ∃ m', m' < m ∧ W (i + 1) m' σ' H') ∧ ∀ x H', J.yld i H x H' → g x σ H' fun σ2 H2 => tb { D with nx := N, ct := N, bk := D.nx } σ2 H2)
/-- the records at fp as they stand -/
def pinsAt (fp : List Addr) (h : Heap) : List (Addr × Obj) := fp.filterMap fun b => (h.get? b).map fun o => (b, o)
theorem mem_pinsAt {fp : List Addr} {h : Heap} {b : Addr} {o : Obj} (hb : b ∈ fp) (e : h.get? b = some o) : (b, o) ∈ pinsAt fp h := List.mem_filterMap.mpr ⟨b, hb, by rw [e]; rfl⟩
theorem of_pinsAt {fp : List Addr} {h : Heap} {p : Addr × Obj} (hp : p ∈ pinsAt fp h) : p.1 ∈ fp ∧ h.get? p.1 = some p.2 := by
  obtain ⟨b, hb, e⟩ := List.mem_filterMap.mp hp
  cases q : h.get? b with
  | none => rw [q] at e; cases e
  | some o =>
    rw [q] at e
    have e' : (b, o) = p := Option.some.inj e
    subst e'
    exact ⟨hb, q⟩
theorem Inv.pinned {pins : List (Addr × Obj)} {σ : St} {H : Hp} {s : Shared} {fp : List Addr} (I : Inv X pins σ H s) (hf : ∀ b ∈ fp, FpOk X pins H b) (ho : ∀ b ∈ fp, ∃ o, s.heap.get? b = some o ∧ ∀ v, o.data ≠ .cell v) : Inv X (pins ++ pinsAt fp s.heap) σ H s :=
  I.pins_of fun p hp => (List.mem_append.mp hp).elim (fun z => I.pin p (List.mem_append_right _ z)) fun z => by
    obtain ⟨hb, e⟩ := of_pinsAt z
    obtain ⟨f0, f1, f2, _⟩ := hf p.1 hb
    obtain ⟨o, e', d⟩ := ho p.1 hb
    rw [e] at e'; cases e'
    exact ⟨e, f0, f1, f2, d⟩
theorem Inv.unpinned {pins pl : List (Addr × Obj)} {σ : St} {H : Hp} {s : Shared} (I : Inv X (pins ++ pl) σ H s) : Inv X pins σ H s := I.pins_of fun p hp => I.pin p (List.mem_append_right _ (List.mem_append_left _ hp))
theorem ps_for {iter : Expr} {body : List Stmt} {wi : TI} {g : TG} {tb : TS} {pos : Pos} (hp : PassesOwn (model X.prog X.w) X.A X.env X.xe) (hc : X.calm = true) (hi : PI X tg iter wi) (hg : PG X tg g) (hb : PSs X body tb)
    (hs : ∀ x, foldedSetIterable iter X.env x = pure x := by intro _; rfl) : PS X (.For tg iter body [] pos) (tFor wi g tb) := by
  intro pins s σ H D I h
  refine wpAny_For (thn (hi pins s σ H _ I h) fun v s1 h1 => thn h1 fun itv s2 h2 => ?_) hs
  obtain ⟨it, fp, tn, J, H2, e, I2, T, st2, f2, W, ⟨m0, w0⟩, turn⟩ := h2
  subst e
  -- what stays true of the iterator's objects through the loop
  have stat : ∀ {H' : Hp}, (∀ b ∈ fp, H' b = none) → ∀ b ∈ fp, FpOk X pins H' b := fun hn b hb => ⟨hn b hb, (f2 b hb).2⟩
  refine codeAny_forLoop_any (fun n s' => ∃ i σ' H', Inv X pins σ' H' s' ∧ tn i s'.heap ∧ (∀ b ∈ fp, H' b = none) ∧ W i n σ' H') ?_ m0 ⟨0, σ, H2, I2, st2, fun b hb => (f2 b hb).1, w0⟩
  rintro n s3 ⟨i, σ3, H3, I3, st3, fr3, w3⟩
  rcases turn i n σ3 H3 w3 with ⟨stop, qn⟩ | ⟨go, N, hN, step⟩
  · refine wpAny_passesOwn hp (thn (T.done X rfl rfl rfl hc i pins s3 σ3 H3 X.xe I3 (stat fr3) st3 stop) fun r s4 ⟨hr, I4⟩ => ?_)
    subst hr
    exact wpAny_execs_nil ⟨σ3, H3, I4, qn⟩
  · refine wpAny_passesOwn hp (thn (T.item X rfl rfl rfl hc i pins s3 σ3 H3 X.xe I3 (stat fr3) st3 go) fun r s4 ⟨u, hr, h4⟩ => ?_)
    subst hr
    refine wpAny_passesOwn hp (thn h4 fun _ s5 ⟨x, H5, I5, r5, y5, st5, fr5⟩ => ?_)
    have I5' := I5.pinned (stat fr5) (T.obj _ _ st5)
    refine wpAny_passesOwn hp (thn (hg _ s5 σ3 H5 x u _ I5' r5 (step x H5 y5)) fun _ s6 ⟨σ6, H6, I6, q6⟩ => ?_)
    refine wpAny_passesOwn hp (thn (hb _ s6 σ6 H6 _ I6 q6) fun f s7 q7 => ?_)
    have again : ∀ {σ7 : St} {H7 : Hp}, Inv X (pins ++ pinsAt fp s5.heap) σ7 H7 s7 → N σ7 H7 → ∃ m, m < n ∧ ∃ i σ' H', Inv X pins σ' H' s7 ∧ tn i s7.heap ∧ (∀ b ∈ fp, H' b = none) ∧ W i m σ' H' := fun {σ7 H7} I7 n7 => by
      obtain ⟨m', hm, w7⟩ := hN σ7 H7 n7
      refine ⟨m', hm, i + 1, σ7, H7, I7.unpinned, T.keep _ _ _ st5 fun b hb o e => (I7.pin (b, o) (List.mem_append_right _ (List.mem_append_right _ (mem_pinsAt hb e)))).1, fun b hb => ?_, w7⟩
      obtain ⟨o, e, d⟩ := T.obj _ _ st5 b hb
      exact (I7.pin (b, o) (List.mem_append_right _ (List.mem_append_right _ (mem_pinsAt hb e)))).2.1
    cases f with
    | next => obtain ⟨σ7, H7, I7, n7⟩ := q7; exact again I7 n7
    | cont => obtain ⟨σ7, H7, I7, n7⟩ := q7; exact again I7 n7
    | brk => obtain ⟨σ7, H7, I7, q7⟩ := q7; exact ⟨σ7, H7, I7.unpinned, q7⟩
    | ret v => obtain ⟨x7, σ7, H7, I7, r7, q7⟩ := q7; exact ⟨x7, σ7, H7, I7.unpinned, r7, q7⟩
end

/-! ### the forms one uses -/
/-- over a list that the body leaves as it is -/
theorem for_list {K : PySem.W.Frag} {a : Addr} {xs : List V} {g : TG} {tb : TS} {D : Ends} {σ : St} {H : Hp} (Pv : Nat → St → Hp → Prop) (h0 : Pv 0 σ H) (hl : ∀ i σ H, i ≤ xs.length → Pv i σ H → SqL K H a xs)
    (hs : ∀ i x σ H, xs[i]? = some x → Pv i σ H → g x σ H fun σ2 H2 => tb { D with nx := Pv (i + 1), ct := Pv (i + 1), bk := D.nx } σ2 H2) (hd : ∀ σ H, Pv xs.length σ H → D.nx σ H) :
    ∃ W : Nat → Nat → St → Hp → Prop, (∃ m, W 0 m σ H) ∧ ∀ i m σ H, W i m σ H →
      ((Itl K a).stop i H ∧ D.nx σ H) ∨ ((Itl K a).go i H ∧ ∃ N : St → Hp → Prop, (∀ σ' H', N σ' H' → ∃ m', m' < m ∧ W (i + 1) m' σ' H') ∧ ∀ x H', (Itl K a).yld i H x H' → g x σ H' fun σ2 H2 => tb { D with nx := N, ct := N, bk := D.nx } σ2 H2) := by
  refine ⟨fun i m σ H => m = xs.length - i ∧ i ≤ xs.length ∧ Pv i σ H, ⟨xs.length, by simp, Nat.zero_le _, h0⟩, ?_⟩
  rintro i m σ H ⟨rfl, hi, p⟩
  have q := hl i σ H hi p
  by_cases hlt : i < xs.length
  · refine .inr ⟨⟨xs, xs[i], q, by simp [hlt]⟩, Pv (i + 1), fun σ' H' p' => ⟨xs.length - (i + 1), by omega, rfl, hlt, p'⟩, fun x H' y => ?_⟩
    obtain ⟨e, y⟩ := y
    subst e
    exact hs i x σ _ (y xs q) p
  · have e : i = xs.length := by omega
    subst e
    exact .inl ⟨⟨xs, q, Nat.le_refl _⟩, hd σ H p⟩
theorem for_tup {K : PySem.W.Frag} {a : Addr} {xs : List V} {g : TG} {tb : TS} {D : Ends} {σ : St} {H : Hp} (Pv : Nat → St → Hp → Prop) (h0 : Pv 0 σ H) (hl : ∀ i σ H, i ≤ xs.length → Pv i σ H → SqT K H a xs)
    (hs : ∀ i x σ H, xs[i]? = some x → Pv i σ H → g x σ H fun σ2 H2 => tb { D with nx := Pv (i + 1), ct := Pv (i + 1), bk := D.nx } σ2 H2) (hd : ∀ σ H, Pv xs.length σ H → D.nx σ H) :
    ∃ W : Nat → Nat → St → Hp → Prop, (∃ m, W 0 m σ H) ∧ ∀ i m σ H, W i m σ H →
      ((Itt K a).stop i H ∧ D.nx σ H) ∨ ((Itt K a).go i H ∧ ∃ N : St → Hp → Prop, (∀ σ' H', N σ' H' → ∃ m', m' < m ∧ W (i + 1) m' σ' H') ∧ ∀ x H', (Itt K a).yld i H x H' → g x σ H' fun σ2 H2 => tb { D with nx := N, ct := N, bk := D.nx } σ2 H2) := by
  refine ⟨fun i m σ H => m = xs.length - i ∧ i ≤ xs.length ∧ Pv i σ H, ⟨xs.length, by simp, Nat.zero_le _, h0⟩, ?_⟩
  rintro i m σ H ⟨rfl, hi, p⟩
  have q := hl i σ H hi p
  by_cases hlt : i < xs.length
  · refine .inr ⟨⟨xs, xs[i], q, by simp [hlt]⟩, Pv (i + 1), fun σ' H' p' => ⟨xs.length - (i + 1), by omega, rfl, hlt, p'⟩, fun x H' y => ?_⟩
    obtain ⟨e, y⟩ := y
    subst e
    exact hs i x σ _ (y xs q) p
  · have e : i = xs.length := by omega
    subst e
    exact .inl ⟨⟨xs, q, Nat.le_refl _⟩, hd σ H p⟩
theorem for_range {lo : Int} {n : Nat} {g : TG} {tb : TS} {D : Ends} {σ : St} {H : Hp} (Pv : Nat → St → Hp → Prop) (h0 : Pv 0 σ H)
    (hs : ∀ i σ H, i < n → Pv i σ H → g (.int (lo + i)) σ H fun σ2 H2 => tb { D with nx := Pv (i + 1), ct := Pv (i + 1), bk := D.nx } σ2 H2) (hd : ∀ σ H, Pv n σ H → D.nx σ H) :
    ∃ W : Nat → Nat → St → Hp → Prop, (∃ m, W 0 m σ H) ∧ ∀ i m σ H, W i m σ H →
      ((Itr lo n).stop i H ∧ D.nx σ H) ∨ ((Itr lo n).go i H ∧ ∃ N : St → Hp → Prop, (∀ σ' H', N σ' H' → ∃ m', m' < m ∧ W (i + 1) m' σ' H') ∧ ∀ x H', (Itr lo n).yld i H x H' → g x σ H' fun σ2 H2 => tb { D with nx := N, ct := N, bk := D.nx } σ2 H2) := by
  refine ⟨fun i m σ H => m = n - i ∧ i ≤ n ∧ Pv i σ H, ⟨n, by simp, Nat.zero_le _, h0⟩, ?_⟩
  rintro i m σ H ⟨rfl, hi, p⟩
  by_cases hlt : i < n
  · refine .inr ⟨hlt, Pv (i + 1), fun σ' H' p' => ⟨n - (i + 1), by omega, rfl, hlt, p'⟩, fun x H' y => ?_⟩
    obtain ⟨e, y⟩ := y
    subst e y
    exact hs i σ _ hlt p
  · have e : i = n := by omega
    subst e
    exact .inl ⟨Nat.le_refl _, hd σ H p⟩
end L2

namespace L2
open PySem PySem.Spec PyProof.Rows

abbrev R2 := V → V → Hp → VK → Prop
/-- a two-place operation on values: f is binaryOp op, inplaceOp op or compareOp op -/
def OpR (X : Cx) (f : Value → Value → Sem Value) (r : R2) : Prop :=
  ∀ (pins : List (Addr × Obj)) (s : Shared) (σ : St) (H : Hp) (x y : V) (v u : Value) (Q : VK), Inv X pins σ H s → RelV x v → RelV y u → r x y H Q →
    wpAny (model X.prog X.w) X.A (f v u) (EP X pins σ Q) X.xe s
/-- a call of a value that is known (a builtin, a type) with values -/
def CallR (X : Cx) (f : Value) (r : List V → Hp → VK → Prop) : Prop :=
  ∀ (pins : List (Addr × Obj)) (s : Shared) (σ : St) (H : Hp) (xs : List V) (us : List Value) (Q : VK), Inv X pins σ H s → Vals xs us → r xs H Q →
    wpAny (model X.prog X.w) X.A (call f us) (EP X pins σ Q) X.xe s

def tOp (r : R2) (ta tb : TE) : TE := fun σ H Q => ta σ H fun x H1 => tb σ H1 fun y H2 => r x y H2 Q
/-- ints in, under C, and a value out -/
def rI (C : Int → Int → Prop) (g : Int → Int → V) : R2 := fun x y H Q => ∃ i j, x = .int i ∧ y = .int j ∧ C i j ∧ Q (g i j) H
def rI0 (g : Int → Int → V) : R2 := fun x y H Q => ∃ i j, x = .int i ∧ y = .int j ∧ Q (g i j) H

section
variable {X : Cx} {a b c : Expr} {ta tb tc : TE} {pos : Pos}

theorem binT (ha : PE X a ta) (hb : PE X b tb) {pins : List (Addr × Obj)} {s : Shared} {σ : St} {H : Hp} {R : V → V → Hp → Prop} (I : Inv X pins σ H s)
    (h : ta σ H fun x H1 => tb σ H1 fun y H2 => R x y H2) {Q : Value → Shared → Prop} {f : Value → Value → Sem Value}
    (hf : ∀ v u s2 x y H2, Inv X pins σ H2 s2 → RelV x v → RelV y u → R x y H2 → wpAny (model X.prog X.w) X.A (f v u) Q X.xe s2) :
    wpAny (model X.prog X.w) X.A (eval a X.env) (fun v s₁ => wpAny (model X.prog X.w) X.A (eval b X.env) (fun u s₂ => wpAny (model X.prog X.w) X.A (f v u) Q X.xe s₂) X.xe s₁) X.xe s := by
  refine thn (ha pins s σ H _ I h) fun v s1 ⟨x, H1, I1, r1, q1⟩ => ?_
  refine thn (hb pins s1 σ H1 _ I1 q1) fun u s2 ⟨y, H2, I2, r2, q2⟩ => ?_
  exact hf v u s2 x y H2 I2 r1 r2 q2

theorem pe_op {op : Operator} {r : R2} (ho : OpR X (binaryOp op) r) (ha : PE X a ta) (hb : PE X b tb) : PE X (.BinOp a op b pos) (tOp r ta tb) := by
  intro pins s σ H Q I h
  exact wpAny_BinOp (binT ha hb I h fun v u s2 x y H2 I2 rx ry q => ho pins s2 σ H2 x y v u Q I2 rx ry q)

/-! ### ints -/
theorem opI {f : Value → Value → Sem Value} {C : Int → Int → Prop} {g : Int → Int → Int}
    (rule : ∀ (i j : Int) (t u : Tok) (s : Shared) (Q : Value → Shared → Prop) (E : Value → Shared → Prop), C i j → Q (.int (g i j) s.toks) { s with toks := s.toks + 1 } → wpAny (model X.prog X.w) X.A (f (.int i t) (.int j u)) Q E s) :
    OpR X f (rI C fun i j => .int (g i j)) := by
  intro pins s σ H x y v u Q I rx ry h
  obtain ⟨i, j, rfl, rfl, hc, q⟩ := h
  obtain ⟨t, rfl⟩ := rx
  obtain ⟨t', rfl⟩ := ry
  exact rule i j t t' s _ _ hc ⟨.int (g i j), H, I.tok _, ⟨_, rfl⟩, q⟩
theorem opI0 {f : Value → Value → Sem Value} {g : Int → Int → Int}
    (rule : ∀ (i j : Int) (t u : Tok) (s : Shared) (Q : Value → Shared → Prop) (E : Value → Shared → Prop), Q (.int (g i j) s.toks) { s with toks := s.toks + 1 } → wpAny (model X.prog X.w) X.A (f (.int i t) (.int j u)) Q E s) :
    OpR X f (rI0 fun i j => .int (g i j)) := by
  intro pins s σ H x y v u Q I rx ry h
  obtain ⟨i, j, rfl, rfl, q⟩ := h
  obtain ⟨t, rfl⟩ := rx
  obtain ⟨t', rfl⟩ := ry
  exact rule i j t t' s _ _ ⟨.int (g i j), H, I.tok _, ⟨_, rfl⟩, q⟩
theorem opB0 {f : Value → Value → Sem Value} {g : Int → Int → Bool}
    (rule : ∀ (i j : Int) (t u : Tok) (s : Shared) (Q : Value → Shared → Prop) (E : Value → Shared → Prop), Q (.bool (g i j)) s → wpAny (model X.prog X.w) X.A (f (.int i t) (.int j u)) Q E s) :
    OpR X f (rI0 fun i j => .bl (g i j)) := by
  intro pins s σ H x y v u Q I rx ry h
  obtain ⟨i, j, rfl, rfl, q⟩ := h
  obtain ⟨t, rfl⟩ := rx
  obtain ⟨t', rfl⟩ := ry
  exact rule i j t t' s _ _ ⟨.bl (g i j), H, I, rfl, q⟩

def CDiv (i j : Int) : Prop := 0 < j ∧ j < 1073741824
def CPow (i j : Int) : Prop := 0 ≤ j ∧ j ≤ 1000000 ∧ i.natAbs < 2 ^ 64
def CMul (i j : Int) : Prop := (-(2 ^ 64) < i ∧ i < 2 ^ 64) ∨ (-(2 ^ 64) < j ∧ j < 2 ^ 64)
theorem CMul.ok {i j : Int} (h : CMul i j) : IntMulOk i j := by
  rcases h with ⟨h1, h2⟩ | ⟨h1, h2⟩
  · exact .of_left (intBits_le_64 h1 h2)
  · exact .of_right (intBits_le_64 h1 h2)

theorem op_add : OpR X (binaryOp .Add) (rI0 fun i j => .int (i + j)) := opI0 fun _ _ _ _ _ _ _ q => add_int q
theorem op_sub : OpR X (binaryOp .Sub) (rI0 fun i j => .int (i - j)) := opI0 fun _ _ _ _ _ _ _ q => sub_int q
theorem op_mul : OpR X (binaryOp .Mult) (rI CMul fun i j => .int (i * j)) := opI fun _ _ _ _ _ _ _ hc q => mul_int q hc.ok
/-- // by a positive divisor -/
theorem op_fdiv : OpR X (binaryOp .FloorDiv) (rI CDiv fun i j => .int (i / j)) := opI fun i j _ _ _ _ _ hc q => by
  have h1 : (0 : Int) < j := hc.1
  have h2 : j < 1073741824 := hc.2
  exact floordiv_int (by omega) (by rw [Int.fdiv_eq_ediv_of_nonneg i (by omega)]; exact q) (.inl (PyProof.noPylong_small (by omega)))
/-- % by a positive divisor of any size -/
theorem op_mod : OpR X (binaryOp .Mod) (rI (fun _ j => 0 < j) fun i j => .int (i % j)) := opI fun i j _ _ _ _ _ hc q => by
  have h1 : (0 : Int) < j := hc
  exact mod_int' (by omega) (by rw [Int.fmod_eq_emod_of_nonneg i (by omega)]; exact q)
theorem op_pow : OpR X (binaryOp .Pow) (rI CPow fun i j => .int (i ^ j.toNat)) := opI fun _ _ _ _ _ _ _ hc q => pow_int_small hc.1 hc.2.1 hc.2.2 q



/-! ### bools among ints: n += (a < b) -/
end

/-! ### comparisons -/
/-- the scalars that == tells apart as data does -/
def scal : V → V → Bool
  | .non, .non => true | .non, .int _ => true | .int _, .non => true | .non, .bl _ => true | .bl _, .non => true | .non, .str _ => true | .str _, .non => true
  | .int _, .int _ => true | .bl _, .bl _ => true | .str _, .str _ => true | .byt _, .byt _ => true
  | .int _, .str _ => true | .str _, .int _ => true | .bl _, .str _ => true | .str _, .bl _ => true
  | _, _ => false
def rEq : R2 := fun x y H Q => scal x y = true ∧ Q (.bl (decide (x = y))) H
def rNe : R2 := fun x y H Q => scal x y = true ∧ Q (.bl (!decide (x = y))) H

theorem dec_int {i j : Int} : decide (V.int i = V.int j) = (i == j) := by
  rw [Bool.eq_iff_iff]
  simp
theorem dec_bl {i j : Bool} : decide (V.bl i = V.bl j) = (i == j) := by
  rw [Bool.eq_iff_iff]
  simp
theorem dec_str {i j : Str} : decide (V.str i = V.str j) = (i == j) := by
  rw [Bool.eq_iff_iff]
  simp
theorem dec_byt {i j : Array UInt8} : decide (V.byt i = V.byt j) = (i.toList == j.toList) := by
  rw [Bool.eq_iff_iff]
  cases i
  cases j
  simp

section
variable {X : Cx} {a b c : Expr} {ta tb tc : TE} {pos : Pos}
theorem fin_bl {pins : List (Addr × Obj)} {σ : St} {H : Hp} {s : Shared} {Q : VK} {k k' : Bool} (I : Inv X pins σ H s) (q : Q (.bl k) H) (e : k = k') : EP X pins σ Q (.bool k') s := by
  subst e
  exact ⟨.bl k, H, I, rfl, q⟩
theorem op_eq : OpR X (compareOp .Eq) rEq := by
  intro pins s σ H x y v u Q I rx ry h
  obtain ⟨hs, q⟩ := h
  cases x with
  | non =>
    cases rx
    cases y with
    | non => cases ry; exact PySem.EqNone.eq_none_none (fin_bl I q (by simp))
    | bl j => cases ry; exact PySem.EqNone.eq_none_bool (fin_bl I q (by simp))
    | int j => obtain ⟨t', rfl⟩ := ry; exact PySem.EqNone.eq_none_int (fin_bl I q (by simp))
    | str j => obtain ⟨t', rfl⟩ := ry; exact PySem.EqNone.eq_none_str (fin_bl I q (by simp))
    | _ => exact absurd (show false = true from hs) Bool.false_ne_true
  | bl i =>
    cases rx
    cases y with
    | non => cases ry; exact PySem.EqNone.eq_bool_none (fin_bl I q (by simp))
    | bl j => cases ry; exact eq_bool (fin_bl I q dec_bl)
    | str j => obtain ⟨t', rfl⟩ := ry; exact PySem.EqMixed.eq_bool_str (fin_bl I q (by simp))
    | _ => exact absurd (show false = true from hs) Bool.false_ne_true
  | int i =>
    obtain ⟨t, rfl⟩ := rx
    cases y with
    | non => cases ry; exact PySem.EqNone.eq_int_none (fin_bl I q (by simp))
    | int j => obtain ⟨t', rfl⟩ := ry; exact eq_int (fin_bl I q dec_int)
    | str j => obtain ⟨t', rfl⟩ := ry; exact PySem.EqMixed.eq_int_str (fin_bl I q (by simp))
    | _ => exact absurd (show false = true from hs) Bool.false_ne_true
  | str i =>
    obtain ⟨t, rfl⟩ := rx
    cases y with
    | non => cases ry; exact PySem.EqNone.eq_str_none (fin_bl I q (by simp))
    | bl j => cases ry; exact PySem.EqMixed.eq_str_bool (fin_bl I q (by simp))
    | int j => obtain ⟨t', rfl⟩ := ry; exact PySem.EqMixed.eq_str_int (fin_bl I q (by simp))
    | str j => obtain ⟨t', rfl⟩ := ry; exact eq_str (fin_bl I q dec_str)
    | _ => exact absurd (show false = true from hs) Bool.false_ne_true
  | byt i =>
    obtain ⟨t, rfl⟩ := rx
    cases y with
    | byt j => obtain ⟨t', rfl⟩ := ry; exact PySem.W.eq_bytes (fin_bl I q dec_byt)
    | _ => exact absurd (show false = true from hs) Bool.false_ne_true
  | _ => cases y <;> exact absurd (show false = true from hs) Bool.false_ne_true
theorem op_ne : OpR X (compareOp .NotEq) rNe := by
  intro pins s σ H x y v u Q I rx ry h
  obtain ⟨hs, q⟩ := h
  cases x with
  | non =>
    cases rx
    cases y with
    | non => cases ry; exact PySem.EqNone.ne_none_none (fin_bl I q (by simp))
    | bl j => cases ry; exact PySem.EqNone.ne_none_bool (fin_bl I q (by simp))
    | int j => obtain ⟨t', rfl⟩ := ry; exact PySem.EqNone.ne_none_int (fin_bl I q (by simp))
    | str j => obtain ⟨t', rfl⟩ := ry; exact PySem.EqNone.ne_none_str (fin_bl I q (by simp))
    | _ => exact absurd (show false = true from hs) Bool.false_ne_true
  | bl i =>
    cases rx
    cases y with
    | non => cases ry; exact PySem.EqNone.ne_bool_none (fin_bl I q (by simp))
    | bl j => cases ry; exact ne_bool (fin_bl I q (congrArg not dec_bl))
    | str j => obtain ⟨t', rfl⟩ := ry; exact PySem.EqMixed.ne_bool_str (fin_bl I q (by simp))
    | _ => exact absurd (show false = true from hs) Bool.false_ne_true
  | int i =>
    obtain ⟨t, rfl⟩ := rx
    cases y with
    | non => cases ry; exact PySem.EqNone.ne_int_none (fin_bl I q (by simp))
    | int j => obtain ⟨t', rfl⟩ := ry; exact ne_int (fin_bl I q (congrArg not dec_int))
    | str j => obtain ⟨t', rfl⟩ := ry; exact PySem.EqMixed.ne_int_str (fin_bl I q (by simp))
    | _ => exact absurd (show false = true from hs) Bool.false_ne_true
  | str i =>
    obtain ⟨t, rfl⟩ := rx
    cases y with
    | non => cases ry; exact PySem.EqNone.ne_str_none (fin_bl I q (by simp))
    | bl j => cases ry; exact PySem.EqMixed.ne_str_bool (fin_bl I q (by simp))
    | int j => obtain ⟨t', rfl⟩ := ry; exact PySem.EqMixed.ne_str_int (fin_bl I q (by simp))
    | str j => obtain ⟨t', rfl⟩ := ry; exact ne_str (fin_bl I q (congrArg not dec_str))
    | _ => exact absurd (show false = true from hs) Bool.false_ne_true
  | byt i =>
    obtain ⟨t, rfl⟩ := rx
    cases y with
    | byt j => obtain ⟨t', rfl⟩ := ry; exact PySem.W.ne_bytes (fin_bl I q (congrArg not dec_byt))
    | _ => exact absurd (show false = true from hs) Bool.false_ne_true
  | _ => cases y <;> exact absurd (show false = true from hs) Bool.false_ne_true

theorem op_lt : OpR X (compareOp .Lt) (rI0 fun i j => .bl (decide (i < j))) := opB0 fun _ _ _ _ _ _ _ q => lt_int q
theorem op_gt : OpR X (compareOp .Gt) (rI0 fun i j => .bl (decide (j < i))) := opB0 fun _ _ _ _ _ _ _ q => gt_int q

/-- is None, is not None: the right side a value none -/
theorem op_isN : OpR X (compareOp .Is) (fun x y H Q => y = .non ∧ Q (.bl (decide (x = .non))) H) := by
  intro pins s σ H x y v u Q I rx ry h
  obtain ⟨rfl, q⟩ := h
  cases ry
  refine is_none_gen (fin_bl I q ?_)
  cases x <;> first
    | (cases rx; rfl)
    | (obtain ⟨t, rfl⟩ := rx; rfl)



theorem nomark (b : Expr) {op : CmpOp} (h : op ≠ .In := by decide) (h2 : op ≠ .NotIn := by decide) : behindInMarks op b = false := by
  have e1 : (op == CmpOp.In) = false := by cases op <;> first | rfl | exact absurd rfl h
  have e2 : (op == CmpOp.NotIn) = false := by cases op <;> first | rfl | exact absurd rfl h2
  cases b <;> simp [behindInMarks, e1, e2]
/-- a comparison as a value; hm: nomark b, or (for in, not in) by with_unfolding_all rfl -/
theorem pe_cmpR {op : CmpOp} {r : R2} (ho : OpR X (compareOp op) r) (ha : PE X a ta) (hb : PE X b tb) (hm : behindInMarks op b = false) : PE X (.Compare a [op] [b] pos) (tOp r ta tb) := by
  intro pins s σ H Q I h
  exact wpAny_Compare1 (binT ha hb I h fun v u s2 x y H2 I2 rx ry q => ho pins s2 σ H2 x y v u Q I2 rx ry q) hm
/-- a reading of a value as a test -/
def tTest (t : TE) : TT := fun σ H Q => t σ H fun x H' => ∃ k, x = .bl k ∧ Q k H'
theorem pt_cmpR {op : CmpOp} {r : R2} (ho : OpR X (compareOp op) r) (ha : PE X a ta) (hb : PE X b tb) (hm : behindInMarks op b = false) : PT X (.Compare a [op] [b] pos) (tTest (tOp r ta tb)) := by
  intro pins s σ H Q I h
  refine wpAny_isTrue_Compare1 (thn (ha pins s σ H _ I h) fun v s1 ⟨x, H1, I1, r1, q1⟩ => thn (hb pins s1 σ H1 _ I1 q1) fun u s2 ⟨y, H2, I2, r2, q2⟩ =>
    thn (ho pins s2 σ H2 x y v u _ I2 r1 r2 q2) fun c s3 ⟨z, H3, I3, r3, k, e, q3⟩ => ?_) hm
  subst e
  cases r3
  exact wpAny_truthy_bool ⟨H3, I3, q3⟩
/-- a op1 b op2 c -/
def tChain (r r' : R2) (ta tb tc : TE) : TE := fun σ H Q => ta σ H fun x H1 => tb σ H1 fun y H2 => r x y H2 fun z H3 => ∃ k, z = .bl k ∧
  (if k = true then tc σ H3 fun w' H4 => r' y w' H4 Q else Q (.bl false) H3)
theorem pt_chain {op op' : CmpOp} {r r' : R2} (ho : OpR X (compareOp op) r) (ho' : OpR X (compareOp op') r') (ha : PE X a ta) (hb : PE X b tb) (hc : PE X c tc)
    (hm : lastMarks [op, op'] [b, c] = false := by with_unfolding_all rfl) : PT X (.Compare a [op, op'] [b, c] pos) (tTest (tChain r r' ta tb tc)) := by
  intro pins s σ H Q I h
  refine isTrue_chain (thn (ha pins s σ H _ I h) fun v s1 ⟨x, H1, I1, r1, q1⟩ => test_link (thn (hb pins s1 σ H1 _ I1 q1) fun u s2 ⟨y, H2, I2, r2, q2⟩ =>
    thn (ho pins s2 σ H2 x y v u _ I2 r1 r2 q2) fun d s3 ⟨z, H3, I3, r3, k, e, q3⟩ => ?_)) hm
  subst e
  cases r3
  refine wpAny_truthy_bool ?_
  cases k with
  | false =>
    obtain ⟨k', e', q'⟩ := q3
    cases e'
    exact ite_ff ⟨H3, I3, q'⟩
  | true =>
    refine ite_tt (test_last (thn (hc pins s3 σ H3 _ I3 q3) fun w' s4 ⟨z', H4, I4, r4, q4⟩ => thn (ho' pins s4 σ H4 y z' u w' _ I4 r2 r4 q4) fun d' s5 ⟨z2, H5, I5, r5, k2, e2, q5⟩ => ?_))
    subst e2
    cases r5
    exact wpAny_truthy_bool ⟨H5, I5, q5⟩

/-! ### truth -/
theorem line63 : (sizeLine : Nat) < 2 ^ 63 := by rw [sizeLine_eq]; decide

/-! ### strs and bytes -/
theorem op_add_str : OpR X (binaryOp .Add) (fun x y H Q => ∃ i j, x = .str i ∧ y = .str j ∧ i.length + j.length ≤ sizeLine ∧ Q (.str (i ++ j)) H) := by
  intro pins s σ H x y v u Q I rx ry h
  obtain ⟨i, j, rfl, rfl, hz, q⟩ := h
  obtain ⟨t, rfl⟩ := rx
  obtain ⟨t', rfl⟩ := ry
  exact add_str (fun t' tk => ⟨.str (i ++ j), H, I.tok _, ⟨_, rfl⟩, q⟩) hz

def PlainIxT (b : Expr) : Prop := ∀ o i, subscripted b false o i = operate [o, i] (getItem o i)
/-- s[i], 0 ≤ i < len -/
theorem pe_item_str (ha : PE X a ta) (hb : PE X b tb) (hs : PlainIxT b) :
    PE X (.Subscript a b pos) (tOp (fun x y H Q => ∃ z i c, x = .str z ∧ y = .int i ∧ 0 ≤ i ∧ i < 2 ^ 63 ∧ i < z.length ∧ z.cps[i.toNat]? = some c ∧ Q (.str ⟨#[c]⟩) H) ta tb) := by
  intro pins s σ H Q I h
  refine Subscript_ (binT ha hb I h fun v u s2 x y H2 I2 rx ry q => ?_)
  obtain ⟨z, i, c, rfl, rfl, h0, h63, h1, hc, q⟩ := q
  obtain ⟨t, rfl⟩ := rx
  obtain ⟨t', rfl⟩ := ry
  have e : seqIndex? i z.length = some i.toNat := PySem.StrLaws.seqIndex_nonneg h0 h1
  exact tail_any (typeIs_str s2 z t) slot_str_getitem.lookup (getItem_str (c := c) (by
    have e1 : decide (i < -(2 ^ 63 : Int)) = false := decide_eq_false (by omega)
    have e2 : decide (i ≥ 2 ^ 63) = false := decide_eq_false (by omega)
    rw [e1, e2] <;> rfl) (by rw [e]; exact hc) ⟨.str ⟨#[c]⟩, H2, I2.tok _, ⟨_, rfl⟩, q⟩) (hs _ _)

/-! ### scalar builtins, by CallR -/
theorem vals1 {x : V} {us : List Value} (r : Vals [x] us) : ∃ u, us = [u] ∧ RelV x u := by
  cases r with
  | cons r1 r2 => cases r2; exact ⟨_, rfl, r1⟩
theorem vals2 {x y : V} {us : List Value} (r : Vals [x, y] us) : ∃ u w', us = [u, w'] ∧ RelV x u ∧ RelV y w' := by
  cases r with
  | cons r1 r2 =>
    cases r2 with
    | cons r3 r4 => cases r4; exact ⟨_, _, rfl, r1, r3⟩
theorem call_int1 : CallR X (.type "int") (fun xs H Q => (∃ i, xs = [.int i] ∧ Q (.int i) H) ∨ ∃ k, xs = [.bl k] ∧ Q (.int (if k then 1 else 0)) H) := by
  intro pins s σ H xs us Q I r h
  rcases h with ⟨i, rfl, q⟩ | ⟨k, rfl, q⟩
  · obtain ⟨u, rfl, t, rfl⟩ := vals1 r
    exact call_int_int ⟨.int i, H, I, ⟨_, rfl⟩, q⟩
  · obtain ⟨u, rfl, r1⟩ := vals1 r
    cases r1
    exact call_int_bool ⟨.int (if k then 1 else 0), H, I.tok _, ⟨_, rfl⟩, q⟩
end
end L2

namespace L2
open PySem PySem.Spec PyProof.Rows

/-! ### an instance, its attributes a map -/
structure ObjM (h : Heap) (x dx C : Addr) (mA : Str → Option Value) : Prop where
  obj : h.get? x = some (PySem.W.instObj C dx)
  ns : h.Ns1 dx mA
  ne : dx ≠ x

theorem lookIn_ns {h : Heap} {dx : Addr} {mA : Str → Option Value} (n : h.Ns1 dx mA) : ∃ od, h.get? dx = some od ∧ ∀ name, PySem.W.lookIn name od = some (mA name) := by
  obtain ⟨o, es, ep, ho, hd, hk, _, hm⟩ := n
  refine ⟨o, ho, fun name => ?_⟩
  have e := hm name
  unfold nsFind findBy at e
  rw [← Array.find?_toList] at e
  unfold PySem.W.lookIn
  rw [hd]
  dsimp only
  split
  · rename_i y q
    rw [q] at e
    exact congrArg some e
  · rename_i q
    rw [q] at e
    have a : es.toList.any (·.refKey) = false := by
      rw [List.any_eq_false]
      intro y hy
      obtain ⟨z, t, hkey⟩ := hk y (Array.mem_toList_iff.mp hy)
      simp [DictEntry.refKey, hkey]
    have a' : ¬ es.toList.any (·.refKey) = true := by rw [a]; exact Bool.false_ne_true
    rw [if_neg a']
    exact congrArg some e

theorem ObjM.look {h : Heap} {x dx C : Addr} {mA : Str → Option Value} (I : ObjM h x dx C mA) : ∃ od, PySem.W.InstAt h x (PySem.W.instObj C dx) C (some od) ∧ ∀ name, PySem.W.lookIn name od = some (mA name) :=
  let ⟨od, ho, hl⟩ := lookIn_ns I.ns
  ⟨od, ⟨I.obj, rfl, rfl, ho⟩, hl⟩

section
variable {prog : Program} {w : World} {A : Around} {E : Value → Shared → Prop} {s : Shared} {K : PySem.W.Frag} {x dx C f : Addr} {mA : Str → Option Value} {name : Str} {v : Value}





end

/-! ### the attributes as a list of pairs -/


section
variable {P : Program} {w : World} {H H' : Hp} {h h' : Heap} {a C dx : Addr} {fs fs' : List (Str × V)}
theorem ins_get (hok : HOk P w H h) (e : H a = some (.ins C dx fs)) : ∃ mA, ObjM h a dx C mA ∧ (∀ f, RelO (fs.lookup f) (mA f)) ∧ PySem.Within mA (fs.map (·.1)) ∧ fs.length ≤ 1000 ∧ H dx = some (.own a) := by
  obtain ⟨d, z, ne, ob, mA, n, r, q⟩ := (show ObjOk P w H h a (.ins C dx fs) from hok a _ e)
  exact ⟨mA, ⟨ob, n, ne⟩, r, q, z, d⟩
end

/-! ### what of the text a class must have -/
structure Cls (K : PySem.W.Frag) (C : Addr) : Prop where
  pg : PySem.W.plainGet K C Str.empty = true
  hd : PySem.W.hasDictIn K C = true
  po : PySem.W.plainOver K C = true
  sa : PySem.W.findIn K (.ref C) "__setattr__" = some (some (.builtin "object.__setattr__"))
theorem Cls.get {K : PySem.W.Frag} {C : Addr} (c : Cls K C) (f : Str) : PySem.W.plainGet K C f = true := c.pg
/-- a constant of the class -/
structure Con (K : PySem.W.Frag) (C : Addr) (f : Str) (v : V) (u : Value) : Prop where
  at_ : PySem.W.findIn K (.ref C) f = some (some u)
  rel : RelV v u
  get : PySem.W.specialIn K u "__get__" = some none
  cp : PySem.W.copiedNames.contains f = false
/-- a method: a plain def of the class or of one above it -/
structure Meth (K : PySem.W.Frag) (C : Addr) (m : Str) (f : Addr) : Prop where
  at_ : PySem.W.findIn K (.ref C) m = some (some (.ref f))
  fn : PySem.W.isFn K (.ref f) = true
  kp : PySem.W.keepIn K (.ref f) = true

section
variable {X : Cx} {pins : List (Addr × Obj)} {σ : St} {H : Hp} {s : Shared} {a C dx : Addr} {fs : List (Str × V)} {f : Str} {v : V} {A : Around} {E : Value → Shared → Prop}






end

/-! ### readings and rules -/

section
variable {X : Cx} {o e value : Expr} {f : Str} {pos pos' tpos : Pos} {ta tv : TE}

end

/-! ### isinstance -/
section
variable {X : Cx} {pins : List (Addr × Obj)} {σ : St} {H : Hp} {s : Shared} {A : Around} {E : Value → Shared → Prop} {Q : Value → Shared → Prop} {c : Value} {b : Bool}
/-- the type of a value, as the fragment's deciders take it; for an instance its class -/
inductive TyOf (K : PySem.W.Frag) (H : Hp) : V → Value → Prop where
  | non : TyOf K H .non (.type "NoneType")
  | bl (x : Bool) : TyOf K H (.bl x) (.type "bool")
  | int (i : Int) : TyOf K H (.int i) (.type "int")
  | str (x : Str) : TyOf K H (.str x) (.type "str")
  | flt (x : UInt64) : TyOf K H (.flt x) (.type "float")
  | lst {a : Addr} {xs : List V} (e : H a = some (.lst xs)) : TyOf K H (.ref a) (.type "list")
  | frz {a : Addr} {o : Obj} {xs : List V} (e : H a = some (.frz o (.lst xs))) : TyOf K H (.ref a) (.type "list")
  | tup {a : Addr} {xs : List V} (e : H a = some (.tup xs)) : TyOf K H (.ref a) (.type "tuple")
  | dK {a : Addr} {kvs : List (Key × V)} (e : H a = some (.dK kvs)) : TyOf K H (.ref a) (.type "dict")
  | dT {a : Addr} {kvs : List (List Key × V)} (e : H a = some (.dT kvs)) : TyOf K H (.ref a) (.type "dict")
  | ins {a C dx : Addr} {fs : List (Str × V)} (e : H a = some (.ins C dx fs)) (cl : Cls K C) (ha : PySem.W.findIn K (.ref C) "__class__" = some (some (.builtin "object.__class__")))
      (hn : PySem.W.specialIn K (.builtin "object.__class__") "__get__" = some (some (.builtin "getset_descriptor.__get__"))) (htk : PySem.W.takesIn K (.builtin "object.__class__") = some true)
      (hm : PySem.W.mroIn K C (.type "object") = some true) : TyOf K H (.ref a) (.ref C)
/-- isinstance(x, c) for one class c, a built-in or an own one: kitOne's answer -/
theorem isinst_ok {x : V} {u t : Value} (I : Inv X pins σ H s) (rx : RelV x u) (ty : TyOf X.K H x t) (e : PySem.W.kitOne X.K t c = some b) (h : ∀ tk, Q (.bool b) { s with toks := tk }) :
    wpAny (model X.prog X.w) A (call (.builtin "isinstance") [u, c]) Q E s := by
  cases ty with
  | non => cases (show u = Value.none from rx); exact PySem.W.kia_one PySem.W.kitx_none I.kIn True.intro e (fun z => nomatch z) h
  | bl y => cases (show u = Value.bool y from rx); exact PySem.W.kia_one PySem.W.kitx_bool I.kIn True.intro e (fun z => nomatch z) h
  | int i => obtain ⟨t, q⟩ := (show ∃ t, u = Value.int i t from rx); cases q; exact PySem.W.kia_one PySem.W.kitx_int I.kIn True.intro e (fun z => nomatch z) h
  | str y => obtain ⟨t, q⟩ := (show ∃ t, u = Value.str y t from rx); cases q; exact PySem.W.kia_one PySem.W.kitx_str I.kIn True.intro e (fun z => nomatch z) h
  | flt y => obtain ⟨t, q⟩ := (show ∃ t, u = Value.float y t from rx); cases q; exact PySem.W.kia_one PySem.W.kitx_float I.kIn True.intro e (fun z => nomatch z) h
  | @lst a xs ea =>
    cases (show u = Value.ref a from rx)
    obtain ⟨_, _, n, _, h1⟩ := (show ObjOk X.prog X.w H s.heap a (.lst xs) from I.hok a _ ea)
    exact PySem.W.kia_one PySem.W.kitx_list I.kIn ⟨_, h1, rfl⟩ e (fun z => nomatch z) h
  | @frz a ob xs ea =>
    cases (show u = Value.ref a from rx)
    obtain ⟨_, _, _, n, _, h1⟩ := (show ObjOk X.prog X.w H s.heap a (.frz ob (.lst xs)) from I.hok a _ ea)
    exact PySem.W.kia_one PySem.W.kitx_list I.kIn ⟨_, h1, rfl⟩ e (fun z => nomatch z) h
  | @tup a xs ea =>
    cases (show u = Value.ref a from rx)
    obtain ⟨_, _, _, p⟩ := (show ObjOk X.prog X.w H s.heap a (.tup xs) from I.hok a _ ea)
    obtain ⟨o, h1, h2, _⟩ := p
    exact PySem.W.kia_one PySem.W.kitx_tuple I.kIn ⟨o, h1, h2⟩ e (fun z => nomatch z) h
  | @dK a kvs ea =>
    cases (show u = Value.ref a from rx)
    obtain ⟨_, _, vs, _, p⟩ := (show ObjOk X.prog X.w H s.heap a (.dK kvs) from I.hok a _ ea)
    obtain ⟨o, es, ep, h1, h2, _⟩ := p
    exact PySem.W.kia_one PySem.W.kitx_dict I.kIn ⟨o, h1, h2.1⟩ e (fun z => nomatch z) h
  | @dT a kvs ea =>
    cases (show u = Value.ref a from rx)
    obtain ⟨_, _, xs, _, o, es, ep, h1, h2, _⟩ := (show ObjOk X.prog X.w H s.heap a (.dT kvs) from I.hok a _ ea)
    exact PySem.W.kia_one PySem.W.kitx_dict I.kIn ⟨o, h1, h2.1⟩ e (fun z => nomatch z) h
  | @ins a C dx fs ea cl ha hn htk hm =>
    cases (show u = Value.ref a from rx)
    obtain ⟨mA, O, _⟩ := ins_get I.hok ea
    obtain ⟨od, J, _⟩ := O.look
    exact PySem.W.kia_one (PySem.W.kitx_own (cl.get _) cl.hd ha hn htk hm) I.kIn J e (fun z => nomatch z) h
end
end L2

namespace L2
open PySem PySem.Spec PyProof.Rows

/-! ### room -/
structure Room (k : Nat) (A : Around) : Prop where
  hd : A.handled = none
  dp : A.depth + 3 * k + 5 < recursionLimit
  un : A.units + 16 * k + 200 < cLine
theorem Room.mono {j k : Nat} {A : Around} (r : Room k A) (h : j ≤ k) : Room j A := ⟨r.hd, by have := r.dp; omega, by have := r.un; omega⟩
theorem Room.deeper {k : Nat} {A : Around} (r : Room (k + 1) A) (env : Env) : Room k (A.deeper env) :=
  ⟨r.hd, by have := r.dp; show A.depth + 1 + 3 * k + 5 < _; omega, by have := r.un; show A.units + 3 + 16 * k + 200 < _; omega⟩
theorem Room.depth {k : Nat} {A : Around} (r : Room k A) : A.depth < recursionLimit := by have := r.dp; omega
theorem Room.units {k : Nat} {A : Around} (r : Room k A) : A.units + 64 < cLine := by have := r.un; omega

/-! ### argument lists and displays -/
def tNil : TA := fun _ H Q => Q [] H
def tCons (ta : TE) (tr : TA) : TA := fun σ H Q => ta σ H fun x H1 => tr σ H1 fun xs H2 => Q (x :: xs) H2
section
variable {X : Cx} {e : Expr} {es : List Expr} {te : TE} {t : TA} {pos : Pos}
theorem pa_nil : PA X [] tNil := fun _ _ _ _ H Q I h => Calls.spliced_nil ⟨[], H, I, .nil, h⟩
theorem pa_cons (ha : PE X e te) (hr : PA X es t) (hs : starEach (e :: es) X.env = (false, eval e X.env) :: starEach es X.env := by rfl) : PA X (e :: es) (tCons te t) := by
  intro pos pins s σ H Q I h
  rw [hs]
  show wpAny _ _ (spliced ((false, eval e X.env) :: backTo pos (starEach es X.env))) _ _ s
  refine Calls.spliced_cons (thn (ha pins s σ H _ I h) fun u s1 ⟨x, H1, I1, r1, q1⟩ => ?_)
  exact thn (hr pos pins s1 σ H1 _ I1 q1) fun us s2 ⟨xs, H2, I2, r2, q2⟩ => ⟨x :: xs, H2, I2, .cons r1 r2, q2⟩

/-- a tuple, a list of written items -/
def tTup (t : TA) : TE := fun σ H Q => t σ H fun xs H1 => xs.length ≤ sizeLine ∧ ∀ p, H1 p = none → Q (.ref p) (upd H1 p (.tup xs))
def tLst (t : TA) : TE := fun σ H Q => t σ H fun xs H1 => xs.length ≤ sizeLine ∧ ∀ p, H1 p = none → Q (.ref p) (upd H1 p (.lst xs))
theorem pe_tup {x1} (h : PA X es t) : PE X (.Tuple es x1 pos) (tTup t) := by
  intro pins s σ H Q I hq
  refine wpAny_Tuple_spliced (thn (h pos pins s σ H _ I hq) fun us s1 ⟨xs, H1, I1, r, z, q⟩ => ⟨by rw [← r.length]; exact z, ?_⟩)
  have hf : H1 s1.heap.objs.size = none := I1.hok.fresh (Nat.le_refl _)
  refine ⟨.ref s1.heap.objs.size, upd H1 s1.heap.objs.size (.tup xs), I1.laid (t' := s1.toks) (fun b u e => Heap.get?_push_of_some _ e) (Nat.le_refl _) ?_, rfl, q _ hf⟩
  exact ⟨z, us, r, ⟨_, Heap.get?_push_size _ rfl, rfl, _, rfl⟩⟩
theorem pe_lst (h : PA X es t) : PE X (.List es pos) (tLst t) := by
  intro pins s σ H Q I hq
  refine wpAny_List_spliced (thn (h pos pins s σ H _ I hq) fun us s1 ⟨xs, H1, I1, r, z, q⟩ => ⟨by rw [← r.length]; exact z, ?_⟩)
  have hf : H1 s1.heap.objs.size = none := I1.hok.fresh (Nat.le_refl _)
  refine ⟨.ref s1.heap.objs.size, upd H1 s1.heap.objs.size (.lst xs), I1.laid (t' := s1.toks) (fun b u e => Heap.get?_push_of_some _ e) (Nat.le_refl _) ?_, rfl, q _ hf⟩
  exact ⟨z, us, 0, r, Heap.get?_push_size _ rfl⟩
end

/-! ### what a def promises -/
/-- a def's promise: the bound arguments in the parameters' order, the heap, the wanted end, the wanted exception -/
abbrev Sp := List V → Hp → VK → XK → Prop
/-- how an exception lies behind a call (file 08 gives it): the callers' frames, abstract heap and state ahead of the call, the wish, the exception, the state -/
abbrev CXT := List Env → Hp → Shared → XK → Value → Shared → Prop

/-- the state at a call -/
structure Env0 (P : Program) (w : World) (K : PySem.W.Frag) (mg : Str → Option Value) (base : Heap) (A : Around) (outer : List Env) (s : Shared) (H : Hp) : Prop where
  frames : A.frames = some outer
  mod : Mod K mg base
  bs : ∀ b o, base.get? b = some o → s.heap.get? b = some o ∧ H b = none
  bsz : base.objs.size ≤ s.heap.objs.size
  funs : s.heap.FunFrames base outer
  frf : ∀ b ∈ frs outer, H b = none
  hok : HOk P w H s.heap
  bare : AllBare s.gens
/-- a call's end -/
def CE (outer : List Env) (P : Program) (w : World) (H : Hp) (s : Shared) (Q : VK) (u : Value) (s' : Shared) : Prop :=
  ∃ v H', s'.os = s.os ∧ AllBare s'.gens ∧ Un (frs outer) [] H H' s.heap s'.heap ∧ HOk P w H' s'.heap ∧ RelV v u ∧ Q v H'
def CR (CX : CXT) (outer : List Env) (P : Program) (w : World) (H : Hp) (s : Shared) (Q : VK) (E : XK) (r : Result) (s' : Shared) : Prop :=
  match r with
  | .ok (.ret u) => CE outer P w H s Q u s'
  | .ok _ => False
  | .error e => CX outer H s E e s'
structure FnOk (P : Program) (w : World) (K : PySem.W.Frag) (mg : Str → Option Value) (base : Heap) (CX : CXT) (k : Nat) (f : Addr) (fd : FuncData) (ps : List Str) (sp : Sp) : Prop where
  len : ∀ vs H Q E, sp vs H Q E → vs.length = ps.length
  run : ∀ (A : Around) (outer : List Env) (s : Shared) (H : Hp) (args : Args) (us : List Value) (vs : List V) (Q : VK) (E : XK), Room k A → Env0 P w K mg base A outer s H → BindsTo s fd args (ps.zip us) → Vals vs us → sp vs H Q E →
    codeAny (model P w) A (.call (.ref f) args) (CR CX outer P w H s Q E) s
theorem FnOk.mono {P : Program} {w : World} {K : PySem.W.Frag} {mg : Str → Option Value} {base : Heap} {CX : CXT} {j k : Nat} {f : Addr} {fd : FuncData} {ps : List Str} {sp : Sp} (F : FnOk P w K mg base CX j f fd ps sp) (h : j ≤ k) :
    FnOk P w K mg base CX k f fd ps sp := ⟨F.len, fun A outer s H args us vs Q E hr => F.run A outer s H args us vs Q E (hr.mono h)⟩


section
variable {X : Cx} {pins : List (Addr × Obj)} {σ : St} {H : Hp} {s s' : Shared}
/-- from a body: what a callee wants -/
theorem Inv.env0 (I : Inv X pins σ H s) : Env0 X.prog X.w X.K X.mg X.base X.A X.stack s H :=
  ⟨I.ok.frames, I.ok.mod, I.bs, Nat.le_trans I.ok.bsz I.sz, I.stack, I.stkFree, I.hok, I.bare⟩
/-- behind a call -/
theorem Inv.after {Q : VK} {u : Value} (I : Inv X pins σ H s) (h : CE X.stack X.prog X.w H s Q u s') : EP X pins σ Q u s' := by
  obtain ⟨v, H', os, bare, un, hok, r, q⟩ := h
  obtain ⟨hh, g, d, t, os'⟩ := s'
  obtain rfl : os' = s.os := os
  exact ⟨v, H', I.call (h' := hh) (g' := g) (d' := d) (t' := t) (ch := []) un hok bare (fun b z => absurd z (by simp)), r, q⟩
end

/-! ### calls -/
/-- f(..): the written arguments, then the defaults dvs; E: what is wanted of an exception -/
def tCall (sp : Sp) (dvs : List V) (E : XK) (t : TA) : TE := fun σ H Q => t σ H fun vs H1 => sp (vs ++ dvs) H1 Q E

/-- how the parameters are bound: us the positional arguments, kw the keywords' values by name, ds the defaults that fill up -/
def Binds (K : PySem.W.Frag) (fd : FuncData) (ps : List Str) (ds : List Value) : Prop :=
  ∀ (s : Shared) (us : List Value), K.In s.heap → (us ++ ds).length = ps.length → BindsTo s fd ⟨us, []⟩ (ps.zip (us ++ ds))
/-- every parameter is given -/
theorem Binds.all {K : PySem.W.Frag} {fd : FuncData} {ps : List Str} (h : ∀ us : List Value, us.length = ps.length → bindArgs fd ⟨us, []⟩ = pure (ps.zip us)) : Binds K fd ps [] := fun s us _ hl => by
  rw [List.append_nil] at hl ⊢
  exact .of_eq (h us hl)

/-- an exception of a callee reaches what this body wants of exceptions -/
def Passes (CX : CXT) (X : Cx) (E : XK) : Prop := ∀ (pins : List (Addr × Obj)) (σ : St) (H : Hp) (s : Shared) (e : Value) (s' : Shared), Inv X pins σ H s → CX X.stack H s E e s' → X.xe e s'

section
variable {X : Cx} {CX : CXT} {k : Nat} {f C : Addr} {fd : FuncData} {ps : List Str} {sp : Sp} {dvs : List V} {ds : List Value} {E : XK} {x m : Str} {p pos apos : Pos} {e o : Expr} {es : List Expr} {ta : TE} {t : TA}

/-- the callee runs -/
theorem run_fn {pins : List (Addr × Obj)} {σ : St} {H : Hp} {s : Shared} {Q : VK} {us : List Value} {vs : List V} (F : FnOk X.prog X.w X.K X.mg X.base CX k f fd ps sp) (hr : Room k X.A) (hb : Binds X.K fd ps ds) (hd : Vals dvs ds) (hx : Passes CX X E)
    (I : Inv X pins σ H s) (r : Vals vs us) (h : sp (vs ++ dvs) H Q E) : wpAny (model X.prog X.w) X.A (call (.ref f) us) (EP X pins σ Q) X.xe s := by
  have r2 : Vals (vs ++ dvs) (us ++ ds) := r.append hd
  have hl : (us ++ ds).length = ps.length := by rw [← r2.length]; exact F.len _ _ _ _ h
  refine wpAny_call (codeAny_mono (F.run X.A X.stack s H ⟨us, []⟩ (us ++ ds) (vs ++ dvs) Q E hr I.env0 (hb s us I.kIn hl) r2 h) fun r s' hq => ?_)
  cases r with
  | error e => exact hx pins σ H s e s' I hq
  | ok fl =>
    cases fl with
    | ret u => exact I.after hq
    | next => exact False.elim hq
    | brk => exact False.elim hq
    | cont => exact False.elim hq

theorem pe_call (F : FnOk X.prog X.w X.K X.mg X.base CX k f fd ps sp) (hr : Room k X.A) (hg : Gl X x) (hm : X.mg x = some (.ref f)) (hk : PySem.W.keepIn X.K (.ref f) = true) (hb : Binds X.K fd ps ds) (hd : Vals dvs ds) (hx : Passes CX X E)
    (ha : PA X (e :: es) t) (hdb : (x == ("__debug__" : Str)) = false := by decide) (he : starEach (e :: es) X.env = (false, eval e X.env) :: starEach es X.env := by rfl) (hpl : (backTo pos (starEach es X.env)).any (·.1) = false := by rfl) :
    PE X (.Call (.Name x p) (e :: es) [] pos) (tCall sp dvs E t) := by
  intro pins s σ H Q I h
  refine wpAny_Call_Name_kw (ld_glob I hg hm ?_ hdb)
  refine PySem.W.callWith_K (h₀ := X.base) I.ok.mod.kin hk (thn (ha pos pins s σ H _ I h) fun us s1 ⟨vs, H1, I1, r, q⟩ => ⟨I1.kIn, ?_⟩) he hpl
  exact run_fn F hr hb hd hx I1 r q


/-- what a class must have to be made -/
structure Mk (K : PySem.W.Frag) (C f : Addr) : Prop where
  makes : PySem.W.makesIn K C = true
  init : PySem.W.findIn K (.ref C) "__init__" = some (some (.ref f))
  fn : PySem.W.isFn K (.ref f) = true
  kp : PySem.W.keepIn K (.ref C) = true

end

/-! ### keywords -/
section
variable {X : Cx} {CX : CXT} {k : Nat} {f C : Addr} {fd : FuncData} {ps ks : List Str} {sp : Sp} {E : XK} {x m : Str} {p pos apos kpos : Pos} {e o : Expr} {es : List Expr} {kws : List Keyword} {te ta : TE} {t tk : TA} {nm : Option Str}

/-- how a call with keywords binds: g puts the positional values us and the keywords' values ws (names ks) in the parameters' order, defaults among them -/
structure KBinds (K : PySem.W.Frag) (fd : FuncData) (ps ks : List Str) (g : List Value → List Value → List Value) (gV : List V → List V → List V) : Prop where
  to : ∀ (s : Shared) (us ws : List Value), K.In s.heap → (g us ws).length = ps.length → BindsTo s fd ⟨us, ks.zip ws⟩ (ps.zip (g us ws))
  rel : ∀ {vs : List V} {us : List Value} {zs : List V} {ws : List Value}, Vals vs us → Vals zs ws → Vals (gV vs zs) (g us ws)
variable {g : List Value → List Value → List Value} {gV : List V → List V → List V}
end

/-! ### a def's body keeps its promise -/
/-- names: the parameters first -/
structure FnScope (N P : List Str) (sc : Scope) : Prop where
  kind : sc.kind = .function
  co : sc.isCoroutine = false
  gen : sc.isGenerator = false
  nd : N.Nodup
  pre : N.take P.length = P
  par : ∀ x ∈ P, sc.names.lookup x = some .local ∨ sc.names.lookup x = some .cell
  nofree : ∀ y ∈ sc.names, y.2 ≠ .free

theorem bindL_out {kindOf : Str → Option NameKind} {x : Str} : ∀ {binds : List (Str × Value)} {m : Str → Option Value}, (∀ v, (x, v) ∉ binds) → bindL kindOf binds m x = m x
  | [], _, _ => rfl
  | (n, v) :: r, m, h => by
    unfold bindL
    rw [bindL_out fun w hw => h w (List.mem_cons_of_mem _ hw)]
    split
    · have : x ≠ n := by rintro rfl; exact h v List.mem_cons_self
      simp [this]
    · rfl
theorem bindC_out {kindOf : Str → Option NameKind} {x : Str} : ∀ {binds : List (Str × Value)} {m : Str → Option Value}, (∀ v, (x, v) ∉ binds) → bindC kindOf binds m x = m x
  | [], _, _ => rfl
  | (n, v) :: r, m, h => by
    unfold bindC
    rw [bindC_out fun w hw => h w (List.mem_cons_of_mem _ hw)]
    split
    · rfl
    · have : x ≠ n := by rintro rfl; exact h v List.mem_cons_self
      simp [this]
theorem bindL_get {kindOf : Str → Option NameKind} {x : Str} {v : Value} : ∀ {P : List Str} {vs : List Value} {i : Nat} {m : Str → Option Value}, P.Nodup → P[i]? = some x → vs[i]? = some v → kindOf x = some .local →
    bindL kindOf (P.zip vs) m x = some v
  | [], _, _, _, _, h, _, _ => by simp at h
  | _ :: _, [], _, _, _, _, h, _ => by simp at h
  | p :: P, w :: vs, 0, m, nd, h1, h2, hk => by
    simp at h1 h2; subst h1; subst h2
    show bindL kindOf ((p, w) :: P.zip vs) m p = _
    unfold bindL
    rw [bindL_out fun v hv => (List.nodup_cons.mp nd).1 (List.of_mem_zip hv).1, if_pos hk]
    simp
  | p :: P, w :: vs, i + 1, m, nd, h1, h2, hk => by
    show bindL kindOf ((p, w) :: P.zip vs) m x = _
    unfold bindL
    exact bindL_get (i := i) (List.nodup_cons.mp nd).2 (by simpa using h1) (by simpa using h2) hk
theorem bindC_get {kindOf : Str → Option NameKind} {x : Str} {v : Value} : ∀ {P : List Str} {vs : List Value} {i : Nat} {m : Str → Option Value}, P.Nodup → P[i]? = some x → vs[i]? = some v → kindOf x ≠ some .local →
    bindC kindOf (P.zip vs) m x = some v
  | [], _, _, _, _, h, _, _ => by simp at h
  | _ :: _, [], _, _, _, _, h, _ => by simp at h
  | p :: P, w :: vs, 0, m, nd, h1, h2, hk => by
    simp at h1 h2; subst h1; subst h2
    show bindC kindOf ((p, w) :: P.zip vs) m p = _
    unfold bindC
    rw [bindC_out fun v hv => (List.nodup_cons.mp nd).1 (List.of_mem_zip hv).1, if_neg hk]
    simp
  | p :: P, w :: vs, i + 1, m, nd, h1, h2, hk => by
    show bindC kindOf ((p, w) :: P.zip vs) m x = _
    unfold bindC
    exact bindC_get (i := i) (List.nodup_cons.mp nd).2 (by simpa using h1) (by simpa using h2) hk

/-- the names' values at the entry -/
def start (N : List Str) (vs : List V) : St := vs.map some ++ List.replicate (N.length - vs.length) none

/-- the context of a def's body, at its entry; an exception leaves the frame, then lies as CX says -/
def cxOf (CX : CXT) (P : Program) (w : World) (K : PySem.W.Frag) (mg : Str → Option Value) (base : Heap) (N : List Str) (qual : Str) (scope : Scope) (f : Addr) (cd : Value) (A : Around) (outer : List Env) (s : Shared) (H : Hp) (E : XK) : Cx where
  prog := P
  w := w
  K := K
  mg := mg
  base := base
  A := A.deeper (envOfC qual scope s.heap.objs.size f cd)
  N := N
  s₀ := s
  H₀ := H
  env := envOfC qual scope s.heap.objs.size f cd
  outer := outer
  stack := envOfC qual scope s.heap.objs.size f cd :: outer
  ex := []
  calm := true
  fn := fun _ => true
  pn := []
  xe := fun e s' => wpAny (model P w) (A.deeper (envOfC qual scope s.heap.objs.size f cd)) (leaving (envOfC qual scope s.heap.objs.size f cd) e) (fun _ s'' => CX outer H s E e s'') (fun e' s'' => CX outer H s E e' s'') s'

theorem cell_has {sc : Scope} {n : Nat} {x : Str} (h : sc.names.lookup x = some .cell) : ∃ c, (cellsFrom n sc.names []).lookup x = some c := by
  have q := PySem.W.cellsFrom_some sc.names n [] (.inl h)
  exact Option.isSome_iff_exists.mp q

theorem inv_start {CX : CXT} {P : Program} {w : World} {K : PySem.W.Frag} {mg : Str → Option Value} {base : Heap} {N ps : List Str} {qual : Str} {scope : Scope} {f : Addr} {cd : Value} {A : Around} {outer : List Env} {s s1 : Shared} {H : Hp} {E : XK} {us : List Value} {vs : List V}
    (S : FnScope N ps scope) (hd : A.handled = none) (e0 : Env0 P w K mg base A outer s H) (hl : vs.length = ps.length) (r : Vals vs us)
    (x : InCallC s s.heap.objs.size (bindL (envOfC qual scope s.heap.objs.size f cd).kindOf (ps.zip us) fun _ => none) (cellsFrom (s.heap.objs.size + 1) scope.names []) (bindC (envOfC qual scope s.heap.objs.size f cd).kindOf (ps.zip us) fun _ => none) s1) :
    Inv (cxOf CX P w K mg base N qual scope f cd A outer s H E) [] (start N vs) H s1 := by
  have hpl : ps.length ≤ N.length := by have := congrArg List.length S.pre; rw [List.length_take] at this; omega
  obtain ⟨h1, tk, rfl, hk⟩ := x.done
  have noA : ∀ b : Addr, b ∉ (cxOf CX P w K mg base N qual scope f cd A outer s H E).ex := fun b z => absurd (show b ∈ ([] : List Addr) from z) (by simp)
  refine ⟨⟨e0.mod, S.kind, rfl, rfl, Nat.le_refl _, fun y z c h1 h2 => ?_, fun y hy => ?_, fun y c _ h => ?_, fun _ => hd, Around.frames_deeper e0.frames, .inr ⟨rfl, rfl⟩, fun b z => absurd z (noA b), e0.bs, e0.bsz, fun b _ _ => noA b, fun b z => absurd z (noA b), e0.funs, e0.frf⟩,
    rfl, e0.bare, Un.kept hk, ⟨_, x.toInCall.ns, fun i y v h1 h2 h3 => ?_⟩, fun y c h => ⟨_, x.cell y c h⟩, e0.hok.fresh (Nat.le_refl _), fun y c h => ?_, fun p hp => absurd (show p ∈ ([] : List (Addr × Obj)) from hp) (by simp), e0.hok.kept hk, ?_⟩
  · exact name_of_addr x.apart (PySem.mem_of_lookup h1) (PySem.mem_of_lookup h2)
  · have hy : scope.names.lookup y = some .cell ∨ scope.names.lookup y = some .free := hy
    rcases hy with hy | hy
    · exact cell_has hy
    · exact absurd rfl (S.nofree _ (PySem.mem_of_lookup hy))
  · exact Nat.le_of_lt (x.above y c (PySem.mem_of_lookup h))
  · have hi : i < vs.length := by
      unfold start at h2
      by_cases hi : i < vs.length
      · exact hi
      · rw [List.getElem?_append_right (by simpa using hi)] at h2
        rw [List.getElem?_replicate] at h2
        split at h2 <;> cases h2
    have ha : vs[i]? = some v := by
      unfold start at h2
      rw [List.getElem?_append_left (by simpa using hi), List.getElem?_map] at h2
      cases e : vs[i]? with
      | none => rw [e] at h2; cases h2
      | some a => rw [e] at h2; cases h2; rfl
    obtain ⟨u, hu, rv⟩ := r.get ha
    have hp : ps[i]? = some y := by
      rw [← S.pre, List.getElem?_take_of_lt (by omega)]; exact h1
    have ndP : ps.Nodup := by rw [← S.pre]; exact S.nd.sublist (List.take_sublist _ _)
    refine ⟨u, rv, ?_⟩
    rcases S.par y (List.mem_of_getElem? hp) with k | k
    · exact .inl ⟨k, bindL_get ndP hp hu k⟩
    · obtain ⟨c, e⟩ := cell_has (n := s.heap.objs.size + 1) k
      refine .inr ⟨.inl k, c, e, ?_⟩
      have q := x.cell y c e
      rw [bindC_get ndP hp hu (by show scope.names.lookup y ≠ _; rw [k]; decide)] at q
      exact q
  · exact e0.hok.fresh (Nat.le_of_lt (x.above y c (PySem.mem_of_lookup h)))
  · unfold start
    show _ = N.length
    rw [List.length_append, List.length_map, List.length_replicate]
    omega

/-- THE RULE: a def (or a method) of the text, by its body. The body's reading t is chosen for each entry; it is run at the parameters' values -/
theorem fn_of {CX : CXT} {P : Program} {w : World} {K : PySem.W.Frag} {mg : Str → Option Value} {base : Heap} {k : Nat} {f : Addr} {name qual : Str} {params : Arguments} {body : List Stmt} {scope : Scope} {dV kV doc pm cdv ct oc : Value} {an od : Option Addr}
    {osl : Array (Option Value)} {N ps : List Str} {sp : Sp} (lk : K.lookup f = some ⟨oc, od, .func (PySem.W.fnOf name qual params body scope dV kV doc pm an cdv ct), osl⟩) (hcd : PySem.W.codeIn K cdv qual = true) (S : FnScope N ps scope)
    (len : ∀ vs H Q E, sp vs H Q E → vs.length = ps.length)
    (hbody : ∀ (A : Around) (outer : List Env) (s : Shared) (H : Hp) (vs : List V) (Q : VK) (E : XK), Room k (A.deeper (envOfC qual scope s.heap.objs.size f cdv)) → sp vs H Q E →
      ∃ t, PSs (cxOf CX P w K mg base N qual scope f cdv A outer s H E) body t ∧ t { nx := fun _ H' => Q .non H', rt := Q } (start N vs) H) :
    FnOk P w K mg base CX (k + 1) f (PySem.W.fnOf name qual params body scope dV kV doc pm an cdv ct) ps sp := by
  refine ⟨len, fun A outer s H args us vs Q E hr e0 hb r hsp => ?_⟩
  have hl := len _ _ _ _ hsp
  have KX : K.In s.heap := e0.mod.kin.keeps fun b o e => (e0.bs b o e).1
  have lim : s.heap.NoLimit := e0.mod.nolimit.keeps fun b o e => (e0.bs b o e).1
  have hkind : ∀ y ∈ ps.zip us, scope.names.lookup y.1 = some .local ∨ (scope.names.lookup y.1 = some .cell ∧ ((cellsFrom (s.heap.objs.size + 1) scope.names []).lookup y.1).isSome = true) := fun ⟨n, v⟩ hy => by
    rcases S.par n (List.of_mem_zip hy).1 with q | q
    · exact .inl q
    · exact .inr ⟨q, PySem.W.cellsFrom_some _ _ _ (.inl q)⟩
  refine codeAny_call_function hr.depth (KX _ _ lk) rfl S.co S.gen rfl (PySem.W.codeRec_of KX hcd) (hb _ _ _ _ ?_)
  refine wpAny_newFunctionEnv_cells S.kind hkind fun env he s1 x => ?_
  subst he
  refine ⟨lim.keeps x.toInCall.keep, codeAny_func ?_⟩
  obtain ⟨t, ht, hq⟩ := hbody A outer s H vs Q E (hr.deeper _) hsp
  have I : Inv (cxOf CX P w K mg base N qual scope f cdv A outer s H E) [] (start N vs) H s1 := inv_start S hr.hd e0 hl r x
  refine wpAny_mono (ht [] s1 (start N vs) H _ I hq) (fun fl s' hs => ?_) fun e s' hs => hs
  have fin : ∀ {σ' : St} {H' : Hp} {v : V} {u : Value}, Inv (cxOf CX P w K mg base N qual scope f cdv A outer s H E) [] σ' H' s' → RelV v u → Q v H' → CE outer P w H s Q u s' :=
    fun {σ' H' v u} J rv q => ⟨v, H', J.os, J.bare, J.base, J.hok, rv, q⟩
  cases fl with
  | ret u =>
    obtain ⟨v, σ', H', J, rv, q⟩ := hs
    exact fin J rv q
  | next =>
    obtain ⟨σ', H', J, q⟩ := hs
    exact fin (v := V.non) (u := Value.none) J rfl q
  | brk =>
    obtain ⟨_, _, _, q⟩ := hs
    exact False.elim q
  | cont =>
    obtain ⟨_, _, _, q⟩ := hs
    exact False.elim q
end L2

namespace L2
open PySem PySem.Spec PyProof.Rows
section
variable {X : Cx} {x : Str} {p pos : Pos} {e : Expr} {es : List Expr} {t : TA} {id T : String} {r : List V → Hp → VK → Prop}

def tCB (r : List V → Hp → VK → Prop) (t : TA) : TE := fun σ H Q => t σ H fun vs H1 => r vs H1 Q
/-- f(e, ..), f a built-in function -/
theorem pe_callB (hc : CallR X (.builtin id) r) (hg : Gl X x) (hm : X.mg x = none) (hv : bootBuiltins x = some (.builtin id)) (ha : PA X (e :: es) t) (hn : x ≠ "__name__" := by decide) (hdb : (x == ("__debug__" : Str)) = false := by decide)
    (he : starEach (e :: es) X.env = (false, eval e X.env) :: starEach es X.env := by rfl) (hpl : (backTo pos (starEach es X.env)).any (·.1) = false := by rfl) : PE X (.Call (.Name x p) (e :: es) [] pos) (tCB r t) := by
  intro pins s σ H Q I h
  refine wpAny_Call_Name_kw (ld_blt I hg hm hv ?_ hn hdb)
  exact PyProof.Rows.callWith_builtin1 (thn (ha pos pins s σ H _ I h) fun us s1 ⟨vs, H1, I1, r1, q1⟩ => hc pins s1 σ H1 vs us Q I1 r1 q1) he hpl
/-- T(e, ..), T a built-in type -/
theorem pe_callTy (hc : CallR X (.type T) r) (hg : Gl X x) (hm : X.mg x = none) (hv : bootBuiltins x = some (.type T)) (ha : PA X (e :: es) t) (hn : x ≠ "__name__" := by decide) (hdb : (x == ("__debug__" : Str)) = false := by decide)
    (he : starEach (e :: es) X.env = (false, eval e X.env) :: starEach es X.env := by rfl) (hpl : (backTo pos (starEach es X.env)).any (·.1) = false := by rfl) : PE X (.Call (.Name x p) (e :: es) [] pos) (tCB r t) := by
  intro pins s σ H Q I h
  refine wpAny_Call_Name_kw (ld_blt I hg hm hv ?_ hn hdb)
  exact PyProof.Rows.callWith_type1 (thn (ha pos pins s σ H _ I h) fun us s1 ⟨vs, H1, I1, r1, q1⟩ => hc pins s1 σ H1 vs us Q I1 r1 q1) he hpl
end
end L2

namespace HT
open PySem PyProof.Rows



section
open PySem.SeqAt
open PySem.AutoSeq1 (wpAny_loadPart')
open PySem.MeetsSeq PySem.MeetsSeq2 PySem.MeetsSeq3

end

section
variable {prog : Program} {w : World} {A : Around} {E : Value → Shared → Prop} {s : Shared}



/-! ### t[a:b], not the whole -/
/-- a slice's bound as a place among n (d where it is left out) -/
def sIx (n d : Nat) : Option Int → Nat
  | none => d
  | some v => if v < 0 then (v + (n : Int)).toNat else min v.toNat n
theorem sIx_le (n d : Nat) (hd : d ≤ n) (o : Option Int) : sIx n d o ≤ n := by
  cases o with
  | none => exact hd
  | some v =>
    show (if v < 0 then (v + (n : Int)).toNat else min v.toNat n) ≤ n
    by_cases hv : v < 0
    · rw [if_pos hv]; omega
    · rw [if_neg hv]; exact Nat.min_le_right _ _
theorem clip_eq (v : Int) (n d : Nat) : (if v < 0 then max (v + (n : Int)) 0 else min v (n : Int)) = ((sIx n d (some v) : Nat) : Int) := by
  show (if v < 0 then max (v + (n : Int)) 0 else min v (n : Int)) = (((if v < 0 then (v + (n : Int)).toNat else min v.toNat n) : Nat) : Int)
  by_cases hv : v < 0
  · simp only [if_pos hv]; omega
  · simp only [if_neg hv]; omega
theorem adjust_gen (lo hi : Option Int) (n : Nat) : Builtin.Slice.sliceAdjust lo hi 1 (n : Int) = (((sIx n 0 lo : Nat) : Int), ((sIx n n hi : Nat) : Int)) := by
  have h1 : ¬ ((1 : Int) < 0) := by omega
  unfold Builtin.Slice.sliceAdjust
  simp only [h1, if_false]
  refine Prod.ext ?_ ?_
  · cases lo with
    | none => rfl
    | some v => exact clip_eq v n 0
  · cases hi with
    | none => rfl
    | some v => exact clip_eq v n n
theorem places_gen (i j : Nat) : Builtin.Slice.slicePlaces (i : Int) (j : Int) 1 = j - i := by
  unfold Builtin.Slice.slicePlaces
  have h1 : (1 : Int) > 0 := by omega
  simp only [h1, if_true, Int.ediv_one]
  split <;> omega
theorem slicePart_ {v : Value} {o : Option Int} {Q : Option Int → Shared → Prop} (p : IsPart v o) (h : Q o s) : wpAny (model prog w) A (Builtin.Slice.slicePartIndex v) Q E s := by
  cases p with
  | none => exact slicePart_none h
  | int i t => exact slicePart_int h
theorem sliceApplied_gen {sl : Addr} {vl vu : Value} {lo hi : Option Int} {n : Nat} {Q : Int × Int × Nat → Shared → Prop} (hs : s.heap.IsSliceOf sl vl vu .none) (pl : IsPart vl lo) (pu : IsPart vu hi)
    (h : Q (((sIx n 0 lo : Nat) : Int), 1, sIx n n hi - sIx n 0 lo) s) : wpAny (model prog w) A (Builtin.Slice.sliceApplied (.ref sl) (pure (n : Int))) Q E s := by
  obtain ⟨os, hos, hcs, hds⟩ := id hs
  unfold Builtin.Slice.sliceApplied Builtin.Slice.sliceFields
  refine wpAny_bind (wpAny_bind (wpAny_field hos hds (x := vl) rfl (wpAny_bind (wpAny_field hos hds (x := vu) rfl (wpAny_bind (wpAny_field hos hds (x := .none) rfl (wpAny_pure ?_)))))))
  refine wpAny_bind (slicePart_none ?_)
  show wpAny _ _ (if ((1 : Int) == 0) = true then _ else _) _ _ s
  rw [if_neg (by decide)]
  refine wpAny_bind (slicePart_ pl (wpAny_bind (slicePart_ pu (wpAny_bind (wpAny_pure ?_)))))
  show wpAny _ _ (match Builtin.Slice.sliceAdjust lo hi 1 (n : Int) with | (lo, hi) => pure (lo, (1 : Int), Builtin.Slice.slicePlaces lo hi 1)) _ _ s
  rw [adjust_gen lo hi n]
  show wpAny _ _ (pure (((sIx n 0 lo : Nat) : Int), (1 : Int), Builtin.Slice.slicePlaces ((sIx n 0 lo : Nat) : Int) ((sIx n n hi : Nat) : Int) 1)) _ _ s
  rw [places_gen]
  exact wpAny_pure h
theorem pick_gen (xs : Array Value) (i k : Nat) : ((List.range k).filterMap fun (m : Nat) => xs[((i : Int) + (m : Int) * 1).toNat]?).toArray = ((xs.toList.drop i).take k).toArray := by
  have e : (fun (m : Nat) => xs[((i : Int) + (m : Int) * 1).toNat]?) = fun m => xs[i + m]? := by
    funext m
    have : ((i : Int) + (m : Int) * 1).toNat = i + m := by omega
    rw [this]
  rw [e]
  have := pick_run xs i k
  rw [List.filterMap_map] at this
  have e2 : ((fun x => xs[x]?) ∘ fun x => i + x) = fun m => xs[i + m]? := rfl
  rw [e2] at this
  rw [this]

theorem getItem_tuple_cut {t sl : Addr} {items : Array Value} {vl vu : Value} {lo hi : Option Int} {Q : Value → Shared → Prop} (ht : IsTup s.heap t items) (hs : s.heap.IsSliceOf sl vl vu .none) (pl : IsPart vl lo) (pu : IsPart vu hi)
    (hw : ¬ (sIx items.size 0 lo = 0 ∧ sIx items.size items.size hi = items.size))
    (h : Q (.ref s.heap.objs.size) { s with heap := s.heap.push { cls := .type "tuple", data := .seq ((items.toList.drop (sIx items.size 0 lo)).take (sIx items.size items.size hi - sIx items.size 0 lo)).toArray } })
    (hsz : items.size ≤ sizeLine) : wpAny (model prog w) A (getItem (.ref t) (.ref sl)) Q E s := by
  have htake : sizeOk (.seq ((items.toList.drop (sIx items.size 0 lo)).take (sIx items.size items.size hi - sIx items.size 0 lo)).toArray) := by
    show ((items.toList.drop (sIx items.size 0 lo)).take (sIx items.size items.size hi - sIx items.size 0 lo)).toArray.size ≤ sizeLine
    rw [List.size_toArray, List.length_take, List.length_drop, Array.length_toList]
    omega
  have hj : sIx items.size items.size hi ≤ items.size := sIx_le _ _ (Nat.le_refl _) hi
  obtain ⟨os, hos, hcs, hds⟩ := id hs
  have hTs : s.TypeIs (.ref sl) "slice" := ⟨os, hos, hcs⟩
  unfold getItem
  try with_reducible refine wpAny_holding ?_
  first | refine wpAny_bind (wpAny_pure ?_) | skip
  refine wpAny_bind (wpAny_sequenceKey ht.typeIs (by decide) ?_)
  refine wpAny_bind (wpAny_callSpecial?_slot (name := Str.ofString "__getitem__") ht.typeIs PyProof.Rows.slot_tuple_getitem
    (wpAny_call_entry PyProof.Rows.slot_tuple_getitem ht.typeIs entry_tuple_getitem ?_ (args_tuple_getitem _ _)))
  show wpAny _ _ (Builtin.Tuple.tupleItemsOf (.ref t) >>= _) _ _ s
  refine wpAny_bind (tupleItemsOf_ ht ?_)
  refine wpAny_bind (wpAny_typeOf hTs ?_)
  rw [if_pos (by decide)]
  refine wpAny_bind (sliceApplied_gen hs pl pu ?_)
  have hno : ¬ ((((sIx items.size 0 lo : Nat) : Int) == 0 && (1 : Int) == 1 && (sIx items.size items.size hi - sIx items.size 0 lo) == items.size) = true) := by
    intro q
    rw [Bool.and_eq_true, Bool.and_eq_true] at q
    have q1 : ((sIx items.size 0 lo : Nat) : Int) = 0 := eq_of_beq q.1.1
    have q2 : sIx items.size items.size hi - sIx items.size 0 lo = items.size := eq_of_beq q.2
    exact hw ⟨by omega, by omega⟩
  show wpAny _ _ (if (((sIx items.size 0 lo : Nat) : Int) == 0 && (1 : Int) == 1 && (sIx items.size items.size hi - sIx items.size 0 lo) == items.size) = true then _ else _) _ _ s
  rw [if_neg hno, pick_gen]
  first
    | exact wpAny_bind (m := Builtin.Tuple.tupleExact _) (wpAny_newObj_type (wpAny_pure ⟨_, rfl, wpAny_pure h⟩) htake)
    | exact wpAny_bind (m := Builtin.Tuple.tupleExact _) (wpAny_newObj_type (wpAny_bind (wpAny_pure (wpAny_pure ⟨_, rfl, wpAny_pure h⟩))) htake)
    | exact wpAny_bind (wpAny_bind (m := Builtin.Tuple.tupleExact _) (wpAny_newObj_type (wpAny_pure (wpAny_pure ⟨_, rfl, wpAny_pure h⟩)) htake))
    | exact wpAny_bind (wpAny_bind (m := Builtin.Tuple.tupleExact _) (wpAny_newObj_type (wpAny_pure ⟨_, rfl, wpAny_pure h⟩) htake))
end
end HT

namespace L2
open PySem PySem.Spec PyProof.Rows

/-! ### the parts of a slice -/
abbrev TO := St → Hp → (Option Int → Hp → Prop) → Prop
/-- a slice's part (left out, or an int) -/
def PO (X : Cx) (e : Option Expr) (t : TO) : Prop :=
  ∀ (pins : List (Addr × Obj)) (s : Shared) (σ : St) (H : Hp) (Q : Option Int → Hp → Prop), Inv X pins σ H s → t σ H Q →
    wpAny (model X.prog X.w) X.A (evalPart e X.env) (fun u s' => ∃ o H', Inv X pins σ H' s' ∧ IsPart u o ∧ Q o H') X.xe s
def tNoPart : TO := fun _ H Q => Q none H
def tPart (t : TE) : TO := fun σ H Q => t σ H fun x H1 => ∃ i, x = .int i ∧ Q (some i) H1

theorem intsAre_of {ns : List Int} : ∀ {us : List Value}, Vals (ns.map V.int) us → IntsAre us ns := by
  induction ns with
  | nil => intro us r; rw [List.map_nil] at r; cases r; exact .nil
  | cons n ns ih =>
    intro us r
    rw [List.map_cons] at r
    cases r with
    | cons r1 r2 =>
      obtain ⟨t, e⟩ := r1
      subst e
      exact .cons n t (ih r2)

section
variable {X : Cx} {e : Expr} {te : TE} {lo hi : Option Expr} {tl th : TO} {pos p2 : Pos}

theorem po_none : PO X none tNoPart := by
  intro pins s σ H Q I h
  rw [evalPart_none]
  exact wpAny_pure ⟨none, H, I, .none, h⟩
theorem po_some (h : PE X e te) : PO X (some e) (tPart te) := by
  intro pins s σ H Q I hw
  rw [evalPart_some]
  refine thn (h pins s σ H _ I hw) fun u s1 ⟨x, H1, I1, r1, q1⟩ => ?_
  obtain ⟨i, rfl, q⟩ := q1
  obtain ⟨t, rfl⟩ := r1
  exact ⟨some i, H1, I1, .int i t, q⟩

/-- what a slice of a value is, by values: the slice object stands at sl -/
def SlR (X : Cx) (r : V → Option Int → Option Int → Hp → VK → Prop) : Prop :=
  ∀ (pins : List (Addr × Obj)) (s : Shared) (σ : St) (H : Hp) (x : V) (v vl vu : Value) (lo hi : Option Int) (sl : Addr) (Q : VK), Inv X pins σ H s → RelV x v → s.heap.IsSliceOf sl vl vu .none → IsPart vl lo → IsPart vu hi → r x lo hi H Q →
    ∃ T id, typeLookup (.type T) "__getitem__" = pure (some (.builtin id)) ∧ s.TypeIs v T ∧ wpAny (model X.prog X.w) X.A (getItem v (.ref sl)) (EP X pins σ Q) X.xe s
def tSl (r : V → Option Int → Option Int → Hp → VK → Prop) (te : TE) (tl th : TO) : TE := fun σ H Q => te σ H fun x H1 => tl σ H1 fun l H2 => th σ H2 fun u H3 => r x l u H3 Q
/-- a[lo:hi], any a -/
theorem pe_slice {r : V → Option Int → Option Int → Hp → VK → Prop} (hr : SlR X r) (he : PE X e te) (hl : PO X lo tl) (hu : PO X hi th) : PE X (.Subscript e (.Slice lo hi none p2) pos) (tSl r te tl th) := by
  intro pins s σ H Q I h
  refine Subscript_ (thn (he pins s σ H _ I h) fun v s1 ⟨x, H1, I1, r1, q1⟩ => ?_)
  refine wpAny_Slice (thn (hl pins s1 σ H1 _ I1 q1) fun vl s2 ⟨l, H2, I2, pl, q2⟩ => thn (hu pins s2 σ H2 _ I2 q2) fun vu s3 ⟨u, H3, I3, pu, q3⟩ => ?_)
  rw [evalPart_none]
  refine wpAny_pure ?_
  have I4 : Inv X pins σ H3 { s3 with heap := s3.heap.push { cls := .type "slice", data := .fields #[vl, vu, .none] } } := I3.kept (t' := s3.toks) fun b ob q => Heap.get?_push_of_some _ q
  obtain ⟨T, id, hT, ht, hg⟩ := hr pins { s3 with heap := s3.heap.push { cls := .type "slice", data := .fields #[vl, vu, .none] } } σ H3 x v vl vu l u s3.heap.objs.size Q I4 r1 (Heap.IsSliceOf.new ..) pl pu q3
  show wpAny (model X.prog X.w) X.A (subscriptTail e (.Slice lo hi none p2) v (.ref s3.heap.objs.size)) (EP X pins σ Q) X.xe { s3 with heap := s3.heap.push { cls := .type "slice", data := .fields #[vl, vu, .none] } }
  exact tail_any (ops := [.ref s3.heap.objs.size, v]) ht hT hg (by with_unfolding_all rfl)

/-- the items of xs[lo:hi] -/
def cutV (xs : List V) (lo hi : Option Int) : List V := (xs.drop (HT.sIx xs.length 0 lo)).take (HT.sIx xs.length xs.length hi - HT.sIx xs.length 0 lo)
theorem cutV_length (xs : List V) (lo hi : Option Int) : (cutV xs lo hi).length ≤ xs.length := by
  unfold cutV
  rw [List.length_take, List.length_drop]
  omega
/-- t[lo:hi], not the whole of it (the whole would be t itself) -/
def rSlT (K : PySem.W.Frag) : V → Option Int → Option Int → Hp → VK → Prop := fun x lo hi H Q => ∃ a xs, x = .ref a ∧ SqT K H a xs ∧
  ¬ (HT.sIx xs.length 0 lo = 0 ∧ HT.sIx xs.length xs.length hi = xs.length) ∧ ∀ p, H p = none → Q (.ref p) (upd H p (.tup (cutV xs lo hi)))
theorem sl_tup : SlR X (rSlT X.K) := by
  intro pins s σ H x v vl vu lo hi sl Q I rx hs pl pu h
  obtain ⟨a, xs, rfl, hx, hw, q⟩ := h
  cases rx
  obtain ⟨its, r, ht, hz⟩ := I.tuple hx
  have hlen : its.toArray.size = xs.length := by rw [List.size_toArray]; exact r.length.symm
  refine ⟨"tuple", _, PyProof.Rows.slot_tuple_getitem.lookup, ht.typeIs, ?_⟩
  refine HT.getItem_tuple_cut ht hs pl pu (by rw [hlen]; exact hw) ?_ (by rw [hlen]; exact hz)
  rw [hlen]
  refine ⟨.ref s.heap.objs.size, _, I.laid (t' := s.toks) (o := .tup (cutV xs lo hi)) (fun b ob q => Heap.get?_push_of_some _ q) (Nat.le_refl _) ?_, rfl, q _ (I.hok.fresh (Nat.le_refl _))⟩
  exact ⟨Nat.le_trans (cutV_length xs lo hi) hz, _, (r.drop (HT.sIx xs.length 0 lo)).take (HT.sIx xs.length xs.length hi - HT.sIx xs.length 0 lo), IsTup.new _ _⟩

/-! ### t < u, t + u -/
end
end L2

namespace L2
open PySem PySem.Spec PyProof.Rows

/-! ### places -/
/-- the place that an index of any sign means -/
def ixN (n : Nat) (i : Int) : Option Nat := if 0 ≤ i then (if i < n then some i.toNat else none) else if -(n : Int) ≤ i then some (i + n).toNat else none
def atI {α : Type} (xs : List α) (i : Int) : Option α := (ixN xs.length i).bind fun j => xs[j]?
theorem ixN_seq {n : Nat} {i : Int} {j : Nat} (h : ixN n i = some j) : seqIndex? i n = some j ∧ j < n ∧ -(n : Int) ≤ i ∧ i < n := by
  unfold ixN at h
  by_cases h0 : 0 ≤ i
  · rw [if_pos h0] at h
    by_cases h1 : i < n
    · rw [if_pos h1] at h
      have e : i.toNat = j := Option.some.inj h
      exact ⟨by rw [seqIndex_of h0 h1, e], by omega, by omega, h1⟩
    · rw [if_neg h1] at h; cases h
  · rw [if_neg h0] at h
    by_cases h1 : -(n : Int) ≤ i
    · rw [if_pos h1] at h
      have e : (i + n).toNat = j := Option.some.inj h
      exact ⟨by rw [seqIndex_neg (by omega) h1, e], by omega, h1, by omega⟩
    · rw [if_neg h1] at h; cases h
theorem atI_get {α : Type} {xs : List α} {i : Int} {v : α} (h : atI xs i = some v) : ∃ j, seqIndex? i xs.length = some j ∧ xs[j]? = some v ∧ j < xs.length ∧ -(xs.length : Int) ≤ i ∧ i < xs.length := by
  unfold atI at h
  cases e : ixN xs.length i with
  | none => rw [e] at h; cases h
  | some j =>
    rw [e] at h
    obtain ⟨h1, h2, h3, h4⟩ := ixN_seq e
    exact ⟨j, h1, h, h2, h3, h4⟩
theorem atI_nat {α : Type} {xs : List α} {j : Nat} {v : α} (h : xs[j]? = some v) : atI xs (j : Int) = some v := by
  have hj : j < xs.length := (List.getElem?_eq_some_iff.mp h).1
  have e : ixN xs.length (j : Int) = some j := by
    unfold ixN
    rw [if_pos (by omega), if_pos (by omega)]; simp
  unfold atI; rw [e]; exact h

/-! ### what may be subscripted -/
/-- what stands as an index of a plain subscript -/
def PlainIx (b : Expr) : Prop := ∀ o i, subscripted b false o i = operate [o, i] (getItem o i)
/-- a subscript by values -/
def IxR (X : Cx) (r : R2) : Prop :=
  ∀ (value slice : Expr) (pins : List (Addr × Obj)) (s : Shared) (σ : St) (H : Hp) (x y : V) (v u : Value) (Q : VK), Inv X pins σ H s → RelV x v → RelV y u → r x y H Q →
    subscripted slice false v u = operate [v, u] (getItem v u) → wpAny (model X.prog X.w) X.A (subscriptTail value slice v u) (EP X pins σ Q) X.xe s
/-- a call of a builtin's method by values: the receiver, the arguments -/
def MtR (X : Cx) (id : String) (r : V → List V → Hp → VK → Prop) : Prop :=
  ∀ (pins : List (Addr × Obj)) (s : Shared) (σ : St) (H : Hp) (x : V) (xs : List V) (v : Value) (us : List Value) (Q : VK), Inv X pins σ H s → RelV x v → Vals xs us → r x xs H Q →
    wpAny (model X.prog X.w) X.A (call (.builtin id) (v :: us)) (EP X pins σ Q) X.xe s
section
variable {X : Cx} {a b : Expr} {ta tb : TE} {pos : Pos}
/-- a[b] -/
theorem pe_ix {r : R2} (hr : IxR X r) (ha : PE X a ta) (hb : PE X b tb) (hs : PlainIx b) : PE X (.Subscript a b pos) (tOp r ta tb) := by
  intro pins s σ H Q I h
  exact Subscript_ (binT ha hb I h fun v u s2 x y H2 I2 rx ry q => hr a b pins s2 σ H2 x y v u Q I2 rx ry q (hs _ _))

def rIxL (K : PySem.W.Frag) : R2 := fun x y H Q => ∃ p xs i v, x = .ref p ∧ y = .int i ∧ SqL K H p xs ∧ atI xs i = some v ∧ Q v H
def rIxT (K : PySem.W.Frag) : R2 := fun x y H Q => ∃ p xs i v, x = .ref p ∧ y = .int i ∧ SqT K H p xs ∧ atI xs i = some v ∧ Q v H
theorem ix_list : IxR X (rIxL X.K) := by
  intro value slice pins s σ H x y v u Q I rx ry h hs
  obtain ⟨p, xs, i, z, rfl, rfl, hq, he, q⟩ := h
  cases rx
  obtain ⟨t, rfl⟩ := ry
  obtain ⟨its, r, pl, hz⟩ := I.list hq
  obtain ⟨j, h1, h2, h3, h4, h5⟩ := atI_get he
  obtain ⟨w, ew, rw'⟩ := r.get h2
  have hl := r.length
  have hn := line63
  have fin : EP X pins σ Q w s := ⟨z, H, I, rw', q⟩
  by_cases h0 : 0 ≤ i
  · have hj : i.toNat = j := by
      rw [seqIndex_of h0 h5] at h1
      exact Option.some.inj h1
    exact item_listR pl.isList h0 (by omega) (by rw [hj]; simpa using ew) fin hs
  · have hj : (i + (its.toArray.size : Int)).toNat = j := by
      rw [seqIndex_neg (by omega) h4] at h1
      rw [List.size_toArray, ← hl]
      exact Option.some.inj h1
    exact subscriptTail_builtinR (x := w) pl.isList.typeIs slot_list_getitem.lookup
      (wpAny_getItem_list_neg (Q := fun r s' => r = w ∧ EP X pins σ Q r s') pl.isList (by omega) (by rw [List.size_toArray] <;> omega) (by omega) (by rw [hj]; simpa using ew) ⟨rfl, fin⟩) hs
theorem ix_tup : IxR X (rIxT X.K) := by
  intro value slice pins s σ H x y v u Q I rx ry h hs
  obtain ⟨p, xs, i, z, rfl, rfl, hq, he, q⟩ := h
  cases rx
  obtain ⟨t, rfl⟩ := ry
  obtain ⟨its, r, pl, hz⟩ := I.tuple hq
  obtain ⟨j, h1, h2, h3, h4, h5⟩ := atI_get he
  obtain ⟨w, ew, rw'⟩ := r.get h2
  have hl := r.length
  have hn := line63
  have fin : EP X pins σ Q w s := ⟨z, H, I, rw', q⟩
  exact subscriptTail_builtinR (x := w) pl.typeIs slot_tuple_getitem.lookup
    (getItem_tuple (j := j) (Q := fun r s' => r = w ∧ EP X pins σ Q r s') pl (by omega) (by omega) (by rw [List.size_toArray, ← hl]; exact h1) (by simpa using ew) ⟨rfl, fin⟩) hs

/-! ### xs[i] = v, any sign -/
/-- the list's object behind a store -/
theorem mapSeq_set (its : List Value) (n j : Nat) (u : Value) : Obj.mapSeq (·.setIfInBounds j u) { cls := .type "list", data := .seq its.toArray n } = { cls := .type "list", data := .seq (its.set j u).toArray n } := by
  simp [Obj.mapSeq]
theorem Inv.lst {pins : List (Addr × Obj)} {σ : St} {H : Hp} {s : Shared} {p : Addr} {xs : List V} (I : Inv X pins σ H s) (h : H p = some (.lst xs)) :
    ∃ (its : List Value) (n : Nat), Vals xs its ∧ s.heap.get? p = some { cls := .type "list", data := .seq its.toArray n } ∧ xs.length ≤ sizeLine := by
  obtain ⟨z, its, n, r, e⟩ := I.hok p _ h
  exact ⟨its, n, r, e, z⟩
/-- the list at p is written by an update of its object -/
theorem Inv.lstUpd {pins : List (Addr × Obj)} {σ : St} {H : Hp} {s : Shared} {p : Addr} {xs ys : List V} {its its' : List Value} {n n' : Nat} {f : Obj → Obj} (I : Inv X pins σ H s) (h : H p = some (.lst xs))
    (ho : s.heap.get? p = some { cls := .type "list", data := .seq its.toArray n }) (hf : f { cls := .type "list", data := .seq its.toArray n } = { cls := .type "list", data := .seq its'.toArray n' }) (r : Vals ys its') (hz : ys.length ≤ sizeLine) (t : Nat) :
    Inv X pins σ (upd H p (.lst ys)) { s with heap := s.heap.update p f, toks := t } := by
  have e : (s.heap.update p f).get? p = some { cls := .type "list", data := .seq its'.toArray n' } := by
    rw [Heap.get?_update_self f ho (by rw [hf] <;> rfl), hf]
  refine I.write (x := p) (e := p) (by rw [h]; trivial) (.inl rfl) (fun b u hb q => (Heap.get?_update_other _ _ (Ne.symm hb)).trans q) ⟨_, e⟩ ?_
  exact ⟨hz, its', n', r, e⟩
def rSetL : V → V → V → Hp → (Hp → Prop) → Prop := fun o i v H Q => ∃ p xs k j, o = .ref p ∧ i = .int k ∧ H p = some (.lst xs) ∧ ixN xs.length k = some j ∧ Q (upd H p (.lst (xs.set j v)))
theorem set_list : PSet X rSetL := by
  intro pins s σ H o i v ov iv u Q I ro ri rv h
  obtain ⟨p, xs, k, j, rfl, rfl, hp, hj, q⟩ := h
  cases ro
  obtain ⟨t, rfl⟩ := ri
  obtain ⟨its, n, r, ho, hz⟩ := I.lst hp
  obtain ⟨h1, h2, h3, h4⟩ := ixN_seq hj
  have hl := r.length
  have hn := line63
  have I' : Inv X pins σ (upd H p (.lst (xs.set j v))) { s with heap := s.heap.update p (Obj.mapSeq (·.setIfInBounds j u)) } :=
    I.lstUpd hp ho (mapSeq_set its n j u) (r.set rv j) (by rw [List.length_set]; exact hz) s.toks
  by_cases h0 : 0 ≤ k
  · have hk : k.toNat = j := by
      rw [seqIndex_of h0 h4] at h1
      exact Option.some.inj h1
    exact PySem.W.ki_setAt ho h0 (by omega) (by rw [List.size_toArray, ← hl]; exact h4) (by rw [hk]; exact ⟨_, I', q⟩)
  · have hk : (k + (its.toArray.size : Int)).toNat = j := by
      rw [seqIndex_neg (by omega) h3] at h1
      rw [List.size_toArray, ← hl]
      exact Option.some.inj h1
    exact PySem.W.ki_setBack ho (by omega) (by rw [List.size_toArray, ← hl]; exact h3) (by omega) (by rw [hk]; exact ⟨_, I', q⟩)

/-! ### slices -/
theorem slice_bounds (lo hi : Option Int) (n : Nat) : (sliceBounds lo hi none n).1 = ((HT.sIx n 0 lo : Nat) : Int) ∧ (sliceBounds lo hi none n).2.1 = ((HT.sIx n n hi : Nat) : Int) ∧ (sliceBounds lo hi none n).2.2 = 1 := by
  refine ⟨?_, ?_, rfl⟩
  · cases lo with
    | none => simp [sliceBounds, HT.sIx]
    | some i =>
      simp only [sliceBounds, HT.sIx, Option.getD_none, show (1 : Int) > 0 by decide, if_true]
      by_cases h : i < 0
      · simp only [h, if_true] <;> omega
      · simp only [h, if_false] <;> omega
  · cases hi with
    | none => simp [sliceBounds, HT.sIx]
    | some i =>
      simp only [sliceBounds, HT.sIx, Option.getD_none, show (1 : Int) > 0 by decide, if_true]
      by_cases h : i < 0
      · simp only [h, if_true] <;> omega
      · simp only [h, if_false] <;> omega
theorem slicePick_cut (its : List Value) (lo hi : Option Int) : slicePick its.toArray lo hi none = ((its.drop (HT.sIx its.length 0 lo)).take (HT.sIx its.length its.length hi - HT.sIx its.length 0 lo)).toArray := by
  obtain ⟨h1, h2, h3⟩ := slice_bounds lo hi its.toArray.size
  unfold slicePick
  rw [h1, h2, h3]
  simp only [sliceRange_one, pick_run, List.size_toArray] <;> rfl
/-- xs[lo:hi] of a list: a new list -/
def rSlL (K : PySem.W.Frag) : V → Option Int → Option Int → Hp → VK → Prop := fun x lo hi H Q => ∃ a xs, x = .ref a ∧ SqL K H a xs ∧ ∀ p, H p = none → Q (.ref p) (upd H p (.lst (cutV xs lo hi)))
theorem sl_list : SlR X (rSlL X.K) := by
  intro pins s σ H x v vl vu lo hi sl Q I rx hs pl pu h
  obtain ⟨a, xs, rfl, hx, q⟩ := h
  cases rx
  obtain ⟨its, r, ht, hz⟩ := I.list hx
  have hlen := r.length
  refine ⟨"list", _, slot_list_getitem.lookup, ht.isList.typeIs, ?_⟩
  refine wpAny_getItem_list_slice ht.isList hs pl pu .none (by simp) ?_ (by rw [List.size_toArray] <;> omega)
  rw [slicePick_cut, ← hlen]
  refine ⟨.ref s.heap.objs.size, _, I.laid (t' := s.toks) (o := .lst (cutV xs lo hi)) (fun b ob q => Heap.get?_push_of_some _ q) (Nat.le_refl _) ?_, rfl, q _ (I.hok.fresh (Nat.le_refl _))⟩
  exact ⟨Nat.le_trans (cutV_length xs lo hi) hz, _, 0, (r.drop (HT.sIx xs.length 0 lo)).take (HT.sIx xs.length xs.length hi - HT.sIx xs.length 0 lo), Heap.get?_push_size _ rfl⟩

/-! ### in, not in: flat items -/
def flatV : V → Bool
  | .non => true
  | .bl _ => true
  | .int _ => true
  | .str _ => true
  | _ => false
/-- == of flat values -/
def eqV : V → V → Bool
  | .non, .non => true
  | .bl a, .bl b => a == b
  | .bl a, .int b => (if a then 1 else 0) == b
  | .int a, .bl b => a == (if b then 1 else 0)
  | .int a, .int b => a == b
  | .str a, .str b => a == b
  | _, _ => false
theorem eqAt_V {A : Around} {s : Shared} {y x : V} {u v : Value} (ry : RelV y u) (rx : RelV x v) (fy : flatV y = true) (fx : flatV x = true) : SeqAt.EqAt A s u v (eqV y x) := by
  cases y with
  | non =>
    cases ry
    cases x with
    | non => cases rx; exact SeqAt.EqAt.same _
    | bl b => cases rx; exact SeqAt.EqAt.none_bool b
    | int b => obtain ⟨t, rfl⟩ := rx; exact SeqAt.EqAt.none_int b t
    | str b => obtain ⟨t, rfl⟩ := rx; exact SeqAt.EqAt.none_str b t
    | _ => exact absurd (show false = true from fx) Bool.false_ne_true
  | bl a =>
    cases ry
    cases x with
    | non => cases rx; exact SeqAt.EqAt.bool_none a
    | bl b => cases rx; exact SeqAt.EqAt.bool_bool a b
    | int b => obtain ⟨t, rfl⟩ := rx; exact SeqAt.EqAt.bool_int a b t
    | str b => obtain ⟨t, rfl⟩ := rx; exact SeqAt.EqAt.bool_str a b t
    | _ => exact absurd (show false = true from fx) Bool.false_ne_true
  | int a =>
    obtain ⟨t', rfl⟩ := ry
    cases x with
    | non => cases rx; exact SeqAt.EqAt.int_none a t'
    | bl b => cases rx; exact SeqAt.EqAt.int_bool a t' b
    | int b => obtain ⟨t, rfl⟩ := rx; exact SeqAt.EqAt.int_int a t' b t
    | str b => obtain ⟨t, rfl⟩ := rx; exact SeqAt.EqAt.int_str a t' b t
    | _ => exact absurd (show false = true from fx) Bool.false_ne_true
  | str a =>
    obtain ⟨t', rfl⟩ := ry
    cases x with
    | non => cases rx; exact SeqAt.EqAt.str_none a t'
    | bl b => cases rx; exact SeqAt.EqAt.str_bool a t' b
    | int b => obtain ⟨t, rfl⟩ := rx; exact SeqAt.EqAt.str_int a t' b t
    | str b => obtain ⟨t, rfl⟩ := rx; exact SeqAt.EqAt.str_str a t' b t
    | _ => exact absurd (show false = true from fx) Bool.false_ne_true
  | _ => exact absurd (show false = true from fy) Bool.false_ne_true
/-- the items' answers, read off the values (a value's own answer does not lean on its token) -/
def eqU (x : V) (u : Value) : Bool := match u with
  | .none => eqV .non x
  | .bool b => eqV (.bl b) x
  | .int i _ => eqV (.int i) x
  | .str z _ => eqV (.str z) x
  | _ => false
theorem eqU_of {x y : V} {u : Value} (r : RelV y u) (f : flatV y = true) : eqU x u = eqV y x := by
  cases y with
  | non => cases r; rfl
  | bl b => cases r; rfl
  | int i => obtain ⟨t, rfl⟩ := r; rfl
  | str z => obtain ⟨t, rfl⟩ := r; rfl
  | _ => exact absurd (show false = true from f) Bool.false_ne_true
theorem any_eqU {x : V} : ∀ {xs : List V} {us : List Value}, Vals xs us → xs.all flatV = true → us.any (eqU x) = xs.any fun y => eqV y x
  | _, _, .nil, _ => rfl
  | y :: xs, u :: us, .cons r t, f => by
    rw [List.all_cons, Bool.and_eq_true] at f
    rw [List.any_cons, List.any_cons, eqU_of r f.1, any_eqU t f.2]
theorem mem_eqAt {A : Around} {s : Shared} {x : V} {v : Value} (rx : RelV x v) (fx : flatV x = true) : ∀ {xs : List V} {us : List Value}, Vals xs us → xs.all flatV = true → ∀ u ∈ us, SeqAt.EqAt A s u v (eqU x u)
  | _, _, .nil, _ => fun u hu => by cases hu
  | y :: xs, u :: us, .cons r t, f => fun u' hu => by
    rw [List.all_cons, Bool.and_eq_true] at f
    rcases List.mem_cons.mp hu with rfl | hu
    · rw [eqU_of r f.1]; exact eqAt_V r rx f.1 fx
    · exact mem_eqAt rx fx t f.2 u' hu
def inV (x : V) (xs : List V) : Bool := xs.any fun y => eqV y x
/-- x in a list or tuple of flat items -/
def rIn (K : PySem.W.Frag) (neg : Bool) : R2 := fun x y H Q => ∃ p xs, y = .ref p ∧ (SqL K H p xs ∨ SqT K H p xs) ∧ flatV x = true ∧ xs.all flatV = true ∧ Q (.bl (if neg then !inV x xs else inV x xs)) H
theorem op_in_seq : OpR X (compareOp .In) (rIn X.K false) := by
  intro pins s σ H x y v u Q I rx ry h
  obtain ⟨p, xs, rfl, hq, fx, fs, q⟩ := h
  cases ry
  rcases hq with hq | hq
  · obtain ⟨its, r, pl, hz⟩ := I.list hq
    refine SeqAt.in_listAt (eqU x) pl.isList (fun w hw => mem_eqAt rx fx r fs w (by simpa using hw)) ⟨.bl _, H, I, rfl, ?_⟩
    rw [show its.toArray.any (eqU x) = its.any (eqU x) by simp, any_eqU r fs]
    exact q
  · obtain ⟨its, r, pl, hz⟩ := I.tuple hq
    refine SeqAt.in_tupleAt (eqU x) pl (fun w hw => mem_eqAt rx fx r fs w (by simpa using hw)) ⟨.bl _, H, I, rfl, ?_⟩
    rw [show its.toArray.any (eqU x) = its.any (eqU x) by simp, any_eqU r fs]
    exact q

/-! ### len, list(x), tuple(x) of any list or tuple that is read -/
theorem call_len_seq : CallR X (.builtin "len") (fun xs H Q => ∃ p ys, xs = [.ref p] ∧ (SqL X.K H p ys ∨ SqT X.K H p ys) ∧ Q (.int ys.length) H) := by
  intro pins s σ H xs us Q I r h
  obtain ⟨p, ys, rfl, hq, q⟩ := h
  obtain ⟨u, rfl, rx⟩ := vals1 r
  cases rx
  have hn := line63
  rcases hq with hq | hq
  · obtain ⟨its, r', pl, hz⟩ := I.list hq
    have hlen := r'.length
    exact Calls.call_len_list pl.isList (by simp only [List.size_toArray] <;> omega) ⟨.int ys.length, H, I.tok _, ⟨s.toks + 1, by rw [List.size_toArray, hlen]⟩, q⟩
  · obtain ⟨its, r', pl, hz⟩ := I.tuple hq
    have hlen := r'.length
    exact len_tuple pl (by simp only [List.size_toArray] <;> omega) ⟨.int ys.length, H, I.tok _, ⟨s.toks + 1, by rw [List.size_toArray, hlen]⟩, q⟩

/-! ### the call of a builtin's method: o.m(..) -/
/-- the value is of that builtin type -/
def tyV (K : PySem.W.Frag) (T : String) (x : V) (H : Hp) : Prop := match x with
  | .str _ => T = "str"
  | .int _ => T = "int"
  | .ref p => (T = "list" ∧ ∃ xs, SqL K H p xs) ∨ (T = "tuple" ∧ ∃ o, K.lookup p = some o ∧ o.cls = .type "tuple" ∧ o.dict = none) ∨
      (T = "dict" ∧ ((∃ kvs, H p = some (.dK kvs)) ∨ ∃ kvs, H p = some (.dT kvs))) ∨ (T = "set" ∧ ∃ S n, H p = some (.set S n))
  | _ => False
theorem tyV_is {pins : List (Addr × Obj)} {σ : St} {H : Hp} {s : Shared} {T : String} {x : V} {v : Value} (I : Inv X pins σ H s) (r : RelV x v) (ty : tyV X.K T x H) :
    s.TypeIs v T ∧ ∀ a, v = .ref a → ∃ ob, s.heap.get? a = some ob ∧ ob.dict = none := by
  cases x with
  | str z =>
    obtain ⟨t, rfl⟩ := r
    cases (show T = "str" from ty)
    exact ⟨typeIs_str s z t, fun _ e => nomatch e⟩
  | int i =>
    obtain ⟨t, rfl⟩ := r
    cases (show T = "int" from ty)
    exact ⟨typeIs_int s i t, fun _ e => nomatch e⟩
  | ref p =>
    cases r
    rcases ty with ⟨rfl, xs, hq⟩ | ⟨rfl, o, hk, hc, hd⟩ | ⟨rfl, hk⟩ | ⟨rfl, S, n, hk⟩
    · obtain ⟨its, _, pl, _⟩ := I.list hq
      refine ⟨pl.isList.typeIs, fun a e => ?_⟩
      cases e
      obtain ⟨o, n, e, c, hd, _⟩ := pl
      exact ⟨o, e, hd⟩
    · refine ⟨⟨o, I.kIn p o hk, hc⟩, fun a e => ?_⟩
      cases e
      exact ⟨o, I.kIn _ o hk, hd⟩
    · have z : ∃ o, s.heap.get? p = some o ∧ o.ExactDict := by
        rcases hk with ⟨kvs, hk⟩ | ⟨kvs, hk⟩
        · obtain ⟨_, _, _, _, o, _, _, e, ex, _⟩ := I.hok p _ hk
          exact ⟨o, e, ex⟩
        · obtain ⟨_, _, _, _, o, _, _, e, ex, _⟩ := I.hok p _ hk
          exact ⟨o, e, ex⟩
      obtain ⟨o, e, ex⟩ := z
      refine ⟨⟨o, e, ex.1⟩, fun a e2 => ?_⟩
      cases e2
      exact ⟨o, e, ex.2.1⟩
    · obtain ⟨o, _, _, _, e, ex, _⟩ := I.hok p _ hk
      refine ⟨⟨o, e, ex.1⟩, fun a e2 => ?_⟩
      cases e2
      exact ⟨o, e, ex.2.1⟩
  | _ => exact False.elim ty
def tBM0 (K : PySem.W.Frag) (T : String) (r : V → List V → Hp → VK → Prop) (to : TE) : TE := fun σ H Q => to σ H fun x H1 => tyV K T x H1 ∧ r x [] H1 Q
def tBM (K : PySem.W.Frag) (T : String) (r : V → List V → Hp → VK → Prop) (to : TE) (t : TA) : TE := fun σ H Q => to σ H fun x H1 => tyV K T x H1 ∧ t σ H1 fun xs H2 => r x xs H2 Q
variable {o e : Expr} {es : List Expr} {to : TE} {t : TA} {name : Str} {apos cpos : Pos} {T id : String} {r : V → List V → Hp → VK → Prop}
theorem pe_bm0 (pa : PlainAttrs T) (slot : Slot T name id) (hty : typeOf (.builtin id) = pure (.type "method_descriptor")) (hm : MtR X id r) (ho : PE X o to)
    (hbase : attributeBase o name X.env (eval o X.env) = eval o X.env := by rfl) (hline : (apos.endLine == cpos.line) = true := by rfl) : PE X (.Call (.Attribute o name apos) [] [] cpos) (tBM0 X.K T r to) := by
  intro pins s σ H Q I h
  refine wpAny_Call_method0_late hbase hline (thn (ho pins s σ H _ I h) fun v s1 ⟨x, H1, I1, r1, ty, q1⟩ => ?_)
  obtain ⟨h1, h2⟩ := tyV_is I1 r1 ty
  exact ⟨T, id, pa, slot, hty, h1, h2, Calls.callWith_builtin rfl (PySem.evalArgs_none (hm pins s1 σ H1 x [] v [] Q I1 r1 .nil q1))⟩
theorem pe_bm (pa : PlainAttrs T) (slot : Slot T name id) (hty : typeOf (.builtin id) = pure (.type "method_descriptor")) (hm : MtR X id r) (ho : PE X o to) (ha : PA X (e :: es) t)
    (hbase : attributeBase o name X.env (eval o X.env) = eval o X.env := by rfl)
    (hfew : ((backTo cpos (starEach (e :: es) X.env)).all (fun x => !x.1) && (backToKw cpos (keywordEach [] X.env)).all (fun x => x.1.isSome)
      && decide ((e :: es).length + ([] : List Keyword).length + (if ([] : List Keyword).isEmpty then 0 else 1) < 30)) = true := by rfl)
    (hline : (apos.endLine == cpos.line) = true := by rfl) (hs : starEach (e :: es) X.env = (false, eval e X.env) :: starEach es X.env := by rfl) (hplain : (backTo cpos (starEach es X.env)).any (·.1) = false := by rfl) :
    PE X (.Call (.Attribute o name apos) (e :: es) [] cpos) (tBM X.K T r to t) := by
  intro pins s σ H Q I h
  refine wpAny_Call_method_late hbase hfew hline rfl (thn (ho pins s σ H _ I h) fun v s1 ⟨x, H1, I1, r1, ty, q1⟩ => ?_)
  obtain ⟨h1, h2⟩ := tyV_is I1 r1 ty
  refine ⟨T, id, pa, slot, hty, h1, h2, ?_⟩
  have hA := ha cpos pins s1 σ H1 _ I1 q1
  rw [hs] at hA ⊢
  refine Calls.callWith_builtin (by show (false || (backTo cpos (starEach es X.env)).any (·.1)) = false; rw [hplain] <;> rfl) (Calls.evalArgs_plain ?_)
  exact thn hA fun us s2 ⟨vs, H2, I2, r2, q2⟩ => hm pins s2 σ H2 x vs v us Q I2 r1 r2 q2
/- xs.append(e), list.index on a module's tuple .. are MtR facts of 06m -/
end
end L2

namespace L2
open PySem PySem.Spec PyProof.Rows

def MtM (X : Cx) (id : String) (r : V → List V → Hp → VK → Prop) : Prop :=
  ∀ (pins : List (Addr × Obj)) (s : Shared) (σ : St) (H : Hp) (x : V) (xs : List V) (v : Value) (us : List Value) (Q : VK), Inv X pins σ H s → RelV x v → Vals xs us → r x xs H Q →
    wpAny (model X.prog X.w) X.A (call (.builtin id) (v :: us)) (EP X pins σ Q) X.xe s

/-! ### lists of values -/
theorem Vals.one : ∀ {x : V} {us : List Value}, Vals [x] us → ∃ u, us = [u] ∧ RelV x u
  | _, _, .cons r .nil => ⟨_, rfl, r⟩
theorem Vals.zero : ∀ {us : List Value}, Vals [] us → us = []
  | _, .nil => rfl
theorem Vals.dropLast {xs : List V} {us : List Value} (h : Vals xs us) : Vals xs.dropLast us.dropLast := by
  induction h with
  | nil => exact .nil
  | cons r t ih =>
    cases t with
    | nil => exact .nil
    | cons q t' => exact .cons r ih
theorem Vals.reverse {xs : List V} {us : List Value} (h : Vals xs us) : Vals xs.reverse us.reverse := by
  induction h with
  | nil => exact .nil
  | cons r t ih => rw [List.reverse_cons, List.reverse_cons]; exact Vals.append ih (.cons r .nil)
theorem erase_last {α : Type} (l : List α) : l.eraseIdx (l.length - 1) = l.dropLast := by
  induction l with
  | nil => rfl
  | cons a r ih =>
    cases r with
    | nil => rfl
    | cons b r =>
      have e : (a :: b :: r).length - 1 = ((b :: r).length - 1) + 1 := by
        have h1 : (a :: b :: r).length = r.length + 2 := rfl
        have h2 : (b :: r).length = r.length + 1 := rfl
        omega
      rw [e, List.eraseIdx_cons_succ, ih]
      all_goals rfl

section
variable {X : Cx} {pins : List (Addr × Obj)} {σ : St} {H : Hp} {s : Shared} {l b : Addr} {xs ys zs : List V}

/-! ### the two steps: a tracked list is rewritten, a new list is laid -/
theorem Inv.lset {its its' : List Value} {n : Nat} {f : Array Value → Array Value} {t' : Nat} (I : Inv X pins σ H s) (hH : H l = some (.lst xs))
    (e : s.heap.get? l = some { cls := .type "list", data := .seq its.toArray n }) (hf : f its.toArray = its'.toArray) (hv : Vals ys its') (hz : ys.length ≤ sizeLine) :
    Inv X pins σ (upd H l (.lst ys)) { s with heap := s.heap.update l (Obj.mapSeq f), toks := t' } := by
  have q := PySem.IsL.update e f
  rw [hf] at q
  refine I.write (x := l) (e := l) (by rw [hH]; exact trivial) (.inl rfl) (fun b' u hb hu => (Heap.get?_update_other s.heap (Obj.mapSeq f) (Ne.symm hb)).trans hu) ⟨_, q⟩ ?_
  exact ⟨hz, its', _, hv, q⟩
theorem Inv.lnew {its : List Value} {t' : Nat} (I : Inv X pins σ H s) (hv : Vals ys its) (hz : ys.length ≤ sizeLine) :
    Inv X pins σ (upd H s.heap.objs.size (.lst ys)) { s with heap := s.heap.push { cls := .type "list", data := .seq its.toArray }, toks := t' } :=
  I.laid (fun _ _ q => Heap.get?_push_of_some _ q) (Nat.le_refl _) ⟨hz, its, 0, hv, Heap.get?_push_size _ rfl⟩
theorem Inv.fresh (I : Inv X pins σ H s) : H s.heap.objs.size = none := I.hok.fresh (Nat.le_refl _)
theorem Inv.lstM (I : Inv X pins σ H s) (hH : H l = some (.lst xs)) : xs.length ≤ sizeLine ∧ ∃ (its : List Value) (n : Nat), Vals xs its ∧ xs.length = its.length ∧ s.heap.get? l = some { cls := .type "list", data := .seq its.toArray n } := by
  obtain ⟨z, its, n, r, e⟩ := I.hok l _ hH
  exact ⟨z, its, n, r, r.length, e⟩

theorem notLongL {n : Nat} (h : n ≤ sizeLine) : Builtin.List.listTooLong n = false := by
  unfold Builtin.List.listTooLong
  exact decide_eq_false (by omega)
end

section
variable {X : Cx}

/-! ### methods -/
def rAppend : V → List V → Hp → VK → Prop := fun x vs H Q => ∃ l xs y, x = .ref l ∧ vs = [y] ∧ H l = some (.lst xs) ∧ xs.length < sizeLine ∧ Q .non (upd H l (.lst (xs ++ [y])))
theorem mt_append : MtM X "list.append" rAppend := by
  intro pins s σ H x vs v us Q I rx rv h
  obtain ⟨l, xs, y, rfl, rfl, hH, hz, q⟩ := h
  cases rx
  obtain ⟨u, rfl, ru⟩ := rv.one
  obtain ⟨z, its, n, r, hl, e⟩ := I.lstM hH
  refine call_meets F.slot_list_append ⟨_, e, rfl⟩ F.entry_list_append (F.args_list_append_2 _ _) (PySem.list_append l its.toArray n u (by rw [List.size_toArray]; omega)) ⟨e, ?_⟩
  refine ⟨.non, _, I.lset (its' := its ++ [u]) hH e (by simp) (r.append (.cons ru .nil)) ?_, rfl, q⟩
  rw [List.length_append, List.length_singleton]
  omega

def rExtend : V → List V → Hp → VK → Prop := fun x vs H Q => ∃ l b xs zs, x = .ref l ∧ vs = [.ref b] ∧ H l = some (.lst xs) ∧ H b = some (.lst zs) ∧ xs.length + zs.length ≤ sizeLine ∧ Q .non (upd H l (.lst (xs ++ zs)))
theorem mt_extend : MtM X "list.extend" rExtend := by
  intro pins s σ H x vs v us Q I rx rv h
  obtain ⟨l, b, xs, zs, rfl, rfl, hH, hB, hz, q⟩ := h
  cases rx
  obtain ⟨u, rfl, ru⟩ := rv.one
  cases ru
  obtain ⟨z, its, n, r, hl, e⟩ := I.lstM hH
  obtain ⟨z2, its2, n2, r2, hl2, e2⟩ := I.lstM hB
  have hsz : its.toArray.size + its2.toArray.size ≤ sizeLine := by rw [List.size_toArray, List.size_toArray]; omega
  have hlong : ¬ (!its.toArray.isEmpty && Builtin.List.listTooLong (its.toArray.size + its2.toArray.size)) = true := by
    rw [notLongL hsz, Bool.and_false]
    exact Bool.false_ne_true
  refine call_meets F.slot_list_extend ⟨_, e, rfl⟩ F.entry_list_extend (F.args_list_extend_2 _ _)
    (AutoSeq1.list_extend_list_list_0 l its.toArray n b its2.toArray n2 hlong (by rw [List.size_toArray]; omega) (by omega)) ⟨e, e2, ?_⟩
  refine ⟨.non, _, I.lset (its' := its ++ its2) hH e (by simp) (r.append r2) ?_, rfl, q⟩
  rw [List.length_append]
  omega

def rPop : V → List V → Hp → VK → Prop := fun x vs H Q => ∃ l xs y, x = .ref l ∧ vs = [] ∧ H l = some (.lst xs) ∧ xs[xs.length - 1]? = some y ∧ Q y (upd H l (.lst xs.dropLast))
theorem mt_pop : MtM X "list.pop" rPop := by
  intro pins s σ H x vs v us Q I rx rv h
  obtain ⟨l, xs, y, rfl, rfl, hH, hy, q⟩ := h
  cases rx
  have hus := rv.zero
  subst hus
  obtain ⟨z, its, n, r, hl, e⟩ := I.lstM hH
  obtain ⟨u, hu, ru⟩ := r.get hy
  have hy' : its.toArray[its.toArray.size - 1]? = some u := by
    show its.toArray[its.length - 1]? = some u
    rw [← Array.getElem?_toList, ← hl]
    exact hu
  refine call_meets F.slot_list_pop ⟨_, e, rfl⟩ F.entry_list_pop (F.args_list_pop_1 _) (MeetsSeq.list_pop_last l its.toArray n u hy' (by rw [List.size_toArray]; omega)) ⟨e, ?_⟩
  refine ⟨y, _, I.lset (its' := its.dropLast) hH e ?_ r.dropLast ?_, ru, q⟩
  · show its.toArray.eraseIdxIfInBounds (its.toArray.size - 1) = its.dropLast.toArray
    rw [List.size_toArray, List.eraseIdxIfInBounds_toArray, erase_last]
  · rw [List.length_dropLast]
    omega


def rReverse : V → List V → Hp → VK → Prop := fun x vs H Q => ∃ l xs, x = .ref l ∧ vs = [] ∧ H l = some (.lst xs) ∧ Q .non (upd H l (.lst xs.reverse))
theorem mt_reverse : MtM X "list.reverse" rReverse := by
  intro pins s σ H x vs v us Q I rx rv h
  obtain ⟨l, xs, rfl, rfl, hH, q⟩ := h
  cases rx
  have hus := rv.zero
  subst hus
  obtain ⟨z, its, n, r, hl, e⟩ := I.lstM hH
  refine call_meets F.slot_list_reverse ⟨_, e, rfl⟩ F.entry_list_reverse (F.args_list_reverse_1 _) (AutoSeq1.list_reverse_list_0 l its.toArray n (by rw [List.size_toArray]; omega)) ⟨e, ?_⟩
  refine ⟨.non, _, I.lset (its' := its.reverse) hH e (by simp) r.reverse ?_, rfl, q⟩
  rw [List.length_reverse]
  omega


/-! ### list + list, list += list, list * int -/
def rCat : R2 := fun x y H Q => ∃ l b xs zs, x = .ref l ∧ y = .ref b ∧ H l = some (.lst xs) ∧ H b = some (.lst zs) ∧ xs.length + zs.length ≤ sizeLine ∧ ∀ p, H p = none → Q (.ref p) (upd H p (.lst (xs ++ zs)))
theorem op_cat : OpR X (binaryOp .Add) rCat := by
  intro pins s σ H x y v u Q I rx ry h
  obtain ⟨l, b, xs, zs, rfl, rfl, hH, hB, hz, q⟩ := h
  cases rx
  cases ry
  obtain ⟨z, its, n, r, hl, e⟩ := I.lstM hH
  obtain ⟨z2, its2, n2, r2, hl2, e2⟩ := I.lstM hB
  refine PySem.P.add_list e e2 ?_ (by rw [List.size_toArray, List.size_toArray]; omega)
  have ea : its.toArray ++ its2.toArray = (its ++ its2).toArray := by simp
  rw [ea]
  exact ⟨.ref _, _, I.lnew (t' := s.toks) (r.append r2) (by rw [List.length_append]; omega), rfl, q _ I.fresh⟩

/-! ### del xs[i] -/
end

/-! ### xs[a:b] = ys -/
section
variable {prog : Program} {w : World} {A : Around} {E : Value → Shared → Prop} {s : Shared}
end

section
variable {X : Cx}
end
end L2

namespace Att
open PySem PySem.W PySem.Calls PyProof.Rows

/-! ### the script -/
theorem ints_of_wellAll {P : Params} {h : Heap} : ∀ (ns : List Int) (vs : List Value), WellAll P h vs (ns.map WData.int) → IntsAre vs ns := by
  intro ns
  induction ns with
  | nil =>
    intro vs w
    rw [List.map_nil] at w
    cases w
    exact .nil
  | cons n ns ih =>
    intro vs w
    rw [List.map_cons] at w
    cases w with
    | cons a b =>
      cases a
      exact .cons _ _ (ih _ b)

theorem script_of {l : OpenLaw} {n : Nat} (hn : l.most = some n) {P : Params} {h : Heap} {args : List WData} {vals : List Value}
    (hpre : l.row.toRowW.claim.pre args = true) (hwl : WellAll P h vals args) :
    ∃ a vs ns, vals = [Value.ref a] ∧ args = [WData.list (ns.map WData.int)] ∧ h.get? a = some { cls := .type "list", data := .seq vs.toArray } ∧ IntsAre vs ns ∧ ns.length ≤ n := by
  have hsh : WShape.hasAll [] args [.list .int] = true := (pre_splitW hpre).1
  have hc : l.pre.holds [] { args := args } = true := (pre_splitW hpre).2
  obtain ⟨d, r, rfl, h1, h2⟩ := hasAllW_cons hsh
  obtain rfl := hasAllW_nil h2
  obtain ⟨xs, rfl, h3⟩ := hasW_list h1
  obtain ⟨ns, rfl⟩ := items_int h3
  have hlen : ns.length ≤ n := by
    unfold OpenLaw.pre at hc
    have h4 : (WTm.not (.lt (.lit (.int (n : Int))) (.len (.arg 0)))).holds [] { args := [.list (ns.map .int)] } = true := by
      have h4 := (holds_andW hc).1
      rw [hn] at h4
      exact h4
    have h5 := condW_of h4 (w_not (w_lt w_lit (w_len_list (w_arg rfl))))
    rw [List.length_map] at h5
    refine Nat.le_of_not_lt fun q => ?_
    have q' : (n : Int) < ((ns.length : Nat) : Int) := by omega
    first
      | (rw [decide_eq_true q'] at h5; exact absurd h5 (by decide))
      | (simp at h5; omega)
  cases hwl with
  | cons w1 w2 =>
    cases w2
    cases w1 with
    | list ho hall => exact ⟨_, _, ns, rfl, rfl, ho, ints_of_wellAll ns _ hall, hlen⟩

theorem post_true (l : OpenLaw) (args : List WData) : l.row.toRowW.claim.post args (.bool true) args = true :=
  postW_of (r := l.row.toRowW) (X := (true == true))
    (show WShape.has [] (.bool true) .bool = true by first | rfl | decide | simp [WShape.has, WShape.arms, WShape.armsAll])
    (show (WTm.eq .res (.lit (.bool true))).value [] { args := args, res := some (.bool true), after := args } = some (.bool (true == true)) from w_eq_bool (w_res rfl) w_lit) rfl

/-! ### the attachment: holds_open's last premise (the goal 'hc' behind k_head) from a wpAny of the law's body -/

/-- the same from a codeAny of the CALL (for a layer whose function contracts speak of calls) -/
theorem attach_call {l : OpenLaw} {n : Nat} {q : Program} {loose : List Str} {XP : (Str → Option Value) → Heap → Prop} {YP : World → Heap → Prop} {d : DefRec}
    (hn : l.most = some n) (hdf : d.params.defaults = [])
    (call : ∀ (w : World) (s₀ s₁ : Shared) (mg mb : Str → Option Value) (fa : Addr) (o : Obj) (pm cd doc : Value) (a : Addr) (vs : List Value) (ns : List Int),
      Ground q loose [] XP w s₀ mg mb s₁.heap → YP w s₁.heap →
      s₁.heap.get? fa = some o → o.data = .func (docDef d.name d.params d.body d.scope pm cd doc) → s₁.heap.CodeRec cd d.name → mg d.name = some (.ref fa) →
      s₁.heap.get? a = some { cls := .type "list", data := .seq vs.toArray } → IntsAre vs ns → ns.length ≤ n → s₁.gens = #[] →
      codeAny (model l.prog w) callerA (.call (.ref fa) ⟨[.ref a], []⟩) (fun r s' => r = .ok (.ret (.bool true)) ∧ OldK s₁.heap s'.heap ∧ s'.os = s₁.os ∧ AllBare s'.gens) s₁) :
    WalkO q loose XP YP l.row.toRowW d [] (fun f vs => PySem.call f vs) := by
  intro w s₀ s₁ mg mb G Y fa o pm cd doc dV kV ho hd hcd hD hmg hg args vals as hpre hlay hrd hwl hlo
  obtain rfl : dV = .none := Dflts.none hD hdf
  obtain rfl : kV = .none := Dflts.noKw hD
  obtain ⟨a, vs, ns, rfl, rfl, hobj, hints, hlen⟩ := script_of hn hpre hwl
  refine enter_call (codeAny_mono (call w s₀ s₁ mg mb fa o pm cd doc a vs ns G Y ho (fd_plain hd) hcd hmg hobj hints hlen hg) fun r s' hq => ?_)
  obtain ⟨rfl, h2, h3, h4⟩ := hq
  exact ⟨.inl ⟨.bool true, .bool true, [], rfl, fun _ => rfl, .bool true, post_true l _, fun _ => ⟨List.Pairwise.nil, fun _ hm => (nomatch hm)⟩⟩, h2, h3, h4⟩


/-! ### rules over ANY heap (no ledger) from facts about the written part K: the library's own take a ledger (News) for what they write -/
section
variable {prog : Program} {w : World} {A : Around} {E : Value → Shared → Prop} {s : Shared} {K : Frag}





/-! the whole heap as the ledger: makes every rule that writes through a ledger a rule over any heap -/

end
end Att

namespace L2
open PySem PySem.Spec PyProof.Rows

theorem vals_ints : ∀ {vs : List Value} {ns : List Int}, IntsAre vs ns → Vals (ns.map V.int) vs
  | _, _, .nil => .nil
  | _, _, .cons n t h => .cons ⟨t, rfl⟩ (vals_ints h)

/-- nothing is tracked but the script, known to the object (or it is an object of the module) -/
def Only (H : Hp) : Prop := ∀ b, H b = none ∨ ∃ o xs, H b = some (.frz o (.lst xs))

/-- THE HEAD: the law's promise, at the heap behind the top. F, the promise of the law's def, may use that base is part of the heap (so K.In base, base.Ns mainGlobals mg stand in Mod) -/
theorem law_call {P : Program} {w : World} {K : PySem.W.Frag} {mg mb : Str → Option Value} {CX : CXT} {k : Nat} {fa a : Addr} {fd : FuncData} {x : Str} {sp : Sp} {s₁ : Shared} {vs : List Value} {ns : List Int}
    (KX : K.In s₁.heap) (hns : s₁.heap.Ns mainGlobals mg) (hb : s₁.heap.Ns builtinsNs mb) (hbb : ∀ x : Str, x ≠ "__name__" → mb x = bootBuiltins x) (hlim : s₁.heap.NoLimit) (hg : s₁.gens = #[])
    (ha : s₁.heap.get? a = some { cls := .type "list", data := .seq vs.toArray }) (hi : IntsAre vs ns) (hl : ns.length ≤ sizeLine) (hr : Room k callerA)
    (F : ∀ base : Heap, K.In base → base.Ns mainGlobals mg → FnOk P w K mg base CX k fa fd [x] sp) (hbind : ∀ (s : Shared) (u : Value), BindsTo s fd ⟨[u], []⟩ [(x, u)])
    (hsp : ∀ H : Hp, Only H → SqL K H a (ns.map V.int) → sp [.ref a] H (fun v _ => v = .bl true) fun _ _ _ => False)
    (hCX : ∀ H e s', CX [] H s₁ (fun _ _ _ => False) e s' → False) :
    codeAny (model P w) callerA (.call (.ref fa) ⟨[.ref a], []⟩) (fun r s' => r = .ok (.ret (.bool true)) ∧ OldK s₁.heap s'.heap ∧ s'.os = s₁.os ∧ AllBare s'.gens) s₁ := by
  have rv := vals_ints hi
  have lenV := hi.length
  -- from an abstract heap in which nothing but the script may be tracked
  have core : ∀ H : Hp, Only H → SqL K H a (ns.map V.int) → HOk P w H s₁.heap → (∀ b, H b ≠ none → b = a) → (H a ≠ none → K.lookup a = none) →
      codeAny (model P w) callerA (.call (.ref fa) ⟨[.ref a], []⟩) (fun r s' => r = .ok (.ret (.bool true)) ∧ OldK s₁.heap s'.heap ∧ s'.os = s₁.os ∧ AllBare s'.gens) s₁ := by
    intro H hO hS hok hA hK
    have base_of : ∀ {b : Addr} {o : Obj}, s₁.heap.get? b = some o → H b = none → (hidT s₁.heap H).get? b = some o := fun e n => hidT_get e n
    have noA : ∀ {b : Addr} {o : Obj} {es : Array DictEntry} {ep : Nat}, s₁.heap.get? b = some o → o.data = .dict es ep → H b = none := fun {b o es ep} e d => by
      cases q : H b with
      | none => rfl
      | some u =>
        have e' : b = a := hA b (by rw [q]; simp)
        subst e'
        rw [ha] at e; cases e
        have d' : Data.seq vs.toArray _ = Data.dict es ep := d
        cases d'
    have nsK : ∀ {b : Addr} {m : Str → Option Value}, s₁.heap.Ns b m → (hidT s₁.heap H).Ns b m := fun {b m} ⟨o, es, ep, e, d, r⟩ => ⟨o, es, ep, base_of e (noA e d), d, r⟩
    have hKb : K.In (hidT s₁.heap H) := fun b o e => base_of (KX b o e) (by
      cases q : H b with
      | none => rfl
      | some u =>
        have e' : b = a := hA b (by rw [q]; simp)
        subst e'
        rw [hK (by rw [q]; simp)] at e; cases e)
    have hM : Mod K mg (hidT s₁.heap H) := ⟨hKb, nsK hns, ⟨mb, nsK hb, hbb⟩, let ⟨mc, h1, h2⟩ := hlim; ⟨mc, nsK h1, h2⟩⟩
    have e0 : Env0 P w K mg (hidT s₁.heap H) callerA [] s₁ H := ⟨rfl, hM, fun b o e => of_hidT e, Nat.le_of_eq (hidT_size _ _), trivial, fun b hb => absurd (show b ∈ ([] : List Addr) from hb) (by simp), hok, .of_eq hg⟩
    refine codeAny_mono ((F _ hKb (nsK hns)).run callerA [] s₁ H ⟨[.ref a], []⟩ [.ref a] [.ref a] _ _ hr e0 (hbind s₁ (.ref a)) (.cons rfl .nil) (hsp H hO hS)) fun r s' h => ?_
    cases r with
    | error e => exact (hCX H e s' h).elim
    | ok fl =>
      cases fl with
      | next => exact False.elim h
      | brk => exact False.elim h
      | cont => exact False.elim h
      | ret u =>
        obtain ⟨v, H', os, bare, un, hok', r', q⟩ := h
        have q' : v = .bl true := q
        subst q'
        obtain rfl : u = Value.bool true := r'
        refine ⟨rfl, OldK.of_keep fun b o e => ?_, os, bare⟩
        cases q : H b with
        | none => exact un.keep b o e q (by intro z; exact absurd (show b ∈ ([] : List Addr) from z) (by simp)) (by simp)
        | some u =>
          rcases hO b with z | ⟨ob, xs, z⟩
          · rw [q] at z; cases z
          · have z2 := un.frzs b ob _ z
            obtain ⟨e1, _⟩ := hok b _ z
            obtain ⟨e2, _⟩ := hok' b _ z2
            rw [e] at e1; cases e1
            exact e2
  cases hk : K.lookup a with
  | some o =>
    -- the script is one of the module's own objects
    have e := KX a o hk
    rw [ha] at e
    cases e
    refine core (fun _ => none) (fun _ => .inl rfl) (.inr ⟨_, vs.toArray, _, hk, rfl, rfl, rfl, by rw [List.size_toArray, lenV]; exact hl, by simpa using rv⟩) (fun b u z => by have z' : (none : Option HO) = some u := z; cases z') (fun b z => absurd rfl z) fun z => absurd rfl z
  | none =>
    refine core (fun b => if b = a then some (.frz { cls := .type "list", data := .seq vs.toArray } (.lst (ns.map V.int))) else none) (fun b => ?_) (.inl (.inr ⟨{ cls := .type "list", data := .seq vs.toArray }, if_pos rfl⟩)) (fun b u z => ?_) (fun b z => ?_) fun _ => hk
    · by_cases hb : b = a
      · exact .inr ⟨_, _, if_pos hb⟩
      · exact .inl (if_neg hb)
    · by_cases hb : b = a
      · have z' := (if_pos hb).symm.trans z
        cases z'
        subst hb
        exact ⟨ha, by rw [List.length_map]; exact hl, vs, _, rv, ha⟩
      · have z' := (if_neg hb).symm.trans z
        cases z'
    · by_cases hb : b = a
      · exact hb
      · exact absurd (if_neg hb) z
end L2

namespace L2
open PySem PySem.Spec PyProof.Rows


/-- the goal that k_head leaves (case hc), from the law's promise. F gives the function object fd (K's own) once, then the promise over every base -/
theorem walk_of {l : PySem.W.OpenLaw} {n k : Nat} {q : Program} {loose : List Str} {XP : (Str → Option Value) → Heap → Prop} {YP : World → Heap → Prop} {d : DefRec} {K : Params → PySem.W.Frag} {CX : World → CXT} {sp : World → Sp} {x : Str}
    (hn : l.most = some n) (hn2 : n ≤ sizeLine) (hdf : d.params.defaults = []) (hr : Room k callerA)
    (hY : ∀ (w : World) (h : Heap), YP w h → (K w.params).In h)
    (F : ∀ (w : World) (mg : Str → Option Value) (fa : Addr) (h : Heap), (K w.params).In h → h.Ns mainGlobals mg → mg d.name = some (.ref fa) →
      ∃ fd : FuncData, (∀ (s : Shared) (u : Value), BindsTo s fd ⟨[u], []⟩ [(x, u)]) ∧
        ∀ base : Heap, (K w.params).In base → base.Ns mainGlobals mg → FnOk l.prog w (K w.params) mg base (CX w) k fa fd [x] (sp w))
    (hsp : ∀ (w : World) (H : Hp) (a : Addr) (ns : List Int), ns.length ≤ n → Only H → SqL (K w.params) H a (ns.map V.int) → sp w [.ref a] H (fun v _ => v = .bl true) fun _ _ _ => False)
    (hCX : ∀ (w : World) (H : Hp) (s : Shared) (e : Value) (s' : Shared), CX w [] H s (fun _ _ _ => False) e s' → False) :
    PySem.W.WalkO q loose XP YP l.row.toRowW d [] (fun f vs => PySem.call f vs) := by
  refine Att.attach_call hn hdf fun w s₀ s₁ mg mb fa o pm cd doc a vs ns G Y ho hd hcd hmg hobj hints hlen hg => ?_
  have KX := hY w _ Y
  obtain ⟨fd, hb, hF⟩ := F w mg fa _ KX G.T.g hmg
  exact law_call KX G.T.g G.T.b G.T.builtins G.T.nolimit hg hobj hints (Nat.le_trans hlen hn2) hr hF hb (fun H hO hS => hsp w H a ns hlen hO hS) fun H e s' => hCX w H s₁ e s'
end L2


/-! SHORT WORDS over the layer: a def of the text, its body, what a loop and a test want. -/
namespace L2
open PySem PySem.Spec PyProof.Rows

/-! ### the text by places -/
def defArgs (s : Stmt) : Arguments := match s with
  | .FunctionDef _ a _ _ _ _ _ _ _ _ => a
  | _ => { posonlyargs := [], args := [], vararg := none, kwonlyargs := [], kw_defaults := [], kwarg := none, defaults := [] }
def defBody (s : Stmt) : List Stmt := match s with
  | .FunctionDef _ _ b _ _ _ _ _ _ _ => b
  | _ => []
def defScope (s : Stmt) : Scope := match s with
  | .FunctionDef _ _ _ _ _ _ sc _ _ _ => sc
  | _ => { kind := .function, names := [], isGenerator := false, isCoroutine := false }

/-! ### no exception leaves a def -/
abbrev CX0 : CXT := fun _ _ _ _ _ _ => False
abbrev E0 : XK := fun _ _ _ => False
theorem pass0 {X : Cx} : Passes CX0 X E0 := fun _ _ _ _ _ _ _ h => h.elim

/-! ### a def (or method) of the text as it stands behind the top -/
structure Fun (K : PySem.W.Frag) (x qual : Str) (st : Stmt) (f : Addr) (fd : FuncData) : Prop where
  ex : ∃ (oc : Value) (od : Option Addr) (kV doc pm : Value) (an : Option Addr) (cdv ct : Value) (osl : Array (Option Value)),
    fd = PySem.W.fnOf x qual (defArgs st) (defBody st) (defScope st) .none kV doc pm an cdv ct ∧ K.lookup f = some ⟨oc, od, .func fd, osl⟩ ∧ PySem.W.codeIn K cdv qual = true
  kp : PySem.W.keepIn K (.ref f) = true
section
variable {P : Program} {w : World} {K : PySem.W.Frag} {mg : Str → Option Value} {base : Heap}
/-- THE RULE for a def: its body as a term of rules, and the reading of that term -/
theorem Fun.ok {x qual : Str} {st : Stmt} {f : Addr} {fd : FuncData} {N ps : List Str} {k : Nat} {sp : Sp} (F : Fun K x qual st f fd) (S : FnScope N ps (defScope st)) (len : ∀ vs H Q E, sp vs H Q E → vs.length = ps.length)
    (hbody : ∀ (cdv : Value) (A : Around) (outer : List Env) (s : Shared) (H : Hp) (vs : List V) (Q : VK) (E : XK), Room k (A.deeper (envOfC qual (defScope st) s.heap.objs.size f cdv)) → sp vs H Q E →
      ∃ t, PSs (cxOf CX0 P w K mg base N qual (defScope st) f cdv A outer s H E).nox (defBody st) t ∧ t { nx := fun _ H' => Q .non H', rt := Q } (start N vs) H) : FnOk P w K mg base CX0 (k + 1) f fd ps sp := by
  obtain ⟨oc, od, kV, doc, pm, an, cdv, ct, osl, rfl, lk, hcd⟩ := F.ex
  refine fn_of lk hcd S len fun A outer s H vs Q E hr hsp => ?_
  obtain ⟨t, h, q⟩ := hbody cdv A outer s H vs Q E hr hsp
  exact ⟨t, h.nox, q⟩
/-- how its arguments bind (no defaults): h is «fun _ _ _ _ _ _ us hl => match us, hl with | [_, _], _ => rfl», one _ a parameter -/
theorem Fun.binds {x qual : Str} {st : Stmt} {f : Addr} {fd : FuncData} {ps : List Str} (F : Fun K x qual st f fd)
    (h : ∀ (kV doc pm : Value) (an : Option Addr) (cdv ct : Value) (us : List Value), us.length = ps.length → bindArgs (PySem.W.fnOf x qual (defArgs st) (defBody st) (defScope st) .none kV doc pm an cdv ct) ⟨us, []⟩ = pure (ps.zip us)) : Binds K fd ps [] := by
  obtain ⟨oc, od, kV, doc, pm, an, cdv, ct, osl, rfl, lk, hcd⟩ := F.ex
  exact .all (h kV doc pm an cdv ct)
theorem fun_mk {x qual : Str} {st : Stmt} {f : Addr} {oc : Value} {od an : Option Addr} {osl : Array (Option Value)} {kV doc pm cdv ct : Value} (l : K.lookup f = some ⟨oc, od, .func (PySem.W.fnOf x qual (defArgs st) (defBody st) (defScope st) .none kV doc pm an cdv ct), osl⟩)
    (c : PySem.W.codeIn K cdv qual = true) (k : PySem.W.keepIn K (.ref f) = true) : Fun K x qual st f (PySem.W.fnOf x qual (defArgs st) (defBody st) (defScope st) .none kV doc pm an cdv ct) := ⟨⟨oc, od, kV, doc, pm, an, cdv, ct, osl, rfl, l, c⟩, k⟩
end

/-! ### expressions in short: the name that stands in the i-th slot -/
section
variable {X : Cx}
theorem pv (i : Nat) {x : Str} {pos : Pos} (hN : X.N[i]? = some x := by rfl) (hv : Vis X.env.scope x := by first | exact Or.inl rfl | exact Or.inr (Or.inl rfl) | exact Or.inr (Or.inr rfl)) (hd : (x == ("__debug__" : Str)) = false := by decide)
    (hcd : (x == ("__classdict__" : Str)) = false := by decide) : PE X (.Name x pos) (tVar i) := pe_var hN hv hd hcd
end

/-! ### tests -/
theorem iteF {A B : Prop} (h : B) : if false = true then A else B := by
  rw [if_neg Bool.false_ne_true]
  exact h
theorem iteT {A B : Prop} (h : A) : if true = true then A else B := by
  rw [if_pos rfl]
  exact h
theorem ite2 {c A B : Prop} [Decidable c] (h1 : c → A) (h2 : ¬ c → B) : if c then A else B := by
  by_cases h : c
  · rw [if_pos h]
    exact h1 h
  · rw [if_neg h]
    exact h2 h

/-! ### heaps -/
/-- all that was tracked is as it was -/
def Same (H H' : Hp) : Prop := ∀ b o, H b = some o → H' b = some o
theorem Same.refl (H : Hp) : Same H H := fun _ _ h => h
theorem Same.trans {H H1 H2 : Hp} (a : Same H H1) (b : Same H1 H2) : Same H H2 := fun c o h => b c o (a c o h)
theorem Same.free {H H' : Hp} (e : Same H H') {l : Addr} (h : H' l = Option.none) : H l = Option.none := by
  cases q : H l with
  | none => rfl
  | some o =>
    rw [e l o q] at h
    cases h
theorem Same.seq {K : PySem.W.Frag} {H H' : Hp} {a : Addr} {xs : List V} (e : Same H H') (h : SqL K H a xs) : SqL K H' a xs := by
  rcases h with (h | ⟨o, h⟩) | h
  · exact .inl (.inl (e _ _ h))
  · exact .inl (.inr ⟨o, e _ _ h⟩)
  · exact .inr h

end L2

set_option Elab.async false
set_option linter.all false
set_option maxRecDepth 100000
namespace L2
open PySem PySem.Spec PyProof.Rows
/-! ### an argument list, its parts of any size -/
def notStar : Expr → Bool
  | .Starred _ _ => false
  | _ => true
theorem star_of {e : Expr} {es : List Expr} {env : Env} (h : notStar e = true) : starEach (e :: es) env = (false, eval e env) :: starEach es env := by
  cases e <;> first | rfl | cases h
theorem pa_consN {X : Cx} {e : Expr} {es : List Expr} {te : TE} {t : TA} (ha : PE X e te) (hr : PA X es t) (hs : notStar e = true := by rfl) : PA X (e :: es) (tCons te t) := pa_cons ha hr (star_of hs)
end L2

set_option Elab.async false
set_option linter.all false
set_option maxRecDepth 100000

namespace L2
open PySem PySem.Spec PyProof.Rows

/-! ### a comprehension's block -/
theorem lookup_relabel_free {env : Env} : ∀ {names : List (Str × NameKind)} {x : Str}, names.lookup x = some .free →
    ((names.map fun (n, k) => if (k == NameKind.free && env.scope.kind == .function && env.kindOf n == some .cell) then (n, NameKind.cell) else (n, k)).lookup x = some .cell ∨
    (names.map fun (n, k) => if (k == NameKind.free && env.scope.kind == .function && env.kindOf n == some .cell) then (n, NameKind.cell) else (n, k)).lookup x = some .free)
  | [], _, h => by simp at h
  | (n, k) :: r, x, h => by
    have ih := @lookup_relabel_free env r x
    show (List.lookup x ((if (k == NameKind.free && env.scope.kind == .function && env.kindOf n == some .cell) = true then (n, NameKind.cell) else (n, k)) :: _) = _ ∨ List.lookup x ((if (k == NameKind.free && env.scope.kind == .function && env.kindOf n == some .cell) = true then (n, NameKind.cell) else (n, k)) :: _) = _)
    cases hx : x == n with
    | true =>
      simp only [List.lookup_cons, hx] at h
      cases h
      by_cases hc : (NameKind.free == NameKind.free && env.scope.kind == .function && env.kindOf n == some .cell) = true
      · rw [if_pos hc]; left; simp only [List.lookup_cons, hx]
      · rw [if_neg hc]; right; simp only [List.lookup_cons, hx]
    | false =>
      simp only [List.lookup_cons, hx] at h
      by_cases hc : (k == NameKind.free && env.scope.kind == .function && env.kindOf n == some .cell) = true
      · rw [if_pos hc]; simp only [List.lookup_cons, hx]; exact ih h
      · rw [if_neg hc]; simp only [List.lookup_cons, hx]; exact ih h
theorem lookup_relabel_inv {env : Env} : ∀ {names : List (Str × NameKind)} {x : Str}, (∀ y ∈ names, y.2 ≠ .cell) →
    ((names.map fun (n, k) => if (k == NameKind.free && env.scope.kind == .function && env.kindOf n == some .cell) then (n, NameKind.cell) else (n, k)).lookup x = some .cell ∨
    (names.map fun (n, k) => if (k == NameKind.free && env.scope.kind == .function && env.kindOf n == some .cell) then (n, NameKind.cell) else (n, k)).lookup x = some .free) →
    (x, NameKind.free) ∈ names
  | [], _, _, h => by simp at h
  | (n, k) :: r, x, hn, h => by
    have ih := @lookup_relabel_inv env r x (fun y hy => hn y (List.mem_cons_of_mem _ hy))
    have hk : k ≠ .cell := hn (n, k) List.mem_cons_self
    have h' : (List.lookup x ((if (k == NameKind.free && env.scope.kind == .function && env.kindOf n == some .cell) = true then (n, NameKind.cell) else (n, k)) :: r.map fun (n, k) => if (k == NameKind.free && env.scope.kind == .function && env.kindOf n == some .cell) then (n, NameKind.cell) else (n, k)) = some NameKind.cell ∨ List.lookup x ((if (k == NameKind.free && env.scope.kind == .function && env.kindOf n == some .cell) = true then (n, NameKind.cell) else (n, k)) :: r.map fun (n, k) => if (k == NameKind.free && env.scope.kind == .function && env.kindOf n == some .cell) then (n, NameKind.cell) else (n, k)) = some NameKind.free) := h
    cases hx : x == n with
    | true =>
      have e : x = n := eq_of_beq hx
      subst e
      by_cases hc : (k == NameKind.free && env.scope.kind == .function && env.kindOf x == some .cell) = true
      · have hkf : k = .free := by
          have := hc
          simp only [Bool.and_eq_true] at this
          exact eq_of_beq this.1.1
        subst hkf; exact List.mem_cons_self
      · rw [if_neg hc] at h'
        simp only [List.lookup_cons, hx] at h'
        rcases h' with h' | h'
        · cases h'; exact absurd rfl hk
        · cases h'; exact List.mem_cons_self
    | false =>
      refine List.mem_cons_of_mem _ (ih ?_)
      by_cases hc : (k == NameKind.free && env.scope.kind == .function && env.kindOf n == some .cell) = true
      · rw [if_pos hc] at h'; simp only [List.lookup_cons, hx] at h'; exact h'
      · rw [if_neg hc] at h'; simp only [List.lookup_cons, hx] at h'; exact h'

theorem closure_go {env : Env} (f : Str × NameKind → List (Str × Addr) → Sem (ForInStep (List (Str × Addr))))
    (h1 : ∀ n k r, (k == NameKind.free) = false → f (n, k) r = pure (.yield r)) (h2 : ∀ n c r, env.cells.lookup n = some c → f (n, .free) r = pure (.yield ((n, c) :: r))) :
    ∀ (l : List (Str × NameKind)) (acc : List (Str × Addr)), (∀ y ∈ l, y.2 = .free → ∃ c, env.cells.lookup y.1 = some c) → (∀ n c, acc.lookup n = some c → env.cells.lookup n = some c) →
      ∃ cl, forIn l acc f = pure cl ∧ (∀ n c, cl.lookup n = some c → env.cells.lookup n = some c) ∧ (∀ y ∈ l, y.2 = .free → ∃ c, cl.lookup y.1 = some c) ∧ ∀ n c, acc.lookup n = some c → ∃ c', cl.lookup n = some c'
  | [], acc, _, ha => ⟨acc, rfl, ha, ⟨fun y hy _ => absurd hy List.not_mem_nil, fun n c e => ⟨c, e⟩⟩⟩
  | (n, k) :: r, acc, hl, ha => by
    cases hk : k == NameKind.free with
    | false =>
      obtain ⟨cl, e, p1, p2, p3⟩ := closure_go f h1 h2 r acc (fun y hy => hl y (List.mem_cons_of_mem _ hy)) ha
      refine ⟨cl, ?_, p1, fun y hy hf => ?_, p3⟩
      · rw [List.forIn_cons, h1 n k acc hk, pure_bind]; exact e
      · rcases List.mem_cons.mp hy with rfl | hy
        · rw [show k = .free from hf] at hk; cases hk
        · exact p2 y hy hf
    | true =>
      have hkf : k = .free := eq_of_beq hk
      subst hkf
      obtain ⟨c, hc⟩ := hl (n, .free) List.mem_cons_self rfl
      have hc : env.cells.lookup n = some c := hc
      obtain ⟨cl, e, p1, p2, p3⟩ := closure_go f h1 h2 r ((n, c) :: acc) (fun y hy => hl y (List.mem_cons_of_mem _ hy)) (fun m d hm => by
        rw [List.lookup_cons] at hm
        cases hx : m == n with
        | true => rw [hx] at hm; cases hm; rw [eq_of_beq hx]; exact hc
        | false => rw [hx] at hm; exact ha m d hm)
      have here : ∃ c', cl.lookup n = some c' := p3 n c (by rw [List.lookup_cons]; simp)
      refine ⟨cl, ?_, p1, fun y hy hf => ?_, fun m d hm => ?_⟩
      · rw [List.forIn_cons, h2 n c acc hc, pure_bind]; exact e
      · rcases List.mem_cons.mp hy with rfl | hy
        · exact here
        · exact p2 y hy hf
      · cases hx : m == n with
        | true => rw [eq_of_beq hx]; exact here
        | false => exact p3 m d (by rw [List.lookup_cons, hx]; exact hm)
theorem closure_ex {scope : Scope} {env : Env} (h : ∀ y ∈ scope.names, y.2 = .free → ∃ c, env.cells.lookup y.1 = some c) :
    ∃ cl, closureFor scope env = pure cl ∧ (∀ n c, cl.lookup n = some c → env.cells.lookup n = some c) ∧ ∀ y ∈ scope.names, y.2 = .free → ∃ c, cl.lookup y.1 = some c := by
  obtain ⟨cl, e, p1, p2, _⟩ := closure_go (env := env) (fun x r => if (x.2 == NameKind.free) = true then (cellOf env x.1 >>= fun a => pure (ForInStep.yield ((x.1, a) :: r))) else pure (ForInStep.yield r))
    (fun n k r hk => by simp only [hk, Bool.false_eq_true, if_false]) (fun n c r hc => by simp only [cellOf, hc, beq_self_eq_true, if_true, pure_bind]) scope.names [] h (fun n c e => by simp at e)
  refine ⟨cl, ?_, p1, p2⟩
  rw [show closureFor scope env = (forIn scope.names [] (fun (x : Str × NameKind) (r : List (Str × Addr)) => if (x.2 == NameKind.free) = true then (cellOf env x.1 >>= fun a => pure (ForInStep.yield ((x.1, a) :: r))) else pure (ForInStep.yield r)) >>= fun cs => pure cs) from rfl, e, pure_bind]

section
variable {prog : Program} {w : World} {A : Around} {R : Result → Shared → Prop} {s : Shared}
theorem codeAny_compLoop_own {elt target iter : Expr} {scope : Scope} {pos : Pos} {it acc : Value} {env : Env} (I : Nat → Shared → Prop)
    (turn : ∀ n s, I n s → wpAny (model prog w) A (pyNext it) (fun r s1 => match r with
      | none => R (.ok .next) s1
      | some v => wpAny (model prog w) A (letOwnedTupleGo target it v) (fun _ s0 => wpAny (model prog w) A (assign target env v) (fun _ s2 => wpAny (model prog w) A (eval elt env) (fun x s3 =>
          wpAny (model prog w) A (call (.builtin "list.append") [acc, x]) (fun _ s4 => ∃ m, m < n ∧ I m s4) (notedBy (model prog w) A env fun e s' => R (.error e) s') s3)
          (notedBy (model prog w) A env fun e s' => R (.error e) s') s2) (notedBy (model prog w) A env fun e s' => R (.error e) s') s0) (notedBy (model prog w) A env fun e s' => R (.error e) s') s1) (notedBy (model prog w) A env fun e s' => R (.error e) s') s)
    (n : Nat) (h : I n s) :
    codeAny (model prog w) A (.compLoop (.ListComp elt [⟨target, iter, [], 0⟩] scope pos) 0 it acc env) R s := by
  refine codeAny_loop rfl I (fun n s hI => ?_) n h
  show wpAny _ _ ((compTurn (.ListComp elt [⟨target, iter, [], 0⟩] scope pos) 0 it acc env).onRaise (fun x => do noteFrame x env; theTreesLotGoes x)) _ _ s
  refine wpAny_noted ?_
  rw [compTurn_list1]
  refine wpAny_bind (wpAny_standAt (wpAny_bind (wpAny_mono (turn n s hI) (fun r s1 h1 => ?_) fun _ _ h' => h')))
  cases r with
  | none => exact wpAny_pure h1
  | some v =>
    refine wpAny_bind (wpAny_mono h1 (fun _ s0 h0 => ?_) fun _ _ h' => h')
    exact wpAny_bind (wpAny_mono h0 (fun _ s2 h2 => wpAny_bind (wpAny_bind (wpAny_mono h2 (fun x s3 h3 => wpAny_bind (wpAny_mono h3
      (fun _ s4 h4 => wpAny_pure (wpAny_pure ⟨rfl, h4⟩)) fun _ _ h' => h')) fun _ _ h' => h'))) fun _ _ h' => h')
end

/-- the block's names at its start: own ones unset, then the free ones as they are outside -/
def blkStart (own : Nat) (fv : List Nat) (σ : St) : St := List.replicate own none ++ fv.map fun j => (σ[j]?).getD none
def Cx.blk (X : Cx) (scope : Scope) (N' : List Str) (cl : List (Str × Addr)) (s3 : Shared) (H3 : Hp) (ex : List Addr) : Cx :=
  { X with N := N', s₀ := s3, H₀ := H3, env := compEnvC scope cl s3.heap.objs.size X.env, outer := X.stack, stack := X.stack, ex := ex, fn := fun _ => false, pn := [], xe := fun _ _ => False }
/-- what of the text a block must have; N': own names first (own of them), then the free ones, which stand in the slots fv of the names outside -/
structure BlkScope (X : Cx) (scope : Scope) (N' : List Str) (own : Nat) (fv : List Nat) : Prop where
  kind : scope.kind = .function
  nocell : ∀ y ∈ scope.names, y.2 ≠ .cell
  names : ∀ y ∈ scope.names, y.2 = .local → scope.names.lookup y.1 = some .local
  free : ∀ y ∈ scope.names, y.2 = .free → X.env.kindOf y.1 = some .cell ∨ X.env.kindOf y.1 = some .free
  len : N'.length = own + fv.length
  fvs : ∀ i : Fin fv.length, ∃ x, N'[own + i.val]? = some x ∧ X.N[fv[i.val]]? = some x ∧ scope.names.lookup x = some .free ∧ (X.env.kindOf x = some .cell ∨ X.env.kindOf x = some .free)

theorem mem_of_lookup {x : Str} {k : NameKind} : ∀ {l : List (Str × NameKind)}, l.lookup x = some k → (x, k) ∈ l
  | [], h => by simp at h
  | (n, j) :: r, h => by
    rw [List.lookup_cons] at h
    cases hx : x == n with
    | true => rw [hx] at h; cases h; rw [eq_of_beq hx]; exact List.mem_cons_self
    | false => rw [hx] at h; exact List.mem_cons_of_mem _ (mem_of_lookup h)

section
variable {X : Cx} {scope : Scope} {N' : List Str} {own : Nat} {fv : List Nat} {cl : List (Str × Addr)} {pins : List (Addr × Obj)} {σ : St} {H2 : Hp} {s3 : Shared} {fp : List Addr} {h1 : Heap} {t1 : Nat} {m1 : Str → Option Value}
theorem blk_inv (sc : BlkScope X scope N' own fv) (I : Inv X pins σ H2 s3) (f : ∀ b ∈ fp, FpOk X pins H2 b) (fo : ∀ b ∈ fp, b < s3.heap.objs.size)
    (c1 : ∀ n c, cl.lookup n = some c → X.env.cells.lookup n = some c) (c2 : ∀ y ∈ scope.names, y.2 = .free → ∃ c, cl.lookup y.1 = some c)
    (hns : h1.Ns s3.heap.objs.size m1) (old : ∀ b o, s3.heap.get? b = some o → h1.get? b = some o) :
    Inv (X.blk scope N' cl s3 H2 fp) [] (blkStart own fv σ) H2 { s3 with heap := h1, toks := t1 } where
  ok := {
    mod := I.ok.mod
    kind := sc.kind
    glob := I.ok.glob
    blt := I.ok.blt
    above := Nat.le_refl _
    inj := fun x y c hx hy => I.ok.inj x y c (c1 x c hx) (c1 y c hy)
    has := fun x hx => c2 (x, .free) (lookup_relabel_inv (env := X.env) sc.nocell hx) rfl
    cab := fun x c h => nomatch h
    hd := I.ok.hd
    frames := I.ok.frames
    stk := .inl rfl
    exf := fun b hb => ⟨Nat.ne_of_lt (fo b hb), fun x c hc => (f b hb).2.2.2.2.1 x c (c1 x c hc)⟩
    bs := fun b o e => I.bs b o e
    bsz := Nat.le_trans I.ok.bsz I.sz
    noex := fun b o e hb => by
      rcases (f b hb).2.2.2.1 with h | h
      · exact I.ok.noex b o e h
      · exact Nat.lt_irrefl _ (Nat.lt_of_lt_of_le (Heap.lt_size e) (Nat.le_trans I.ok.bsz h))
    exfs := fun b hb hf => by
      rcases List.mem_cons.mp (I.stkSub b hf) with h | h
      · exact (f b hb).2.1 h
      · exact (f b hb).2.2.1 h
    funs := I.stack
    frf := I.stkFree }
  os := rfl
  bare := I.bare
  base := Un.kept old
  loc := by
    refine ⟨m1, hns, fun i x v hi hv _ => ?_⟩
    have hi' : N'[i]? = some x := hi
    unfold blkStart at hv
    by_cases hlt : i < own
    · rw [List.getElem?_append_left (by rw [List.length_replicate]; exact hlt), List.getElem?_replicate, if_pos hlt] at hv
      cases hv
    · rw [List.getElem?_append_right (by rw [List.length_replicate]; omega), List.length_replicate, List.getElem?_map] at hv
      cases hj : fv[i - own]? with
      | none => rw [hj] at hv; cases hv
      | some j =>
        rw [hj] at hv
        have hv' : (σ[j]?).getD none = some v := Option.some.inj hv
        have hσ : σ[j]? = some (some v) := by
          cases e : σ[j]? with
          | none => rw [e] at hv'; cases hv'
          | some o => rw [e] at hv'; simp only [Option.getD_some] at hv'; rw [hv']
        obtain ⟨hk, ej⟩ := List.getElem?_eq_some_iff.mp hj
        obtain ⟨y, y1, y2, y3, y4⟩ := sc.fvs ⟨i - own, hk⟩
        have e1 : own + (i - own) = i := by omega
        simp only [e1] at y1
        rw [hi'] at y1; cases y1
        simp only [ej] at y2
        obtain ⟨m3, hn3, hl3⟩ := I.loc
        obtain ⟨u, ru, lk⟩ := hl3 j x v y2 hσ (by rcases y4 with h | h; exact .inr (.inl h); exact .inr (.inr h))
        refine ⟨u, ru, .inr ⟨lookup_relabel_free y3, ?_⟩⟩
        rcases lk with ⟨h, _⟩ | ⟨_, c, hc, ic⟩
        · rcases y4 with h' | h' <;> rw [h] at h' <;> cases h'
        · obtain ⟨c', hc'⟩ := c2 (x, .free) (mem_of_lookup y3) rfl
          have : c' = c := by have := c1 x c' hc'; rw [hc] at this; exact (Option.some.inj this).symm
          subst this
          exact ⟨c', hc', ic.keeps old⟩
  cell := fun x c hc => let ⟨v, hv⟩ := I.cell x c (c1 x c hc); ⟨v, hv.keeps old⟩
  free := I.fresh
  freeC := fun x c hc => I.freeC x c (c1 x c hc)
  pin := fun p hp => nomatch hp
  hok := I.hok.kept old
  len := by
    show (blkStart own fv σ).length = N'.length
    unfold blkStart
    rw [List.length_append, List.length_replicate, List.length_map, sc.len]
end

/-- W: the invariant by the turn and a measure; acc: where the new list stands -/
def compWalk (J : It) (H1 : Hp) (σ0 : St) (g : TG) (te : TE) (Q : Addr → Hp → Prop) : Prop :=
  ∀ acc, H1 acc = none → ∃ W : Nat → Nat → St → Hp → Prop, (∃ m, W 0 m σ0 (upd H1 acc (.lst []))) ∧ ∀ i m σ' H', W i m σ' H' →
    (J.stop i H' ∧ Q acc H') ∨ (J.go i H' ∧ ∀ x H2, J.yld i H' x H2 → g x σ' H2 fun σ2 H3 => te σ2 H3 fun y H4 => ∃ ys, H4 acc = some (.lst ys) ∧ ys.length < sizeLine ∧ ∃ m', m' < m ∧ W (i + 1) m' σ2 (upd H4 acc (.lst (ys ++ [y]))))
def tComp (wi : TI) (own : Nat) (fv : List Nat) (g : TG) (te : TE) : TE := fun σ H Q => wi σ H fun J H1 => compWalk J H1 (blkStart own fv σ) g te fun acc H' => Q (.ref acc) H'

section
variable {X : Cx} {elt tg iter : Expr} {scope : Scope} {N' : List Str} {own : Nat} {fv : List Nat} {cl : List (Str × Addr)} {pins : List (Addr × Obj)} {σ : St} {H2 : Hp} {s2 : Shared} {fp : List Addr} {it : Addr} {tn : Nat → Heap → Prop} {J : It} {pos : Pos} {g : TG} {te : TE} {Q : Addr → Hp → Prop}
theorem comp_block (hc : X.calm = true) (sc : BlkScope X scope N' own fv) (I2 : Inv X pins σ H2 s2) (T : Turn X.prog X.w X.K tg J fp it tn) (st2 : tn 0 s2.heap) (f2 : ∀ b ∈ fp, FpOk X pins H2 b)
    (c1 : ∀ n c, cl.lookup n = some c → X.env.cells.lookup n = some c) (c2 : ∀ y ∈ scope.names, y.2 = .free → ∃ c, cl.lookup y.1 = some c)
    (hg : ∀ cl s3 H3 ex, PG (X.blk scope N' cl s3 H3 ex) tg g) (he : ∀ cl s3 H3 ex, PE (X.blk scope N' cl s3 H3 ex) elt te)
    (hq : compWalk J H2 (blkStart own fv σ) g te Q) {RR : Value → Addr → Result → Shared → Prop}
    (hRR : ∀ acc C s' H' m, Inv X pins σ H' s' → Q acc H' → s'.heap.Ns C m → H' C = none → C ≠ X.env.locals → X.s₀.heap.objs.size ≤ C → (∀ x c, X.env.cells.lookup x = some c → c ≠ C) → (∀ p ∈ X.pn ++ pins, p.1 ≠ C) → RR (.ref acc) C (.ok .next) s') :
    wpAny (model X.prog X.w) X.A (newList []) (fun acc s3 => wpAny (model X.prog X.w) X.A (newFunctionEnv scope X.env.globals cl [] X.env.qual none .none (some X.env)) (fun cenv s4 =>
      codeAny (model X.prog X.w) X.A (.compStart (.ListComp elt [⟨tg, iter, [], 0⟩] scope pos) 0 (.ref it) acc { cenv with scope := relabel scope X.env }) (RR acc cenv.locals) s4) X.xe s3) X.xe s2 := by
  refine wpAny_newObj_type (wpAny_newFunctionEnv sc.nocell (by intro y hy; simp at hy) (fun h1 hns hsb => ?_) sc.kind)
  dsimp only at hns hsb ⊢
  have I3 : Inv X pins σ (upd H2 s2.heap.objs.size (.lst [])) { s2 with heap := s2.heap.push { cls := .type "list", dict := none, data := .seq ([] : List Value).toArray } } := I2.lnew (t' := s2.toks) .nil (Nat.zero_le _)
  have hacc : H2 s2.heap.objs.size = none := I2.fresh
  obtain ⟨W, ⟨m0, w0⟩, turn⟩ := hq s2.heap.objs.size hacc
  have flt : ∀ b ∈ fp, b < s2.heap.objs.size := fun b hb => by
    obtain ⟨o, e, _⟩ := T.obj _ _ st2 b hb
    exact Heap.lt_size e
  have f3 : ∀ b ∈ fp, FpOk X pins (upd H2 s2.heap.objs.size (.lst [])) b := fun b hb => ⟨by rw [upd_ne (Nat.ne_of_lt (flt b hb))]; exact (f2 b hb).1, (f2 b hb).2⟩
  have st3 : tn 0 (s2.heap.push { cls := .type "list", dict := none, data := .seq ([] : List Value).toArray }) := T.keep _ _ _ st2 fun b _ o e => Heap.get?_push_of_some _ e
  generalize hs3 : ({ s2 with heap := s2.heap.push { cls := .type "list", dict := none, data := .seq ([] : List Value).toArray } } : Shared) = s3 at I3 
  have eh : s2.heap.push { cls := .type "list", dict := none, data := .seq ([] : List Value).toArray } = s3.heap := by rw [← hs3]
  rw [eh] at hns hsb st3
  have old : ∀ b o, s3.heap.get? b = some o → h1.get? b = some o := fun b o e => hsb.extBut b o (Nat.ne_of_lt (Heap.lt_size e)) (Heap.get?_push_of_some _ e)
  have fo3 : ∀ b ∈ fp, b < s3.heap.objs.size := fun b hb => by
    obtain ⟨o, e, _⟩ := T.obj _ _ st3 b hb
    exact Heap.lt_size e
  have est : ({ s2 with heap := h1, toks := s2.toks + ([] : List (Str × Value)).length } : Shared) = { s3 with heap := h1, toks := s3.toks } := by rw [← hs3]; rfl
  have I4 : Inv (X.blk scope N' cl s3 (upd H2 s2.heap.objs.size (.lst [])) fp) [] (blkStart own fv σ) (upd H2 s2.heap.objs.size (.lst [])) { s3 with heap := h1, toks := s3.toks } :=
    blk_inv sc I3 f3 fo3 c1 c2 hns old
  have st4 : tn 0 h1 := T.keep _ _ _ st3 fun b _ o e => old b o e
  have stat : ∀ {H' : Hp}, (∀ b ∈ fp, H' b = none) → ∀ b ∈ fp, FpOk (X.blk scope N' cl s3 (upd H2 s2.heap.objs.size (.lst [])) fp) [] H' b := fun hn b hb =>
    ⟨hn b hb, Nat.ne_of_lt (fo3 b hb), fun hf => by
      rcases List.mem_cons.mp (I3.stkSub b hf) with h | h
      · exact (f3 b hb).2.1 h
      · exact (f3 b hb).2.2.1 h, .inl hb, fun x c hc' => (f3 b hb).2.2.2.2.1 x c (c1 x c hc'), fun p hp => nomatch hp⟩
  have loop : ∀ s4 : Shared, s4 = { s3 with heap := h1, toks := s3.toks } →
      codeAny (model X.prog X.w) X.A (.compLoop (.ListComp elt [⟨tg, iter, [], 0⟩] scope pos) 0 (.ref it) (.ref s2.heap.objs.size) (compEnvC scope cl s3.heap.objs.size X.env)) (RR (.ref s2.heap.objs.size) s3.heap.objs.size) s4 := by
    rintro s4 rfl
    refine codeAny_compLoop_own (fun n s' => ∃ i σ' H', Inv (X.blk scope N' cl s3 (upd H2 s2.heap.objs.size (.lst [])) fp) [] σ' H' s' ∧ tn i s'.heap ∧ (∀ b ∈ fp, H' b = none) ∧ W i n σ' H') ?_ m0
      ⟨0, _, _, I4, st4, fun b hb => (f3 b hb).1, w0⟩
    rintro n s5 ⟨i, σ5, H5, I5, st5, fr5, w5⟩
    rcases turn i n σ5 H5 w5 with ⟨stop, q⟩ | ⟨go, step⟩
    · refine thn (T.done (X.blk scope N' cl s3 (upd H2 s2.heap.objs.size (.lst [])) fp) rfl rfl rfl hc i [] s5 σ5 H5 _ I5 (stat fr5) st5 stop) fun r s6 ⟨hr, I6⟩ => ?_
      subst hr
      obtain ⟨m6, hn6, _⟩ := I6.loc
      refine hRR _ _ s6 H5 m6 (I3.call' (ch := fp) I6.os I6.base I6.hok I6.bare fun b hb => ⟨(f3 b hb).2.2.2.1, (f3 b hb).2.1, (f3 b hb).2.2.2.2.1, (f3 b hb).2.2.2.2.2⟩) q hn6 I6.free (Nat.ne_of_gt I3.lt) I3.sz (fun x c hc' => ?_) fun p hp => ?_
      · obtain ⟨v, o, ho, _⟩ := I3.cell x c hc'
        exact Nat.ne_of_lt (Heap.lt_size ho)
      · exact Nat.ne_of_lt (Heap.lt_size (I3.pin p hp).1)
    · refine thn (T.item (X.blk scope N' cl s3 (upd H2 s2.heap.objs.size (.lst [])) fp) rfl rfl rfl hc i [] s5 σ5 H5 _ I5 (stat fr5) st5 go) fun r s6 ⟨u, hr, h6⟩ => ?_
      subst hr
      refine thn h6 fun _ s7 ⟨x, H7, I7, r7, y7, st7, fr7⟩ => ?_
      have I7' := I7.pinned (stat fr7) (T.obj _ _ st7)
      refine wpAny_mono (hg cl s3 _ fp _ s7 σ5 H7 x u _ I7' r7 (step x H7 y7)) (fun _ s8 ⟨σ8, H8, I8, q8⟩ => ?_) fun _ _ z => z.elim
      refine wpAny_mono (he cl s3 _ fp _ s8 σ8 H8 _ I8 q8) (fun v s9 ⟨y, H9, I9, r9, ys, e9, z9, m', hm', w9⟩ => ?_) fun _ _ z => z.elim
      refine wpAny_mono (mt_append (X := X.blk scope N' cl s3 (upd H2 s2.heap.objs.size (.lst [])) fp) _ s9 σ8 H9 (.ref s2.heap.objs.size) [y] (.ref s2.heap.objs.size) [v] (fun _ H' => ∃ m', m' < n ∧ W (i + 1) m' σ8 H') I9 rfl (.cons r9 .nil) ⟨_, ys, y, rfl, rfl, e9, z9, m', hm', w9⟩) (fun _ s10 ⟨_, H10, I10, _, m10, hm10, w10⟩ => ?_) fun _ _ z => z.elim
      refine ⟨m10, hm10, i + 1, σ8, H10, I10.unpinned (pl := pinsAt fp s7.heap), T.keep _ _ _ st7 fun b hb o e => (I10.pin (b, o) (List.mem_append_right _ (List.mem_append_right _ (mem_pinsAt hb e)))).1, fun b hb => ?_, w10⟩
      obtain ⟨o, e, d⟩ := T.obj _ _ st7 b hb
      exact (I10.pin (b, o) (List.mem_append_right _ (List.mem_append_right _ (mem_pinsAt hb e)))).2.1
  rw [est]
  rw [eh]
  exact codeAny_compStart_list (loop _ rfl) (T.self _ 0 _ _ _ st4 (loop _ rfl))

theorem pe_comp {wi : TI} (hc : X.calm = true) (sc : BlkScope X scope N' own fv) (hi : PI X tg iter wi)
    (hg : ∀ cl s3 H3 ex, PG (X.blk scope N' cl s3 H3 ex) tg g) (he : ∀ cl s3 H3 ex, PE (X.blk scope N' cl s3 H3 ex) elt te)
    (hs : ∀ x, foldedSetIterable iter X.env x = pure x := by intro _; rfl) : PE X (.ListComp elt [⟨tg, iter, [], 0⟩] scope pos) (tComp wi own fv g te) := by
  intro pins s σ H Q I h
  obtain ⟨cl, hcl, c1, c2⟩ := closure_ex (scope := scope) (env := X.env) fun y hy hf => I.ok.has _ (sc.free y hy hf)
  rw [eval_ListComp]
  refine wpAny_comprehension_free (use := none) rfl hs hcl sc.kind sc.names (thn (hi pins s σ H _ I h) fun v s1 h1 => thn h1 fun itv s2 h2 => ?_)
  obtain ⟨it, fp, tn, J, H2, e, I2, T, st2, f2, hq⟩ := h2
  subst e
  refine comp_block (RR := fun acc C => compPost (model X.prog X.w) X.A X.xe none (EP X pins σ Q) acc C) hc sc I2 T st2 f2 c1 c2 hg he hq ?_
  intro acc C s' H' m I' q hn hC hL h0 hcc hp
  exact ⟨m, hn, fun h' sb => ⟨.ref acc, H', I'.turned (t' := s'.toks) (fun b o hb e => sb.extBut b o hb e) hC hL (.inr h0) hcc hp, rfl, q⟩⟩

/-- name = [..], a comprehension that is stored into a plain local name of its own row -/
theorem ps_setComp {wi : TI} {i : Nat} {x : Str} {pos' spos : Pos} (hc : X.calm = true) (sc : BlkScope X scope N' own fv) (hN : X.N.Nodup) (hix : X.N[i]? = some x) (hx : Loc X.env.scope x) (hi : PI X tg iter wi)
    (hg : ∀ cl s3 H3 ex, PG (X.blk scope N' cl s3 H3 ex) tg g) (he : ∀ cl s3 H3 ex, PE (X.blk scope N' cl s3 H3 ex) elt te)
    (hsw : swapsWith (.ListComp elt [⟨tg, iter, [], 0⟩] scope pos) (some (.Name x pos')) spos.line X.env = pure true := by rfl)
    (hs : ∀ x, foldedSetIterable iter X.env x = pure x := by intro _; rfl)
    (hf : X.fn x = true ∨ X.env.scope.names.lookup x = some .local := by first | exact .inl rfl | exact .inr rfl | assumption) :
    PS X (.Assign [.Name x pos'] (.ListComp elt [⟨tg, iter, [], 0⟩] scope pos) spos) (tAsg (tComp wi own fv g te) (gName i)) := by
  intro pins s σ H D I h
  obtain ⟨cl, hcl, c1, c2⟩ := closure_ex (scope := scope) (env := X.env) fun y hy hf => I.ok.has _ (sc.free y hy hf)
  rw [exec_Assign_Name_used _ _ _ _ hsw]
  refine wpAny_bind (wpAny_standAt (wpAny_bind ?_))
  show wpAny _ X.A (do let _ ← comprehension (.ListComp elt [⟨tg, iter, [], 0⟩] scope pos) scope X.env _ (newList []) false (eval iter X.env) (some (assign (.Name x pos') X.env))) _ _ s
  refine wpAny_bind (wpAny_mono (wpAny_comprehension_free (use := some (assign (.Name x pos') X.env)) (Q := fun _ s' => SP X pins D .next s') rfl hs hcl sc.kind sc.names
    (thn (hi pins s σ H _ I h) fun v s1 h1 => thn h1 fun itv s2 h2 => ?_)) (fun _ s' hq => wpAny_pure (wpAny_pure hq)) fun _ _ e => e)
  obtain ⟨it, fp, tn, J, H2, e, I2, T, st2, f2, hq⟩ := h2
  subst e
  refine comp_block (RR := fun acc C => compPost (model X.prog X.w) X.A X.xe (some (assign (.Name x pos') X.env)) (fun _ s' => SP X pins D .next s') acc C) hc sc I2 T st2 f2 c1 c2 hg he hq ?_
  intro acc C s' H' m I' q hn hC hL h0 hcc hp
  show wpAny _ X.A (assign (.Name x pos') X.env (.ref acc)) _ _ _
  refine wpAny_assign_Name (store_ok2 I' hN hix hx (v := .ref acc) rfl (fun s'' I'' ⟨a, sb, ha⟩ => ?_) hf)
  have hCa : C ≠ a := by
    rcases ha with rfl | ha
    · exact hL
    · exact fun z => hcc x a ha z.symm
  refine ⟨m, hn.sameBut sb hCa, fun h' sb' => ⟨_, H', I''.turned (t' := s''.toks) (fun b o hb e => sb'.extBut b o hb e) hC hL (.inr h0) hcc hp, q⟩⟩
end
end L2

set_option Elab.async false
set_option linter.all false
set_option maxRecDepth 100000

namespace L2
open PySem PySem.Spec PyProof.Rows

/-! ### a list taken apart: a, b = xs -/
section
variable {prog : Program} {w : World} {A : Around} {E : Value → Shared → Prop}
end
section
variable {X : Cx} {pos : Pos}

/-! ### all(list of bools) -/
theorem vals_bl {bs : List Bool} {us : List Value} (r : Vals (bs.map V.bl) us) {i : Nat} {v : Value} (e : us[i]? = some v) : ∃ b, bs[i]? = some b ∧ v = .bool b := by
  have hl := r.length
  rw [List.length_map] at hl
  obtain ⟨hi, _⟩ := List.getElem?_eq_some_iff.mp e
  have hb : (bs.map V.bl)[i]? = some (.bl (bs[i]'(by omega))) := by
    rw [List.getElem?_map, List.getElem?_eq_getElem (by omega)]; rfl
  obtain ⟨u, hu, ru⟩ := r.get hb
  rw [e] at hu; cases hu
  exact ⟨_, List.getElem?_eq_getElem (by omega), ru⟩
theorem call_allB (hc : X.calm = true) : CallR X (.builtin "all") (fun xs H Q => ∃ (p : Addr) (bs : List Bool), xs = [.ref p] ∧ SqL X.K H p (bs.map V.bl) ∧ Q (.bl (bs.all id)) H) := by
  intro pins s σ H xs us Q I r h
  obtain ⟨p, bs, rfl, hq, q⟩ := h
  obtain ⟨u, rfl, ru⟩ := vals1 r
  cases ru
  obtain ⟨its, rv, pl, hz⟩ := I.list hq
  have hl := pl.isList
  have hlt : p < s.heap.objs.size := by obtain ⟨_, e, _⟩ := hl; exact Heap.lt_size e
  have hlen := rv.length
  rw [List.length_map] at hlen
  refine call_all_walk (wpAny_pyIter_list hl ?_)
  refine ⟨s.heap.objs.size, [s.heap.objs.size, p], [s.heap.objs.size], its.toArray.size, _, _, fun i => (bs[i]?).getD true, rfl, Walks.list (A := X.A.in1) (I.ok.hd hc) _ p (Nat.ne_of_lt hlt) its.toArray,
    ⟨⟨_, Heap.get?_push_size _ rfl, rfl, rfl⟩, hl.push _⟩, fun i v s' Q' E' hP hQ => ?_, fun h' tk hk => ?_⟩
  · obtain ⟨b, e, rfl⟩ := vals_bl rv (by simpa using hP)
    simp only [e, Option.getD_some] at hQ
    exact wpAny_truthy_bool hQ
  · have e : ((List.range its.toArray.size).all fun i => (bs[i]?).getD true) = bs.all id := by
      rw [List.size_toArray, ← hlen]; exact LSm.range_all bs
    rw [e]
    exact ⟨.bl (bs.all id), H, I.kept (t' := tk) (LSm.kept_iter hk), rfl, q⟩

/-! ### min, max of a tuple of ints -/
end

/-! ### data within one another: what a value stands for -/
mutual
inductive Rep (K : PySem.W.Frag) (H : Hp) : V → PyData → Prop
  | non : Rep K H .non .none
  | bl (b : Bool) : Rep K H (.bl b) (.bool b)
  | int (i : Int) : Rep K H (.int i) (.int i)
  | str (x : Str) : Rep K H (.str x) (.str x)
  | lst {a : Addr} {xs : List V} {ds : List PyData} : SqL K H a xs → RepAll K H xs ds → Rep K H (.ref a) (.list ds)
  | tup {a : Addr} {xs : List V} {ds : List PyData} : SqT K H a xs → RepAll K H xs ds → Rep K H (.ref a) (.tuple ds)
inductive RepAll (K : PySem.W.Frag) (H : Hp) : List V → List PyData → Prop
  | nil : RepAll K H [] []
  | cons {x : V} {d : PyData} {xs : List V} {ds : List PyData} : Rep K H x d → RepAll K H xs ds → RepAll K H (x :: xs) (d :: ds)
end
mutual
theorem Rep.reads {X : Cx} {pins : List (Addr × Obj)} {σ : St} {H : Hp} {s : Shared} (I : Inv X pins σ H s) : ∀ {v : V} {d : PyData} {u : Value}, Rep X.K H v d → RelV v u → ∃ as, Reads s.heap u d as
  | _, _, _, .non, r => by cases r; exact ⟨_, .none⟩
  | _, _, _, .bl b, r => by cases r; exact ⟨_, .bool b⟩
  | _, _, _, .int i, r => by obtain ⟨t, rfl⟩ := r; exact ⟨_, .int i t⟩
  | _, _, _, .str x, r => by obtain ⟨t, rfl⟩ := r; exact ⟨_, .str x t⟩
  | _, _, _, .lst h q, r => by
    cases r
    obtain ⟨its, rv, pl, _⟩ := I.list h
    obtain ⟨as, ra⟩ := RepAll.reads I q rv
    obtain ⟨o, e, c, n, d⟩ := pl.isList
    exact ⟨_, .list e c d ra⟩
  | _, _, _, .tup h q, r => by
    cases r
    obtain ⟨its, rv, pl, _⟩ := I.tuple h
    obtain ⟨as, ra⟩ := RepAll.reads I q rv
    obtain ⟨o, e, c, n, d⟩ := pl
    exact ⟨_, .tuple e c d ra⟩
theorem RepAll.reads {X : Cx} {pins : List (Addr × Obj)} {σ : St} {H : Hp} {s : Shared} (I : Inv X pins σ H s) : ∀ {xs : List V} {ds : List PyData} {us : List Value}, RepAll X.K H xs ds → Vals xs us → ∃ as, ReadsAll s.heap us ds as
  | _, _, _, .nil, .nil => ⟨_, .nil⟩
  | _, _, _, .cons h q, .cons r rr => by
    obtain ⟨as, ra⟩ := Rep.reads I h r
    obtain ⟨bs, rb⟩ := RepAll.reads I q rr
    exact ⟨_, .cons ra rb⟩
end
section
variable {X : Cx}
/-- == of two things that are data; the parts of one may be the parts of the other -/
def rEqD (K : PySem.W.Frag) (neg : Bool) : R2 := fun x y H Q => ∃ d e, Rep K H x d ∧ Rep K H y e ∧ d.canLay0 = true ∧ e.canLay0 = true ∧ d.depth ≤ 64 ∧ Q (.bl (if neg then !PyData.eqv d e else PyData.eqv d e)) H
theorem op_eqD (hu : X.A.units + 64 < cLine) : OpR X (compareOp .Eq) (rEqD X.K false) := by
  intro pins s σ H x y v u Q I rx ry h
  obtain ⟨d, e, rd, re, ld, le, dd, q⟩ := h
  obtain ⟨as, ra⟩ := rd.reads I rx
  obtain ⟨bs, rb⟩ := re.reads I ry
  exact SeqAt.compareEq_reads ra rb ld le (by omega) ⟨.bl _, H, I, rfl, q⟩
theorem op_neD (hu : X.A.units + 64 < cLine) : OpR X (compareOp .NotEq) (rEqD X.K true) := by
  intro pins s σ H x y v u Q I rx ry h
  obtain ⟨d, e, rd, re, ld, le, dd, q⟩ := h
  obtain ⟨as, ra⟩ := rd.reads I rx
  obtain ⟨bs, rb⟩ := re.reads I ry
  exact SeqAt.compareNe_reads ra rb ld le (by omega) ⟨.bl _, H, I, rfl, q⟩

/-! ### isinstance(x, bool), isinstance(x, int) of a flat value; x is True -/
theorem call_isi {T : String} : CallR X (.builtin "isinstance") (fun xs H Q => ∃ x t k, xs = [x, .ty T] ∧ TyOf X.K H x t ∧ PySem.W.kitOne X.K t (.type T) = some k ∧ Q (.bl k) H) := by
  intro pins s σ H xs us Q I r h
  obtain ⟨x, t, k, rfl, ty, e, q⟩ := h
  obtain ⟨u, w', rfl, r1, r2⟩ := vals2 r
  cases r2
  exact isinst_ok I r1 ty e fun tk => ⟨.bl k, H, I.tok _, rfl, q⟩
end
end L2

namespace L2
open PySem PySem.Spec PyProof.Rows
section
variable {X : Cx}

/-! ### the text of a block, by one look -/
def blkOk (sc0 : Scope) (N0 : List Str) (scope : Scope) (N' : List Str) (own : Nat) (fv : List Nat) : Bool :=
  decide (scope.kind = .function) && (scope.names.all fun y => decide (y.2 ≠ .cell)) && (scope.names.all fun y => decide (y.2 ≠ .local) || decide (scope.names.lookup y.1 = some .local)) &&
  (scope.names.all fun y => decide (y.2 ≠ .free) || (decide (sc0.names.lookup y.1 = some .cell) || decide (sc0.names.lookup y.1 = some .free))) && decide (N'.length = own + fv.length) &&
  ((List.range fv.length).all fun i => match N'[own + i]?, fv[i]? with
    | some x, some j => decide (N0[j]? = some x) && decide (scope.names.lookup x = some .free) && (decide (sc0.names.lookup x = some .cell) || decide (sc0.names.lookup x = some .free))
    | _, _ => false)
theorem blk_of {sc0 : Scope} {N0 : List Str} {scope : Scope} {N' : List Str} {own : Nat} {fv : List Nat} (h : blkOk sc0 N0 scope N' own fv = true) (h1 : X.env.scope = sc0) (h2 : X.N = N0) : BlkScope X scope N' own fv := by
  unfold blkOk at h
  simp only [Bool.and_eq_true, List.all_eq_true, decide_eq_true_eq, Bool.or_eq_true] at h
  obtain ⟨⟨⟨⟨⟨a1, a2⟩, a3⟩, a4⟩, a5⟩, a6⟩ := h
  refine ⟨a1, a2, fun y hy e => ?_, fun y hy e => ?_, a5, fun i => ?_⟩
  · rcases a3 y hy with z | z
    · exact absurd e z
    · exact z
  · rcases a4 y hy with z | z
    · exact absurd e z
    · show X.env.scope.names.lookup y.1 = _ ∨ X.env.scope.names.lookup y.1 = _
      rw [h1]; exact z
  · have := a6 i.val (List.mem_range.mpr i.isLt)
    split at this
    · rename_i x j e1 e2
      simp only [Bool.and_eq_true, decide_eq_true_eq, Bool.or_eq_true] at this
      refine ⟨x, e1, ?_, this.1.2, ?_⟩
      · have e3 : fv[i.val] = j := by
          have := List.getElem?_eq_getElem i.isLt
          rw [e2] at this; exact (Option.some.inj this).symm
        rw [h2, e3]; exact this.1.1
      · show X.env.scope.names.lookup x = _ ∨ X.env.scope.names.lookup x = _
        rw [h1]; exact this.2
    · cases this
end

/-! ### comprehensions: the forms one uses (one name, own slot 0, then the free names' values fvals) -/
theorem Same.put {H : Hp} {a : Addr} {o : HO} (h : H a = none) : Same H (upd H a o) := fun b u e => by
  rw [upd_ne (ne_of_none e h)]; exact e
end L2

namespace L2
open PySem PySem.Spec PyProof.Rows
section
variable {X : Cx} {e : Expr}
end
end L2

namespace L2
open PySem PySem.Spec PyProof.Rows
section
variable {X : Cx}
/-- // by a positive divisor of up to 512 bits -/
def CDivL (i j : Int) : Prop := 0 < j ∧ j < 2 ^ 512
theorem op_fdivL : OpR X (binaryOp .FloorDiv) (rI CDivL fun i j => .int (i / j)) := opI fun i j _ _ _ _ _ hc q => by
  have h0 := hc.1
  have h1 := hc.2
  refine floordiv_int (by omega) ?_ (.inl (PyProof.noPylong_of_log2 ?_))
  · rw [Int.fdiv_eq_ediv_of_nonneg i (by omega)]; exact q
  · have h2 : j.natAbs < 2 ^ 512 := by omega
    have h3 : j.natAbs ≠ 0 := by omega
    exact Nat.lt_trans ((Nat.log2_lt h3).mpr h2) (by decide)
end
end L2

namespace L2
open PySem PySem.Spec PyProof.Rows
section
variable {X : Cx} {K : PySem.W.Frag} {tg l : Expr} {tl : TE}
/-! ### the rules that speak of the written part, by its own letter (for a block) -/
end
end L2

set_option Elab.async false
set_option linter.all false
set_option maxRecDepth 100000

namespace L2
open PySem PySem.Spec PyProof.Rows
/-! ### zip of two lists, taken apart at once -/
section
variable {X : Cx} {pins : List (Addr × Obj)} {σ : St} {H : Hp} {s : Shared} {h' : Heap} {t' : Nat} {fp : List Addr}
end
section
variable {X : Cx} {K : PySem.W.Frag}
end

/-! ### comprehensions over zip(xs, ys), two own names -/
end L2

namespace L2
open PySem PySem.Spec PyProof.Rows
theorem pg_tupK {X : Cx} {K : PySem.W.Frag} {pos : Pos} {es : List Expr} {k : Nat} {t : TGs} {n : Nat} (hc : X.calm = true) (h : PGs X es t) (hK : X.K = K := by rfl)
    (hn : (assignEach es X.env).length = n := by rfl) (hst : (assignEach es X.env).findIdx? (·.1) = none := by rfl) : PG X (.Tuple es k pos) (gTup K n t) := by subst hK; exact pg_tup hc h hn hst
end L2


set_option Elab.async false
set_option linter.all false
set_option maxRecDepth 100000

namespace L2
open PySem PySem.Spec PyProof.Rows
section
variable {X : Cx} {K : PySem.W.Frag}
theorem call_sumI (hc : X.calm = true) (hK : X.K = K := by rfl) : CallR X (.builtin "sum") (fun xs H Q => ∃ (p : Addr) (ns : List Int), xs = [.ref p] ∧ SqL K H p (ns.map V.int) ∧ Q (.int ns.sum) H) := by
  subst hK
  intro pins s σ H xs us Q I r h
  obtain ⟨p, ns, rfl, hq, q⟩ := h
  obtain ⟨u, rfl, ru⟩ := vals1 r
  cases ru
  obtain ⟨its, rv, pl, hz⟩ := I.list hq
  have hl := pl.isList
  have hi := intsAre_of rv
  obtain ⟨ys, hx⟩ := hi.allInts.items
  have hl' : s.heap.IsList p (intItems ys) := hx ▸ hl
  refine sum_intListG (I.ok.hd hc) hl' fun h' tk t' hk => ?_
  have e1 : ns = ys.toList.map (·.1) := by
    rw [← nums_intItems, ← hx]
    exact (show numsOf its.toArray.toList = ns from hi.numsOf).symm
  have e2 : preSum (numAt ys) ys.size = ns.sum := by
    rw [preSum_eq, List.take_of_length_le (by simp), e1]
  rw [e2]
  exact ⟨.int ns.sum, H, I.kept (t' := tk) hk, ⟨t', rfl⟩, q⟩
end
end L2


set_option Elab.async false
set_option linter.all false
set_option maxRecDepth 100000

namespace L2
open PySem PySem.Spec PyProof.Rows
/-- a comprehension over a list of pairs, taken apart, whose parts change the heap -/
theorem comp_tupInv {K : PySem.W.Frag} {a : Addr} {xs : List V} {H1 : Hp} {fvals : St} {te : TE} {Q : Addr → Hp → Prop} (Pv : Addr → Nat → Hp → Prop) (hl : ∀ acc i H, Pv acc i H → SqL K H a xs)
    (h0 : ∀ acc, H1 acc = none → Pv acc 0 (upd H1 acc (.lst [])))
    (tup : ∀ (acc : Addr) (i : Nat) (x : V) (H : Hp), xs[i]? = some x → Pv acc i H → ∃ (T : Addr) (x1 x2 : V), x = .ref T ∧ H T = some (.tup [x1, x2]))
    (step : ∀ (acc : Addr) (i : Nat) (T : Addr) (x1 x2 : V) (H : Hp) (R : VK), xs[i]? = some (.ref T) → H T = some (.tup [x1, x2]) → Pv acc i H → (∀ v H2, (∃ zs, H2 acc = some (.lst zs) ∧ zs.length < sizeLine ∧ Pv acc (i + 1) (upd H2 acc (.lst (zs ++ [v])))) → R v H2) → te (some x1 :: some x2 :: fvals) H R)
    (q : ∀ acc H', H1 acc = none → Pv acc xs.length H' → Q acc H') :
    compWalk (Itl K a) H1 (none :: none :: fvals) (gTup K 2 (gCons (gName 0) (gCons (gName 1) gNil))) te Q := by
  intro acc hacc
  refine ⟨fun i m σ' H' => m = xs.length - i ∧ i ≤ xs.length ∧ (∃ o1 o2, σ' = o1 :: o2 :: fvals) ∧ Pv acc i H', ⟨_, rfl, Nat.zero_le _, ⟨none, none, rfl⟩, h0 acc hacc⟩, ?_⟩
  rintro i m σ' H' ⟨rfl, hi, ⟨o1, o2, rfl⟩, pv⟩
  by_cases hlt : i < xs.length
  · have hxi : xs[i]? = some xs[i] := List.getElem?_eq_getElem hlt
    refine .inr ⟨⟨xs, _, hl _ _ _ pv, hxi⟩, ?_⟩
    rintro v H2 ⟨rfl, hx⟩
    have hxx := hx xs (hl _ _ _ pv)
    obtain ⟨T, x1, x2, rfl, hT⟩ := tup acc i v H2 hxx pv
    refine ⟨T, _, rfl, SqT.of hT, rfl, _, _, rfl, _, _, rfl, rfl, ?_⟩
    exact step acc i T x1 x2 H2 _ hxx hT pv fun u H3 ⟨zs, e1, e2, e3⟩ => ⟨zs, e1, e2, xs.length - (i + 1), by omega, rfl, hlt, ⟨_, _, rfl⟩, e3⟩
  · have e : i = xs.length := by omega
    subst e
    exact .inl ⟨⟨xs, hl _ _ _ pv, Nat.le_refl _⟩, q acc H' hacc pv⟩
/-- a comprehension over range(n) whose parts change the heap -/
theorem comp_rngInv {lo : Int} {n : Nat} {H1 : Hp} {fvals : St} {te : TE} {Q : Addr → Hp → Prop} (Pv : Addr → Nat → Hp → Prop)
    (h0 : ∀ acc, H1 acc = none → Pv acc 0 (upd H1 acc (.lst [])))
    (step : ∀ (acc : Addr) (i : Nat) (H : Hp) (R : VK), i < n → Pv acc i H → (∀ v H2, (∃ zs, H2 acc = some (.lst zs) ∧ zs.length < sizeLine ∧ Pv acc (i + 1) (upd H2 acc (.lst (zs ++ [v])))) → R v H2) → te (some (.int (lo + i)) :: fvals) H R)
    (q : ∀ acc H', H1 acc = none → Pv acc n H' → Q acc H') : compWalk (Itr lo n) H1 (none :: fvals) (gName 0) te Q := by
  intro acc hacc
  refine ⟨fun i m σ' H' => m = n - i ∧ i ≤ n ∧ (∃ o, σ' = o :: fvals) ∧ Pv acc i H', ⟨_, rfl, Nat.zero_le _, ⟨none, rfl⟩, h0 acc hacc⟩, ?_⟩
  rintro i m σ' H' ⟨rfl, hi, ⟨o, rfl⟩, pv⟩
  by_cases hlt : i < n
  · refine .inr ⟨hlt, ?_⟩
    rintro x H2 ⟨rfl, rfl⟩
    exact step acc i _ _ hlt pv fun u H3 ⟨zs, e1, e2, e3⟩ => ⟨zs, e1, e2, n - (i + 1), by omega, rfl, hlt, ⟨_, rfl⟩, e3⟩
  · have e : i = n := by omega
    subst e
    exact .inl ⟨Nat.le_refl _, q acc H' hacc pv⟩
end L2




set_option Elab.async false
set_option linter.all false
set_option maxRecDepth 100000

namespace L2
open PySem PySem.Spec PyProof.Rows
/-! ### a comprehension with one test -/
section
variable {prog : Program} {w : World} {A : Around} {R : Result → Shared → Prop} {s : Shared}
end

def compWalkIf (J : It) (H1 : Hp) (σ0 : St) (g : TG) (tt : TT) (te : TE) (Q : Addr → Hp → Prop) : Prop :=
  ∀ acc, H1 acc = none → ∃ W : Nat → Nat → St → Hp → Prop, (∃ m, W 0 m σ0 (upd H1 acc (.lst []))) ∧ ∀ i m σ' H', W i m σ' H' →
    (J.stop i H' ∧ Q acc H') ∨ (J.go i H' ∧ ∀ x H2, J.yld i H' x H2 → g x σ' H2 fun σ2 H3 => tt σ2 H3 fun b H3' => if b = true then te σ2 H3' fun y H4 => ∃ ys, H4 acc = some (.lst ys) ∧ ys.length < sizeLine ∧ ∃ m', m' < m ∧ W (i + 1) m' σ2 (upd H4 acc (.lst (ys ++ [y])))
      else ∃ m', m' < m ∧ W (i + 1) m' σ2 H3')

section
variable {X : Cx} {elt tg iter c : Expr} {scope : Scope} {N' : List Str} {own : Nat} {fv : List Nat} {cl : List (Str × Addr)} {pins : List (Addr × Obj)} {σ : St} {H2 : Hp} {s2 : Shared} {fp : List Addr} {it : Addr} {tn : Nat → Heap → Prop} {J : It} {pos : Pos} {g : TG} {tt : TT} {te : TE} {Q : Addr → Hp → Prop}

end
end L2
namespace L2
open PySem PySem.Spec PyProof.Rows
end L2


set_option Elab.async false
set_option linter.all false
set_option maxRecDepth 100000

namespace L2
open PySem PySem.Spec PyProof.Rows
section
variable {X : Cx} {K : PySem.W.Frag}
/-- an int, a text, a tuple -/
inductive TyS (H : Hp) : V → String → Prop where
  | int (i : Int) : TyS H (.int i) "int"
  | str (x : Str) : TyS H (.str x) "str"
  | tup {a : Addr} {xs : List V} (e : H a = some (.tup xs)) : TyS H (.ref a) "tuple"
/-- isinstance(x, (A, B, ..)), the classes built-in ones -/
theorem call_isiT : CallR X (.builtin "isinstance") (fun xs H Q => ∃ (x : V) (t : String) (k : Bool) (p : Addr) (Ts : List String), xs = [x, .ref p] ∧ TyS H x t ∧ H p = some (.tup (Ts.map V.ty)) ∧ PySem.W.kitAny X.K (.type t) (Ts.map Value.type) = some k ∧ Q (.bl k) H) := by
  intro pins s σ H xs us Q I r h
  obtain ⟨x, t, k, p, Ts, rfl, ty, hp, e, q⟩ := h
  obtain ⟨u, w', rfl, r1, r2⟩ := vals2 r
  cases r2
  obtain ⟨its, rv, pl, _⟩ := I.tuple (SqT.of hp)
  have pl' : s.heap.IsTuple p its.toArray := pl
  obtain ⟨⟨cls, dd, data, sl⟩, ho, hc, n, hd⟩ := id pl'
  simp only at hc hd
  subst hc hd
  have eits : ∀ (Ts : List String) (its : List Value), Vals (Ts.map V.ty) its → its = Ts.map Value.type := fun Ts => by
    induction Ts with
    | nil => intro its rv; cases rv; rfl
    | cons T r ih =>
      intro its rv
      cases rv with
      | cons h t =>
        cases h
        show _ :: _ = _ :: _
        rw [ih _ t]
  have ei := eits Ts its rv
  subst ei
  have fin : ∀ tk, EP X pins σ Q (.bool k) { s with toks := tk } := fun tk => ⟨.bl k, H, I.tok _, rfl, q⟩
  cases ty with
  | int i => obtain ⟨t, q⟩ := (show ∃ t, u = Value.int i t from r1); cases q; exact PySem.W.kia_tup PySem.W.kitx_int I.kIn True.intro ho e (fun z => nomatch z) fin
  | str y => obtain ⟨t, q⟩ := (show ∃ t, u = Value.str y t from r1); cases q; exact PySem.W.kia_tup PySem.W.kitx_str I.kIn True.intro ho e (fun z => nomatch z) fin
  | @tup a xs ea =>
    cases (show u = Value.ref a from r1)
    obtain ⟨its1, _, p1, _⟩ := I.tuple (SqT.of ea)
    obtain ⟨o1, h1, c1, _⟩ := (show s.heap.IsTuple a its1.toArray from p1)
    exact PySem.W.kia_tup PySem.W.kitx_tuple I.kIn ⟨o1, h1, c1⟩ ho e (fun z => nomatch z) fin
end
end L2
namespace L2
open PySem PySem.Spec PyProof.Rows
section
variable {X : Cx} {K : PySem.W.Frag}
end
end L2













set_option Elab.async false
set_option linter.all false
set_option maxRecDepth 100000
namespace L2
open PySem PySem.Spec PyProof.Rows
section
variable {X : Cx}
/-- x * n -/
def repS (x : Str) (n : Int) : Str := if n < 1 then Str.empty else if (n == 1 || x.length == 0) = true then x else ⟨(List.replicate n.toNat x.cps).foldl (· ++ ·) #[]⟩
theorem fold_size (c : Array Nat) : ∀ (m : Nat) (a : Array Nat), ((List.replicate m c).foldl (· ++ ·) a).size = a.size + m * c.size
  | 0, a => by simp
  | m + 1, a => by
    rw [List.replicate_succ, List.foldl_cons, fold_size c m, Array.size_append, Nat.succ_mul]; omega
theorem repS_len (x : Str) (n : Int) : (repS x n).length ≤ x.length * n.toNat := by
  unfold repS
  split
  · exact Nat.zero_le _
  · split
    · rename_i h1 h2
      have : 1 ≤ n.toNat := by omega
      exact Nat.le_mul_of_pos_right _ this
    · show ((List.replicate n.toNat x.cps).foldl (· ++ ·) #[]).size ≤ _
      rw [fold_size, Nat.mul_comm]
      show 0 + x.cps.size * n.toNat ≤ x.cps.size * n.toNat
      omega
theorem op_rep_str : OpR X (binaryOp .Mult) (fun x y H Q => ∃ z n, x = .str z ∧ y = .int n ∧ -1000 ≤ n ∧ n ≤ 1000 ∧ z.length ≤ 1000 ∧ Q (.str (repS z n)) H) := by
  intro pins s σ H x y v u Q I rx ry h
  obtain ⟨z, n, rfl, rfl, h1, h2, h3, q⟩ := h
  obtain ⟨t, rfl⟩ := rx
  obtain ⟨t', rfl⟩ := ry
  have sl := sizeLine_eq
  have hz : z.length * n.toNat ≤ 1000 * 1000 := Nat.mul_le_mul h3 (by omega)
  refine P.mul_str (by simp; omega) (fun a b => ?_) (fun a b => ?_) ?_
  · have h5 : (1000 : Int) ≤ (2 ^ 63 - 1) / n := by
      rw [Int.le_ediv_iff_mul_le (by omega)]
      omega
    omega
  · unfold Builtin.Str.tooLong; simp; omega
  · have fin : ∀ (u : Tok) (tk : Nat), EP X pins σ Q (.str (repS z n) u) { s with toks := tk } := fun u tk => ⟨.str _, H, I.tok _, ⟨_, rfl⟩, q⟩
    have hl := repS_len z n
    unfold repS at fin hl
    split
    · rename_i hn
      rw [if_pos hn] at fin hl
      exact ⟨by omega, fin _ _⟩
    · rename_i hn
      rw [if_neg hn] at fin hl
      split
      · rename_i hb
        rw [if_pos hb] at fin
        exact fin t s.toks
      · rename_i hb
        rw [if_neg hb] at fin hl
        exact ⟨by omega, fin _ _⟩
/-- x[lo:hi] of a text -/
theorem sl_str : SlR X (fun x lo hi H Q => ∃ z, x = .str z ∧ z.length ≤ sizeLine ∧ Q (.str (PySem.Txt.slice z lo hi)) H) := by
  intro pins s σ H x v vl vu lo hi sl Q I rx hs pl pu h
  obtain ⟨z, rfl, hz, q⟩ := h
  obtain ⟨t, rfl⟩ := rx
  refine ⟨"str", _, F.slot_str_getitem.lookup, typeIs_str _ _ _, ?_⟩
  have fin : ∀ (u : Tok) (tk : Nat), EP X pins σ Q (.str (PySem.Txt.slice z lo hi) u) { s with toks := tk } := fun u tk => ⟨.str _, H, I.tok _, ⟨_, rfl⟩, q⟩
  obtain ⟨o, e1, e2, e3⟩ := hs
  cases pl with
  | none =>
    cases pu with
    | none => exact wpAny_getItem_str_slice (l := none) (u := none) (st := none) ⟨o, e1, e2, e3⟩ rfl (post_val_or_str ⟨Nat.le_trans (PySem.Txt.slice_le z _ _) hz, fun t' k => fin t' k⟩)
    | int j uj => exact wpAny_getItem_str_slice (l := none) (u := some (j, uj)) (st := none) ⟨o, e1, e2, e3⟩ rfl (post_val_or_str ⟨Nat.le_trans (PySem.Txt.slice_le z _ _) hz, fun t' k => fin t' k⟩)
  | int i ui =>
    cases pu with
    | none => exact wpAny_getItem_str_slice (l := some (i, ui)) (u := none) (st := none) ⟨o, e1, e2, e3⟩ rfl (post_val_or_str ⟨Nat.le_trans (PySem.Txt.slice_le z _ _) hz, fun t' k => fin t' k⟩)
    | int j uj => exact wpAny_getItem_str_slice (l := some (i, ui)) (u := some (j, uj)) (st := none) ⟨o, e1, e2, e3⟩ rfl (post_val_or_str ⟨Nat.le_trans (PySem.Txt.slice_le z _ _) hz, fun t' k => fin t' k⟩)
end
end L2







set_option Elab.async false
set_option linter.all false
set_option maxRecDepth 100000
namespace L2
open PySem PySem.Spec PyProof.Rows
/-- over a list, with a test, one name -/
theorem compIf_lst {K : PySem.W.Frag} {a : Addr} {xs : List V} {H1 : Hp} {fvals : St} {tt : TT} {te : TE} {Q : Addr → Hp → Prop} (Pv : Addr → Nat → Hp → Prop) (hl : ∀ acc i H, Pv acc i H → SqL K H a xs)
    (h0 : ∀ acc, H1 acc = none → Pv acc 0 (upd H1 acc (.lst [])))
    (step : ∀ (acc : Addr) (i : Nat) (x : V) (H : Hp) (m : Nat) (W : Nat → Hp → Prop), xs[i]? = some x → Pv acc i H → (∀ H2, Pv acc (i + 1) H2 → ∃ m', m' < m ∧ W m' H2) →
      tt (some x :: fvals) H fun b H' => if b = true then te (some x :: fvals) H' fun y H4 => ∃ ys, H4 acc = some (.lst ys) ∧ ys.length < sizeLine ∧ ∃ m', m' < m ∧ W m' (upd H4 acc (.lst (ys ++ [y]))) else ∃ m', m' < m ∧ W m' H')
    (q : ∀ acc H', H1 acc = none → Pv acc xs.length H' → Q acc H') :
    compWalkIf (Itl K a) H1 (none :: fvals) (gName 0) tt te Q := by
  intro acc hacc
  refine ⟨fun i m σ' H' => m = xs.length - i ∧ i ≤ xs.length ∧ (∃ o1, σ' = o1 :: fvals) ∧ Pv acc i H', ⟨_, rfl, Nat.zero_le _, ⟨none, rfl⟩, h0 acc hacc⟩, ?_⟩
  rintro i m σ' H' ⟨rfl, hi, ⟨o1, rfl⟩, pv⟩
  by_cases hlt : i < xs.length
  · have hxi : xs[i]? = some xs[i] := List.getElem?_eq_getElem hlt
    refine .inr ⟨⟨xs, _, hl _ _ _ pv, hxi⟩, ?_⟩
    rintro v H2 ⟨rfl, hx⟩
    have hxx := hx xs (hl _ _ _ pv)
    exact step acc i v H2 (xs.length - i) (fun m' H'' => m' = xs.length - (i + 1) ∧ i + 1 ≤ xs.length ∧ (∃ p1, some v :: fvals = p1 :: fvals) ∧ Pv acc (i + 1) H'') hxx pv fun H3 e3 => ⟨xs.length - (i + 1), by omega, rfl, hlt, ⟨_, rfl⟩, e3⟩
  · have e : i = xs.length := by omega
    subst e
    exact .inl ⟨⟨xs, hl _ _ _ pv, Nat.le_refl _⟩, q acc H' hacc pv⟩
/-- over a list of tuples of three, all of it taken -/
theorem comp_tup3 {K : PySem.W.Frag} {a : Addr} {xs : List V} {H1 : Hp} {fvals : St} {te : TE} {Q : Addr → Hp → Prop} (Pv : Addr → Nat → Hp → Prop) (hl : ∀ acc i H, Pv acc i H → SqL K H a xs)
    (h0 : ∀ acc, H1 acc = none → Pv acc 0 (upd H1 acc (.lst [])))
    (tup : ∀ (acc : Addr) (i : Nat) (x : V) (H : Hp), xs[i]? = some x → Pv acc i H → ∃ (T : Addr) (x1 x2 x3 : V), x = .ref T ∧ H T = some (.tup [x1, x2, x3]))
    (step : ∀ (acc : Addr) (i : Nat) (T : Addr) (x1 x2 x3 : V) (H : Hp) (R : VK), xs[i]? = some (.ref T) → H T = some (.tup [x1, x2, x3]) → Pv acc i H → (∀ v H2, (∃ ys, H2 acc = some (.lst ys) ∧ ys.length < sizeLine ∧ Pv acc (i + 1) (upd H2 acc (.lst (ys ++ [v])))) → R v H2) → te (some x1 :: some x2 :: some x3 :: fvals) H R)
    (q : ∀ acc H', H1 acc = none → Pv acc xs.length H' → Q acc H') :
    compWalk (Itl K a) H1 (none :: none :: none :: fvals) (gTup K 3 (gCons (gName 0) (gCons (gName 1) (gCons (gName 2) gNil)))) te Q := by
  intro acc hacc
  refine ⟨fun i m σ' H' => m = xs.length - i ∧ i ≤ xs.length ∧ (∃ o1 o2 o3, σ' = o1 :: o2 :: o3 :: fvals) ∧ Pv acc i H', ⟨_, rfl, Nat.zero_le _, ⟨none, none, none, rfl⟩, h0 acc hacc⟩, ?_⟩
  rintro i m σ' H' ⟨rfl, hi, ⟨o1, o2, o3, rfl⟩, pv⟩
  by_cases hlt : i < xs.length
  · have hxi : xs[i]? = some xs[i] := List.getElem?_eq_getElem hlt
    refine .inr ⟨⟨xs, _, hl _ _ _ pv, hxi⟩, ?_⟩
    rintro v H2 ⟨rfl, hx⟩
    have hxx := hx xs (hl _ _ _ pv)
    obtain ⟨T, x1, x2, x3, rfl, hT⟩ := tup acc i v H2 hxx pv
    refine ⟨T, _, rfl, SqT.of hT, rfl, _, _, rfl, _, _, rfl, _, _, rfl, rfl, ?_⟩
    exact step acc i T x1 x2 x3 _ _ hxx hT pv fun u H3 ⟨ys, e1, e2, e3⟩ => ⟨ys, e1, e2, xs.length - (i + 1), by omega, rfl, hlt, ⟨_, _, _, rfl⟩, e3⟩
  · have e : i = xs.length := by omega
    subst e
    exact .inl ⟨⟨xs, hl _ _ _ pv, Nat.le_refl _⟩, q acc H' hacc pv⟩
end L2

set_option Elab.async false
set_option linter.all false
set_option maxRecDepth 100000
namespace L2
open PySem PySem.Spec PyProof.Rows
section
variable {X : Cx}
/-- an int, a text, a tuple, a list -/
inductive TyL (H : Hp) : V → String → Prop where
  | s {x : V} {t : String} : TyS H x t → TyL H x t
  | lst {a : Addr} {xs : List V} (e : H a = some (.lst xs)) : TyL H (.ref a) "list"
/-- isinstance(x, (A, B, ..)), x a list too -/
theorem call_isiL : CallR X (.builtin "isinstance") (fun xs H Q => ∃ (x : V) (t : String) (k : Bool) (p : Addr) (Ts : List String), xs = [x, .ref p] ∧ TyL H x t ∧ H p = some (.tup (Ts.map V.ty)) ∧ PySem.W.kitAny X.K (.type t) (Ts.map Value.type) = some k ∧ Q (.bl k) H) := by
  intro pins s σ H xs us Q I r h
  obtain ⟨x, t, k, p, Ts, rfl, ty, hp, e, q⟩ := h
  cases ty with
  | s ty => exact call_isiT pins s σ H _ us Q I r ⟨x, t, k, p, Ts, rfl, ty, hp, e, q⟩
  | @lst a xs ea =>
    obtain ⟨u, w', rfl, r1, r2⟩ := vals2 r
    cases r2
    obtain ⟨its, rv, pl, _⟩ := I.tuple (SqT.of hp)
    have pl' : s.heap.IsTuple p its.toArray := pl
    obtain ⟨⟨cls, dd, data, sl⟩, ho, hc, n, hd⟩ := id pl'
    simp only at hc hd
    subst hc hd
    have eits : ∀ (Ts : List String) (its : List Value), Vals (Ts.map V.ty) its → its = Ts.map Value.type := fun Ts => by
      induction Ts with
      | nil => intro its rv; cases rv; rfl
      | cons T r ih =>
        intro its rv
        cases rv with
        | cons h t =>
          cases h
          show _ :: _ = _ :: _
          rw [ih _ t]
    have ei := eits Ts its rv
    subst ei
    have fin : ∀ tk, EP X pins σ Q (.bool k) { s with toks := tk } := fun tk => ⟨.bl k, H, I.tok _, rfl, q⟩
    cases (show u = Value.ref a from r1)
    obtain ⟨its1, _, p1, _⟩ := I.list (SqL.of ea)
    obtain ⟨o1, n1, h1, c1, _⟩ := p1
    exact PySem.W.kia_tup PySem.W.kitx_list I.kIn ⟨o1, h1, c1⟩ ho e (fun z => nomatch z) fin
/-- x[i] of a list or a tuple -/
def rIxA (K : PySem.W.Frag) : R2 := fun x y H Q => rIxL K x y H Q ∨ rIxT K x y H Q
theorem ix_anyK {K : PySem.W.Frag} (h : X.K = K := by rfl) : IxR X (rIxA K) := by
  subst h
  intro value slice pins s σ H x y v u Q I rx ry hq he
  rcases hq with hq | hq
  · exact ix_list value slice pins s σ H x y v u Q I rx ry hq he
  · exact ix_tup value slice pins s σ H x y v u Q I rx ry hq he
end
theorem comp_tup2 {K : PySem.W.Frag} {a : Addr} {xs : List V} {H1 : Hp} {fvals : St} {te : TE} {Q : Addr → Hp → Prop} (Pv : Addr → Nat → Hp → Prop) (hl : ∀ acc i H, Pv acc i H → SqL K H a xs)
    (h0 : ∀ acc, H1 acc = none → Pv acc 0 (upd H1 acc (.lst [])))
    (tup : ∀ (acc : Addr) (i : Nat) (x : V) (H : Hp), xs[i]? = some x → Pv acc i H → ∃ (T : Addr) (x1 x2 : V), x = .ref T ∧ H T = some (.tup [x1, x2]))
    (step : ∀ (acc : Addr) (i : Nat) (T : Addr) (x1 x2 : V) (H : Hp) (R : VK), xs[i]? = some (.ref T) → H T = some (.tup [x1, x2]) → Pv acc i H → (∀ v H2, (∃ ys, H2 acc = some (.lst ys) ∧ ys.length < sizeLine ∧ Pv acc (i + 1) (upd H2 acc (.lst (ys ++ [v])))) → R v H2) → te (some x1 :: some x2 :: fvals) H R)
    (q : ∀ acc H', H1 acc = none → Pv acc xs.length H' → Q acc H') :
    compWalk (Itl K a) H1 (none :: none :: fvals) (gTup K 2 (gCons (gName 0) (gCons (gName 1) gNil))) te Q := by
  intro acc hacc
  refine ⟨fun i m σ' H' => m = xs.length - i ∧ i ≤ xs.length ∧ (∃ o1 o2, σ' = o1 :: o2 :: fvals) ∧ Pv acc i H', ⟨_, rfl, Nat.zero_le _, ⟨none, none, rfl⟩, h0 acc hacc⟩, ?_⟩
  rintro i m σ' H' ⟨rfl, hi, ⟨o1, o2, rfl⟩, pv⟩
  by_cases hlt : i < xs.length
  · have hxi : xs[i]? = some xs[i] := List.getElem?_eq_getElem hlt
    refine .inr ⟨⟨xs, _, hl _ _ _ pv, hxi⟩, ?_⟩
    rintro v H2 ⟨rfl, hx⟩
    have hxx := hx xs (hl _ _ _ pv)
    obtain ⟨T, x1, x2, rfl, hT⟩ := tup acc i v H2 hxx pv
    refine ⟨T, _, rfl, SqT.of hT, rfl, _, _, rfl, _, _, rfl, rfl, ?_⟩
    exact step acc i T x1 x2 _ _ hxx hT pv fun u H3 ⟨ys, e1, e2, e3⟩ => ⟨ys, e1, e2, xs.length - (i + 1), by omega, rfl, hlt, ⟨_, _, rfl⟩, e3⟩
  · have e : i = xs.length := by omega
    subst e
    exact .inl ⟨⟨xs, hl _ _ _ pv, Nat.le_refl _⟩, q acc H' hacc pv⟩
end L2

set_option Elab.async false
set_option linter.all false
set_option maxRecDepth 100000
set_option maxHeartbeats 4000000
namespace K46
open PySem L2
def top (i : Nat) : Stmt := PySem.Challenge.pw_gatetown_k46_statements_in_order.main.body.getD i (.Pass ⟨0, 0, 0, 0⟩)
abbrev s_with_inner : Stmt := top 1
abbrev s_statements : Stmt := top 2
abbrev s_law_cell_at : Stmt := top 4
abbrev s_law_mixed : Stmt := top 5
abbrev s_law_tap : Stmt := top 6
abbrev s_law_next : Stmt := top 7
abbrev s_law_number : Stmt := top 8
abbrev s_law_expr : Stmt := top 9
abbrev s_law_titles : Stmt := top 10
abbrev s_law_vars : Stmt := top 11
abbrev s_law_statement : Stmt := top 12
abbrev s_law_body : Stmt := top 13
abbrev s_law_many : Stmt := top 14
abbrev s_law_tree : Stmt := top 15
abbrev s_law_same : Stmt := top 16
abbrev s_law_all : Stmt := top 17
abbrev s_law : Stmt := top 18
/-! ### the mirror -/
structure NetD where
  ins : Int
  keeps : Int
  gates : List (Int × Int)
  nexts : List Int
  outs : List Int
def GateAt (H : Hp) (v : V) (p : Int × Int) : Prop := ∃ q, v = .ref q ∧ H q = some (.tup [.int p.1, .int p.2])
structure NetAt (H : Hp) (v : V) (N : NetD) : Prop where
  ex : ∃ (p g n o : Addr) (gs : List V), v = .ref p ∧ H p = some (.tup [.int N.ins, .int N.keeps, .ref g, .ref n, .ref o]) ∧ H g = some (.lst gs) ∧ Paired (GateAt H) gs N.gates ∧
    H n = some (.lst (N.nexts.map V.int)) ∧ H o = some (.lst (N.outs.map V.int))
  sm : N.gates.length ≤ 1000 ∧ N.nexts.length ≤ 1000 ∧ N.outs.length ≤ 1000

structure Fn (K : PySem.W.Frag) (mg : Str → Option Value) (x : Str) (st : Stmt) (ps : List Str) (a : Addr) (fd : FuncData) : Prop where
  F : Fun K x x st a fd
  m : mg x = some (.ref a)
  b : Binds K fd ps []
structure Bt (mg : Str → Option Value) : Prop where
  b_len : mg "len" = none
  b_range : mg "range" = none
  b_list : mg "list" = none
  b_isinstance : mg "isinstance" = none
  b_int : mg "int" = none
  b_tuple : mg "tuple" = none
  b_bool : mg "bool" = none
  b_str : mg "str" = none
  b_sum : mg "sum" = none
  b_all : mg "all" = none
structure Ct (K : PySem.W.Frag) (mg : Str → Option Value) : Prop where
theorem cmul_l {i j : Int} (h1 : -18446744073709551616 < i) (h2 : i < 18446744073709551616) : CMul i j := .inl ⟨by omega, by omega⟩
theorem cpow_of {i j : Int} (h0 : 0 ≤ j) (h1 : j ≤ 1000000) (h2 : -18446744073709551616 < i) (h3 : i < 18446744073709551616) : CPow i j := ⟨h0, h1, by omega⟩
structure Small (N : NetD) : Prop where
  g : N.gates.length ≤ 900
  n : N.nexts.length ≤ 100
  o : N.outs.length ≤ 100
  i : N.ins ≤ 100
section
variable {X : Cx}
end
/-- numbers, each from 0 on and below its size -/
structure Rg (ss r : List Int) : Prop where
  len : r.length = ss.length
  bd : ∀ (j : Nat) (s : Int), ss[j]? = some s → 0 ≤ r.getD j 0 ∧ r.getD j 0 < s
/-- all stays but the list at l -/
def Kl (l : Addr) (H H' : Hp) : Prop := ∀ b o, H b = some o → b ≠ l → H' b = some o
theorem Kl.one {l : Addr} {o : HO} {H : Hp} : Kl l H (upd H l o) := fun b o' e n => by rw [upd_ne n]; exact e
theorem Kl.same {l : Addr} {H0 H H' : Hp} (s : Same H0 H) (n : H0 l = none) (k : Kl l H H') : Same H0 H' := fun b o e => k b o (s b o e) (ne_of_none e n)
end K46

set_option Elab.async false
set_option linter.all false
set_option maxRecDepth 100000
set_option maxHeartbeats 4000000
namespace K46
open PySem L2
theorem itDP {c : Prop} [Decidable c] {A B : Prop} (e : c) (h : A) : if decide c = true then A else B := by rw [if_pos (decide_eq_true e)]; exact h
theorem itDN {c : Prop} [Decidable c] {A B : Prop} (e : ¬ c) (h : B) : if decide c = true then A else B := by rw [if_neg fun z => e (of_decide_eq_true z)]; exact h
theorem itBF {b : Bool} {A B : Prop} (e : b = false) (h : B) : if b = true then A else B := by rw [e]; exact h
theorem Kl.trans {l : Addr} {H H1 H2 : Hp} (a : Kl l H H1) (b : Kl l H1 H2) : Kl l H H2 := fun x o e n => b x o (a x o e n) n
theorem Kl.of {l : Addr} {H H' : Hp} (s : Same H H') : Kl l H H' := fun _ _ e _ => s _ _ e
/-! ### the tap, exactly -/
structure Tp where
  x : Int
  f : Int
  c : Nat
def TapIs (H : Hp) (a : Addr) (t : Tp) : Prop := H a = some (.lst [.int t.x, .int t.f, .int (t.c : Int)])
theorem TapIs.same {H H' : Hp} (s : Same H H') {a : Addr} {t : Tp} (h : TapIs H a t) : TapIs H' a t := s _ _ h
def mixM (n k : Int) : Int :=
  ((((n % 1000000007 + 7 * k + 1) * 48271 % 2147483647) * (((n % 1000000007 + 7 * k + 1) * 48271 % 2147483647) % 1009 + k + 3) % 998244353) * 69621 + ((n % 1000000007 + 7 * k + 1) * 48271 % 2147483647)) % 2147483629
def tapM (c : Int) : Tp := ⟨c / 2, if c < 10 ^ 18 then 1 else 0, 0⟩
def nextM (t : Tp) (size : Int) : Int × Tp := if t.f = 1 then (mixM t.x (5 + ((t.c : Int) + 1)) % size, ⟨t.x, t.f, t.c + 1⟩) else (t.x % size, ⟨t.x / size, t.f, t.c + 1⟩)
theorem next_bd (t : Tp) {size : Int} (h : 0 < size) : 0 ≤ (nextM t size).1 ∧ (nextM t size).1 < size := by
  unfold nextM
  split
  · exact ⟨Int.emod_nonneg _ (by omega), Int.emod_lt_of_pos _ h⟩
  · exact ⟨Int.emod_nonneg _ (by omega), Int.emod_lt_of_pos _ h⟩
theorem next_c (t : Tp) (size : Int) : (nextM t size).2.c = t.c + 1 := by
  unfold nextM
  split <;> rfl
def numberM (t : Tp) : Int × Tp := if (nextM t 6).1 = 5 then nextM (nextM t 6).2 4096 else (([0, 1, 7, 4095, 10] : List Int).getD (nextM t 6).1.toNat 0, (nextM t 6).2)
theorem number_c (t : Tp) : (numberM t).2.c ≤ t.c + 2 := by
  unfold numberM
  split
  · rw [next_c, next_c]; omega
  · show (nextM t 6).2.c ≤ _; rw [next_c]; omega
abbrev cMax : Nat := 90000000000000
def sp_mix : Sp := fun vs H Q _ => ∃ (c k : Int), vs = [.int c, .int k] ∧ 0 ≤ k ∧ k ≤ 1000000000000000 ∧ Q (.int (mixM c k)) H
def sp_tap : Sp := fun vs H Q _ => ∃ (c : Int), vs = [.int c] ∧ ∀ (l : Addr) (H' : Hp), H l = none → Same H H' → TapIs H' l (tapM c) → Q (.ref l) H'
def sp_next : Sp := fun vs H Q _ => ∃ (a : Addr) (t : Tp) (size : Int), vs = [.ref a, .int size] ∧ TapIs H a t ∧ t.c ≤ cMax ∧ 0 < size ∧ size < 1000000 ∧ ∀ (H' : Hp), Kl a H H' → TapIs H' a (nextM t size).2 → Q (.int (nextM t size).1) H'
def sp_number : Sp := fun vs H Q _ => ∃ (a : Addr) (t : Tp), vs = [.ref a] ∧ TapIs H a t ∧ t.c + 1 ≤ cMax ∧ ∀ (H' : Hp), Kl a H H' → TapIs H' a (numberM t).2 → Q (.int (numberM t).1) H'
theorem next_go {H : Hp} {a : Addr} {x fl : Int} {c : Nat} {q : Hp → Prop} (h : ∀ H1, Kl a H H1 → H1 a = some (.lst [V.int x, V.int fl, V.int ((c : Int) + 1)]) → q H1) : q (upd H a (.lst ([V.int x, V.int fl, V.int (c : Int)].set 2 (V.int ((c : Int) + 1))))) := h _ Kl.one upd_same
section
variable {P : Program} {w : World} {K : PySem.W.Frag} {mg : Str → Option Value} {base : Heap}
local macro_rules | `(tactic| walk_at "sd") => `(tactic| ((try dsimp only); first | omega | decide | exact cmul_l (by omega) (by omega) | exact cmul_r (by omega) (by omega) | exact ⟨by omega, by omega⟩ | exact cpow_of (by omega) (by omega) (by omega) (by omega) | (split <;> omega)))
local macro_rules | `(tactic| walk_at "rd") => `(tactic| repeat (first | refine ⟨_, rfl, ?_⟩ | refine ⟨_, _, rfl, rfl, ?_⟩ | refine And.intro (by walk_at "sd") ?_))
theorem sc_law_mixed : FnScope ["_law_number_here", "_law_k", "_law_once", "_law_twice"] ["_law_number_here", "_law_k"] (defScope s_law_mixed) := ⟨rfl, rfl, rfl, by decide +kernel, rfl, by decide +kernel, by decide +kernel⟩
theorem ok_law_mixed {f : Addr} {fd : FuncData} (F : Fun K "_law_mixed" "_law_mixed" s_law_mixed f fd) : FnOk P w K mg base CX0 1 f fd ["_law_number_here", "_law_k"] sp_mix := by
  refine F.ok sc_law_mixed (fun vs H Q E h => ?_) (fun cdv A outer s H vs Q E hr h => ?_)
  · obtain ⟨c, k, rfl, _⟩ := h; rfl
  · obtain ⟨c, k, rfl, h0, h1, q⟩ := h
    refine ⟨_, (pss_cons (ps_set (i := 2) sc_law_mixed.nd rfl (Or.inl rfl) (pe_op op_mod (pe_op op_mul (pe_op op_add (pe_op op_add (pe_op op_mod (pv 0) pe_int) (pe_op op_mul pe_int (pv 1))) pe_int) pe_int) pe_int))
      (pss_cons (ps_set (i := 3) sc_law_mixed.nd rfl (Or.inl rfl) (pe_op op_mod (pe_op op_mul (pv 2) (pe_op op_add (pe_op op_add (pe_op op_mod (pv 2) pe_int) (pv 1)) pe_int)) pe_int))
      (pss_one (ps_ret (pe_op op_mod (pe_op op_add (pe_op op_mul (pv 3) pe_int) (pv 2)) pe_int))))), ?_⟩
    walk_at "rd"
    exact q
theorem sc_law_tap : FnScope ["_law_cell"] ["_law_cell"] (defScope s_law_tap) := ⟨rfl, rfl, rfl, by decide +kernel, rfl, by decide +kernel, by decide +kernel⟩
theorem ok_law_tap {f : Addr} {fd : FuncData} (F : Fun K "_law_tap" "_law_tap" s_law_tap f fd) (T : Bt mg) : FnOk P w K mg base CX0 1 f fd ["_law_cell"] sp_tap := by
  refine F.ok sc_law_tap (fun vs H Q E h => ?_) (fun cdv A outer s H vs Q E hr h => ?_)
  · obtain ⟨c, rfl, _⟩ := h; rfl
  · obtain ⟨c, rfl, q⟩ := h
    have hs : sizeLine = 16777216 := sizeLine_eq
    refine ⟨_, (pss_one (ps_ret (pe_lst (pa_consN (pe_op op_fdiv (pv 0) pe_int) (pa_consN (pe_callTy call_int1 rfl T.b_int (by decide +kernel) (pa_consN (pe_cmpR op_lt (pv 0) (pe_op op_pow pe_int pe_int) (nomark _)) pa_nil)) (pa_consN pe_int pa_nil)))))), ?_⟩
    refine ⟨_, rfl, _, _, rfl, rfl, ⟨by decide, by decide⟩, _, rfl, _, _, rfl, rfl, cpow_of (by decide) (by decide) (by decide) (by decide), _, _, rfl, rfl, .inr ⟨_, rfl, (by show 3 ≤ sizeLine; omega), fun l hl => q l _ hl (Same.put hl) ?_⟩⟩
    show upd _ _ _ l = some (.lst [.int (c / 2), .int (if c < 10 ^ 18 then 1 else 0), .int ((0 : Nat) : Int)])
    rw [upd_same]
    by_cases h : c < 10 ^ 18
    · simp [h]
    · simp [h]
theorem sc_law_next : FnScope ["_law_tap_here", "_law_size", "_law_found"] ["_law_tap_here", "_law_size"] (defScope s_law_next) := ⟨rfl, rfl, rfl, by decide +kernel, rfl, by decide +kernel, by decide +kernel⟩
theorem ok_law_next {f f1 : Addr} {fd d1 : FuncData} (F : Fun K "_law_next" "_law_next" s_law_next f fd) (T_law_mixed : Fn K mg "_law_mixed" s_law_mixed ["_law_number_here", "_law_k"] f1 d1) : FnOk P w K mg base CX0 2 f fd ["_law_tap_here", "_law_size"] sp_next := by
  have G_law_mixed := ok_law_mixed (P := P) (w := w) (mg := mg) (base := base) T_law_mixed.F
  refine F.ok sc_law_next (fun vs H Q E h => ?_) (fun cdv A outer s H vs Q E hr h => ?_)
  · obtain ⟨a, t, size, rfl, _⟩ := h; rfl
  · obtain ⟨a, ⟨x, fl, c⟩, size, rfl, ea, hc, h0, h1, q⟩ := h
    have ea : H a = some (.lst [.int x, .int fl, .int (c : Int)]) := ea
    have hc : c ≤ 90000000000000 := hc
    refine ⟨_, (pss_cons (ps_asg (pe_op op_add (pe_ix ix_list (pv 0) pe_int (fun _ _ => rfl)) pe_int) (pg_sub (pv 0) pe_int set_list))
      (pss_cons (ps_if (pt_cmpR op_eq (pe_ix ix_list (pv 0) pe_int (fun _ _ => rfl)) pe_int (nomark _))
        (pss_one (ps_ret (pe_op op_mod (pe_call G_law_mixed (hr.mono (by decide)) rfl T_law_mixed.m T_law_mixed.F.kp T_law_mixed.b .nil pass0 (pa_consN (pe_ix ix_list (pv 0) pe_int (fun _ _ => rfl)) (pa_consN (pe_op op_add pe_int (pe_ix ix_list (pv 0) pe_int (fun _ _ => rfl))) pa_nil))) (pv 1))))
        pss_nil)
      (pss_cons (ps_set (i := 2) sc_law_next.nd rfl (Or.inl rfl) (pe_op op_mod (pe_ix ix_list (pv 0) pe_int (fun _ _ => rfl)) (pv 1)))
      (pss_cons (ps_asg (pe_op op_fdivL (pe_ix ix_list (pv 0) pe_int (fun _ _ => rfl)) (pv 1)) (pg_sub (pv 0) pe_int set_list))
      (pss_one (ps_ret (pv 2))))))), ?_⟩
    refine ⟨_, rfl, a, _, _, _, rfl, rfl, SqL.of ea, rfl, _, _, rfl, rfl, _, rfl, a, _, _, _, rfl, rfl, ea, rfl, ?_⟩
    refine next_go (q := fun H1 => _) (x := x) (fl := fl) (c := c) (H := H) (a := a) ?_
    intro H1 k1 e1
    refine ⟨_, rfl, a, _, _, _, rfl, rfl, SqL.of e1, rfl, rfl, _, rfl, ite2 (fun h => ?_) (fun h => ?_)⟩
    · have hf : fl = 1 := V.int.inj (of_decide_eq_true h)
      have hN : nextM ⟨x, fl, c⟩ size = (mixM x (5 + ((c : Int) + 1)) % size, ⟨x, fl, c + 1⟩) := by unfold nextM; rw [if_pos hf]
      rw [hN] at q
      refine ⟨_, rfl, a, _, _, _, rfl, rfl, SqL.of e1, rfl, _, rfl, a, _, _, _, rfl, rfl, SqL.of e1, rfl, _, _, rfl, rfl, x, _, rfl, by omega, by omega, ⟨_, rfl, _, _, rfl, rfl, h0, q H1 k1 e1⟩⟩
    · have hf : ¬ fl = 1 := fun z => h (decide_eq_true (congrArg V.int z))
      have hN : nextM ⟨x, fl, c⟩ size = (x % size, ⟨x / size, fl, c + 1⟩) := by unfold nextM; rw [if_neg hf]
      rw [hN] at q
      refine ⟨_, rfl, a, _, _, _, rfl, rfl, SqL.of e1, rfl, _, rfl, _, _, rfl, rfl, h0, ?_⟩
      refine ⟨_, rfl, a, _, _, _, rfl, rfl, SqL.of e1, rfl, _, rfl, _, _, rfl, rfl, ⟨h0, by omega⟩, _, rfl, a, _, _, _, rfl, rfl, e1, rfl, ?_⟩
      exact ⟨_, rfl, q _ (k1.trans Kl.one) upd_same⟩
theorem sc_law_number : FnScope ["_law_tap_here", "_law_way"] ["_law_tap_here"] (defScope s_law_number) := ⟨rfl, rfl, rfl, by decide +kernel, rfl, by decide +kernel, by decide +kernel⟩
theorem ok_law_number {f f1 f2 : Addr} {fd d1 d2 : FuncData} (F : Fun K "_law_number" "_law_number" s_law_number f fd) (T_law_mixed : Fn K mg "_law_mixed" s_law_mixed ["_law_number_here", "_law_k"] f1 d1) (T_law_next : Fn K mg "_law_next" s_law_next ["_law_tap_here", "_law_size"] f2 d2) : FnOk P w K mg base CX0 3 f fd ["_law_tap_here"] sp_number := by
  have G_law_next := ok_law_next (P := P) (w := w) (mg := mg) (base := base) T_law_next.F T_law_mixed
  refine F.ok sc_law_number (fun vs H Q E h => ?_) (fun cdv A outer s H vs Q E hr h => ?_)
  · obtain ⟨a, t, rfl, _⟩ := h; rfl
  · obtain ⟨a, t, rfl, ta, hc, q⟩ := h
    have hs : sizeLine = 16777216 := sizeLine_eq
    have hc : t.c + 1 ≤ 90000000000000 := hc
    unfold numberM at q
    have b6 := next_bd t (size := 6) (by decide)
    have c6 := next_c t 6
    refine ⟨_, (pss_cons (ps_set (i := 1) sc_law_number.nd rfl (Or.inl rfl) (pe_call G_law_next (hr.mono (by decide)) rfl T_law_next.m T_law_next.F.kp T_law_next.b .nil pass0 (pa_consN (pv 0) (pa_consN pe_int pa_nil))))
      (pss_cons (ps_if (pt_cmpR op_eq (pv 1) pe_int (nomark _))
        (pss_one (ps_ret (pe_call G_law_next (hr.mono (by decide)) rfl T_law_next.m T_law_next.F.kp T_law_next.b .nil pass0 (pa_consN (pv 0) (pa_consN pe_int pa_nil)))))
        pss_nil)
      (pss_one (ps_ret (pe_ix ix_list (pe_lst (pa_consN pe_int (pa_consN pe_int (pa_consN pe_int (pa_consN pe_int (pa_consN pe_int pa_nil)))))) (pv 1) (fun _ _ => rfl)))))), ?_⟩
    refine ⟨_, rfl, a, t, 6, rfl, ta, by show t.c ≤ 90000000000000; omega, by decide, by decide, fun H1 k1 t1 => ?_⟩
    obtain ⟨v, t', e⟩ : ∃ v t', nextM t 6 = (v, t') := ⟨_, _, rfl⟩
    rw [e] at q b6 c6 t1 ⊢
    refine ⟨_, rfl, rfl, _, rfl, ite2 (fun h5 => ?_) (fun h5 => ?_)⟩
    · have hv : v = 5 := V.int.inj (of_decide_eq_true h5)
      rw [if_pos hv] at q
      exact ⟨_, rfl, a, t', 4096, rfl, t1, by show t'.c ≤ 90000000000000; have c6 : t'.c = t.c + 1 := c6; omega, by decide, by decide, fun H2 k2 t2 => q H2 (k1.trans k2) t2⟩
    · have hv : v ≠ 5 := fun z => h5 (decide_eq_true (congrArg V.int z))
      rw [if_neg hv] at q
      refine ⟨(by show 5 ≤ sizeLine; omega), fun L hL => ?_⟩
      have b6 : 0 ≤ v ∧ v < 6 := b6
      have hv5 : v = 0 ∨ v = 1 ∨ v = 2 ∨ v = 3 ∨ v = 4 := by omega
      have hr : atI [V.int 0, V.int 1, V.int 7, V.int 4095, V.int 10] v = some (.int (([0, 1, 7, 4095, 10] : List Int).getD v.toNat 0)) := by
        rcases hv5 with rfl | rfl | rfl | rfl | rfl <;> rfl
      have y := Same.put (o := .lst [V.int 0, V.int 1, V.int 7, V.int 4095, V.int 10]) hL
      exact ⟨_, rfl, L, _, _, _, rfl, rfl, SqL.of upd_same, hr, q _ (k1.trans (Kl.of y)) (t1.same y)⟩
end
def sp_cell (K : PySem.W.Frag) : Sp := fun vs H Q _ => ∃ (a : Addr) (ns : List Int) (k : Nat), vs = [.ref a, .int (k : Int)] ∧ SqL K H a (ns.map V.int) ∧ Q (.int (ns.getD k 0)) H
section
variable {P : Program} {w : World} {K : PySem.W.Frag} {mg : Str → Option Value} {base : Heap}
theorem sc_law_cell_at : FnScope ["_law_script", "_law_k"] ["_law_script", "_law_k"] (defScope s_law_cell_at) := ⟨rfl, rfl, rfl, by decide +kernel, rfl, by decide +kernel, by decide +kernel⟩
theorem ok_law_cell_at {f : Addr} {fd : FuncData} (F : Fun K "_law_cell_at" "_law_cell_at" s_law_cell_at f fd) (T : Bt mg) : FnOk P w K mg base CX0 1 f fd ["_law_script", "_law_k"] (sp_cell K) := by
  refine F.ok sc_law_cell_at (fun vs H Q E h => ?_) (fun cdv A outer s H vs Q E hr h => ?_)
  · obtain ⟨a, ns, k, rfl, _⟩ := h; rfl
  · obtain ⟨a, ns, k, rfl, hq, q⟩ := h
    refine ⟨_, (pss_cons (ps_if (pt_cmpR op_lt (pv 1) (pe_callB call_len_seq rfl T.b_len (by decide +kernel) (pa_consN (pv 0) pa_nil)) (nomark _))
        (pss_one (ps_ret (pe_ix ix_list (pv 0) (pv 1) (fun _ _ => rfl))))
        pss_nil)
      (pss_one (ps_ret pe_int))), ?_⟩
    refine ⟨_, rfl, _, rfl, a, _, rfl, .inl hq, _, _, rfl, rfl, _, rfl, ite2 (fun h => ?_) (fun h => ?_)⟩
    · have hk : (k : Int) < (((ns.map V.int).length : Nat) : Int) := of_decide_eq_true h
      rw [List.length_map] at hk
      have hk : k < ns.length := by omega
      have e : ns.getD k 0 = ns[k] := by rw [List.getD_eq_getElem?_getD, List.getElem?_eq_getElem hk]; rfl
      rw [e] at q
      exact ⟨_, rfl, _, rfl, a, _, _, _, rfl, rfl, hq, atI_nat (by rw [List.getElem?_map, List.getElem?_eq_getElem hk]; rfl), q⟩
    · have hk : ¬ (k : Int) < (((ns.map V.int).length : Nat) : Int) := fun z => h (decide_eq_true z)
      rw [List.length_map] at hk
      have e : ns.getD k 0 = 0 := by rw [List.getD_eq_getElem?_getD, List.getElem?_eq_none (by omega)]; rfl
      rw [e] at q
      exact q
end
end K46

set_option Elab.async false
set_option linter.all false
set_option maxRecDepth 100000
set_option maxHeartbeats 4000000
namespace K46
open PySem L2
theorem rep_strs (K : PySem.W.Frag) (H : Hp) : ∀ ss : List Str, RepAll K H (ss.map V.str) (ss.map PyData.str)
  | [] => .nil
  | x :: r => .cons (.str x) (rep_strs K H r)
theorem lay_strs : ∀ {ss : List Str}, (∀ x ∈ ss, PyData.strOk x = true) → PyData.canLayAll0 (ss.map PyData.str) = true
  | [], _ => rfl
  | x :: r, h => by
    show (PyData.strOk x && PyData.canLayAll0 (r.map PyData.str)) = true
    rw [lay_strs fun y hy => h y (List.mem_cons_of_mem _ hy), h x List.mem_cons_self]; rfl
theorem dep_strs : ∀ ss : List Str, PyData.depthAll (ss.map PyData.str) ≤ 0
  | [] => Nat.le_refl _
  | x :: r => by
    show max 0 (PyData.depthAll (r.map PyData.str)) ≤ 0
    have := dep_strs r; omega
theorem eqv_empty {ss : List Str} (h : 0 < ss.length) : PyData.eqv (.list (ss.map PyData.str)) (.list []) = false := by
  cases ss with
  | nil => cases h
  | cons x r => rfl
theorem str_ix {ss : List Str} {i : Int} (h0 : 0 ≤ i) (h1 : i < (ss.length : Int)) : ss.getD i.toNat "" ∈ ss ∧ atI (ss.map V.str) i = some (.str (ss.getD i.toNat "")) := by
  obtain ⟨j, rfl⟩ : ∃ j : Nat, i = (j : Int) := ⟨i.toNat, by omega⟩
  have hj : j < ss.length := by omega
  rw [Int.toNat_natCast, List.getD_eq_getElem?_getD, List.getElem?_eq_getElem hj]
  exact ⟨List.getElem_mem hj, atI_nat (by rw [List.getElem?_map, List.getElem?_eq_getElem hj]; rfl)⟩
def opAt (i : Int) : Str := ⟨#[("+-&<=" : Str).cps[i.toNat]?.getD 0]⟩
theorem op_at {i : Int} (h0 : 0 ≤ i) (h1 : i < 5) : ∃ c : Nat, ("+-&<=" : Str).cps[i.toNat]? = some c ∧ (⟨#[c]⟩ : Str) = opAt i ∧ PyData.strOk (opAt i) = true := by
  have : i = 0 ∨ i = 1 ∨ i = 2 ∨ i = 3 ∨ i = 4 := by omega
  rcases this with rfl | rfl | rfl | rfl | rfl
  · exact ⟨43, by decide +kernel, by decide +kernel, by decide +kernel⟩
  · exact ⟨45, by decide +kernel, by decide +kernel, by decide +kernel⟩
  · exact ⟨38, by decide +kernel, by decide +kernel, by decide +kernel⟩
  · exact ⟨60, by decide +kernel, by decide +kernel, by decide +kernel⟩
  · exact ⟨61, by decide +kernel, by decide +kernel, by decide +kernel⟩
theorem op_len : (("+-&<=" : Str).length : Nat) = 5 := by decide +kernel
/-! ### data, kept while lists of numbers change -/
/-- an expression: tuples alone -/
inductive ExD : PyData → Prop
  | num (i : Int) : ExD (.tuple [.str "num", .int i])
  | nam (x : Str) : PyData.strOk x = true → ExD (.tuple [.str "name", .str x])
  | flg (b : Bool) : ExD (.tuple [.str "flag", .bool b])
  | pl (x : Str) {e : PyData} : PyData.strOk x = true → ExD e → ExD (.tuple [.str "at", .str x, e])
  | nt {e : PyData} : ExD e → ExD (.tuple [.str "not", e])
  | bin (o : Str) {a b : PyData} : PyData.strOk o = true → ExD a → ExD b → ExD (.tuple [.str o, a, b])
mutual
/-- data of tuples at a heap -/
inductive TD (H : Hp) : V → PyData → Prop
  | int (i : Int) : TD H (.int i) (.int i)
  | str (x : Str) : TD H (.str x) (.str x)
  | bl (b : Bool) : TD H (.bl b) (.bool b)
  | tup {a : Addr} {vs : List V} {ds : List PyData} (h : H a = some (.tup vs)) (r : TDs H vs ds) (hl : vs.length ≤ 10 := by simp) : TD H (.ref a) (.tuple ds)
inductive TDs (H : Hp) : List V → List PyData → Prop
  | nil : TDs H [] []
  | cons {x : V} {d : PyData} {xs : List V} {ds : List PyData} : TD H x d → TDs H xs ds → TDs H (x :: xs) (d :: ds)
end
mutual
theorem TD.keep {H H' : Hp} (k : ∀ b vs, H b = some (.tup vs) → H' b = some (.tup vs)) : ∀ {v : V} {d : PyData}, TD H v d → TD H' v d
  | _, _, .int i => .int i
  | _, _, .str x => .str x
  | _, _, .bl b => .bl b
  | _, _, .tup h r hl => .tup (k _ _ h) (TDs.keep k r) hl
theorem TDs.keep {H H' : Hp} (k : ∀ b vs, H b = some (.tup vs) → H' b = some (.tup vs)) : ∀ {v : List V} {d : List PyData}, TDs H v d → TDs H' v d
  | _, _, .nil => .nil
  | _, _, .cons a r => .cons (TD.keep k a) (TDs.keep k r)
end
theorem TD.same {H H' : Hp} (s : Same H H') {v : V} {d : PyData} (h : TD H v d) : TD H' v d := h.keep fun _ _ z => s _ _ z
theorem Kl.tup {l : Addr} {H H' : Hp} {xs : List V} (el : H l = some (.lst xs)) (k : Kl l H H') : ∀ (b : Addr) (ys : List V), H b = some (.tup ys) → H' b = some (.tup ys) := fun b ys e => k b _ e (ne_of e el (by intro z; cases z))
theorem TD.kl {l : Addr} {H H' : Hp} {xs : List V} (el : H l = some (.lst xs)) (k : Kl l H H') {v : V} {d : PyData} (h : TD H v d) : TD H' v d := h.keep (Kl.tup el k)
/-! ### expressions drawn -/
def exB (rec : Tp → PyData × Tp) (names : List Str) (wy : Int) (t : Tp) : PyData × Tp :=
  if wy = 0 then (.tuple [.str "num", .int (numberM t).1], (numberM t).2)
  else if wy = 1 then (.tuple [.str "name", .str (names.getD (nextM t names.length).1.toNat "")], (nextM t names.length).2)
  else if wy = 2 then (.tuple [.str "flag", .bool (decide (V.int (nextM t 2).1 = V.int 1))], (nextM t 2).2)
  else if wy = 3 then (.tuple [.str "at", .str (names.getD (nextM t names.length).1.toNat ""), (rec (nextM t names.length).2).1], (rec (nextM t names.length).2).2)
  else if wy = 4 then (.tuple [.str "not", (rec t).1], (rec t).2)
  else (.tuple [.str (opAt (nextM t 5).1), (rec (nextM t 5).2).1, (rec (rec (nextM t 5).2).2).1], (rec (rec (nextM t 5).2).2).2)
def exprM (names : List Str) : Nat → Tp → PyData × Tp
  | 0, t => exB (fun t => (.none, t)) names ((nextM t 9).1 % 3) (nextM t 9).2
  | n + 1, t => exB (exprM names n) names (if 60 < (nextM t 9).2.c then (nextM t 9).1 % 3 else (nextM t 9).1) (nextM t 9).2
def bd (n : Nat) : Nat := 5 * 2 ^ n
theorem bd_succ (n : Nat) : bd (n + 1) = 2 * bd n := by unfold bd; rw [Nat.pow_succ]; omega
theorem bd_pos (n : Nat) : 5 ≤ bd n := by unfold bd; have := Nat.one_le_two_pow (n := n); omega
theorem exB_c {rec : Tp → PyData × Tp} {names : List Str} {b : Nat} (hr : ∀ t, (rec t).2.c + 2 ≤ t.c + b) (hb : 5 ≤ b) (wy : Int) (t : Tp) : (exB rec names wy t).2.c + 3 ≤ t.c + 2 * b := by
  unfold exB
  split
  · have := number_c t; show (numberM t).2.c + 3 ≤ _; omega
  split
  · show (nextM t _).2.c + 3 ≤ _; rw [next_c]; omega
  split
  · show (nextM t _).2.c + 3 ≤ _; rw [next_c]; omega
  split
  · have := hr (nextM t names.length).2; rw [next_c] at this; show (rec _).2.c + 3 ≤ _; omega
  split
  · have := hr t; show (rec _).2.c + 3 ≤ _; omega
  · have h1 := hr (nextM t 5).2
    have h2 := hr (rec (nextM t 5).2).2
    rw [next_c] at h1
    show (rec _).2.c + 3 ≤ _; omega
theorem exB_c0 {rec : Tp → PyData × Tp} {names : List Str} {wy : Int} (h0 : 0 ≤ wy) (h : wy < 3) (t : Tp) : (exB rec names wy t).2.c ≤ t.c + 2 := by
  unfold exB
  split
  · exact number_c t
  split
  · show (nextM t _).2.c ≤ _; rw [next_c]; omega
  split
  · show (nextM t _).2.c ≤ _; rw [next_c]; omega
  · omega
theorem expr_c (names : List Str) : ∀ (n : Nat) (t : Tp), (exprM names n t).2.c + 2 ≤ t.c + bd n
  | 0, t => by
    have := exB_c0 (rec := fun t => (.none, t)) (names := names) (wy := (nextM t 9).1 % 3) (Int.emod_nonneg _ (by decide)) (Int.emod_lt_of_pos _ (by decide)) (nextM t 9).2
    rw [next_c] at this
    show (exB _ _ _ _).2.c + 2 ≤ t.c + 5
    omega
  | n + 1, t => by
    have := exB_c (names := names) (expr_c names n) (bd_pos n) (if 60 < (nextM t 9).2.c then (nextM t 9).1 % 3 else (nextM t 9).1) (nextM t 9).2
    rw [next_c t 9] at this
    rw [bd_succ]
    show (exB _ _ _ _).2.c + 2 ≤ _
    rw [next_c t 9]
    omega
/-- what an expression drawn is: written words, tuples, not deep -/
structure EOk (n : Nat) (d : PyData) : Prop where
  lay : PyData.canLay0 d = true
  dep : PyData.depth d ≤ n
end K46

set_option Elab.async false
set_option linter.all false
set_option maxRecDepth 100000
set_option maxHeartbeats 4000000
namespace K46
open PySem L2
theorem lay1 (x : Str) (d : PyData) (hx : PyData.strOk x = true) (hd : PyData.canLay0 d = true) : PyData.canLay0 (.tuple [.str x, d]) = true := by
  show (PyData.strOk x && (PyData.canLay0 d && true)) = true
  rw [hx, hd]; rfl
theorem lay2 (x : Str) (d e : PyData) (hx : PyData.strOk x = true) (hd : PyData.canLay0 d = true) (he : PyData.canLay0 e = true) : PyData.canLay0 (.tuple [.str x, d, e]) = true := by
  show (PyData.strOk x && (PyData.canLay0 d && (PyData.canLay0 e && true))) = true
  rw [hx, hd, he]; rfl
theorem ok_num : PyData.strOk "num" = true := by decide +kernel
theorem ok_name : PyData.strOk "name" = true := by decide +kernel
theorem ok_flag : PyData.strOk "flag" = true := by decide +kernel
theorem ok_at : PyData.strOk "at" = true := by decide +kernel
theorem ok_not : PyData.strOk "not" = true := by decide +kernel
theorem exB_ok {rec : Tp → PyData × Tp} {names : List Str} {m : Nat} (h0 : 0 < names.length) (hn : names.length < 1000000) (hok : ∀ x ∈ names, PyData.strOk x = true) {wy : Int} (hw0 : 0 ≤ wy) (hrec : wy < 3 ∨ ∀ t, EOk m (rec t).1) (t : Tp) : EOk (m + 1) (exB rec names wy t).1 := by
  have nm := fun t : Tp => hok _ (str_ix (ss := names) (i := (nextM t names.length).1) (next_bd t (by omega)).1 (next_bd t (by omega)).2).1
  have hrec : ¬ wy < 3 → ∀ t, EOk m (rec t).1 := fun h => hrec.resolve_left h
  unfold exB
  split
  · exact ⟨lay1 _ _ ok_num rfl, by show max 0 (max 0 0) + 1 ≤ m + 1; omega⟩
  split
  · exact ⟨lay1 _ _ ok_name (nm t), by show max 0 (max 0 0) + 1 ≤ m + 1; omega⟩
  split
  · exact ⟨lay1 _ _ ok_flag rfl, by show max 0 (max 0 0) + 1 ≤ m + 1; omega⟩
  have h3 := hrec (by omega)
  split
  · have := h3 (nextM t names.length).2
    exact ⟨lay2 _ _ _ ok_at (nm t) this.lay, by show max 0 (max 0 (max (PyData.depth _) 0)) + 1 ≤ m + 1; have := this.dep; omega⟩
  split
  · have := h3 t
    exact ⟨lay1 _ _ ok_not this.lay, by show max 0 (max (PyData.depth _) 0) + 1 ≤ m + 1; have := this.dep; omega⟩
  · have a1 := h3 (nextM t 5).2
    have a2 := h3 (rec (nextM t 5).2).2
    obtain ⟨_, _, _, oo⟩ := op_at (next_bd t (size := 5) (by decide)).1 (next_bd t (size := 5) (by decide)).2
    exact ⟨lay2 _ _ _ oo a1.lay a2.lay, by show max 0 (max (PyData.depth _) (max (PyData.depth _) 0)) + 1 ≤ m + 1; have := a1.dep; have := a2.dep; omega⟩
theorem expr_ok {names : List Str} (h0 : 0 < names.length) (hn : names.length < 1000000) (hok : ∀ x ∈ names, PyData.strOk x = true) : ∀ (n : Nat) (t : Tp), EOk (n + 1) (exprM names n t).1
  | 0, t => exB_ok h0 hn hok (Int.emod_nonneg _ (by decide)) (.inl (Int.emod_lt_of_pos _ (by decide))) _
  | n + 1, t => exB_ok (m := n + 1) h0 hn hok (by have := next_bd t (size := 9) (by decide); split; exact Int.emod_nonneg _ (by decide); exact this.1) (.inr (expr_ok h0 hn hok n)) _
def sp_expr (n : Nat) : Sp := fun vs H Q _ => ∃ (a nl : Addr) (names : List Str) (t : Tp), vs = [.ref a, .ref nl, .int (n : Int)] ∧ TapIs H a t ∧ t.c + bd n ≤ cMax ∧ H nl = some (.lst (names.map V.str)) ∧ 0 < names.length ∧ names.length ≤ 1000 ∧ (∀ x ∈ names, PyData.strOk x = true) ∧ a ≠ nl ∧
  ∀ (v : V) (H' : Hp), Kl a H H' → TapIs H' a (exprM names n t).2 → TD H' v (exprM names n t).1 → Q v H'
section
variable {P : Program} {w : World} {K : PySem.W.Frag} {mg : Str → Option Value} {base : Heap}
theorem sc_law_expr : FnScope ["_law_tap_here", "_law_names", "_law_deep", "_law_way", "_law_op", "_law_one"] ["_law_tap_here", "_law_names", "_law_deep"] (defScope s_law_expr) := ⟨rfl, rfl, rfl, by decide +kernel, rfl, by decide +kernel, by decide +kernel⟩
theorem expr_B {n : Nat} {prev : Sp} {rec : List Str → Tp → PyData × Tp} {f f1 f2 f3 : Addr} {fd d1 d2 d3 : FuncData} (T : Bt mg) (T_law_mixed : Fn K mg "_law_mixed" s_law_mixed ["_law_number_here", "_law_k"] f1 d1) (T_law_next : Fn K mg "_law_next" s_law_next ["_law_tap_here", "_law_size"] f2 d2) (T_law_number : Fn K mg "_law_number" s_law_number ["_law_tap_here"] f3 d3) (T_law_expr : Fn K mg "_law_expr" s_law_expr ["_law_tap_here", "_law_names", "_law_deep"] f fd)
    (hp : n = 0 ∨ ∃ m, n = m + 1 ∧ prev = sp_expr m ∧ rec = fun names => exprM names m) (G_law_expr : FnOk P w K mg base CX0 (n + 3) f fd ["_law_tap_here", "_law_names", "_law_deep"] prev) {cdv : Value} {A : Around} {outer : List Env} {s : Shared} {H : Hp} {E : XK} (hr : Room (n + 3) (A.deeper (PyProof.Rows.envOfC "_law_expr" (defScope s_law_expr) s.heap.objs.size f cdv))) :
    ∃ u, PSs (cxOf CX0 P w K mg base ["_law_tap_here", "_law_names", "_law_deep", "_law_way", "_law_op", "_law_one"] "_law_expr" (defScope s_law_expr) f cdv A outer s H E).nox ((defBody s_law_expr).drop 2) u ∧
      ∀ (D : Ends) (v4 v5 : Option V) (a nl : Addr) (names : List Str) (t : Tp) (wy : Int) (H : Hp), TapIs H a t → t.c + bd n ≤ cMax + 1 → H nl = some (.lst (names.map V.str)) → 0 < names.length → names.length ≤ 1000 → (∀ x ∈ names, PyData.strOk x = true) → a ≠ nl → 0 ≤ wy → wy < 9 → (n = 0 → wy < 3) →
        (∀ (v : V) (H' : Hp), Kl a H H' → TapIs H' a (exB (rec names) names wy t).2 → TD H' v (exB (rec names) names wy t).1 → D.rt v H') →
        u D [some (.ref a), some (.ref nl), some (.int (n : Int)), some (.int wy), v4, v5] H := by
  have G_law_next := ok_law_next (P := P) (w := w) (mg := mg) (base := base) T_law_next.F T_law_mixed
  have G_law_number := ok_law_number (P := P) (w := w) (base := base) T_law_number.F T_law_mixed T_law_next
  refine ⟨_, (pss_cons (ps_if (PW.pt (pw_or (pt_cmpR op_eq (pv 3) pe_int (nomark _)) (pw_or1 (PW.pt (pw_and (pt_cmpR op_eq (pv 3) pe_int (nomark _)) (pw_and1 (pt_cmpR (op_eqD (hr.units)) (pv 1) (pe_lst pa_nil) (nomark _))))))))
        (pss_one (ps_ret (pe_tup (pa_consN pe_str (pa_consN (pe_call G_law_number (hr.mono (by omega)) rfl T_law_number.m T_law_number.F.kp T_law_number.b .nil pass0 (pa_consN (pv 0) pa_nil)) pa_nil)))))
        pss_nil)
      (pss_cons (ps_if (pt_cmpR op_eq (pv 3) pe_int (nomark _))
        (pss_one (ps_ret (pe_tup (pa_consN pe_str (pa_consN (pe_ix ix_list (pv 1) (pe_call G_law_next (hr.mono (by omega)) rfl T_law_next.m T_law_next.F.kp T_law_next.b .nil pass0 (pa_consN (pv 0) (pa_consN (pe_callB call_len_seq rfl T.b_len (by decide +kernel) (pa_consN (pv 1) pa_nil)) pa_nil))) (fun _ _ => rfl)) pa_nil)))))
        pss_nil)
      (pss_cons (ps_if (pt_cmpR op_eq (pv 3) pe_int (nomark _))
        (pss_one (ps_ret (pe_tup (pa_consN pe_str (pa_consN (pe_cmpR op_eq (pe_call G_law_next (hr.mono (by omega)) rfl T_law_next.m T_law_next.F.kp T_law_next.b .nil pass0 (pa_consN (pv 0) (pa_consN pe_int pa_nil))) pe_int (nomark _)) pa_nil)))))
        pss_nil)
      (pss_cons (ps_if (PW.pt (pw_and (pt_cmpR op_eq (pv 3) pe_int (nomark _)) (pw_and1 (pt_cmpR (op_neD (hr.units)) (pv 1) (pe_lst pa_nil) (nomark _)))))
        (pss_one (ps_ret (pe_tup (pa_consN pe_str (pa_consN (pe_ix ix_list (pv 1) (pe_call G_law_next (hr.mono (by omega)) rfl T_law_next.m T_law_next.F.kp T_law_next.b .nil pass0 (pa_consN (pv 0) (pa_consN (pe_callB call_len_seq rfl T.b_len (by decide +kernel) (pa_consN (pv 1) pa_nil)) pa_nil))) (fun _ _ => rfl)) (pa_consN (pe_call G_law_expr (hr.mono (by omega)) rfl T_law_expr.m T_law_expr.F.kp T_law_expr.b .nil pass0 (pa_consN (pv 0) (pa_consN (pv 1) (pa_consN (pe_op op_sub (pv 2) pe_int) pa_nil)))) pa_nil))))))
        pss_nil)
      (pss_cons (ps_if (pt_cmpR op_eq (pv 3) pe_int (nomark _))
        (pss_one (ps_ret (pe_tup (pa_consN pe_str (pa_consN (pe_call G_law_expr (hr.mono (by omega)) rfl T_law_expr.m T_law_expr.F.kp T_law_expr.b .nil pass0 (pa_consN (pv 0) (pa_consN (pv 1) (pa_consN (pe_op op_sub (pv 2) pe_int) pa_nil)))) pa_nil)))))
        pss_nil)
      (pss_cons (ps_set (i := 4) sc_law_expr.nd rfl (Or.inl rfl) (pe_item_str pe_str (pe_call G_law_next (hr.mono (by omega)) rfl T_law_next.m T_law_next.F.kp T_law_next.b .nil pass0 (pa_consN (pv 0) (pa_consN pe_int pa_nil))) (fun _ _ => rfl)))
      (pss_cons (ps_set (i := 5) sc_law_expr.nd rfl (Or.inl rfl) (pe_call G_law_expr (hr.mono (by omega)) rfl T_law_expr.m T_law_expr.F.kp T_law_expr.b .nil pass0 (pa_consN (pv 0) (pa_consN (pv 1) (pa_consN (pe_op op_sub (pv 2) pe_int) pa_nil)))))
      (pss_one (ps_ret (pe_tup (pa_consN (pv 4) (pa_consN (pv 5) (pa_consN (pe_call G_law_expr (hr.mono (by omega)) rfl T_law_expr.m T_law_expr.F.kp T_law_expr.b .nil pass0 (pa_consN (pv 0) (pa_consN (pv 1) (pa_consN (pe_op op_sub (pv 2) pe_int) pa_nil)))) pa_nil))))))))))))), ?_⟩
  intro D v4 v5 a nl names t wy H ta hc en hn0 hn1 hok han w0 w1 wn q
  have hs : sizeLine = 16777216 := sizeLine_eq
  have b5 := bd_pos n
  have cm : cMax = 90000000000000 := rfl
  have ndn : PyData.depthAll (names.map PyData.str) + 1 ≤ 64 := by have := dep_strs names; omega
  have two : 2 ≤ sizeLine := by omega
  have hlen : (((names.map V.str).length : Nat) : Int) = (names.length : Int) := by rw [List.length_map]
  unfold exB at q
  refine ⟨_, rfl, rfl, _, rfl, ite2 (fun h0 => ?_) (fun h0 => ?_)⟩
  · have hw : wy = 0 := V.int.inj (of_decide_eq_true h0)
    rw [if_pos hw] at q
    refine iteT ⟨_, rfl, a, t, rfl, ta, by omega, fun H1 k1 t1 => ⟨two, fun p hp => ?_⟩⟩
    exact q _ _ (k1.trans (Kl.of (Same.put hp))) (t1.same (Same.put hp)) (.tup upd_same (.cons (.str _) (.cons (.int _) .nil)))
  have hw0 : wy ≠ 0 := fun z => h0 (decide_eq_true (congrArg V.int z))
  rw [if_neg hw0] at q
  refine ⟨_, rfl, rfl, _, rfl, ite2 (fun h1 => ?_) (fun h1 => ?_)⟩
  · have hw1 : wy = 1 := V.int.inj (of_decide_eq_true h1)
    rw [if_pos hw1] at q
    refine ⟨_, rfl, Nat.zero_le _, fun l0 hl0 => ?_⟩
    have y0 := Same.put (o := .lst []) hl0
    refine ⟨.list (names.map PyData.str), .list [], .lst (SqL.of (y0 _ _ en)) (rep_strs K _ names), .lst (SqL.of upd_same) .nil, lay_strs hok, rfl, ndn, _, rfl, ?_⟩
    rw [eqv_empty hn0]
    generalize upd H l0 (.lst []) = H1 at y0 ⊢
    refine iteF ⟨_, rfl, rfl, _, rfl, itDP (congrArg V.int hw1) ?_⟩
    refine ⟨_, rfl, _, rfl, _, rfl, nl, _, rfl, .inl (SqL.of (y0 _ _ en)), ?_⟩
    rw [hlen]
    refine ⟨a, t, _, rfl, ta.same y0, by omega, by omega, by omega, fun H2 k2 t2 => ?_⟩
    obtain ⟨_, ex⟩ := str_ix (ss := names) (next_bd t (size := names.length) (by omega)).1 (next_bd t (by omega)).2
    refine ⟨nl, _, _, _, rfl, rfl, SqL.of (k2 _ _ (y0 _ _ en) han.symm), ex, two, fun p hp => ?_⟩
    exact q _ _ (((Kl.of y0).trans k2).trans (Kl.of (Same.put hp))) (t2.same (Same.put hp)) (.tup upd_same (.cons (.str _) (.cons (.str _) .nil)))
  have hw1 : wy ≠ 1 := fun z => h1 (decide_eq_true (congrArg V.int z))
  rw [if_neg hw1] at q
  refine iteF ⟨_, rfl, rfl, _, rfl, itDN (fun z => hw1 (V.int.inj z)) ?_⟩
  refine ⟨_, rfl, rfl, _, rfl, ite2 (fun h2 => ?_) (fun h2 => ?_)⟩
  · have hw2 : wy = 2 := V.int.inj (of_decide_eq_true h2)
    rw [if_pos hw2] at q
    refine ⟨_, rfl, a, t, 2, rfl, ta, by omega, by decide, by decide, fun H2 k2 t2 => ⟨rfl, two, fun p hp => ?_⟩⟩
    exact q _ _ (k2.trans (Kl.of (Same.put hp))) (t2.same (Same.put hp)) (.tup upd_same (.cons (.str _) (.cons (.bl _) .nil)))
  have hw2 : wy ≠ 2 := fun z => h2 (decide_eq_true (congrArg V.int z))
  rw [if_neg hw2] at q
  rcases hp with h | ⟨m, rfl, rfl, rfl⟩
  · have := wn h; omega
  have bs := bd_succ m
  have bm := bd_pos m
  have ec := expr_c names m
  have em : [V.ref a, V.ref nl, V.int (((m + 1 : Nat) : Int) - 1)] = [V.ref a, V.ref nl, V.int (m : Int)] := by
    rw [show ((m + 1 : Nat) : Int) - 1 = (m : Int) by omega]
  have tl : ∀ {Hx : Hp} {tx : Tp}, TapIs Hx a tx → ∃ zs, Hx a = some (.lst zs) := fun h => ⟨_, h⟩
  refine ⟨_, rfl, rfl, _, rfl, ite2 (fun h3 => ?_) (fun h3 => ?_)⟩
  · have hw3 : wy = 3 := V.int.inj (of_decide_eq_true h3)
    rw [if_pos hw3] at q
    refine ⟨_, rfl, Nat.zero_le _, fun l0 hl0 => ?_⟩
    have y0 := Same.put (o := .lst []) hl0
    refine ⟨.list (names.map PyData.str), .list [], .lst (SqL.of (y0 _ _ en)) (rep_strs K _ names), .lst (SqL.of upd_same) .nil, lay_strs hok, rfl, ndn, _, rfl, ?_⟩
    rw [eqv_empty hn0]
    generalize upd H l0 (.lst []) = H1 at y0 ⊢
    refine iteT ⟨_, rfl, _, rfl, _, rfl, nl, _, rfl, .inl (SqL.of (y0 _ _ en)), ?_⟩
    rw [hlen]
    refine ⟨a, t, _, rfl, ta.same y0, by omega, by omega, by omega, fun H2 k2 t2 => ?_⟩
    obtain ⟨_, ex⟩ := str_ix (ss := names) (next_bd t (size := names.length) (by omega)).1 (next_bd t (by omega)).2
    have k02 := (Kl.of (l := a) y0).trans k2
    have cn := next_c t names.length
    refine ⟨nl, _, _, _, rfl, rfl, SqL.of (k02 _ _ en han.symm), ex, ?_⟩
    refine ⟨_, rfl, _, rfl, _, rfl, _, _, rfl, rfl, a, nl, names, _, em, t2, by omega, k02 _ _ en han.symm, hn0, hn1, hok, han, fun v' H3 k3 t3 he => ⟨(by show 3 ≤ sizeLine; omega), fun p hp => ?_⟩⟩
    exact q _ _ ((k02.trans k3).trans (Kl.of (Same.put hp))) (t3.same (Same.put hp)) (.tup upd_same (.cons (.str _) (.cons (.str _) (.cons (he.same (Same.put hp)) .nil))))
  have hw3 : wy ≠ 3 := fun z => h3 (decide_eq_true (congrArg V.int z))
  rw [if_neg hw3] at q
  refine iteF ⟨_, rfl, rfl, _, rfl, ite2 (fun h4 => ?_) (fun h4 => ?_)⟩
  · have hw4 : wy = 4 := V.int.inj (of_decide_eq_true h4)
    rw [if_pos hw4] at q
    refine ⟨_, rfl, _, rfl, _, rfl, _, _, rfl, rfl, a, nl, names, t, em, ta, by omega, en, hn0, hn1, hok, han, fun v' H3 k3 t3 he => ⟨two, fun p hp => ?_⟩⟩
    exact q _ _ (k3.trans (Kl.of (Same.put hp))) (t3.same (Same.put hp)) (.tup upd_same (.cons (.str _) (.cons (he.same (Same.put hp)) .nil)))
  have hw4 : wy ≠ 4 := fun z => h4 (decide_eq_true (congrArg V.int z))
  rw [if_neg hw4] at q
  refine ⟨_, rfl, a, t, 5, rfl, ta, by omega, by decide, by decide, fun H2 k2 t2 => ?_⟩
  obtain ⟨ch, hch, hop, _⟩ := op_at (next_bd t (size := 5) (by decide)).1 (next_bd t (size := 5) (by decide)).2
  have cn := next_c t 5
  have bn := next_bd t (size := 5) (by decide)
  refine ⟨_, (nextM t 5).1, ch, rfl, rfl, bn.1, by omega, by rw [op_len]; omega, hch, ?_⟩
  rw [hop]
  refine ⟨_, rfl, _, rfl, _, rfl, _, _, rfl, rfl, a, nl, names, _, em, t2, by omega, k2 _ _ en han.symm, hn0, hn1, hok, han, fun va H3 k3 t3 ha => ?_⟩
  have c3 := ec (nextM t 5).2
  refine ⟨_, rfl, _, rfl, _, rfl, _, rfl, _, rfl, _, _, rfl, rfl, a, nl, names, _, em, t3, by omega, k3 _ _ (k2 _ _ en han.symm) han.symm, hn0, hn1, hok, han, fun vb H4 k4 t4 hb => ⟨(by show 3 ≤ sizeLine; omega), fun p hp => ?_⟩⟩
  exact q _ _ (((k2.trans k3).trans k4).trans (Kl.of (Same.put hp))) (t4.same (Same.put hp)) (.tup upd_same (.cons (.str _) (.cons ((ha.kl t3 k4).same (Same.put hp)) (.cons (hb.same (Same.put hp)) .nil))))
theorem expr_step {n : Nat} {prev : Sp} {rec : List Str → Tp → PyData × Tp} {f f1 f2 f3 : Addr} {fd d1 d2 d3 : FuncData} (T : Bt mg) (T_law_mixed : Fn K mg "_law_mixed" s_law_mixed ["_law_number_here", "_law_k"] f1 d1) (T_law_next : Fn K mg "_law_next" s_law_next ["_law_tap_here", "_law_size"] f2 d2) (T_law_number : Fn K mg "_law_number" s_law_number ["_law_tap_here"] f3 d3) (T_law_expr : Fn K mg "_law_expr" s_law_expr ["_law_tap_here", "_law_names", "_law_deep"] f fd)
    (hp : n = 0 ∨ ∃ m, n = m + 1 ∧ prev = sp_expr m ∧ rec = fun names => exprM names m) (hrec : n = 0 → rec = fun _ t => (.none, t)) (G_law_expr : FnOk P w K mg base CX0 (n + 3) f fd ["_law_tap_here", "_law_names", "_law_deep"] prev) : FnOk P w K mg base CX0 (n + 4) f fd ["_law_tap_here", "_law_names", "_law_deep"] (sp_expr n) := by
  have G_law_next := ok_law_next (P := P) (w := w) (mg := mg) (base := base) T_law_next.F T_law_mixed
  refine T_law_expr.F.ok (k := n + 3) sc_law_expr (fun vs H Q E h => ?_) (fun cdv A outer s H vs Q E hr h => ?_)
  · obtain ⟨a, nl, names, t, rfl, _⟩ := h; rfl
  · obtain ⟨a, nl, names, t, rfl, ta, hc, en, hn0, hn1, hok, han, q⟩ := h
    obtain ⟨uB, hB, kB⟩ := expr_B (P := P) (w := w) (base := base) (f := f) (cdv := cdv) (outer := outer) (H := H) (E := E) (rec := rec) T T_law_mixed T_law_next T_law_number T_law_expr hp G_law_expr hr
    refine ⟨_, (pss_cons (ps_set (i := 3) sc_law_expr.nd rfl (Or.inl rfl) (pe_call G_law_next (hr.mono (by omega)) rfl T_law_next.m T_law_next.F.kp T_law_next.b .nil pass0 (pa_consN (pv 0) (pa_consN pe_int pa_nil))))
      (pss_cons (ps_if (PW.pt (pw_or (pt_cmpR op_eq (pv 2) pe_int (nomark _)) (pw_or1 (pt_cmpR op_gt (pe_ix ix_list (pv 0) pe_int (fun _ _ => rfl)) pe_int (nomark _)))))
        (pss_one (ps_set (i := 3) sc_law_expr.nd rfl (Or.inl rfl) (pe_op op_mod (pv 3) pe_int)))
        pss_nil)
      hB)), ?_⟩
    have b5 := bd_pos n
    have cm : cMax = 90000000000000 := rfl
    refine ⟨_, rfl, a, t, 9, rfl, ta, by omega, by decide, by decide, fun H1 k1 t1 => ?_⟩
    have bn := next_bd t (size := 9) (by decide)
    have cn := next_c t 9
    have en1 := k1 _ _ en han.symm
    have hE : exprM names n t = exB (rec names) names (if n = 0 ∨ 60 < (nextM t 9).2.c then (nextM t 9).1 % 3 else (nextM t 9).1) (nextM t 9).2 := by
      rcases hp with rfl | ⟨m, rfl, _, rfl⟩
      · rw [hrec rfl, if_pos (.inl rfl)]; rfl
      · show exB _ _ (if 60 < (nextM t 9).2.c then (nextM t 9).1 % 3 else (nextM t 9).1) _ = _
        by_cases h : 60 < (nextM t 9).2.c
        · rw [if_pos h, if_pos (.inr h)]
        · rw [if_neg h, if_neg (fun z => z.elim (by omega) h)]
    rw [hE] at q
    obtain ⟨wy, t', e⟩ : ∃ v t', nextM t 9 = (v, t') := ⟨_, _, rfl⟩
    rw [e] at q bn cn t1 ⊢
    have cn : t'.c = t.c + 1 := cn
    have bn : 0 ≤ wy ∧ wy < 9 := bn
    have go : ∀ wz : Int, wz = (if n = 0 ∨ 60 < t'.c then wy % 3 else wy) → 0 ≤ wz → wz < 9 → (n = 0 → wz < 3) → uB { nx := fun _ H' => Q .non H', rt := Q } [some (.ref a), some (.ref nl), some (.int (n : Int)), some (.int wz), none, none] H1 := fun wz hz h0 h9 h3 =>
      kB _ _ _ a nl names t' wz H1 t1 (by omega) en1 hn0 hn1 hok han h0 h9 h3 fun v H' k' tt he => q v H' (k1.trans k') (by rw [hz] at tt; exact tt) (by rw [hz] at he; exact he)
    have m3 : 0 ≤ wy % 3 ∧ wy % 3 < 3 := ⟨Int.emod_nonneg _ (by decide), Int.emod_lt_of_pos _ (by decide)⟩
    refine ⟨_, rfl, rfl, _, rfl, ite2 (fun h0 => ?_) (fun h0 => ?_)⟩
    · have hn : n = 0 := by have := V.int.inj (of_decide_eq_true h0); omega
      exact iteT ⟨_, rfl, _, _, rfl, rfl, (by show (0 : Int) < 3; decide), go _ (by rw [if_pos (.inl hn)]) m3.1 (by omega) (fun _ => m3.2)⟩
    · have hn : n ≠ 0 := fun z => h0 (decide_eq_true (by rw [z]; rfl))
      refine ⟨_, rfl, a, _, _, _, rfl, rfl, SqL.of t1, rfl, _, _, rfl, rfl, _, rfl, ite2 (fun h1 => ?_) (fun h1 => ?_)⟩
      · have h1 : (60 : Int) < (t'.c : Int) := of_decide_eq_true h1
        exact ⟨_, rfl, _, _, rfl, rfl, (by show (0 : Int) < 3; decide), go _ (by rw [if_pos (.inr (by omega))]) m3.1 (by omega) (fun _ => m3.2)⟩
      · have h1 : ¬ (60 : Int) < (t'.c : Int) := fun z => h1 (decide_eq_true z)
        exact go wy (by rw [if_neg (fun z => z.elim hn (fun y => h1 (by omega)))]) bn.1 bn.2 (fun z => absurd z hn)
theorem ok_law_expr {f f1 f2 f3 : Addr} {fd d1 d2 d3 : FuncData} (T : Bt mg) (T_law_mixed : Fn K mg "_law_mixed" s_law_mixed ["_law_number_here", "_law_k"] f1 d1) (T_law_next : Fn K mg "_law_next" s_law_next ["_law_tap_here", "_law_size"] f2 d2) (T_law_number : Fn K mg "_law_number" s_law_number ["_law_tap_here"] f3 d3) (T_law_expr : Fn K mg "_law_expr" s_law_expr ["_law_tap_here", "_law_names", "_law_deep"] f fd) :
    ∀ n : Nat, FnOk P w K mg base CX0 (n + 4) f fd ["_law_tap_here", "_law_names", "_law_deep"] (sp_expr n)
  | 0 => expr_step (rec := fun _ t => (.none, t)) T T_law_mixed T_law_next T_law_number T_law_expr (.inl rfl) (fun _ => rfl) (T_law_expr.F.ok (k := 2) (sp := fun _ _ _ _ => False) sc_law_expr (fun _ _ _ _ h => h.elim) (fun _ _ _ _ _ _ _ _ _ h => h.elim))
  | n + 1 => expr_step (rec := fun names => exprM names n) T T_law_mixed T_law_next T_law_number T_law_expr (.inr ⟨n, rfl, rfl, rfl⟩) (fun h => by omega) (ok_law_expr T T_law_mixed T_law_next T_law_number T_law_expr n)
end
end K46

set_option Elab.async false
set_option linter.all false
set_option maxRecDepth 100000
set_option maxHeartbeats 4000000
namespace K46
open PySem L2
/-! ### words that can be written -/
def okC (x : Str) : Prop := ∀ c ∈ x.cps.toList, c < 1114112
theorem ok_of {x : Str} (h : okC x) : PyData.strOk x = true := by
  unfold PyData.strOk
  rw [Array.all_eq_true']
  intro c hc
  exact decide_eq_true (h c (Array.mem_toList_iff.mpr hc))
theorem okC_app {x y : Str} (hx : okC x) (hy : okC y) : okC (x ++ y) := by
  intro c hc
  have hc' : c ∈ (x.cps ++ y.cps).toList := hc
  rw [Array.toList_append, List.mem_append] at hc'
  exact hc'.elim (hx c) (hy c)
theorem okC_slice {x : Str} (h : okC x) (l u : Option Int) : okC (PySem.Txt.slice x l u) := by
  unfold PySem.Txt.slice
  split
  · exact h
  · intro c hc
    have hc' : c ∈ List.filterMap (fun i => x.cps[i]?) (Builtin.Str.strSliceIndices l u 1 x.length) := by simpa using hc
    obtain ⟨i, _, e⟩ := List.mem_filterMap.mp hc'
    exact h c (Array.mem_toList_iff.mpr (Array.mem_of_getElem? e))
theorem okC_at {z : Str} (h : okC z) {i : Nat} {c : Nat} (e : z.cps[i]? = some c) : okC ⟨#[c]⟩ := by
  intro d hd
  have : d = c := by simpa using hd
  rw [this]
  exact h c (Array.mem_toList_iff.mpr (Array.mem_of_getElem? e))
abbrev abc : Str := "abcdefghijklmnopqrstuvwxyz"
theorem abc_len : abc.length = 26 := by decide +kernel
theorem okC_abc : okC abc := by unfold okC; decide +kernel
theorem okC_qxz : okC "qxz" := by unfold okC; decide +kernel
theorem qxz_len : (("qxz" : Str)).length = 3 := by decide +kernel
theorem str_at {z : Str} {i : Int} (h0 : 0 ≤ i) (h1 : i < (z.length : Int)) : ∃ c, z.cps[i.toNat]? = some c := by
  have h : i.toNat < z.cps.size := by
    have e : z.cps.size = z.length := rfl
    omega
  exact ⟨z.cps[i.toNat], Array.getElem?_eq_getElem h⟩
theorem one_len (c : Nat) : (⟨#[c]⟩ : Str).length = 1 := rfl
theorem app_len (x y : Str) : (x ++ y).length = x.length + y.length := by
  show (x.cps ++ y.cps).size = _
  rw [Array.size_append]; rfl
theorem rep_one {c : Nat} {n : Int} (h0 : 0 ≤ n) (h6 : n ≤ 6) (hc : c < 1114112) : okC (repS ⟨#[c]⟩ n) ∧ (repS ⟨#[c]⟩ n).length ≤ 6 := by
  have key : ∃ cs : List Nat, repS ⟨#[c]⟩ n = ⟨cs.toArray⟩ ∧ cs.length ≤ 6 ∧ ∀ d ∈ cs, d = c := by
    have : n = 0 ∨ n = 1 ∨ n = 2 ∨ n = 3 ∨ n = 4 ∨ n = 5 ∨ n = 6 := by omega
    rcases this with rfl | rfl | rfl | rfl | rfl | rfl | rfl
    · exact ⟨[], rfl, by decide, by simp⟩
    · exact ⟨[c], rfl, by simp, by simp⟩
    · exact ⟨[c, c], rfl, by simp, by simp⟩
    · exact ⟨[c, c, c], rfl, by simp, by simp⟩
    · exact ⟨[c, c, c, c], rfl, by simp, by simp⟩
    · exact ⟨[c, c, c, c, c], rfl, by simp, by simp⟩
    · exact ⟨[c, c, c, c, c, c], rfl, by simp, by simp⟩
  obtain ⟨cs, e, hl, hd⟩ := key
  rw [e]
  refine ⟨fun d hd' => ?_, by show cs.toArray.size ≤ 6; rw [List.size_toArray]; exact hl⟩
  have : d ∈ cs := by simpa using hd'
  rw [hd d this]; exact hc
/-! ### variables -/
abbrev VRow := Str × Str × Int
def dRow (p : VRow) : PyData := .tuple [.str p.1, .str p.2.1, .int p.2.2]
def VarAt (H : Hp) (v : V) (p : VRow) : Prop := ∃ a, v = .ref a ∧ H a = some (.tup [.str p.1, .str p.2.1, .int p.2.2])
theorem VarAt.keep {H H' : Hp} (k : ∀ (b : Addr) (xs : List V), H b = some (.tup xs) → H' b = some (.tup xs)) {v : V} {p : VRow} (h : VarAt H v p) : VarAt H' v p := by
  obtain ⟨a, e, h⟩ := h; exact ⟨a, e, k _ _ h⟩
theorem VarAt.same {H H' : Hp} (s : Same H H') {v : V} {p : VRow} (h : VarAt H v p) : VarAt H' v p := h.keep fun _ _ z => s _ _ z
theorem Paired.app {α β : Type} {F : α → β → Prop} : ∀ {l1 m1 : List α} {l2 m2 : List β}, Paired F l1 l2 → Paired F m1 m2 → Paired F (l1 ++ m1) (l2 ++ m2)
  | _, _, _, _, .nil, b => b
  | _, _, _, _, .cons r t, b => .cons r (Paired.app t b)
theorem paired_at {α β : Type} {F : α → β → Prop} : ∀ {l1 : List α} {l2 : List β} {i : Nat} {x : α}, Paired F l1 l2 → l1[i]? = some x → ∃ y, l2[i]? = some y ∧ F x y
  | _, _, 0, _, .cons r _, h1 => by cases h1; exact ⟨_, rfl, r⟩
  | _, _, i + 1, _, .cons _ t, h1 => paired_at (i := i) t h1
def chrA (z : Str) (i : Int) : Str := ⟨#[z.cps[i.toNat]?.getD 0]⟩
theorem chr_at {z : Str} {i : Int} (h0 : 0 ≤ i) (h1 : i < (z.length : Int)) (hz : okC z) : ∃ c, z.cps[i.toNat]? = some c ∧ (⟨#[c]⟩ : Str) = chrA z i ∧ okC (chrA z i) ∧ c < 1114112 := by
  obtain ⟨c, hc⟩ := str_at h0 h1
  have e : (⟨#[c]⟩ : Str) = chrA z i := by unfold chrA; rw [hc]; rfl
  have o := okC_at hz hc
  exact ⟨c, hc, e, e ▸ o, o c (by simp)⟩
def titleM (stem : Str) (at' first : Int) (k : Nat) : Str := PySem.Txt.slice stem none (some at') ++ (chrA abc ((first + (k : Int)) % 26) ++ chrA "qxz" ((k : Int) / 26)) ++ PySem.Txt.slice stem (some at') none
def stemM (t : Tp) : Str := repS (chrA abc (nextM (nextM (nextM t 7).2 ((nextM t 7).1 + 1)).2 26).1) (nextM t 7).1
def titlesM (t : Tp) (many : Nat) : List Str × Tp :=
  ((List.range many).map (titleM (stemM t) (nextM (nextM t 7).2 ((nextM t 7).1 + 1)).1 (nextM (nextM (nextM (nextM t 7).2 ((nextM t 7).1 + 1)).2 26).2 26).1), (nextM (nextM (nextM (nextM t 7).2 ((nextM t 7).1 + 1)).2 26).2 26).2)
theorem titles_c (t : Tp) (many : Nat) : (titlesM t many).2.c = t.c + 4 := by
  unfold titlesM
  show (nextM _ _).2.c = _
  rw [next_c, next_c, next_c, next_c]
theorem titles_len (t : Tp) (many : Nat) : (titlesM t many).1.length = many := by
  unfold titlesM
  show (List.map _ _).length = _
  rw [List.length_map, List.length_range]
theorem stem_ok (t : Tp) : okC (stemM t) ∧ (stemM t).length ≤ 6 := by
  have b1 := next_bd t (size := 7) (by decide)
  have b3 := next_bd (nextM (nextM t 7).2 ((nextM t 7).1 + 1)).2 (size := 26) (by decide)
  obtain ⟨c, hc, e, _, hc4⟩ := chr_at (z := abc) b3.1 (by rw [abc_len]; exact b3.2) okC_abc
  unfold stemM
  rw [← e]
  exact rep_one (c := c) (n := (nextM t 7).1) b1.1 (by omega) hc4
theorem title_ok {stem : Str} (h : okC stem) (at' first : Int) {k : Nat} (hk : k < 78) : PyData.strOk (titleM stem at' first k) = true := by
  obtain ⟨_, _, _, o1, _⟩ := chr_at (z := abc) (i := (first + (k : Int)) % 26) (Int.emod_nonneg _ (by decide)) (by rw [abc_len]; exact Int.emod_lt_of_pos _ (by decide)) okC_abc
  obtain ⟨_, _, _, o2, _⟩ := chr_at (z := "qxz") (i := (k : Int) / 26) (by omega) (by rw [qxz_len]; omega) okC_qxz
  exact ok_of (okC_app (okC_app (okC_slice h _ _) (okC_app o1 o2)) (okC_slice h _ _))
theorem titles_ok (t : Tp) {many : Nat} (h : many ≤ 78) : ∀ x ∈ (titlesM t many).1, PyData.strOk x = true := by
  intro x hx
  unfold titlesM at hx
  obtain ⟨k, hk, rfl⟩ := List.mem_map.mp hx
  exact title_ok (stem_ok t).1 _ _ (by rw [List.mem_range] at hk; omega)
def sp_titles : Sp := fun vs H Q _ => ∃ (a : Addr) (t : Tp) (many : Nat), vs = [.ref a, .int (many : Int)] ∧ TapIs H a t ∧ t.c + 4 ≤ cMax ∧ many ≤ 78 ∧ ∀ (r : Addr) (H' : Hp), H r = none → Kl a H H' → TapIs H' a (titlesM t many).2 → H' r = some (.lst ((titlesM t many).1.map V.str)) → Q (.ref r) H'
section
variable {P : Program} {w : World} {K : PySem.W.Frag} {mg : Str → Option Value} {base : Heap}
theorem sc_law_titles : FnScope ["_law_tap_here", "_law_many_here", "_law_letters", "_law_size", "_law_at", "_law_stem", "_law_first", "_law_found", "_law_k", "_law_sign"] ["_law_tap_here", "_law_many_here"] (defScope s_law_titles) := ⟨rfl, rfl, rfl, by decide +kernel, rfl, by decide +kernel, by decide +kernel⟩
theorem ok_law_titles {f f1 f2 : Addr} {fd d1 d2 : FuncData} (F : Fun K "_law_titles" "_law_titles" s_law_titles f fd) (T : Bt mg) (T_law_mixed : Fn K mg "_law_mixed" s_law_mixed ["_law_number_here", "_law_k"] f1 d1) (T_law_next : Fn K mg "_law_next" s_law_next ["_law_tap_here", "_law_size"] f2 d2) : FnOk P w K mg base CX0 3 f fd ["_law_tap_here", "_law_many_here"] sp_titles := by
  have G_law_next := ok_law_next (P := P) (w := w) (mg := mg) (base := base) T_law_next.F T_law_mixed
  refine F.ok sc_law_titles (fun vs H Q E h => ?_) (fun cdv A outer s H vs Q E hr h => ?_)
  · obtain ⟨a, t, many, rfl, _⟩ := h; rfl
  · obtain ⟨a, t, many, rfl, ta, hc, hm, q⟩ := h
    have hs : sizeLine = 16777216 := sizeLine_eq
    have cm : cMax = 90000000000000 := rfl
    have q' := q
    have so := stem_ok t
    unfold titlesM at q
    unfold stemM at q so
    have b1 := next_bd t (size := 7) (by decide)
    have c1 := next_c t 7
    refine ⟨_, (pss_cons (ps_set (i := 2) sc_law_titles.nd rfl (Or.inl rfl) pe_str)
      (pss_cons (ps_set (i := 3) sc_law_titles.nd rfl (Or.inl rfl) (pe_call G_law_next (hr.mono (by decide)) rfl T_law_next.m T_law_next.F.kp T_law_next.b .nil pass0 (pa_consN (pv 0) (pa_consN pe_int pa_nil))))
      (pss_cons (ps_set (i := 4) sc_law_titles.nd rfl (Or.inl rfl) (pe_call G_law_next (hr.mono (by decide)) rfl T_law_next.m T_law_next.F.kp T_law_next.b .nil pass0 (pa_consN (pv 0) (pa_consN (pe_op op_add (pv 3) pe_int) pa_nil))))
      (pss_cons (ps_set (i := 5) sc_law_titles.nd rfl (Or.inl rfl) (pe_op op_rep_str (pe_item_str (pv 2) (pe_call G_law_next (hr.mono (by decide)) rfl T_law_next.m T_law_next.F.kp T_law_next.b .nil pass0 (pa_consN (pv 0) (pa_consN pe_int pa_nil))) (fun _ _ => rfl)) (pv 3)))
      (pss_cons (ps_set (i := 6) sc_law_titles.nd rfl (Or.inl rfl) (pe_call G_law_next (hr.mono (by decide)) rfl T_law_next.m T_law_next.F.kp T_law_next.b .nil pass0 (pa_consN (pv 0) (pa_consN pe_int pa_nil))))
      (pss_cons (ps_set (i := 7) sc_law_titles.nd rfl (Or.inl rfl) (pe_lst pa_nil))
      (pss_cons (ps_for PassesOwn.never rfl (pi_range1 rfl T.b_range (pa_consN (pv 1) pa_nil)) (pg_name (i := 8) sc_law_titles.nd rfl (Or.inl rfl))
        (pss_cons (ps_set (i := 9) sc_law_titles.nd rfl (Or.inl rfl) (pe_op op_add_str (pe_item_str (pv 2) (pe_op op_mod (pe_op op_add (pv 6) (pv 8)) pe_int) (fun _ _ => rfl)) (pe_item_str pe_str (pe_op op_fdiv (pv 8) pe_int) (fun _ _ => rfl))))
        (pss_one (ps_expr (pe_bm PySem.F.plainAttrs_list PySem.F.slot_list_append PySem.F.type_list_append mt_append (pv 7) (pa_consN (pe_op op_add_str (pe_op op_add_str (pe_slice sl_str (pv 5) po_none (po_some (pv 4))) (pv 9)) (pe_slice sl_str (pv 5) (po_some (pv 4)) po_none)) pa_nil))))))
      (pss_one (ps_ret (pv 7)))))))))), ?_⟩
    refine ⟨_, rfl, a, t, 7, rfl, ta, by omega, by decide, by decide, fun H1 k1 t1 => ?_⟩
    obtain ⟨sz, u1, e1⟩ : ∃ v t', nextM t 7 = (v, t') := ⟨_, _, rfl⟩
    rw [e1] at q so b1 c1 t1 ⊢
    have b1 : 0 ≤ sz ∧ sz < 7 := b1
    have c1 : u1.c = t.c + 1 := c1
    have b2 := next_bd u1 (size := sz + 1) (by omega)
    have c2 := next_c u1 (sz + 1)
    refine ⟨_, rfl, _, rfl, _, _, rfl, rfl, a, u1, _, rfl, t1, by omega, by omega, by omega, fun H2 k2 t2 => ?_⟩
    obtain ⟨at', u2, e2⟩ : ∃ v t', nextM u1 (sz + 1) = (v, t') := ⟨_, _, rfl⟩
    have q : ∀ (r : Addr) (H' : Hp), H r = none → Kl a H H' → TapIs H' a (nextM (nextM (nextM u1 (sz + 1)).2 26).2 26).2 → H' r = some (.lst (((List.range many).map (titleM (repS (chrA abc (nextM (nextM u1 (sz + 1)).2 26).1) sz) (nextM u1 (sz + 1)).1 (nextM (nextM (nextM u1 (sz + 1)).2 26).2 26).1)).map V.str)) → Q (.ref r) H' := q
    have so : okC (repS (chrA abc (nextM (nextM u1 (sz + 1)).2 26).1) sz) ∧ (repS (chrA abc (nextM (nextM u1 (sz + 1)).2 26).1) sz).length ≤ 6 := so
    rw [e2] at q so b2 c2 t2 ⊢
    have b2 : 0 ≤ at' ∧ at' < sz + 1 := b2
    have c2 : u2.c = u1.c + 1 := c2
    have b3 := next_bd u2 (size := 26) (by decide)
    have c3 := next_c u2 26
    refine ⟨_, rfl, _, rfl, a, u2, 26, rfl, t2, by omega, by decide, by decide, fun H3 k3 t3 => ?_⟩
    obtain ⟨li, u3, e3⟩ : ∃ v t', nextM u2 26 = (v, t') := ⟨_, _, rfl⟩
    have q : ∀ (r : Addr) (H' : Hp), H r = none → Kl a H H' → TapIs H' a (nextM (nextM u2 26).2 26).2 → H' r = some (.lst (((List.range many).map (titleM (repS (chrA abc (nextM u2 26).1) sz) at' (nextM (nextM u2 26).2 26).1)).map V.str)) → Q (.ref r) H' := q
    have so : okC (repS (chrA abc (nextM u2 26).1) sz) ∧ (repS (chrA abc (nextM u2 26).1) sz).length ≤ 6 := so
    rw [e3] at q so b3 c3 t3 ⊢
    have b3 : 0 ≤ li ∧ li < 26 := b3
    have c3 : u3.c = u2.c + 1 := c3
    obtain ⟨ch, hch, ech, och, _⟩ := chr_at (z := abc) b3.1 (by rw [abc_len]; exact b3.2) okC_abc
    refine ⟨abc, li, ch, rfl, rfl, b3.1, by omega, by rw [abc_len]; omega, hch, _, rfl, _, _, rfl, rfl, by omega, by omega, by rw [one_len]; omega, ?_⟩
    rw [ech]
    have q : ∀ (r : Addr) (H' : Hp), H r = none → Kl a H H' → TapIs H' a (nextM u3 26).2 → H' r = some (.lst (((List.range many).map (titleM (repS (chrA abc li) sz) at' (nextM u3 26).1)).map V.str)) → Q (.ref r) H' := q
    have so : okC (repS (chrA abc li) sz) ∧ (repS (chrA abc li) sz).length ≤ 6 := so
    obtain ⟨stem, hst⟩ : ∃ z, repS (chrA abc li) sz = z := ⟨_, rfl⟩
    rw [hst] at q so ⊢
    obtain ⟨os, ls⟩ := so
    refine ⟨_, rfl, a, u3, 26, rfl, t3, by omega, by decide, by decide, fun H4 k4 t4 => ?_⟩
    obtain ⟨fi, u4, e4⟩ : ∃ v t', nextM u3 26 = (v, t') := ⟨_, _, rfl⟩
    rw [e4] at q t4 ⊢
    have q : ∀ (r : Addr) (H' : Hp), H r = none → Kl a H H' → TapIs H' a u4 → H' r = some (.lst (((List.range many).map (titleM stem at' fi)).map V.str)) → Q (.ref r) H' := q
    have t4 : TapIs H4 a u4 := t4
    have k04 := ((k1.trans k2).trans k3).trans k4
    refine ⟨Nat.zero_le _, fun r hr0 => ?_⟩
    have y5 := Same.put (o := .lst []) hr0
    have er : upd H4 r (.lst []) r = some (.lst []) := upd_same
    generalize upd H4 r (.lst []) = H5 at y5 er ⊢
    have hHr : H r = none := by
      cases e : H r with
      | none => rfl
      | some o =>
        by_cases hra : r = a
        · rw [hra, t4] at hr0; cases hr0
        · rw [k04 _ _ e hra] at hr0; cases hr0
    have ra : r ≠ a := fun z => by rw [z, t4] at hr0; cases hr0
    refine ⟨_, rfl, _, rfl, by omega, by omega, for_range (lo := 0) (n := ((many : Nat) : Int).toNat) (fun i σ H6 => ∃ (v8 v9 : Option V), σ = [some (.ref a), some (.int (many : Int)), some (.str abc), some (.int sz), some (.int at'), some (.str stem), some (.int fi), some (.ref r), v8, v9] ∧ Kl r H5 H6 ∧ H6 r = some (.lst (((List.range i).map (titleM stem at' fi)).map V.str)))
      ⟨_, _, rfl, Kl.of (Same.refl _), er⟩ ?_ ?_⟩
    · rintro i σ H6 hi ⟨v8, v9, rfl, k6, e6⟩
      rw [Int.toNat_natCast] at hi
      rw [Int.zero_add]
      obtain ⟨c1', hc1, ec1, oc1, _⟩ := chr_at (z := abc) (i := (fi + (i : Int)) % 26) (Int.emod_nonneg _ (by decide)) (by rw [abc_len]; exact Int.emod_lt_of_pos _ (by decide)) okC_abc
      obtain ⟨c2', hc2, ec2, oc2, _⟩ := chr_at (z := "qxz") (i := (i : Int) / 26) (by omega) (by rw [qxz_len]; omega) okC_qxz
      have m0 := Int.emod_nonneg (fi + (i : Int)) (b := 26) (by decide)
      have m1 := Int.emod_lt_of_pos (fi + (i : Int)) (b := 26) (by decide)
      refine ⟨_, rfl, _, rfl, _, rfl, _, _, rfl, rfl, _, _, rfl, rfl, (by show (0 : Int) < 26; decide), abc, _, c1', rfl, rfl, m0, by omega, by rw [abc_len]; omega, hc1, _, rfl, _, _, rfl, rfl, ⟨by decide, by decide⟩, "qxz", _, c2', rfl, rfl, by omega, by omega, by rw [qxz_len]; omega, hc2, _, _, rfl, rfl, by rw [one_len, one_len]; omega, ?_⟩
      rw [ec1, ec2]
      have lsg : (chrA abc ((fi + (i : Int)) % 26) ++ chrA "qxz" ((i : Int) / 26)).length = 2 := by rw [← ec1, ← ec2, app_len, one_len, one_len]
      have htt : titleM stem at' fi i = PySem.Txt.slice stem none (some at') ++ (chrA abc ((fi + (i : Int)) % 26) ++ chrA "qxz" ((i : Int) / 26)) ++ PySem.Txt.slice stem (some at') none := rfl
      generalize chrA abc ((fi + (i : Int)) % 26) ++ chrA "qxz" ((i : Int) / 26) = sg at lsg htt ⊢
      have p1 := PySem.Txt.slice_le stem none (some at')
      have p2 := PySem.Txt.slice_le stem (some at') none
      refine ⟨_, rfl, .inl ⟨rfl, _, SqL.of e6⟩, _, rfl, _, rfl, _, rfl, stem, rfl, by omega, _, rfl, _, _, rfl, rfl, by omega, _, rfl, _, rfl, _, rfl, stem, rfl, by omega, _, _, rfl, rfl, by rw [app_len]; omega, r, _, _, rfl, rfl, e6, by rw [List.length_map, List.length_map, List.length_range]; omega, ?_⟩
      refine ⟨_, _, rfl, k6.trans Kl.one, ?_⟩
      rw [upd_same, List.range_succ, List.map_append, List.map_append, ← htt]; rfl
    · rintro σ H6 ⟨v8, v9, rfl, k6, e6⟩
      rw [Int.toNat_natCast] at e6
      have k06 : Kl a H H6 := fun b o e hb => k6 _ _ (y5 _ _ (k04 _ _ e hb)) (ne_of_none e hHr)
      exact ⟨_, rfl, q r H6 hHr k06 (k6 _ _ (y5 _ _ t4) ra.symm) e6⟩
end
end K46

set_option Elab.async false
set_option linter.all false
set_option maxRecDepth 100000
set_option maxHeartbeats 4000000
namespace K46
open PySem L2
def kinds3 : List Str := ["num", "flag", "list"]
def varStep (s : List VRow × Tp) (name : Str) : List VRow × Tp :=
  if kinds3.getD (nextM s.2 3).1.toNat "" = "list" then (s.1 ++ [(kinds3.getD (nextM s.2 3).1.toNat "", name, ([1, 2, 5, 99] : List Int).getD (nextM (nextM s.2 3).2 4).1.toNat 0)], (nextM (nextM s.2 3).2 4).2)
  else (s.1 ++ [(kinds3.getD (nextM s.2 3).1.toNat "", name, 1)], (nextM s.2 3).2)
def varsM (t : Tp) (most : Int) : List VRow × Tp :=
  (titlesM (nextM t most).2 (1 + (nextM t most).1).toNat).1.foldl varStep ([], (titlesM (nextM t most).2 (1 + (nextM t most).1).toNat).2)
theorem fold_take {α β : Type} (f : β → α → β) (b : β) {l : List α} {i : Nat} {x : α} (h : l[i]? = some x) : (l.take (i + 1)).foldl f b = f ((l.take i).foldl f b) x := by
  rw [List.take_add_one, h, List.foldl_append]; rfl
theorem varStep_c (s : List VRow × Tp) (x : Str) : (varStep s x).2.c ≤ s.2.c + 2 ∧ (varStep s x).1.length = s.1.length + 1 := by
  unfold varStep
  split
  · exact ⟨by show (nextM _ _).2.c ≤ _; rw [next_c, next_c]; omega, by show (_ ++ [_]).length = _; rw [List.length_append]; rfl⟩
  · exact ⟨by show (nextM _ _).2.c ≤ _; rw [next_c]; omega, by show (_ ++ [_]).length = _; rw [List.length_append]; rfl⟩
theorem varFold_c : ∀ (l : List Str) (s : List VRow × Tp), (l.foldl varStep s).2.c ≤ s.2.c + 2 * l.length ∧ (l.foldl varStep s).1.length = s.1.length + l.length
  | [], s => ⟨Nat.le_refl _, rfl⟩
  | x :: l, s => by
    have h1 := varStep_c s x
    have h2 := varFold_c l (varStep s x)
    rw [List.foldl_cons, List.length_cons]
    omega
theorem kind_ok {i : Int} (h0 : 0 ≤ i) (h1 : i < 3) : PyData.strOk (kinds3.getD i.toNat "") = true ∧ atI [V.str "num", V.str "flag", V.str "list"] i = some (.str (kinds3.getD i.toNat "")) := by
  have : i = 0 ∨ i = 1 ∨ i = 2 := by omega
  rcases this with rfl | rfl | rfl <;> exact ⟨by decide +kernel, rfl⟩
theorem size_at {i : Int} (h0 : 0 ≤ i) (h1 : i < 4) : atI [V.int 1, V.int 2, V.int 5, V.int 99] i = some (.int (([1, 2, 5, 99] : List Int).getD i.toNat 0)) := by
  have : i = 0 ∨ i = 1 ∨ i = 2 ∨ i = 3 := by omega
  rcases this with rfl | rfl | rfl | rfl <;> rfl
def VarsOk (vs : List VRow) : Prop := ∀ p ∈ vs, PyData.strOk p.1 = true ∧ PyData.strOk p.2.1 = true
theorem varStep_ok {s : List VRow × Tp} {x : Str} (h : VarsOk s.1) (hx : PyData.strOk x = true) : VarsOk (varStep s x).1 := by
  have hk := (kind_ok (next_bd s.2 (size := 3) (by decide)).1 (next_bd s.2 (size := 3) (by decide)).2).1
  unfold varStep
  split
  · intro p hp
    rcases List.mem_append.mp hp with z | z
    · exact h p z
    · rw [List.mem_singleton.mp z]; exact ⟨hk, hx⟩
  · intro p hp
    rcases List.mem_append.mp hp with z | z
    · exact h p z
    · rw [List.mem_singleton.mp z]; exact ⟨hk, hx⟩
theorem varFold_ok : ∀ {l : List Str} {s : List VRow × Tp}, VarsOk s.1 → (∀ x ∈ l, PyData.strOk x = true) → VarsOk (l.foldl varStep s).1
  | [], _, h, _ => h
  | x :: l, s, h, hl => varFold_ok (l := l) (varStep_ok h (hl x List.mem_cons_self)) fun y hy => hl y (List.mem_cons_of_mem _ hy)
theorem vars_facts (t : Tp) {most : Int} (h0 : 0 < most) (h40 : most ≤ 40) : (varsM t most).2.c ≤ t.c + 85 ∧ 0 < (varsM t most).1.length ∧ (varsM t most).1.length ≤ 40 ∧ VarsOk (varsM t most).1 := by
  have b := next_bd t h0
  have hl := titles_len (nextM t most).2 (1 + (nextM t most).1).toNat
  have hc := titles_c (nextM t most).2 (1 + (nextM t most).1).toNat
  have ho := titles_ok (nextM t most).2 (many := (1 + (nextM t most).1).toNat) (by omega)
  have f := varFold_c (titlesM (nextM t most).2 (1 + (nextM t most).1).toNat).1 ([], (titlesM (nextM t most).2 (1 + (nextM t most).1).toNat).2)
  have g := varFold_ok (s := ([], (titlesM (nextM t most).2 (1 + (nextM t most).1).toNat).2)) (fun p h => by cases h) ho
  unfold varsM
  have cn := next_c t most
  have z : ([] : List VRow).length = 0 := rfl
  refine ⟨?_, ?_, ?_, g⟩
  · have f1 : _ ≤ (titlesM (nextM t most).2 (1 + (nextM t most).1).toNat).2.c + 2 * _ := f.1
    omega
  · have f2 : _ = ([] : List VRow).length + _ := f.2
    omega
  · have f2 : _ = ([] : List VRow).length + _ := f.2
    omega
def sp_vars : Sp := fun vs H Q _ => ∃ (a : Addr) (t : Tp) (most : Int), vs = [.ref a, .int most] ∧ TapIs H a t ∧ t.c + 100 ≤ cMax ∧ 0 < most ∧ most ≤ 40 ∧ ∀ (r : Addr) (xs : List V) (H' : Hp), H r = none → r ≠ a → Kl a H H' → TapIs H' a (varsM t most).2 → H' r = some (.lst xs) → Paired (VarAt H') xs (varsM t most).1 → Q (.ref r) H'
section
variable {P : Program} {w : World} {K : PySem.W.Frag} {mg : Str → Option Value} {base : Heap}
theorem sc_law_vars : FnScope ["_law_tap_here", "_law_most", "_law_many_here", "_law_built", "_law_name", "_law_kind", "_law_size"] ["_law_tap_here", "_law_most"] (defScope s_law_vars) := ⟨rfl, rfl, rfl, by decide +kernel, rfl, by decide +kernel, by decide +kernel⟩
theorem ok_law_vars {f f1 f2 f3 : Addr} {fd d1 d2 d3 : FuncData} (F : Fun K "_law_vars" "_law_vars" s_law_vars f fd) (T : Bt mg) (T_law_mixed : Fn K mg "_law_mixed" s_law_mixed ["_law_number_here", "_law_k"] f1 d1) (T_law_next : Fn K mg "_law_next" s_law_next ["_law_tap_here", "_law_size"] f2 d2) (T_law_titles : Fn K mg "_law_titles" s_law_titles ["_law_tap_here", "_law_many_here"] f3 d3) : FnOk P w K mg base CX0 4 f fd ["_law_tap_here", "_law_most"] sp_vars := by
  have G_law_next := ok_law_next (P := P) (w := w) (mg := mg) (base := base) T_law_next.F T_law_mixed
  have G_law_titles := ok_law_titles (P := P) (w := w) (base := base) T_law_titles.F T T_law_mixed T_law_next
  refine F.ok sc_law_vars (fun vs H Q E h => ?_) (fun cdv A outer s H vs Q E hr h => ?_)
  · obtain ⟨a, t, most, rfl, _⟩ := h; rfl
  · obtain ⟨a, t, most, rfl, ta, hc, hm0, hm40, q⟩ := h
    have hs : sizeLine = 16777216 := sizeLine_eq
    have cm : cMax = 90000000000000 := rfl
    unfold varsM at q
    have b1 := next_bd t hm0
    have c1 := next_c t most
    refine ⟨_, (pss_cons (ps_set (i := 2) sc_law_vars.nd rfl (Or.inl rfl) (pe_op op_add pe_int (pe_call G_law_next (hr.mono (by decide)) rfl T_law_next.m T_law_next.F.kp T_law_next.b .nil pass0 (pa_consN (pv 0) (pa_consN (pv 1) pa_nil)))))
      (pss_cons (ps_set (i := 3) sc_law_vars.nd rfl (Or.inl rfl) (pe_lst pa_nil))
      (pss_cons (ps_for PassesOwn.never rfl (pi_list (pe_call G_law_titles (hr.mono (by decide)) rfl T_law_titles.m T_law_titles.F.kp T_law_titles.b .nil pass0 (pa_consN (pv 0) (pa_consN (pv 2) pa_nil)))) (pg_name (i := 4) sc_law_vars.nd rfl (Or.inl rfl))
        (pss_cons (ps_set (i := 5) sc_law_vars.nd rfl (Or.inl rfl) (pe_ix ix_list (pe_lst (pa_consN pe_str (pa_consN pe_str (pa_consN pe_str pa_nil)))) (pe_call G_law_next (hr.mono (by decide)) rfl T_law_next.m T_law_next.F.kp T_law_next.b .nil pass0 (pa_consN (pv 0) (pa_consN pe_int pa_nil))) (fun _ _ => rfl)))
        (pss_cons (ps_set (i := 6) sc_law_vars.nd rfl (Or.inl rfl) pe_int)
        (pss_cons (ps_if (pt_cmpR op_eq (pv 5) pe_str (nomark _))
          (pss_one (ps_set (i := 6) sc_law_vars.nd rfl (Or.inl rfl) (pe_ix ix_list (pe_lst (pa_consN pe_int (pa_consN pe_int (pa_consN pe_int (pa_consN pe_int pa_nil))))) (pe_call G_law_next (hr.mono (by decide)) rfl T_law_next.m T_law_next.F.kp T_law_next.b .nil pass0 (pa_consN (pv 0) (pa_consN pe_int pa_nil))) (fun _ _ => rfl))))
          pss_nil)
        (pss_one (ps_expr (pe_bm PySem.F.plainAttrs_list PySem.F.slot_list_append PySem.F.type_list_append mt_append (pv 3) (pa_consN (pe_tup (pa_consN (pv 5) (pa_consN (pv 4) (pa_consN (pv 6) pa_nil)))) pa_nil))))))))
      (pss_one (ps_ret (pv 3)))))), ?_⟩
    refine ⟨_, rfl, _, rfl, a, t, most, rfl, ta, by omega, by omega, by omega, fun H1 k1 t1 => ⟨_, _, rfl, rfl, ?_⟩⟩
    obtain ⟨m, u1, e1⟩ : ∃ v t', nextM t most = (v, t') := ⟨_, _, rfl⟩
    rw [e1] at q b1 c1 t1 ⊢
    have b1 : 0 ≤ m ∧ m < most := b1
    have c1 : u1.c = t.c + 1 := c1
    obtain ⟨mn, hmn⟩ : ∃ n : Nat, (1 + m).toNat = n := ⟨_, rfl⟩
    have emn : (1 + m : Int) = (mn : Int) := by omega
    have q : ∀ (r : Addr) (xs : List V) (H' : Hp), H r = none → r ≠ a → Kl a H H' → TapIs H' a ((titlesM u1 (1 + m).toNat).1.foldl varStep ([], (titlesM u1 (1 + m).toNat).2)).2 → H' r = some (.lst xs) → Paired (VarAt H') xs ((titlesM u1 (1 + m).toNat).1.foldl varStep ([], (titlesM u1 (1 + m).toNat).2)).1 → Q (.ref r) H' := q
    rw [hmn] at q
    have e1m : (fun i j => V.int (i + j)) 1 m = V.int (mn : Int) := congrArg V.int emn
    rw [show (fun i j => V.int (i + j)) 1 ((m, u1) : Int × Tp).1 = V.int (mn : Int) from e1m]
    refine ⟨Nat.zero_le _, fun r hr0 => ?_⟩
    have y2 := Same.put (o := .lst []) hr0
    have er : upd H1 r (.lst []) r = some (.lst []) := upd_same
    generalize upd H1 r (.lst []) = H2 at y2 er ⊢
    have t1 : TapIs H1 a u1 := t1
    have ra : r ≠ a := fun z => by rw [z, t1] at hr0; cases hr0
    have hHr : H r = none := by
      cases e : H r with
      | none => rfl
      | some o => rw [k1 _ _ e ra] at hr0; cases hr0
    refine ⟨_, rfl, _, rfl, a, u1, mn, rfl, t1.same y2, by omega, by omega, fun tl H3 htl k3 t3 etl => ?_⟩
    have hlen := titles_len u1 mn
    have htc := titles_c u1 mn
    obtain ⟨ss, u2, e2⟩ : ∃ v t', titlesM u1 mn = (v, t') := ⟨_, _, rfl⟩
    rw [e2] at q t3 etl hlen htc
    have t3 : TapIs H3 a u2 := t3
    have etl : H3 tl = some (.lst (ss.map V.str)) := etl
    have hlen : ss.length = mn := hlen
    have htc : u2.c = u1.c + 4 := htc
    have q : ∀ (r : Addr) (xs : List V) (H' : Hp), H r = none → r ≠ a → Kl a H H' → TapIs H' a (ss.foldl varStep ([], u2)).2 → H' r = some (.lst xs) → Paired (VarAt H') xs (ss.foldl varStep ([], u2)).1 → Q (.ref r) H' := q
    have er3 : H3 r = some (.lst []) := k3 _ _ er ra
    have tlr : tl ≠ r := fun z => by rw [z, er] at htl; cases htl
    have tla : tl ≠ a := fun z => by rw [z, t1.same y2] at htl; cases htl
    refine ⟨tl, rfl, ⟨_, SqL.of etl⟩, for_list (xs := ss.map V.str) (fun i σ H4 => ∃ (v4 v5 v6 : Option V) (xs : List V), σ = [some (.ref a), some (.int most), some (.int (mn : Int)), some (.ref r), v4, v5, v6] ∧ Kl a H H4 ∧ TapIs H4 a ((ss.take i).foldl varStep ([], u2)).2 ∧ H4 tl = some (.lst (ss.map V.str)) ∧ H4 r = some (.lst xs) ∧ Paired (VarAt H4) xs ((ss.take i).foldl varStep ([], u2)).1)
      ⟨_, _, _, [], rfl, fun b o e hb => k3 _ _ (y2 _ _ (k1 _ _ e hb)) hb, t3, etl, er3, .nil⟩ ?_ ?_ ?_⟩
    · rintro i σ H4 _ ⟨v4, v5, v6, xs, rfl, k4, t4, etl4, er4, hx⟩
      exact SqL.of etl4
    · rintro i x σ H4 hx0 ⟨v4, v5, v6, xs, rfl, k4, t4, etl4, er4, hx⟩
      have hi : i < ss.length := by have := (List.getElem?_eq_some_iff.mp hx0).1; rwa [List.length_map] at this
      rw [List.getElem?_map, List.getElem?_eq_getElem hi] at hx0
      cases hx0
      obtain ⟨nm, hnm⟩ : ∃ z, ss[i] = z := ⟨_, rfl⟩
      have hnx := fold_take varStep ([], u2) (List.getElem?_eq_getElem hi)
      rw [hnm] at hnx ⊢
      have fc := varFold_c (ss.take i) ([], u2)
      rw [List.length_take] at fc
      have lx : xs.length ≤ 40 := by
        have := hx.length
        have f2 : _ = ([] : List VRow).length + _ := fc.2
        have z : ([] : List VRow).length = 0 := rfl
        omega
      rw [hnx]
      obtain ⟨rows, u4, e4⟩ : ∃ v t', (ss.take i).foldl varStep ([], u2) = (v, t') := ⟨_, _, rfl⟩
      rw [e4] at t4 hx fc ⊢
      have t4 : TapIs H4 a u4 := t4
      have hx : Paired (VarAt H4) xs rows := hx
      have fc4 : u4.c ≤ u2.c + 2 * min i ss.length := fc.1
      unfold varStep
      refine ⟨(by show 3 ≤ sizeLine; omega), fun L hL => ?_⟩
      have yL := Same.put (o := .lst [V.str "num", V.str "flag", V.str "list"]) hL
      have eL : upd H4 L (.lst [V.str "num", V.str "flag", V.str "list"]) L = some (.lst [V.str "num", V.str "flag", V.str "list"]) := upd_same
      generalize upd H4 L (.lst [V.str "num", V.str "flag", V.str "list"]) = H5 at yL eL ⊢
      have La : L ≠ a := fun z => by rw [z, t4] at hL; cases hL
      have bk := next_bd u4 (size := 3) (by decide)
      have ck := next_c u4 3
      refine ⟨_, rfl, a, u4, 3, rfl, t4.same yL, by omega, by decide, by decide, fun H6 k6 t6 => ?_⟩
      obtain ⟨_, ekd⟩ := kind_ok bk.1 bk.2
      refine ⟨L, _, _, _, rfl, rfl, SqL.of (k6 _ _ eL La), ekd, ?_⟩
      obtain ⟨v, u5, e5⟩ : ∃ v t', nextM u4 3 = (v, t') := ⟨_, _, rfl⟩
      rw [e5] at ck t6
      have t6 : TapIs H6 a u5 := t6
      have ck : u5.c = u4.c + 1 := ck
      show gName _ _ _ _ _
      simp only [e5]
      obtain ⟨kd, hkd⟩ : ∃ z, kinds3.getD v.toNat "" = z := ⟨_, rfl⟩
      simp only [hkd]
      have er6 : H6 r = some (.lst xs) := k6 _ _ (yL _ _ er4) ra
      -- the row is put at the end
      have fin : ∀ (n : Int) (H7 : Hp) (u7 : Tp) (w4 w5 w6 : Option V), Kl a H6 H7 → TapIs H7 a u7 → ∀ p, H7 p = none → ∃ (v4 v5 v6 : Option V) (xs' : List V), [some (V.ref a), some (V.int most), some (V.int (mn : Int)), some (V.ref r), w4, w5, w6] = [some (.ref a), some (.int most), some (.int (mn : Int)), some (.ref r), v4, v5, v6] ∧ Kl a H (upd (upd H7 p (.tup [.str kd, .str nm, .int n])) r (.lst (xs ++ [V.ref p]))) ∧ TapIs (upd (upd H7 p (.tup [.str kd, .str nm, .int n])) r (.lst (xs ++ [V.ref p]))) a u7 ∧ upd (upd H7 p (.tup [.str kd, .str nm, .int n])) r (.lst (xs ++ [V.ref p])) tl = some (.lst (ss.map V.str)) ∧ upd (upd H7 p (.tup [.str kd, .str nm, .int n])) r (.lst (xs ++ [V.ref p])) r = some (.lst xs') ∧ Paired (VarAt (upd (upd H7 p (.tup [.str kd, .str nm, .int n])) r (.lst (xs ++ [V.ref p])))) xs' (rows ++ [(kd, nm, n)]) := fun n H7 u7 w4 w5 w6 k7 t7 p hp => by
        have k47 : Kl a H4 H7 := ((Kl.of (l := a) yL).trans k6).trans k7
        have er7 : H7 r = some (.lst xs) := k47 _ _ er4 ra
        have yt := Same.put (o := .tup [.str kd, .str nm, .int n]) hp
        have et : upd H7 p (.tup [.str kd, .str nm, .int n]) p = some (.tup [.str kd, .str nm, .int n]) := upd_same
        generalize upd H7 p (.tup [.str kd, .str nm, .int n]) = H8 at yt et ⊢
        have er8 := yt _ _ er7
        have kp : ∀ (b : Addr) (ys : List V), H8 b = some (.tup ys) → upd H8 r (.lst (xs ++ [V.ref p])) b = some (.tup ys) := fun b ys e => by rw [upd_ne (ne_of e er8 (by intro z; cases z))]; exact e
        refine ⟨_, _, _, xs ++ [.ref p], rfl, fun b o e hb => ?_, ?_, ?_, upd_same, ?_⟩
        · rw [upd_ne (ne_of_none e hHr)]
          exact yt _ _ (k47 _ _ (k4 _ _ e hb) hb)
        · show upd H8 r _ a = _
          rw [upd_ne ra.symm]; exact yt _ _ t7
        · rw [upd_ne tlr]; exact yt _ _ (k47 _ _ etl4 tla)
        · exact Paired.app (Paired.mapP hx fun _ _ z => ((z.keep (Kl.tup t4 k47)).same yt).keep kp) (.cons ⟨p, rfl, kp _ _ et⟩ .nil)
      refine ⟨_, rfl, rfl, _, rfl, ite2 (fun h => ?_) (fun h => ?_)⟩
      · have hk : kd = "list" := V.str.inj (of_decide_eq_true h)
        refine ⟨(by show 4 ≤ sizeLine; omega), fun L2 hL2 => ?_⟩
        have y7 := Same.put (o := .lst [V.int 1, V.int 2, V.int 5, V.int 99]) hL2
        have eL2 : upd H6 L2 (.lst [V.int 1, V.int 2, V.int 5, V.int 99]) L2 = some (.lst [V.int 1, V.int 2, V.int 5, V.int 99]) := upd_same
        generalize upd H6 L2 (.lst [V.int 1, V.int 2, V.int 5, V.int 99]) = H7 at y7 eL2 ⊢
        have L2a : L2 ≠ a := fun z => by rw [z, t6] at hL2; cases hL2
        have b4 := next_bd u5 (size := 4) (by decide)
        refine ⟨_, rfl, a, u5, 4, rfl, t6.same y7, by omega, by decide, by decide, fun H8 k8 t8 => ?_⟩
        refine ⟨L2, _, _, _, rfl, rfl, SqL.of (k8 _ _ eL2 L2a), size_at b4.1 b4.2, ?_⟩
        have k68 := (Kl.of (l := a) y7).trans k8
        refine ⟨_, rfl, .inl ⟨rfl, _, SqL.of (k68 _ _ er6 ra)⟩, _, rfl, _, rfl, _, rfl, (by show 3 ≤ sizeLine; omega), fun p hp => ⟨r, _, _, rfl, rfl, (Same.put hp) _ _ (k68 _ _ er6 ra), by omega, ?_⟩⟩
        rw [if_pos hk]
        exact fin _ H8 _ _ _ _ k68 t8 p hp
      · have hk : ¬ kd = "list" := fun z => h (decide_eq_true (congrArg V.str z))
        refine ⟨_, rfl, .inl ⟨rfl, _, SqL.of er6⟩, _, rfl, _, rfl, _, rfl, (by show 3 ≤ sizeLine; omega), fun p hp => ⟨r, _, _, rfl, rfl, (Same.put hp) _ _ er6, by omega, ?_⟩⟩
        rw [if_neg hk]
        exact fin 1 H6 u5 _ _ _ (Kl.of (Same.refl _)) t6 p hp
    · rintro σ H4 ⟨v4, v5, v6, xs, rfl, k4, t4, etl4, er4, hx⟩
      rw [List.length_map, List.take_of_length_le (Nat.le_refl _)] at t4 hx
      exact ⟨_, rfl, q r xs H4 hHr ra k4 t4 er4 hx⟩
end
end K46

set_option Elab.async false
set_option linter.all false
set_option maxRecDepth 100000
set_option maxHeartbeats 4000000
namespace K46
open PySem L2
/-! ### statements and bodies, each with its place on the heap -/
mutual
inductive Sm where
  | leaf (r : Addr) (d : PyData)
  | iff (r : Addr) (e : PyData) (a1 : Addr) (b1 : Bd) (a2 : Addr) (b2 : Bd)
  | wh (r : Addr) (e : PyData) (a1 : Addr) (b1 : Bd)
inductive Bd where
  | nil
  | cons (s : Sm) (b : Bd)
end
def Sm.ref : Sm → V
  | .leaf r _ => .ref r
  | .iff r _ _ _ _ _ => .ref r
  | .wh r _ _ _ => .ref r
def Bd.refs : Bd → List V
  | .nil => []
  | .cons s b => s.ref :: b.refs
mutual
def Sm.dat : Sm → PyData
  | .leaf _ d => d
  | .iff _ e _ b1 _ b2 => .tuple [.str "if", e, .list b1.dat, .list b2.dat]
  | .wh _ e _ b1 => .tuple [.str "while", e, .list b1.dat]
def Bd.dat : Bd → List PyData
  | .nil => []
  | .cons s b => s.dat :: b.dat
end
mutual
def Sm.inner : Sm → List V
  | .leaf _ _ => []
  | .iff _ _ _ b1 _ b2 => b1.flat ++ b2.flat
  | .wh _ _ _ b1 => b1.flat
def Bd.flat : Bd → List V
  | .nil => []
  | .cons s b => s.ref :: (s.inner ++ b.flat)
end
mutual
def Sm.nest : Sm → Nat
  | .leaf _ _ => 0
  | .iff _ _ _ b1 _ b2 => max b1.nest b2.nest + 1
  | .wh _ _ _ b1 => b1.nest + 1
def Bd.nest : Bd → Nat
  | .nil => 0
  | .cons s b => max s.nest b.nest
end
mutual
def SmAt (H : Hp) : Sm → Prop
  | .leaf r d => ∃ (tag : Str) (vs : List V) (ds : List PyData), H r = some (.tup (.str tag :: vs)) ∧ TDs H vs ds ∧ d = .tuple (.str tag :: ds) ∧ tag ≠ "if" ∧ tag ≠ "while" ∧ vs.length ≤ 9
  | .iff r e a1 b1 a2 b2 => ∃ v, H r = some (.tup [.str "if", v, .ref a1, .ref a2]) ∧ TD H v e ∧ H a1 = some (.lst b1.refs) ∧ BdAt H b1 ∧ H a2 = some (.lst b2.refs) ∧ BdAt H b2 ∧ b1.refs.length ≤ 10 ∧ b2.refs.length ≤ 10
  | .wh r e a1 b1 => ∃ v, H r = some (.tup [.str "while", v, .ref a1]) ∧ TD H v e ∧ H a1 = some (.lst b1.refs) ∧ BdAt H b1 ∧ b1.refs.length ≤ 10
def BdAt (H : Hp) : Bd → Prop
  | .nil => True
  | .cons s b => SmAt H s ∧ BdAt H b
end
mutual
/-- all of its lists' places -/
def SmAll (p : Addr → Prop) : Sm → Prop
  | .leaf _ _ => True
  | .iff _ _ a1 b1 a2 b2 => p a1 ∧ BdAll p b1 ∧ p a2 ∧ BdAll p b2
  | .wh _ _ a1 b1 => p a1 ∧ BdAll p b1
def BdAll (p : Addr → Prop) : Bd → Prop
  | .nil => True
  | .cons s b => SmAll p s ∧ BdAll p b
end
mutual
theorem SmAll.mono {p q : Addr → Prop} (h : ∀ a, p a → q a) : ∀ {s : Sm}, SmAll p s → SmAll q s
  | .leaf _ _, _ => trivial
  | .iff _ _ _ _ _ _, ⟨x, y, z, w⟩ => ⟨h _ x, BdAll.mono h y, h _ z, BdAll.mono h w⟩
  | .wh _ _ _ _, ⟨x, y⟩ => ⟨h _ x, BdAll.mono h y⟩
theorem BdAll.mono {p q : Addr → Prop} (h : ∀ a, p a → q a) : ∀ {b : Bd}, BdAll p b → BdAll q b
  | .nil, _ => trivial
  | .cons _ _, ⟨x, y⟩ => ⟨SmAll.mono h x, BdAll.mono h y⟩
end
mutual
theorem SmAll.all {p : Addr → Prop} (h : ∀ a, p a) : ∀ (s : Sm), SmAll p s
  | .leaf _ _ => trivial
  | .iff _ _ _ b1 _ b2 => ⟨h _, BdAll.all h b1, h _, BdAll.all h b2⟩
  | .wh _ _ _ b1 => ⟨h _, BdAll.all h b1⟩
theorem BdAll.all {p : Addr → Prop} (h : ∀ a, p a) : ∀ (b : Bd), BdAll p b
  | .nil => trivial
  | .cons s b => ⟨SmAll.all h s, BdAll.all h b⟩
end
mutual
theorem SmAt.keep {H H' : Hp} {p : Addr → Prop} (k2 : ∀ b vs, H b = some (.tup vs) → H' b = some (.tup vs)) (k1 : ∀ a, p a → ∀ vs, H a = some (.lst vs) → H' a = some (.lst vs)) : ∀ {s : Sm}, SmAll p s → SmAt H s → SmAt H' s
  | .leaf _ _, _, ⟨tag, vs, ds, h1, h2, h3⟩ => ⟨tag, vs, ds, k2 _ _ h1, h2.keep k2, h3⟩
  | .iff _ _ _ _ _ _, ⟨x, y, z, w⟩, ⟨v, h1, h2, h3, h4, h5, h6, h7⟩ => ⟨v, k2 _ _ h1, h2.keep k2, k1 _ x _ h3, BdAt.keep k2 k1 y h4, k1 _ z _ h5, BdAt.keep k2 k1 w h6, h7⟩
  | .wh _ _ _ _, ⟨x, y⟩, ⟨v, h1, h2, h3, h4, h5⟩ => ⟨v, k2 _ _ h1, h2.keep k2, k1 _ x _ h3, BdAt.keep k2 k1 y h4, h5⟩
theorem BdAt.keep {H H' : Hp} {p : Addr → Prop} (k2 : ∀ b vs, H b = some (.tup vs) → H' b = some (.tup vs)) (k1 : ∀ a, p a → ∀ vs, H a = some (.lst vs) → H' a = some (.lst vs)) : ∀ {b : Bd}, BdAll p b → BdAt H b → BdAt H' b
  | .nil, _, _ => trivial
  | .cons _ _, ⟨x, y⟩, ⟨u, v⟩ => ⟨SmAt.keep k2 k1 x u, BdAt.keep k2 k1 y v⟩
end
theorem BdAt.same {H H' : Hp} (s : Same H H') {x : Bd} (h : BdAt H x) : BdAt H' x := h.keep (p := fun _ => True) (fun _ _ e => s _ _ e) (fun _ _ _ e => s _ _ e) (BdAll.all (fun _ => trivial) x)
/-- its lists are new against H0 -/
abbrev SmNew (H0 : Hp) : Sm → Prop := SmAll fun a => H0 a = none
abbrev BdNew (H0 : Hp) : Bd → Prop := BdAll fun a => H0 a = none
/-- kept while one other list l, that was there, changes -/
theorem SmAt.kl {H0 H H' : Hp} {l : Addr} {xs : List V} (h0 : H0 l ≠ none) (el : H l = some (.lst xs)) (k : Kl l H H') {s : Sm} (n : SmNew H0 s) (h : SmAt H s) : SmAt H' s :=
  h.keep (Kl.tup el k) (fun a ha vs e => k _ _ e fun z => h0 (z ▸ ha)) n
theorem BdAt.kl {H0 H H' : Hp} {l : Addr} {xs : List V} (h0 : H0 l ≠ none) (el : H l = some (.lst xs)) (k : Kl l H H') {s : Bd} (n : BdNew H0 s) (h : BdAt H s) : BdAt H' s :=
  h.keep (Kl.tup el k) (fun a ha vs e => k _ _ e fun z => h0 (z ▸ ha)) n
def Bd.app : Bd → Bd → Bd
  | .nil, b => b
  | .cons s r, b => .cons s (r.app b)
theorem app_refs : ∀ a b : Bd, (a.app b).refs = a.refs ++ b.refs
  | .nil, _ => rfl
  | .cons s r, b => by show s.ref :: (r.app b).refs = _; rw [app_refs r b]; rfl
theorem app_dat : ∀ a b : Bd, (a.app b).dat = a.dat ++ b.dat
  | .nil, _ => by rw [Bd.dat]; rfl
  | .cons s r, b => by show (Bd.cons s (r.app b)).dat = _; rw [Bd.dat, app_dat r b, Bd.dat]; rfl
theorem app_nest : ∀ a b : Bd, (a.app b).nest = max a.nest b.nest
  | .nil, b => by rw [Bd.nest]; show b.nest = _; omega
  | .cons s r, b => by show (Bd.cons s (r.app b)).nest = _; rw [Bd.nest, app_nest r b, Bd.nest]; omega
theorem app_at {H : Hp} : ∀ {a b : Bd}, BdAt H a → BdAt H b → BdAt H (a.app b)
  | .nil, _, _, h => h
  | .cons _ _, _, ⟨x, y⟩, h => ⟨x, app_at y h⟩
theorem app_all {p : Addr → Prop} : ∀ {a b : Bd}, BdAll p a → BdAll p b → BdAll p (a.app b)
  | .nil, _, _, h => h
  | .cons _ _, _, ⟨x, y⟩, h => ⟨x, app_all y h⟩
/-! ### drawn, as data -/
def nameAt (names : List Str) (t : Tp) : Str := names.getD (nextM t names.length).1.toNat ""
def stB (rec : Tp → List PyData × Tp) (names parts : List Str) (wy : Int) (t : Tp) : PyData × Tp :=
  if wy = 0 then (.tuple [.str "tell", (exprM names 2 t).1], (exprM names 2 t).2)
  else if wy = 1 then (.tuple [.str "set", .str (nameAt names t), (exprM names 2 (nextM t names.length).2).1], (exprM names 2 (nextM t names.length).2).2)
  else if wy = 2 then (.tuple [.str "put", .str (nameAt names t), (exprM names 1 (nextM t names.length).2).1, (exprM names 2 (exprM names 1 (nextM t names.length).2).2).1], (exprM names 2 (exprM names 1 (nextM t names.length).2).2).2)
  else if wy = 3 then (.tuple [.str "ask", .str (nameAt names t)], (nextM t names.length).2)
  else if wy = 4 ∧ parts ≠ [] then (.tuple [.str "do", .str (nameAt parts t)], (nextM t parts.length).2)
  else if wy = 5 then (.tuple [.str "if", (exprM names 2 t).1, .list (rec (exprM names 2 t).2).1, .list (rec (rec (exprM names 2 t).2).2).1], (rec (rec (exprM names 2 t).2).2).2)
  else if wy = 6 then (.tuple [.str "while", (exprM names 2 t).1, .list (rec (exprM names 2 t).2).1], (rec (exprM names 2 t).2).2)
  else if wy = 7 then (.tuple [.str "stop"], t)
  else (.tuple [.str "way"], t)
def wayM (z : Bool) (t : Tp) : Int := if (z = true ∨ 60 < (nextM t 9).2.c) ∧ 4 < (nextM t 9).1 ∧ (nextM t 9).1 < 7 then (nextM t 9).1 - 5 else (nextM t 9).1
def stM (rec : Tp → List PyData × Tp) (z : Bool) (names parts : List Str) (t : Tp) : PyData × Tp := stB rec names parts (wayM z t) (nextM t 9).2
def bodF (stm : Tp → PyData × Tp) (s : List PyData × Tp) : Nat → List PyData × Tp
  | 0 => s
  | k + 1 => if (bodF stm s k).2.c < 70 then ((bodF stm s k).1 ++ [(stm (bodF stm s k).2).1], (stm (bodF stm s k).2).2) else bodF stm s k
def bodB (stm : Tp → PyData × Tp) (t : Tp) : List PyData × Tp := bodF stm ([], (nextM t 4).2) (nextM t 4).1.toNat
def bodM (names parts : List Str) : Nat → Tp → List PyData × Tp
  | 0 => bodB (stM (fun t => ([], t)) true names parts)
  | n + 1 => bodB (stM (bodM names parts n) false names parts)
def recM (names parts : List Str) : Nat → Tp → List PyData × Tp
  | 0 => fun t => ([], t)
  | n + 1 => bodM names parts n
def stmM (names parts : List Str) (n : Nat) : Tp → PyData × Tp := stM (recM names parts n) (decide (n = 0)) names parts
theorem bod_eq (names parts : List Str) (n : Nat) (t : Tp) : bodM names parts n t = bodB (stmM names parts n) t := by
  cases n <;> rfl
/-! ### how many draws -/
def Bb : Nat → Nat
  | 0 => 97
  | n + 1 => 97 + 6 * Bb n
theorem stB_c {rec : Tp → List PyData × Tp} {names parts : List Str} {b : Nat} (hr : ∀ t, (rec t).2.c ≤ t.c + b) (wy : Int) (t : Tp) : (stB rec names parts wy t).2.c ≤ t.c + 31 + 2 * b := by
  have e2 := expr_c names 2
  have e1 := expr_c names 1
  have b2 : bd 2 = 20 := rfl
  have b1 : bd 1 = 10 := rfl
  have n1 := next_c t names.length
  have n2 := next_c t parts.length
  have x1 := e2 t
  have x2 := e2 (nextM t names.length).2
  have x3 := e1 (nextM t names.length).2
  have x4 := e2 (exprM names 1 (nextM t names.length).2).2
  have r1 := hr (exprM names 2 t).2
  have r2 := hr (rec (exprM names 2 t).2).2
  unfold stB
  split
  · show (exprM names 2 t).2.c ≤ _; omega
  split
  · show (exprM names 2 _).2.c ≤ _; omega
  split
  · show (exprM names 2 _).2.c ≤ _; omega
  split
  · show (nextM _ _).2.c ≤ _; omega
  split
  · show (nextM _ _).2.c ≤ _; omega
  split
  · show (rec _).2.c ≤ _; omega
  split
  · show (rec _).2.c ≤ _; omega
  split
  · show t.c ≤ _; omega
  · show t.c ≤ _; omega
theorem bodF_c {stm : Tp → PyData × Tp} {b : Nat} (h : ∀ t, (stm t).2.c ≤ t.c + b) (s : List PyData × Tp) : ∀ k, (bodF stm s k).2.c ≤ s.2.c + k * b
  | 0 => by show s.2.c ≤ _; omega
  | k + 1 => by
    have ih := bodF_c h s k
    have h1 := h (bodF stm s k).2
    rw [Nat.succ_mul]
    show (if _ then _ else _ : List PyData × Tp).2.c ≤ _
    split
    · show (stm _).2.c ≤ _; omega
    · omega
theorem bodB_c {stm : Tp → PyData × Tp} {b : Nat} (h : ∀ t, (stm t).2.c ≤ t.c + b) (t : Tp) : (bodB stm t).2.c ≤ t.c + 1 + 3 * b := by
  have := bodF_c h ([], (nextM t 4).2) (nextM t 4).1.toNat
  have bn := next_bd t (size := 4) (by decide)
  have cn := next_c t 4
  unfold bodB
  have k3 : (nextM t 4).1.toNat * b ≤ 3 * b := Nat.mul_le_mul_right _ (by omega)
  have this : _ ≤ (nextM t 4).2.c + _ := this
  omega
theorem bod_c (names parts : List Str) : ∀ (n : Nat) (t : Tp), (bodM names parts n t).2.c ≤ t.c + Bb n
  | 0, t => by
    have := bodB_c (stm := stM (fun t => ([], t)) true names parts) (b := 32) (fun t => by
      have := stB_c (rec := fun t => ([], t)) (names := names) (parts := parts) (b := 0) (fun t => Nat.le_refl _) (wayM true t) (nextM t 9).2
      have cn := next_c t 9
      show (stB _ _ _ _ _).2.c ≤ _
      omega) t
    show (bodB _ t).2.c ≤ t.c + 97
    omega
  | n + 1, t => by
    have := bodB_c (stm := stM (bodM names parts n) false names parts) (b := 32 + 2 * Bb n) (fun t => by
      have := stB_c (rec := bodM names parts n) (names := names) (parts := parts) (b := Bb n) (bod_c names parts n) (wayM false t) (nextM t 9).2
      have cn := next_c t 9
      show (stB _ _ _ _ _).2.c ≤ _
      omega) t
    show (bodB _ t).2.c ≤ t.c + (97 + 6 * Bb n)
    omega
theorem stm_c (names parts : List Str) (n : Nat) (t : Tp) : (stmM names parts n t).2.c ≤ t.c + 32 + 2 * Bb n := by
  have key : ∀ b, (∀ t, (recM names parts n t).2.c ≤ t.c + b) → b ≤ Bb n → (stmM names parts n t).2.c ≤ t.c + 32 + 2 * Bb n := fun b h hb => by
    have := stB_c (names := names) (parts := parts) h (wayM (decide (n = 0)) t) (nextM t 9).2
    have cn := next_c t 9
    show (stB _ _ _ _ _).2.c ≤ _
    omega
  cases n with
  | zero => exact key 0 (fun t => Nat.le_refl _) (Nat.zero_le _)
  | succ m => exact key (Bb m) (bod_c names parts m) (by show Bb m ≤ 97 + 6 * Bb m; omega)
end K46

set_option Elab.async false
set_option linter.all false
set_option maxRecDepth 100000
set_option maxHeartbeats 4000000
namespace K46
open PySem L2
structure Nm (H : Hp) (a nl pl : Addr) (names parts : List Str) : Prop where
  en : H nl = some (.lst (names.map V.str))
  ep : H pl = some (.lst (parts.map V.str))
  n0 : 0 < names.length
  n1 : names.length ≤ 1000
  p1 : parts.length ≤ 1000
  ok : ∀ x ∈ names, PyData.strOk x = true
  okp : ∀ x ∈ parts, PyData.strOk x = true
  na : a ≠ nl
  pa : a ≠ pl
theorem Nm.kl {H H' : Hp} {a nl pl : Addr} {names parts : List Str} (h : Nm H a nl pl names parts) (k : Kl a H H') : Nm H' a nl pl names parts := ⟨k _ _ h.en h.na.symm, k _ _ h.ep h.pa.symm, h.n0, h.n1, h.p1, h.ok, h.okp, h.na, h.pa⟩
theorem Nm.same {H H' : Hp} {a nl pl : Addr} {names parts : List Str} (h : Nm H a nl pl names parts) (s : Same H H') : Nm H' a nl pl names parts := h.kl (Kl.of s)
def sp_st (n : Nat) : Sp := fun vs H Q _ => ∃ (a nl pl : Addr) (names parts : List Str) (t : Tp), vs = [.ref a, .ref nl, .ref pl, .int (n : Int)] ∧ TapIs H a t ∧ t.c + 40 + 2 * Bb n ≤ cMax ∧ Nm H a nl pl names parts ∧
  ∀ (s : Sm) (H' : Hp), Kl a H H' → TapIs H' a (stmM names parts n t).2 → SmAt H' s → SmNew H s → s.dat = (stmM names parts n t).1 → s.nest ≤ n → Q s.ref H'
def sp_bd (n : Nat) : Sp := fun vs H Q _ => ∃ (a nl pl : Addr) (names parts : List Str) (t : Tp), vs = [.ref a, .ref nl, .ref pl, .int (n : Int)] ∧ TapIs H a t ∧ t.c + 130 + 7 * Bb n ≤ cMax ∧ Nm H a nl pl names parts ∧
  ∀ (r : Addr) (b : Bd) (H' : Hp), Kl a H H' → TapIs H' a (bodM names parts n t).2 → H' r = some (.lst b.refs) → H r = none → BdAt H' b → BdNew H b → b.dat = (bodM names parts n t).1 → b.nest ≤ n → b.refs.length ≤ 3 → Q (.ref r) H'
theorem dom_free {H H' : Hp} {a : Addr} (k : Kl a H H') (h : H' a ≠ none) {x : Addr} (e : H' x = none) : H x = none := by
  cases z : H x with
  | none => rfl
  | some o =>
    by_cases hx : x = a
    · exact absurd (hx ▸ e) h
    · rw [k _ _ z hx] at e; cases e
theorem FnOk.any2 {P : Program} {w : World} {K : PySem.W.Frag} {mg : Str → Option Value} {base : Heap} {CX : CXT} {k : Nat} {f : Addr} {fd : FuncData} {ps : List Str} {sp : Nat → Sp} (F : ∀ n, n ≤ 2 → FnOk P w K mg base CX k f fd ps (sp n)) : FnOk P w K mg base CX k f fd ps (fun vs H Q E => ∃ n, n ≤ 2 ∧ sp n vs H Q E) where
  len := fun vs H Q E ⟨n, hn, h⟩ => (F n hn).len vs H Q E h
  run := fun A outer s H args us vs Q E hr hb hi hv ⟨n, hn, h⟩ => (F n hn).run A outer s H args us vs Q E hr hb hi hv h
section
variable {P : Program} {w : World} {K : PySem.W.Frag} {mg : Str → Option Value} {base : Heap}
theorem sc_law_statement : FnScope ["_law_tap_here", "_law_names", "_law_parts", "_law_deep", "_law_way", "_law_name", "_law_expr_here", "_law_body_here"] ["_law_tap_here", "_law_names", "_law_parts", "_law_deep"] (defScope s_law_statement) := ⟨rfl, rfl, rfl, by decide +kernel, rfl, by decide +kernel, by decide +kernel⟩
theorem st_B {n : Nat} {prevB : Sp} {f f1 f2 f3 f4 f5 : Addr} {fd d1 d2 d3 d4 d5 : FuncData} (T : Bt mg) (T_law_mixed : Fn K mg "_law_mixed" s_law_mixed ["_law_number_here", "_law_k"] f1 d1) (T_law_next : Fn K mg "_law_next" s_law_next ["_law_tap_here", "_law_size"] f2 d2) (T_law_number : Fn K mg "_law_number" s_law_number ["_law_tap_here"] f3 d3) (T_law_expr : Fn K mg "_law_expr" s_law_expr ["_law_tap_here", "_law_names", "_law_deep"] f4 d4) (T_law_body : Fn K mg "_law_body" s_law_body ["_law_tap_here", "_law_names", "_law_parts", "_law_deep"] f5 d5)
    (hp : n = 0 ∨ ∃ m, n = m + 1 ∧ prevB = sp_bd m) (G_law_body : FnOk P w K mg base CX0 (2 * n + 6) f5 d5 ["_law_tap_here", "_law_names", "_law_parts", "_law_deep"] prevB) {cdv : Value} {A : Around} {outer : List Env} {s : Shared} {H0 : Hp} {E : XK} (hr : Room (2 * n + 6) (A.deeper (PyProof.Rows.envOfC "_law_statement" (defScope s_law_statement) s.heap.objs.size f cdv))) :
    ∃ u, PSs (cxOf CX0 P w K mg base ["_law_tap_here", "_law_names", "_law_parts", "_law_deep", "_law_way", "_law_name", "_law_expr_here", "_law_body_here"] "_law_statement" (defScope s_law_statement) f cdv A outer s H0 E).nox ((defBody s_law_statement).drop 2) u ∧
      ∀ (D : Ends) (v5 v6 v7 : Option V) (a nl pl : Addr) (names parts : List Str) (t : Tp) (wy : Int) (H : Hp), TapIs H a t → t.c + 38 + 2 * Bb n ≤ cMax → Nm H a nl pl names parts → 0 ≤ wy → wy < 9 → (n = 0 → ¬ (4 < wy ∧ wy < 7)) →
        (∀ (s : Sm) (H' : Hp), Kl a H H' → TapIs H' a (stB (recM names parts n) names parts wy t).2 → SmAt H' s → SmNew H s → s.dat = (stB (recM names parts n) names parts wy t).1 → s.nest ≤ n → D.rt s.ref H') →
        u D [some (.ref a), some (.ref nl), some (.ref pl), some (.int (n : Int)), some (.int wy), v5, v6, v7] H := by
  have G_law_next := ok_law_next (P := P) (w := w) (mg := mg) (base := base) T_law_next.F T_law_mixed
  have G_law_expr : FnOk P w K mg base CX0 6 _ _ ["_law_tap_here", "_law_names", "_law_deep"] (fun vs H Q E => ∃ k, k ≤ 2 ∧ sp_expr k vs H Q E) := FnOk.any2 (sp := sp_expr) fun k hk => (ok_law_expr (P := P) (w := w) (base := base) T T_law_mixed T_law_next T_law_number T_law_expr k).mono (by omega)
  refine ⟨_, (pss_cons (ps_if (pt_cmpR op_eq (pv 4) pe_int (nomark _))
        (pss_one (ps_ret (pe_tup (pa_consN pe_str (pa_consN (pe_call G_law_expr (hr.mono (by omega)) rfl T_law_expr.m T_law_expr.F.kp T_law_expr.b .nil pass0 (pa_consN (pv 0) (pa_consN (pv 1) (pa_consN pe_int pa_nil)))) pa_nil)))))
        pss_nil)
      (pss_cons (ps_if (pt_cmpR op_eq (pv 4) pe_int (nomark _))
        (pss_one (ps_ret (pe_tup (pa_consN pe_str (pa_consN (pe_ix ix_list (pv 1) (pe_call G_law_next (hr.mono (by omega)) rfl T_law_next.m T_law_next.F.kp T_law_next.b .nil pass0 (pa_consN (pv 0) (pa_consN (pe_callB call_len_seq rfl T.b_len (by decide +kernel) (pa_consN (pv 1) pa_nil)) pa_nil))) (fun _ _ => rfl)) (pa_consN (pe_call G_law_expr (hr.mono (by omega)) rfl T_law_expr.m T_law_expr.F.kp T_law_expr.b .nil pass0 (pa_consN (pv 0) (pa_consN (pv 1) (pa_consN pe_int pa_nil)))) pa_nil))))))
        pss_nil)
      (pss_cons (ps_if (pt_cmpR op_eq (pv 4) pe_int (nomark _))
        (pss_cons (ps_set (i := 5) sc_law_statement.nd rfl (Or.inl rfl) (pe_ix ix_list (pv 1) (pe_call G_law_next (hr.mono (by omega)) rfl T_law_next.m T_law_next.F.kp T_law_next.b .nil pass0 (pa_consN (pv 0) (pa_consN (pe_callB call_len_seq rfl T.b_len (by decide +kernel) (pa_consN (pv 1) pa_nil)) pa_nil))) (fun _ _ => rfl)))
        (pss_one (ps_ret (pe_tup (pa_consN pe_str (pa_consN (pv 5) (pa_consN (pe_call G_law_expr (hr.mono (by omega)) rfl T_law_expr.m T_law_expr.F.kp T_law_expr.b .nil pass0 (pa_consN (pv 0) (pa_consN (pv 1) (pa_consN pe_int pa_nil)))) (pa_consN (pe_call G_law_expr (hr.mono (by omega)) rfl T_law_expr.m T_law_expr.F.kp T_law_expr.b .nil pass0 (pa_consN (pv 0) (pa_consN (pv 1) (pa_consN pe_int pa_nil)))) pa_nil))))))))
        pss_nil)
      (pss_cons (ps_if (pt_cmpR op_eq (pv 4) pe_int (nomark _))
        (pss_one (ps_ret (pe_tup (pa_consN pe_str (pa_consN (pe_ix ix_list (pv 1) (pe_call G_law_next (hr.mono (by omega)) rfl T_law_next.m T_law_next.F.kp T_law_next.b .nil pass0 (pa_consN (pv 0) (pa_consN (pe_callB call_len_seq rfl T.b_len (by decide +kernel) (pa_consN (pv 1) pa_nil)) pa_nil))) (fun _ _ => rfl)) pa_nil)))))
        pss_nil)
      (pss_cons (ps_if (PW.pt (pw_and (pt_cmpR op_eq (pv 4) pe_int (nomark _)) (pw_and1 (pt_cmpR (op_neD (hr.units)) (pv 2) (pe_lst pa_nil) (nomark _)))))
        (pss_one (ps_ret (pe_tup (pa_consN pe_str (pa_consN (pe_ix ix_list (pv 2) (pe_call G_law_next (hr.mono (by omega)) rfl T_law_next.m T_law_next.F.kp T_law_next.b .nil pass0 (pa_consN (pv 0) (pa_consN (pe_callB call_len_seq rfl T.b_len (by decide +kernel) (pa_consN (pv 2) pa_nil)) pa_nil))) (fun _ _ => rfl)) pa_nil)))))
        pss_nil)
      (pss_cons (ps_if (pt_cmpR op_eq (pv 4) pe_int (nomark _))
        (pss_cons (ps_set (i := 6) sc_law_statement.nd rfl (Or.inl rfl) (pe_call G_law_expr (hr.mono (by omega)) rfl T_law_expr.m T_law_expr.F.kp T_law_expr.b .nil pass0 (pa_consN (pv 0) (pa_consN (pv 1) (pa_consN pe_int pa_nil)))))
        (pss_cons (ps_set (i := 7) sc_law_statement.nd rfl (Or.inl rfl) (pe_call G_law_body (hr.mono (by omega)) rfl T_law_body.m T_law_body.F.kp T_law_body.b .nil pass0 (pa_consN (pv 0) (pa_consN (pv 1) (pa_consN (pv 2) (pa_consN (pe_op op_sub (pv 3) pe_int) pa_nil))))))
        (pss_one (ps_ret (pe_tup (pa_consN pe_str (pa_consN (pv 6) (pa_consN (pv 7) (pa_consN (pe_call G_law_body (hr.mono (by omega)) rfl T_law_body.m T_law_body.F.kp T_law_body.b .nil pass0 (pa_consN (pv 0) (pa_consN (pv 1) (pa_consN (pv 2) (pa_consN (pe_op op_sub (pv 3) pe_int) pa_nil))))) pa_nil)))))))))
        pss_nil)
      (pss_cons (ps_if (pt_cmpR op_eq (pv 4) pe_int (nomark _))
        (pss_one (ps_ret (pe_tup (pa_consN pe_str (pa_consN (pe_call G_law_expr (hr.mono (by omega)) rfl T_law_expr.m T_law_expr.F.kp T_law_expr.b .nil pass0 (pa_consN (pv 0) (pa_consN (pv 1) (pa_consN pe_int pa_nil)))) (pa_consN (pe_call G_law_body (hr.mono (by omega)) rfl T_law_body.m T_law_body.F.kp T_law_body.b .nil pass0 (pa_consN (pv 0) (pa_consN (pv 1) (pa_consN (pv 2) (pa_consN (pe_op op_sub (pv 3) pe_int) pa_nil))))) pa_nil))))))
        pss_nil)
      (pss_cons (ps_if (pt_cmpR op_eq (pv 4) pe_int (nomark _))
        (pss_one (ps_ret (pe_tup (pa_consN pe_str pa_nil))))
        pss_nil)
      (pss_one (ps_ret (pe_tup (pa_consN pe_str pa_nil)))))))))))), ?_⟩
  intro D v5 v6 v7 a nl pl names parts t wy H ta hc nm w0 w9 wn q
  have hs : sizeLine = 16777216 := sizeLine_eq
  have cm : cMax = 90000000000000 := rfl
  have b2 : bd 2 = 20 := rfl
  have b1 : bd 1 = 10 := rfl
  have hlen : (((names.map V.str).length : Nat) : Int) = (names.length : Int) := by rw [List.length_map]
  have hlenp : (((parts.map V.str).length : Nat) : Int) = (parts.length : Int) := by rw [List.length_map]
  have n0 := nm.n0
  have n1 := nm.n1
  have p1 := nm.p1
  have bn := next_bd t (size := names.length) (by omega)
  have cn := next_c t names.length
  obtain ⟨_, exn⟩ := str_ix (ss := names) bn.1 bn.2
  unfold stB at q
  have go : ∀ {wz : Int}, ¬ wy = wz → ¬ V.int wy = V.int wz := fun h z => h (V.int.inj z)
  by_cases h0 : wy = 0
  · rw [if_pos h0] at q
    refine ⟨_, rfl, rfl, _, rfl, itDP (congrArg V.int h0) ?_⟩
    refine ⟨_, rfl, _, rfl, 2, by decide, a, nl, names, t, rfl, ta, by omega, nm.en, n0, n1, nm.ok, nm.na, fun v H1 k1 t1 he => ⟨(by show 2 ≤ sizeLine; omega), fun p hp => ?_⟩⟩
    exact q (.leaf p _) _ (k1.trans (Kl.of (Same.put hp))) (t1.same (Same.put hp)) ⟨"tell", [v], [_], upd_same, .cons (he.same (Same.put hp)) .nil, rfl, by decide +kernel, by decide +kernel, by simp⟩ trivial rfl (Nat.zero_le _)
  rw [if_neg h0] at q
  refine ⟨_, rfl, rfl, _, rfl, itDN (go h0) ?_⟩
  by_cases h1 : wy = 1
  · rw [if_pos h1] at q
    refine ⟨_, rfl, rfl, _, rfl, itDP (congrArg V.int h1) ?_⟩
    refine ⟨_, rfl, _, rfl, _, rfl, nl, _, rfl, .inl (SqL.of nm.en), ?_⟩
    rw [hlen]
    refine ⟨a, t, _, rfl, ta, by omega, by omega, by omega, fun H1 k1 t1 => ?_⟩
    have nm1 := nm.kl k1
    refine ⟨nl, _, _, _, rfl, rfl, SqL.of nm1.en, exn, ?_⟩
    refine ⟨_, rfl, _, rfl, 2, by decide, a, nl, names, _, rfl, t1, by omega, nm1.en, n0, n1, nm.ok, nm.na, fun v H2 k2 t2 he => ⟨(by show 3 ≤ sizeLine; omega), fun p hp => ?_⟩⟩
    exact q (.leaf p _) _ ((k1.trans k2).trans (Kl.of (Same.put hp))) (t2.same (Same.put hp)) ⟨"set", [_, v], [_, _], upd_same, .cons (.str _) (.cons (he.same (Same.put hp)) .nil), rfl, by decide +kernel, by decide +kernel, by simp⟩ trivial rfl (Nat.zero_le _)
  rw [if_neg h1] at q
  refine ⟨_, rfl, rfl, _, rfl, itDN (go h1) ?_⟩
  by_cases h2 : wy = 2
  · rw [if_pos h2] at q
    refine ⟨_, rfl, rfl, _, rfl, itDP (congrArg V.int h2) ?_⟩
    refine ⟨_, rfl, _, rfl, _, rfl, nl, _, rfl, .inl (SqL.of nm.en), ?_⟩
    rw [hlen]
    refine ⟨a, t, _, rfl, ta, by omega, by omega, by omega, fun H1 k1 t1 => ?_⟩
    have nm1 := nm.kl k1
    refine ⟨nl, _, _, _, rfl, rfl, SqL.of nm1.en, exn, ?_⟩
    refine ⟨_, rfl, _, rfl, _, rfl, 1, by decide, a, nl, names, _, rfl, t1, by omega, nm1.en, n0, n1, nm.ok, nm.na, fun v H2 k2 t2 he => ?_⟩
    have nm2 := nm1.kl k2
    have ec := expr_c names 1 (nextM t names.length).2
    refine ⟨_, rfl, _, rfl, 2, by decide, a, nl, names, _, rfl, t2, by omega, nm2.en, n0, n1, nm.ok, nm.na, fun v' H3 k3 t3 he' => ⟨(by show 4 ≤ sizeLine; omega), fun p hp => ?_⟩⟩
    exact q (.leaf p _) _ (((k1.trans k2).trans k3).trans (Kl.of (Same.put hp))) (t3.same (Same.put hp)) ⟨"put", [_, v, v'], [_, _, _], upd_same, .cons (.str _) (.cons ((he.kl t2 k3).same (Same.put hp)) (.cons (he'.same (Same.put hp)) .nil)), rfl, by decide +kernel, by decide +kernel, by simp⟩ trivial rfl (Nat.zero_le _)
  rw [if_neg h2] at q
  refine ⟨_, rfl, rfl, _, rfl, itDN (go h2) ?_⟩
  by_cases h3 : wy = 3
  · rw [if_pos h3] at q
    refine ⟨_, rfl, rfl, _, rfl, itDP (congrArg V.int h3) ?_⟩
    refine ⟨_, rfl, _, rfl, _, rfl, nl, _, rfl, .inl (SqL.of nm.en), ?_⟩
    rw [hlen]
    refine ⟨a, t, _, rfl, ta, by omega, by omega, by omega, fun H1 k1 t1 => ?_⟩
    have nm1 := nm.kl k1
    refine ⟨nl, _, _, _, rfl, rfl, SqL.of nm1.en, exn, (by show 2 ≤ sizeLine; omega), fun p hp => ?_⟩
    exact q (.leaf p _) _ (k1.trans (Kl.of (Same.put hp))) (t1.same (Same.put hp)) ⟨"ask", [_], [_], upd_same, .cons (.str _) .nil, rfl, by decide +kernel, by decide +kernel, by simp⟩ trivial rfl (Nat.zero_le _)
  rw [if_neg h3] at q
  refine ⟨_, rfl, rfl, _, rfl, itDN (go h3) ?_⟩
  -- the rest, behind the parts
  have rest : ∀ (H : Hp), TapIs H a t → Nm H a nl pl names parts → ¬ (wy = 4 ∧ parts ≠ []) → True := fun _ _ _ _ => trivial
  by_cases h4 : wy = 4
  · refine ⟨_, rfl, rfl, _, rfl, itDP (congrArg V.int h4) ?_⟩
    refine ⟨_, rfl, Nat.zero_le _, fun l0 hl0 => ?_⟩
    have y0 := Same.put (o := .lst []) hl0
    refine ⟨.list (parts.map PyData.str), .list [], .lst (SqL.of (y0 _ _ nm.ep)) (rep_strs K _ parts), .lst (SqL.of upd_same) .nil, lay_strs nm.okp, rfl, by show PyData.depthAll (parts.map PyData.str) + 1 ≤ 64; have := dep_strs parts; omega, _, rfl, ?_⟩
    generalize upd H l0 (.lst []) = H1 at y0 ⊢
    have nm1 := nm.same y0
    have ta1 := ta.same y0
    by_cases hpn : parts = []
    · rw [if_neg (fun z => z.2 hpn), if_neg (by omega), if_neg (by omega), if_neg (by omega)] at q
      have e0 : PyData.eqv (.list (parts.map PyData.str)) (.list []) = true := by rw [hpn]; rfl
      rw [e0]
      refine iteF ⟨_, rfl, rfl, _, rfl, itDN (go (by omega)) ⟨_, rfl, rfl, _, rfl, itDN (go (by omega)) ⟨_, rfl, rfl, _, rfl, itDN (go (by omega)) ⟨(by show 1 ≤ sizeLine; omega), fun p hp => ?_⟩⟩⟩⟩
      exact q (.leaf p _) _ (Kl.of (y0.trans (Same.put hp))) (ta1.same (Same.put hp)) ⟨"way", [], [], upd_same, .nil, rfl, by decide +kernel, by decide +kernel, by simp⟩ trivial rfl (Nat.zero_le _)
    · have hpl : 0 < parts.length := List.length_pos_iff.mpr hpn
      rw [if_pos ⟨h4, hpn⟩] at q
      have bp := next_bd t (size := parts.length) (by omega)
      obtain ⟨_, exp⟩ := str_ix (ss := parts) bp.1 bp.2
      rw [eqv_empty hpl]
      refine iteT ⟨_, rfl, _, rfl, _, rfl, pl, _, rfl, .inl (SqL.of nm1.ep), ?_⟩
      rw [hlenp]
      refine ⟨a, t, _, rfl, ta1, by omega, by omega, by omega, fun H2 k2 t2 => ?_⟩
      have nm2 := nm1.kl k2
      refine ⟨pl, _, _, _, rfl, rfl, SqL.of nm2.ep, exp, (by show 2 ≤ sizeLine; omega), fun p hp => ?_⟩
      exact q (.leaf p _) _ (((Kl.of y0).trans k2).trans (Kl.of (Same.put hp))) (t2.same (Same.put hp)) ⟨"do", [_], [_], upd_same, .cons (.str _) .nil, rfl, by decide +kernel, by decide +kernel, by simp⟩ trivial rfl (Nat.zero_le _)
  rw [if_neg (fun z => h4 z.1)] at q
  refine ⟨_, rfl, rfl, _, rfl, itDN (go h4) ?_⟩
  by_cases h56 : wy = 5 ∨ wy = 6
  · rcases hp with h | ⟨m, rfl, rfl⟩
    · exact absurd ⟨by omega, by omega⟩ (wn h)
    have em : [V.ref a, V.ref nl, V.ref pl, V.int (((m + 1 : Nat) : Int) - 1)] = [V.ref a, V.ref nl, V.ref pl, V.int (m : Int)] := by
      rw [show ((m + 1 : Nat) : Int) - 1 = (m : Int) by omega]
    have eB : Bb (m + 1) = 97 + 6 * Bb m := rfl
    have q : ∀ (s : Sm) (H' : Hp), Kl a H H' → TapIs H' a (if wy = 5 then (PyData.tuple [.str "if", (exprM names 2 t).1, .list (bodM names parts m (exprM names 2 t).2).1, .list (bodM names parts m (bodM names parts m (exprM names 2 t).2).2).1], (bodM names parts m (bodM names parts m (exprM names 2 t).2).2).2) else if wy = 6 then (PyData.tuple [.str "while", (exprM names 2 t).1, .list (bodM names parts m (exprM names 2 t).2).1], (bodM names parts m (exprM names 2 t).2).2) else if wy = 7 then (PyData.tuple [.str "stop"], t) else (PyData.tuple [.str "way"], t)).2 → SmAt H' s → SmNew H s → s.dat = (if wy = 5 then (PyData.tuple [.str "if", (exprM names 2 t).1, .list (bodM names parts m (exprM names 2 t).2).1, .list (bodM names parts m (bodM names parts m (exprM names 2 t).2).2).1], (bodM names parts m (bodM names parts m (exprM names 2 t).2).2).2) else if wy = 6 then (PyData.tuple [.str "while", (exprM names 2 t).1, .list (bodM names parts m (exprM names 2 t).2).1], (bodM names parts m (exprM names 2 t).2).2) else if wy = 7 then (PyData.tuple [.str "stop"], t) else (PyData.tuple [.str "way"], t)).1 → s.nest ≤ m + 1 → D.rt s.ref H' := q
    have ec := expr_c names 2 t
    rcases h56 with h5 | h6
    · rw [if_pos h5] at q
      refine ⟨_, rfl, rfl, _, rfl, itDP (congrArg V.int h5) ?_⟩
      refine ⟨_, rfl, _, rfl, 2, by decide, a, nl, names, t, rfl, ta, by omega, nm.en, n0, n1, nm.ok, nm.na, fun v H1 k1 t1 he => ?_⟩
      have nm1 := nm.kl k1
      refine ⟨_, rfl, _, rfl, _, rfl, _, rfl, _, _, rfl, rfl, a, nl, pl, names, parts, _, em, t1, by omega, nm1, fun r1 bb1 H2 k2 t2 er1 fr1 ba1 bn1 bd1 bs1 bl1 => ?_⟩
      have nm2 := nm1.kl k2
      have bc := bod_c names parts m (exprM names 2 t).2
      refine ⟨_, rfl, _, rfl, _, rfl, _, rfl, _, rfl, _, rfl, _, _, rfl, rfl, a, nl, pl, names, parts, _, em, t2, by omega, nm2, fun r2 bb2 H3 k3 t3 er2 fr2 ba2 bn2 bd2 bs2 bl2 => ⟨(by show 4 ≤ sizeLine; omega), fun p hp => ?_⟩⟩
      have yp := Same.put (o := .tup [V.str "if", v, V.ref r1, V.ref r2]) hp
      have r1a : r1 ≠ a := fun z => by rw [z, t1] at fr1; cases fr1
      have t1n : H1 a ≠ none := by rw [t1]; simp
      have t2n : H2 a ≠ none := by rw [t2]; simp
      refine q (.iff p (exprM names 2 t).1 r1 bb1 r2 bb2) _ (((k1.trans k2).trans k3).trans (Kl.of yp)) (t3.same yp) ⟨v, upd_same, ((he.kl t1 k2).kl t2 k3).same yp, yp _ _ (k3 _ _ er1 r1a), (BdAt.kl t1n t2 k3 bn1 ba1).same yp, yp _ _ er2, ba2.same yp, by omega, by omega⟩ ⟨dom_free k1 t1n fr1, bn1.mono fun x hx => dom_free k1 t1n hx, dom_free (k1.trans k2) t2n fr2, bn2.mono fun x hx => dom_free (k1.trans k2) t2n hx⟩ ?_ ?_
      · rw [Sm.dat, bd1, bd2]
      · rw [Sm.nest]; omega
    · have h5 : ¬ wy = 5 := by omega
      rw [if_neg h5, if_pos h6] at q
      refine ⟨_, rfl, rfl, _, rfl, itDN (go h5) ⟨_, rfl, rfl, _, rfl, itDP (congrArg V.int h6) ?_⟩⟩
      refine ⟨_, rfl, _, rfl, 2, by decide, a, nl, names, t, rfl, ta, by omega, nm.en, n0, n1, nm.ok, nm.na, fun v H1 k1 t1 he => ?_⟩
      have nm1 := nm.kl k1
      refine ⟨_, rfl, _, rfl, _, rfl, _, rfl, _, _, rfl, rfl, a, nl, pl, names, parts, _, em, t1, by omega, nm1, fun r1 bb1 H2 k2 t2 er1 fr1 ba1 bn1 bd1 bs1 bl1 => ⟨(by show 3 ≤ sizeLine; omega), fun p hp => ?_⟩⟩
      have yp := Same.put (o := .tup [V.str "while", v, V.ref r1]) hp
      have t1n : H1 a ≠ none := by rw [t1]; simp
      refine q (.wh p (exprM names 2 t).1 r1 bb1) _ ((k1.trans k2).trans (Kl.of yp)) (t2.same yp) ⟨v, upd_same, (he.kl t1 k2).same yp, yp _ _ er1, ba1.same yp, by omega⟩ ⟨dom_free k1 t1n fr1, bn1.mono fun x hx => dom_free k1 t1n hx⟩ ?_ ?_
      · rw [Sm.dat, bd1]
      · rw [Sm.nest]; omega
  have h5 : ¬ wy = 5 := fun z => h56 (.inl z)
  have h6 : ¬ wy = 6 := fun z => h56 (.inr z)
  rw [if_neg h5, if_neg h6] at q
  refine ⟨_, rfl, rfl, _, rfl, itDN (go h5) ⟨_, rfl, rfl, _, rfl, itDN (go h6) ?_⟩⟩
  by_cases h7 : wy = 7
  · rw [if_pos h7] at q
    refine ⟨_, rfl, rfl, _, rfl, itDP (congrArg V.int h7) ⟨(by show 1 ≤ sizeLine; omega), fun p hp => ?_⟩⟩
    exact q (.leaf p _) _ (Kl.of (Same.put hp)) (ta.same (Same.put hp)) ⟨"stop", [], [], upd_same, .nil, rfl, by decide +kernel, by decide +kernel, by simp⟩ trivial rfl (Nat.zero_le _)
  · rw [if_neg h7] at q
    refine ⟨_, rfl, rfl, _, rfl, itDN (go h7) ⟨(by show 1 ≤ sizeLine; omega), fun p hp => ?_⟩⟩
    exact q (.leaf p _) _ (Kl.of (Same.put hp)) (ta.same (Same.put hp)) ⟨"way", [], [], upd_same, .nil, rfl, by decide +kernel, by decide +kernel, by simp⟩ trivial rfl (Nat.zero_le _)
end
end K46

set_option Elab.async false
set_option linter.all false
set_option maxRecDepth 100000
set_option maxHeartbeats 4000000
namespace K46
open PySem L2
theorem bodF_take (stm : Tp → PyData × Tp) (s : List PyData × Tp) (k : Nat) : bodF stm s (k + 1) = if (bodF stm s k).2.c < 70 then ((bodF stm s k).1 ++ [(stm (bodF stm s k).2).1], (stm (bodF stm s k).2).2) else bodF stm s k := rfl
section
variable {P : Program} {w : World} {K : PySem.W.Frag} {mg : Str → Option Value} {base : Heap}
theorem st_step {n : Nat} {prevB : Sp} {f f1 f2 f3 f4 f5 : Addr} {fd d1 d2 d3 d4 d5 : FuncData} (T : Bt mg) (T_law_mixed : Fn K mg "_law_mixed" s_law_mixed ["_law_number_here", "_law_k"] f1 d1) (T_law_next : Fn K mg "_law_next" s_law_next ["_law_tap_here", "_law_size"] f2 d2) (T_law_number : Fn K mg "_law_number" s_law_number ["_law_tap_here"] f3 d3) (T_law_expr : Fn K mg "_law_expr" s_law_expr ["_law_tap_here", "_law_names", "_law_deep"] f4 d4) (T_law_body : Fn K mg "_law_body" s_law_body ["_law_tap_here", "_law_names", "_law_parts", "_law_deep"] f5 d5) (T_law_statement : Fn K mg "_law_statement" s_law_statement ["_law_tap_here", "_law_names", "_law_parts", "_law_deep"] f fd)
    (hp : n = 0 ∨ ∃ m, n = m + 1 ∧ prevB = sp_bd m) (G_law_body : FnOk P w K mg base CX0 (2 * n + 6) f5 d5 ["_law_tap_here", "_law_names", "_law_parts", "_law_deep"] prevB) : FnOk P w K mg base CX0 (2 * n + 7) f fd ["_law_tap_here", "_law_names", "_law_parts", "_law_deep"] (sp_st n) := by
  have G_law_next := ok_law_next (P := P) (w := w) (mg := mg) (base := base) T_law_next.F T_law_mixed
  refine T_law_statement.F.ok (k := 2 * n + 6) sc_law_statement (fun vs H Q E h => ?_) (fun cdv A outer s H vs Q E hr h => ?_)
  · obtain ⟨a, nl, pl, names, parts, t, rfl, _⟩ := h; rfl
  · obtain ⟨a, nl, pl, names, parts, t, rfl, ta, hc, nm, q⟩ := h
    obtain ⟨uB, hB, kB⟩ := st_B (P := P) (w := w) (base := base) (f := f) (fd := fd) (cdv := cdv) (outer := outer) (H0 := H) (E := E) T T_law_mixed T_law_next T_law_number T_law_expr T_law_body hp G_law_body hr
    refine ⟨_, (pss_cons (ps_set (i := 4) sc_law_statement.nd rfl (Or.inl rfl) (pe_call G_law_next (hr.mono (by omega)) rfl T_law_next.m T_law_next.F.kp T_law_next.b .nil pass0 (pa_consN (pv 0) (pa_consN pe_int pa_nil))))
      (pss_cons (ps_if (PW.pt (pw_and (PW.pt (pw_or (pt_cmpR op_eq (pv 3) pe_int (nomark _)) (pw_or1 (pt_cmpR op_gt (pe_ix ix_list (pv 0) pe_int (fun _ _ => rfl)) pe_int (nomark _))))) (pw_and1 (pt_chain op_lt op_lt pe_int (pv 4) pe_int))))
        (pss_one (ps_set (i := 4) sc_law_statement.nd rfl (Or.inl rfl) (pe_op op_sub (pv 4) pe_int)))
        pss_nil)
      hB)), ?_⟩
    have cm : cMax = 90000000000000 := rfl
    refine ⟨_, rfl, a, t, 9, rfl, ta, by omega, by decide, by decide, fun H1 k1 t1 => ?_⟩
    have bn := next_bd t (size := 9) (by decide)
    have cn := next_c t 9
    have t1n : H1 a ≠ none := by rw [t1]; simp
    unfold stmM stM wayM at q
    obtain ⟨wy, t', e⟩ : ∃ v t', nextM t 9 = (v, t') := ⟨_, _, rfl⟩
    rw [e] at q bn cn t1 ⊢
    have t1 : TapIs H1 a t' := t1
    have cn : t'.c = t.c + 1 := cn
    have bn : 0 ≤ wy ∧ wy < 9 := bn
    have q : ∀ (s : Sm) (H' : Hp), Kl a H H' → TapIs H' a (stB (recM names parts n) names parts (if (decide (n = 0) = true ∨ 60 < t'.c) ∧ 4 < wy ∧ wy < 7 then wy - 5 else wy) t').2 → SmAt H' s → SmNew H s → s.dat = (stB (recM names parts n) names parts (if (decide (n = 0) = true ∨ 60 < t'.c) ∧ 4 < wy ∧ wy < 7 then wy - 5 else wy) t').1 → s.nest ≤ n → Q s.ref H' := q
    have go : ∀ wz : Int, wz = (if (decide (n = 0) = true ∨ 60 < t'.c) ∧ 4 < wy ∧ wy < 7 then wy - 5 else wy) → 0 ≤ wz → wz < 9 → (n = 0 → ¬ (4 < wz ∧ wz < 7)) → uB { nx := fun _ H' => Q .non H', rt := Q } [some (.ref a), some (.ref nl), some (.ref pl), some (.int (n : Int)), some (.int wz), none, none, none] H1 := fun wz hz g0 g9 gn =>
      kB _ _ _ _ a nl pl names parts t' wz H1 t1 (by omega) (nm.kl k1) g0 g9 gn fun s H' k' tt sa sn sd sq => q s H' (k1.trans k') (by rw [hz] at tt; exact tt) sa (sn.mono fun x hx => dom_free k1 t1n hx) (by rw [hz] at sd; exact sd) sq
    refine ⟨_, rfl, rfl, _, rfl, ite2 (fun h0 => ?_) (fun h0 => ?_)⟩
    · have hn : n = 0 := by have := V.int.inj (of_decide_eq_true h0); omega
      have hd : decide (n = 0) = true ∨ 60 < t'.c := .inl (decide_eq_true hn)
      refine iteT ⟨_, rfl, _, _, rfl, rfl, _, rfl, ite2 (fun g1 => ?_) (fun g1 => ?_)⟩
      · have g1 : (4 : Int) < wy := of_decide_eq_true g1
        refine ⟨_, _, rfl, rfl, _, rfl, ite2 (fun g2 => ?_) (fun g2 => ?_)⟩
        · have g2 : wy < (7 : Int) := of_decide_eq_true g2
          exact ⟨_, rfl, _, _, rfl, rfl, go (wy - 5) (by rw [if_pos ⟨hd, g1, g2⟩]) (by omega) (by omega) (fun _ => by omega)⟩
        · have g2 : ¬ wy < (7 : Int) := fun z => g2 (decide_eq_true z)
          exact go wy (by rw [if_neg (fun z => g2 z.2.2)]) bn.1 bn.2 (fun _ z => g2 z.2)
      · have g1 : ¬ (4 : Int) < wy := fun z => g1 (decide_eq_true z)
        exact ⟨_, rfl, iteF (go wy (by rw [if_neg (fun z => g1 z.2.1)]) bn.1 bn.2 (fun _ z => g1 z.1))⟩
    · have hn : n ≠ 0 := fun z => h0 (decide_eq_true (by rw [z]; rfl))
      refine ⟨_, rfl, a, _, _, _, rfl, rfl, SqL.of t1, rfl, _, _, rfl, rfl, _, rfl, ite2 (fun h1 => ?_) (fun h1 => ?_)⟩
      · have h1 : (60 : Int) < (t'.c : Int) := of_decide_eq_true h1
        have hd : decide (n = 0) = true ∨ 60 < t'.c := .inr (by omega)
        refine ⟨_, rfl, _, _, rfl, rfl, _, rfl, ite2 (fun g1 => ?_) (fun g1 => ?_)⟩
        · have g1 : (4 : Int) < wy := of_decide_eq_true g1
          refine ⟨_, _, rfl, rfl, _, rfl, ite2 (fun g2 => ?_) (fun g2 => ?_)⟩
          · have g2 : wy < (7 : Int) := of_decide_eq_true g2
            exact ⟨_, rfl, _, _, rfl, rfl, go (wy - 5) (by rw [if_pos ⟨hd, g1, g2⟩]) (by omega) (by omega) (fun _ => by omega)⟩
          · have g2 : ¬ wy < (7 : Int) := fun z => g2 (decide_eq_true z)
            exact go wy (by rw [if_neg (fun z => g2 z.2.2)]) bn.1 bn.2 (fun _ z => g2 z.2)
        · have g1 : ¬ (4 : Int) < wy := fun z => g1 (decide_eq_true z)
          exact ⟨_, rfl, iteF (go wy (by rw [if_neg (fun z => g1 z.2.1)]) bn.1 bn.2 (fun _ z => g1 z.1))⟩
      · have h1 : ¬ (60 : Int) < (t'.c : Int) := fun z => h1 (decide_eq_true z)
        exact iteF (go wy (by rw [if_neg (fun z => z.1.elim (fun y => hn (of_decide_eq_true y)) (fun y => h1 (by omega)))]) bn.1 bn.2 (fun z => absurd z hn))
theorem sc_law_body : FnScope ["_law_tap_here", "_law_names", "_law_parts", "_law_deep", "_law_built", "_law_k"] ["_law_tap_here", "_law_names", "_law_parts", "_law_deep"] (defScope s_law_body) := ⟨rfl, rfl, rfl, by decide +kernel, rfl, by decide +kernel, by decide +kernel⟩
theorem bd_step {n : Nat} {f f1 f2 f6 : Addr} {fd d1 d2 d6 : FuncData} (T : Bt mg) (T_law_mixed : Fn K mg "_law_mixed" s_law_mixed ["_law_number_here", "_law_k"] f1 d1) (T_law_next : Fn K mg "_law_next" s_law_next ["_law_tap_here", "_law_size"] f2 d2) (T_law_statement : Fn K mg "_law_statement" s_law_statement ["_law_tap_here", "_law_names", "_law_parts", "_law_deep"] f6 d6) (T_law_body : Fn K mg "_law_body" s_law_body ["_law_tap_here", "_law_names", "_law_parts", "_law_deep"] f fd)
    (G_law_statement : FnOk P w K mg base CX0 (2 * n + 7) f6 d6 ["_law_tap_here", "_law_names", "_law_parts", "_law_deep"] (sp_st n)) : FnOk P w K mg base CX0 (2 * n + 8) f fd ["_law_tap_here", "_law_names", "_law_parts", "_law_deep"] (sp_bd n) := by
  have G_law_next := ok_law_next (P := P) (w := w) (mg := mg) (base := base) T_law_next.F T_law_mixed
  refine T_law_body.F.ok (k := 2 * n + 7) sc_law_body (fun vs H Q E h => ?_) (fun cdv A outer s H vs Q E hr h => ?_)
  · obtain ⟨a, nl, pl, names, parts, t, rfl, _⟩ := h; rfl
  · obtain ⟨a, nl, pl, names, parts, t, rfl, ta, hc, nm, q⟩ := h
    have hs : sizeLine = 16777216 := sizeLine_eq
    have cm : cMax = 90000000000000 := rfl
    rw [bod_eq] at q
    unfold bodB at q
    refine ⟨_, (pss_cons (ps_set (i := 4) sc_law_body.nd rfl (Or.inl rfl) (pe_lst pa_nil))
      (pss_cons (ps_for PassesOwn.never rfl (pi_range1 rfl T.b_range (pa_consN (pe_call G_law_next (hr.mono (by omega)) rfl T_law_next.m T_law_next.F.kp T_law_next.b .nil pass0 (pa_consN (pv 0) (pa_consN pe_int pa_nil))) pa_nil)) (pg_name (i := 5) sc_law_body.nd rfl (Or.inl rfl))
        (pss_one (ps_if (pt_cmpR op_lt (pe_ix ix_list (pv 0) pe_int (fun _ _ => rfl)) pe_int (nomark _))
          (pss_one (ps_expr (pe_bm PySem.F.plainAttrs_list PySem.F.slot_list_append PySem.F.type_list_append mt_append (pv 4) (pa_consN (pe_call G_law_statement (hr.mono (by omega)) rfl T_law_statement.m T_law_statement.F.kp T_law_statement.b .nil pass0 (pa_consN (pv 0) (pa_consN (pv 1) (pa_consN (pv 2) (pa_consN (pv 3) pa_nil))))) pa_nil))))
          pss_nil)))
      (pss_one (ps_ret (pv 4))))), ?_⟩
    refine ⟨Nat.zero_le _, fun r hr0 => ?_⟩
    have y1 := Same.put (o := .lst []) hr0
    have er : upd H r (.lst []) r = some (.lst []) := upd_same
    generalize upd H r (.lst []) = H1 at y1 er ⊢
    have ra : r ≠ a := fun z => by rw [z, ta] at hr0; cases hr0
    refine ⟨_, rfl, a, t, 4, rfl, ta.same y1, by omega, by decide, by decide, fun H2 k2 t2 => ?_⟩
    have bn := next_bd t (size := 4) (by decide)
    have cn := next_c t 4
    obtain ⟨kk, t', e⟩ : ∃ v t', nextM t 4 = (v, t') := ⟨_, _, rfl⟩
    rw [e] at q bn cn t2 ⊢
    have t2 : TapIs H2 a t' := t2
    have bn : 0 ≤ kk ∧ kk < 4 := bn
    have cn : t'.c = t.c + 1 := cn
    have q : ∀ (r : Addr) (b : Bd) (H' : Hp), Kl a H H' → TapIs H' a (bodF (stmM names parts n) ([], t') kk.toNat).2 → H' r = some (.lst b.refs) → H r = none → BdAt H' b → BdNew H b → b.dat = (bodF (stmM names parts n) ([], t') kk.toNat).1 → b.nest ≤ n → b.refs.length ≤ 3 → Q (.ref r) H' := q
    have k02 : Kl a H H2 := (Kl.of (l := a) y1).trans k2
    have er2 := k2 _ _ er ra
    have r2n : H2 r ≠ none := by rw [er2]; simp
    refine ⟨kk, rfl, by omega, by omega, for_range (lo := 0) (n := kk.toNat) (fun i σ H3 => ∃ (v5 : Option V) (b : Bd), σ = [some (.ref a), some (.ref nl), some (.ref pl), some (.int (n : Int)), some (.ref r), v5] ∧ Kl a H H3 ∧ TapIs H3 a (bodF (stmM names parts n) ([], t') i).2 ∧ H3 r = some (.lst b.refs) ∧ b.refs.length ≤ i ∧ BdAt H3 b ∧ BdNew H2 b ∧ b.dat = (bodF (stmM names parts n) ([], t') i).1 ∧ b.nest ≤ n ∧ ∀ x, H3 x = none → H2 x = none)
      ⟨_, .nil, rfl, k02, t2, er2, Nat.le_refl _, trivial, trivial, by rw [Bd.dat]; rfl, by rw [Bd.nest]; exact Nat.zero_le _, fun x hx => hx⟩ ?_ ?_⟩
    · rintro i σ H3 hi ⟨v5, b, rfl, k3, t3, er3, hl, ba, bw, bdt, bns, dm⟩
      have hbc := bodF_c (stm := stmM names parts n) (b := 32 + 2 * Bb n) (fun t => by have := stm_c names parts n t; omega) ([], t') i
      have hbc : (bodF (stmM names parts n) ([], t') i).2.c ≤ t'.c + i * (32 + 2 * Bb n) := hbc
      have hi3 : i * (32 + 2 * Bb n) ≤ 2 * (32 + 2 * Bb n) := Nat.mul_le_mul_right _ (by omega)
      have hnx := bodF_take (stmM names parts n) ([], t') i
      obtain ⟨ds, u3, e3⟩ : ∃ v z, bodF (stmM names parts n) ([], t') i = (v, z) := ⟨_, _, rfl⟩
      rw [hnx]
      rw [e3] at t3 bdt hbc ⊢
      have t3 : TapIs H3 a u3 := t3
      have hbc : u3.c ≤ t'.c + i * (32 + 2 * Bb n) := hbc
      have bdt : b.dat = ds := bdt
      refine ⟨_, rfl, a, _, _, _, rfl, rfl, SqL.of t3, rfl, _, _, rfl, rfl, _, rfl, ite2 (fun h => ?_) (fun h => ?_)⟩
      · have h : (u3.c : Int) < 70 := of_decide_eq_true h
        rw [if_pos (show ((ds, u3) : List PyData × Tp).2.c < 70 by show u3.c < 70; omega)]
        refine ⟨_, rfl, .inl ⟨rfl, _, SqL.of er3⟩, _, rfl, _, rfl, _, rfl, _, rfl, a, nl, pl, names, parts, u3, rfl, t3, by omega, nm.kl k3, fun sm H4 k4 t4 sa sw sd sn => ?_⟩
        have er4 := k4 _ _ er3 ra
        refine ⟨r, _, _, rfl, rfl, er4, by omega, ?_⟩
        have t3n : H3 a ≠ none := by rw [t3]; simp
        have r3n : H3 r ≠ none := by rw [er3]; simp
        have k5 : Kl r H4 (upd H4 r (.lst (b.refs ++ [sm.ref]))) := Kl.one
        refine ⟨_, b.app (.cons sm .nil), rfl, fun x o ex hx => ?_, ?_, ?_, ?_, ?_, ?_, ?_, ?_, ?_⟩
        · rw [upd_ne (ne_of_none ex hr0)]
          exact k4 _ _ (k3 _ _ ex hx) hx
        · show upd H4 r _ a = _
          rw [upd_ne ra.symm]; exact t4
        · rw [upd_same, app_refs]; rfl
        · rw [app_refs, List.length_append]; show _ + 1 ≤ _; omega
        · refine app_at ?_ ⟨?_, trivial⟩
          · have b2n : H2 a ≠ none := by rw [t2]; simp
            exact BdAt.kl r2n er4 k5 bw (BdAt.kl b2n t3 k4 bw ba)
          · exact SmAt.kl r3n er4 k5 sw sa
        · exact app_all bw ⟨sw.mono dm, trivial⟩
        · rw [app_dat, bdt, Bd.dat, Bd.dat, sd]
        · rw [app_nest, Bd.nest, Bd.nest]; omega
        · intro x hx
          have xr : x ≠ r := fun z => by rw [z, upd_same] at hx; cases hx
          rw [upd_ne xr] at hx
          exact dm x (dom_free k4 (by rw [t4]; simp) hx)
      · have h : ¬ (u3.c : Int) < 70 := fun z => h (decide_eq_true z)
        rw [if_neg (show ¬ ((ds, u3) : List PyData × Tp).2.c < 70 by show ¬ u3.c < 70; omega)]
        exact ⟨_, b, rfl, k3, t3, er3, by omega, ba, bw, bdt, bns, dm⟩
    · rintro σ H3 ⟨v5, b, rfl, k3, t3, er3, hl, ba, bw, bdt, bns, dm⟩
      exact ⟨_, rfl, q r b H3 k3 t3 er3 hr0 ba (bw.mono fun x hx => dom_free k02 (by rw [t2]; simp) hx) bdt bns (by omega)⟩
end
end K46

set_option Elab.async false
set_option linter.all false
set_option maxRecDepth 100000
set_option maxHeartbeats 4000000
namespace K46
open PySem L2
section
variable {P : Program} {w : World} {K : PySem.W.Frag} {mg : Str → Option Value} {base : Heap}
theorem ok_law_body {f f1 f2 f3 f4 f6 : Addr} {fd d1 d2 d3 d4 d6 : FuncData} (T : Bt mg) (T_law_mixed : Fn K mg "_law_mixed" s_law_mixed ["_law_number_here", "_law_k"] f1 d1) (T_law_next : Fn K mg "_law_next" s_law_next ["_law_tap_here", "_law_size"] f2 d2) (T_law_number : Fn K mg "_law_number" s_law_number ["_law_tap_here"] f3 d3) (T_law_expr : Fn K mg "_law_expr" s_law_expr ["_law_tap_here", "_law_names", "_law_deep"] f4 d4) (T_law_statement : Fn K mg "_law_statement" s_law_statement ["_law_tap_here", "_law_names", "_law_parts", "_law_deep"] f6 d6) (T_law_body : Fn K mg "_law_body" s_law_body ["_law_tap_here", "_law_names", "_law_parts", "_law_deep"] f fd) :
    ∀ n : Nat, FnOk P w K mg base CX0 (2 * n + 8) f fd ["_law_tap_here", "_law_names", "_law_parts", "_law_deep"] (sp_bd n)
  | 0 => bd_step T T_law_mixed T_law_next T_law_statement T_law_body (st_step (n := 0) T T_law_mixed T_law_next T_law_number T_law_expr T_law_body T_law_statement (.inl rfl) (T_law_body.F.ok (k := 5) (sp := fun _ _ _ _ => False) sc_law_body (fun _ _ _ _ h => h.elim) (fun _ _ _ _ _ _ _ _ _ h => h.elim)))
  | n + 1 => bd_step T T_law_mixed T_law_next T_law_statement T_law_body (st_step (n := n + 1) T T_law_mixed T_law_next T_law_number T_law_expr T_law_body T_law_statement (.inr ⟨n, rfl, rfl⟩) (ok_law_body T T_law_mixed T_law_next T_law_number T_law_expr T_law_statement T_law_body n))
end
/-! ### all statements, in order -/
def Bd.toL : Bd → List Sm
  | .nil => []
  | .cons s b => s :: b.toL
def Sm.here (s : Sm) : List V := s.ref :: s.inner
theorem refs_eq : ∀ b : Bd, b.refs = b.toL.map Sm.ref
  | .nil => rfl
  | .cons s b => by show s.ref :: b.refs = _; rw [refs_eq b]; rfl
theorem flat_eq : ∀ b : Bd, b.flat = (b.toL.map Sm.here).flatten
  | .nil => by rw [Bd.flat]; rfl
  | .cons s b => by rw [Bd.flat, flat_eq b]; rfl
theorem at_mem {H : Hp} : ∀ {b : Bd}, BdAt H b → ∀ s ∈ b.toL, SmAt H s
  | .nil, _, s, h => by cases h
  | .cons x b, ⟨p, q⟩, s, h => by
    rcases List.mem_cons.mp h with rfl | h
    · exact p
    · exact at_mem q s h
theorem nest_mem : ∀ {b : Bd}, ∀ s ∈ b.toL, s.nest ≤ b.nest
  | .nil, s, h => by cases h
  | .cons x b, s, h => by
    rw [Bd.nest]
    rcases List.mem_cons.mp h with rfl | h
    · omega
    · have := nest_mem s h; omega
theorem here_take {l : List Sm} {i : Nat} {s : Sm} (h : l[i]? = some s) : ((l.take (i + 1)).map Sm.here).flatten = ((l.take i).map Sm.here).flatten ++ s.here := by
  rw [List.take_add_one, h, List.map_append, List.flatten_append]
  show _ ++ ([s.here] : List (List V)).flatten = _
  simp
theorem flat_take_le (l : List Sm) (i : Nat) : ((l.take i).map Sm.here).flatten.length ≤ ((l.map Sm.here).flatten).length := by
  conv => rhs; rw [← List.take_append_drop i l]
  rw [List.map_append, List.flatten_append, List.length_append]; omega
theorem at_zero (x : V) (xs : List V) : atI (x :: xs) 0 = some x := by show atI (x :: xs) ((0 : Nat) : Int) = some x; exact atI_nat rfl
theorem in_tag (x a b : Str) : (if false = true then !inV (V.str x) [V.str a, V.str b] else inV (V.str x) [V.str a, V.str b]) = decide (x = a ∨ x = b) := by
  rw [if_neg (by decide)]
  unfold inV
  simp only [List.any_cons, List.any_nil, Bool.or_false]
  rw [Bool.eq_iff_iff, Bool.or_eq_true, decide_eq_true_eq]
  simp only [eqV, beq_iff_eq]
  constructor
  · rintro (h | h)
    · exact .inl h.symm
    · exact .inr h.symm
  · rintro (h | h)
    · exact .inl h.symm
    · exact .inr h.symm
def sp_wi (n : Nat) : Sp := fun vs H Q _ => ∃ (r : Addr) (b : Bd), vs = [.ref r] ∧ H r = some (.lst b.refs) ∧ BdAt H b ∧ b.nest ≤ n ∧ b.flat.length ≤ 1000000 ∧ ∀ (l : Addr) (H' : Hp), Same H H' → H l = none → H' l = some (.lst b.flat) → Q (.ref l) H'
/-- a statement's tag, and its bodies -/
structure Inner (H : Hp) (s : Sm) (bl : List (Addr × Bd)) : Prop where
  at' : ∀ p ∈ bl, H p.1 = some (.lst p.2.refs) ∧ BdAt H p.2 ∧ p.2.nest + 1 ≤ s.nest
  fl : s.inner = (bl.map fun p => p.2.flat).flatten
theorem sm_form {H : Hp} {s : Sm} (h : SmAt H s) : ∃ (r : Addr) (tag : Str) (vs : List V), s.ref = .ref r ∧ H r = some (.tup (.str tag :: vs)) ∧
    ((tag ≠ "if" ∧ tag ≠ "while" ∧ s.inner = []) ∨
     (tag = "if" ∧ ∃ v a1 a2 b1 b2, vs = [v, .ref a1, .ref a2] ∧ Inner H s [(a1, b1), (a2, b2)]) ∨
     (tag = "while" ∧ ∃ v a1 b1, vs = [v, .ref a1] ∧ Inner H s [(a1, b1)])) := by
  cases s with
  | leaf r d =>
    obtain ⟨tag, vs, ds, h1, h2, h3, h4, h5, _⟩ := h
    exact ⟨r, tag, vs, rfl, h1, .inl ⟨h4, h5, by rw [Sm.inner]⟩⟩
  | iff r e a1 b1 a2 b2 =>
    obtain ⟨v, h1, h2, h3, h4, h5, h6, _⟩ := h
    refine ⟨r, "if", _, rfl, h1, .inr (.inl ⟨rfl, v, a1, a2, b1, b2, rfl, ⟨fun p hp => ?_, by rw [Sm.inner]; simp⟩⟩)⟩
    rcases List.mem_cons.mp hp with rfl | hp
    · exact ⟨h3, h4, by rw [Sm.nest]; show b1.nest + 1 ≤ _; omega⟩
    · rw [List.mem_singleton.mp hp]; exact ⟨h5, h6, by rw [Sm.nest]; show b2.nest + 1 ≤ _; omega⟩
  | wh r e a1 b1 =>
    obtain ⟨v, h1, h2, h3, h4, _⟩ := h
    refine ⟨r, "while", _, rfl, h1, .inr (.inr ⟨rfl, v, a1, b1, rfl, ⟨fun p hp => ?_, by rw [Sm.inner]; simp⟩⟩)⟩
    rw [List.mem_singleton.mp hp]; exact ⟨h3, h4, by rw [Sm.nest]; show b1.nest + 1 ≤ _; omega⟩
theorem inner_take {bl : List (Addr × Bd)} {i : Nat} {p : Addr × Bd} (h : bl[i]? = some p) : ((bl.take (i + 1)).map fun p => p.2.flat).flatten = ((bl.take i).map fun p => p.2.flat).flatten ++ p.2.flat := by
  rw [List.take_add_one, h, List.map_append, List.flatten_append]
  show _ ++ ([p.2.flat] : List (List V)).flatten = _
  simp
theorem inner_take_le (bl : List (Addr × Bd)) (i : Nat) : ((bl.take i).map fun p => p.2.flat).flatten.length ≤ ((bl.map fun p => p.2.flat).flatten).length := by
  conv => rhs; rw [← List.take_append_drop i bl]
  rw [List.map_append, List.flatten_append, List.length_append]; omega
section
variable {P : Program} {w : World} {K : PySem.W.Frag} {mg : Str → Option Value} {base : Heap}
theorem sc_with_inner : FnScope ["body", "found", "statement", "inner"] ["body"] (defScope s_with_inner) := ⟨rfl, rfl, rfl, by decide +kernel, rfl, by decide +kernel, by decide +kernel⟩
theorem wi_step {n k : Nat} {prev : Sp} {f : Addr} {fd : FuncData} (T : Bt mg) (T_with_inner : Fn K mg "with_inner" s_with_inner ["body"] f fd) (hp : n = 0 ∨ ∃ m, n = m + 1 ∧ prev = sp_wi m) (G_with_inner : FnOk P w K mg base CX0 k f fd ["body"] prev) : FnOk P w K mg base CX0 (k + 1) f fd ["body"] (sp_wi n) := by
  refine T_with_inner.F.ok (k := k) sc_with_inner (fun vs H Q E h => ?_) (fun cdv A outer s H vs Q E hr h => ?_)
  · obtain ⟨r, b, rfl, _⟩ := h; rfl
  · obtain ⟨r, b, rfl, er, ba, hn, hf, q⟩ := h
    have hs : sizeLine = 16777216 := sizeLine_eq
    have two : 2 ≤ sizeLine := by omega
    refine ⟨_, (pss_cons (ps_set (i := 1) sc_with_inner.nd rfl (Or.inl rfl) (pe_lst pa_nil))
      (pss_cons (ps_for PassesOwn.never rfl (pi_list (pv 0)) (pg_name (i := 2) sc_with_inner.nd rfl (Or.inl rfl))
        (pss_cons (ps_expr (pe_bm PySem.F.plainAttrs_list PySem.F.slot_list_append PySem.F.type_list_append mt_append (pv 1) (pa_consN (pv 2) pa_nil)))
        (pss_one (ps_if (pt_cmpR op_in_seq (pe_ix ix_tup (pv 2) pe_int (fun _ _ => rfl)) (pe_tup (pa_consN pe_str (pa_consN pe_str pa_nil))) (by with_unfolding_all rfl))
          (pss_one (ps_for PassesOwn.never rfl (pi_tup (pe_slice sl_tup (pv 2) (po_some pe_int) po_none)) (pg_name (i := 3) sc_with_inner.nd rfl (Or.inl rfl))
            (pss_one (ps_expr (pe_bm PySem.F.plainAttrs_list PySem.F.slot_list_extend PySem.F.type_list_extend mt_extend (pv 1) (pa_consN (pe_call G_with_inner (hr.mono (by omega)) rfl T_with_inner.m T_with_inner.F.kp T_with_inner.b .nil pass0 (pa_consN (pv 3) pa_nil)) pa_nil))))))
          pss_nil))))
      (pss_one (ps_ret (pv 1))))), ?_⟩
    refine ⟨Nat.zero_le _, fun l hl => ?_⟩
    have y1 := Same.put (o := .lst []) hl
    have el : upd H l (.lst []) l = some (.lst []) := upd_same
    generalize upd H l (.lst []) = H1 at y1 el ⊢
    rw [flat_eq] at hf q
    rw [refs_eq] at er
    obtain ⟨L, hL⟩ : ∃ z, b.toL = z := ⟨_, rfl⟩
    have bm := at_mem ba
    have nmm := nest_mem (b := b)
    rw [hL] at hf q er bm nmm
    refine ⟨_, rfl, r, rfl, ⟨_, SqL.of (y1 _ _ er)⟩, for_list (K := K) (a := r) (xs := L.map Sm.ref) (fun i σ H2 => ∃ (v2 v3 : Option V), σ = [some (.ref r), some (.ref l), v2, v3] ∧ Same H H2 ∧ H2 l = some (.lst ((L.take i).map Sm.here).flatten)) ⟨_, _, rfl, y1, by rw [List.take_zero]; exact el⟩ ?_ ?_ ?_⟩
    · rintro i σ H2 _ ⟨v2, v3, rfl, s2, _⟩
      exact SqL.of (s2 _ _ er)
    · rintro i x σ H2 hx ⟨v2, v3, rfl, s2, e2⟩
      rw [List.getElem?_map] at hx
      cases hLi : L[i]? with
      | none => rw [hLi] at hx; cases hx
      | some sm =>
        rw [hLi] at hx
        cases hx
        have hmem := List.mem_of_getElem? hLi
        obtain ⟨r2, tag, vs, esr, et, hform⟩ := sm_form (bm sm hmem)
        have et := s2 _ _ et
        have hsn := nmm sm hmem
        have hle := flat_take_le L (i + 1)
        rw [here_take hLi, List.length_append] at hle
        have hhere : sm.here.length = sm.inner.length + 1 := rfl
        refine ⟨_, rfl, .inl ⟨rfl, _, SqL.of e2⟩, _, rfl, l, _, _, rfl, rfl, e2, by omega, ?_⟩
        have s3 : Same H (upd H2 l (.lst (((L.take i).map Sm.here).flatten ++ [sm.ref]))) := Kl.same s2 hl Kl.one
        have k3 : ∀ x o, H2 x = some o → x ≠ l → upd H2 l (.lst (((L.take i).map Sm.here).flatten ++ [sm.ref])) x = some o := fun x o e n => by rw [upd_ne n]; exact e
        have e3 : upd H2 l (.lst (((L.take i).map Sm.here).flatten ++ [sm.ref])) l = some (.lst (((L.take i).map Sm.here).flatten ++ [sm.ref])) := upd_same
        generalize upd H2 l (.lst (((L.take i).map Sm.here).flatten ++ [sm.ref])) = H3 at s3 k3 e3 ⊢
        have et3 := k3 _ _ et (ne_of et e2 (by intro z; cases z))
        rw [here_take hLi]
        have hcat : ((L.take i).map Sm.here).flatten ++ sm.here = (((L.take i).map Sm.here).flatten ++ [sm.ref]) ++ sm.inner := by show _ ++ (sm.ref :: sm.inner) = _; simp
        rw [hcat]
        obtain ⟨pre, hpre⟩ : ∃ z, ((L.take i).map Sm.here).flatten ++ [sm.ref] = z := ⟨_, rfl⟩
        have lpre : pre.length + sm.inner.length ≤ 1000000 := by
          rw [← hpre, List.length_append]
          show _ + 1 + _ ≤ _
          omega
        rw [hpre] at e3 ⊢
        refine ⟨_, rfl, r2, _, _, _, ?_, rfl, SqT.of et3, at_zero _ _, two, fun p hp2 => ?_⟩
        · exact esr
        have y4 := Same.put (o := .tup [V.str "if", V.str "while"]) hp2
        have ep : upd H3 p (.tup [V.str "if", V.str "while"]) p = some (.tup [V.str "if", V.str "while"]) := upd_same
        generalize upd H3 p (.tup [V.str "if", V.str "while"]) = H4 at y4 ep ⊢
        have s4 := s3.trans y4
        have e4 := y4 _ _ e3
        have et4 := y4 _ _ et3
        refine ⟨p, _, rfl, .inr (SqT.of ep), rfl, rfl, _, rfl, ?_⟩
        rw [in_tag]
        rcases hform with ⟨t1, t2, hin⟩ | ⟨rfl, v, a1, a2, b1, b2, rfl, hin⟩ | ⟨rfl, v, a1, b1, rfl, hin⟩
        · refine itDN (fun z => z.elim t1 t2) ⟨_, _, rfl, s4, ?_⟩
          rw [hin, List.append_nil]; exact e4
        all_goals
          refine itDP (by simp) ?_
          rcases hp with h0 | ⟨m, rfl, rfl⟩
          · have := (hin.at' _ List.mem_cons_self).2.2; omega
        focus
          refine ⟨_, rfl, _, rfl, r2, _, esr, SqT.of et4, (by show ¬ (HT.sIx 4 0 (some 2) = 0 ∧ HT.sIx 4 4 none = 4); decide), fun p2 hp3 => ?_⟩
          obtain ⟨bl, hbl⟩ : ∃ z, [(a1, b1), (a2, b2)] = z := ⟨_, rfl⟩
          have ebl : cutV [V.str "if", v, V.ref a1, V.ref a2] (some 2) none = bl.map fun p => V.ref p.1 := by rw [← hbl]; rfl
          rw [hbl] at hin
          rw [ebl]
          have lb2 : bl.length ≤ 2 := by rw [← hbl]; simp
          clear hbl ebl
        rotate_left
        focus
          refine ⟨_, rfl, _, rfl, r2, _, esr, SqT.of et4, (by show ¬ (HT.sIx 3 0 (some 2) = 0 ∧ HT.sIx 3 3 none = 3); decide), fun p2 hp3 => ?_⟩
          obtain ⟨bl, hbl⟩ : ∃ z, [(a1, b1)] = z := ⟨_, rfl⟩
          have ebl : cutV [V.str "while", v, V.ref a1] (some 2) none = bl.map fun p => V.ref p.1 := by rw [← hbl]; rfl
          rw [hbl] at hin
          rw [ebl]
          have lb2 : bl.length ≤ 2 := by rw [← hbl]; simp
          clear hbl ebl
        all_goals
          have y5 := Same.put (o := .tup (bl.map fun p => V.ref p.1)) hp3
          have ep2 : upd H4 p2 (.tup (bl.map fun p => V.ref p.1)) p2 = some (.tup (bl.map fun p => V.ref p.1)) := upd_same
          generalize upd H4 p2 (.tup (bl.map fun p => V.ref p.1)) = H5 at y5 ep2 ⊢
          rw [hin.fl] at lpre ⊢
          have s5 := s4.trans y5
          have e5 := y5 _ _ e4
          refine ⟨p2, rfl, ⟨_, SqT.of ep2⟩, for_tup (K := K) (a := p2) (xs := bl.map fun p => V.ref p.1) (fun j σ H6 => ∃ (v3 : Option V), σ = [some (.ref r), some (.ref l), some sm.ref, v3] ∧ Same H H6 ∧ H6 p2 = some (.tup (bl.map fun p => V.ref p.1)) ∧ (∀ x o, H2 x = some o → x ≠ l → H6 x = some o) ∧ H6 l = some (.lst (pre ++ ((bl.take j).map fun p => p.2.flat).flatten))) ⟨_, rfl, s5, ep2, fun x o e n => y5 _ _ (y4 _ _ (k3 x o e n)), by rw [List.take_zero]; show _ = some (HO.lst (pre ++ [])); rw [List.append_nil]; exact e5⟩ ?_ ?_ ?_⟩
          · rintro j σ H6 _ ⟨v3, rfl, s6, ep6, k6, e6⟩
            exact SqT.of ep6
          · rintro j x σ H6 hx ⟨v3, rfl, s6, ep6, k6, e6⟩
            rw [List.getElem?_map] at hx
            cases hbj : bl[j]? with
            | none => rw [hbj] at hx; cases hx
            | some pb =>
              rw [hbj] at hx
              cases hx
              obtain ⟨i1, i2, i3⟩ := hin.at' pb (List.mem_of_getElem? hbj)
              have hle2 := inner_take_le bl (j + 1)
              rw [inner_take hbj, List.length_append] at hle2
              refine ⟨_, rfl, .inl ⟨rfl, _, SqL.of e6⟩, _, rfl, pb.1, pb.2, rfl, ?_, ?_, ?_, ?_, fun l2 H7 s7 hl2 el2 => ?_⟩
              · exact s6 _ _ i1
              · exact i2.same s6
              · omega
              · omega
              · have e7 := s7 _ _ e6
                refine ⟨l, l2, _, _, rfl, rfl, e7, el2, by rw [List.length_append]; omega, ?_⟩
                refine ⟨_, rfl, Kl.same (s6.trans s7) hl Kl.one, ?_, fun x o e n => ?_, ?_⟩
                · rw [upd_ne (ne_of (s7 _ _ ep6) e7 (by intro z; cases z))]; exact s7 _ _ ep6
                · rw [upd_ne n]; exact s7 _ _ (k6 x o e n)
                · rw [upd_same, inner_take hbj, List.append_assoc]
          · rintro σ H6 ⟨v3, rfl, s6, ep6, k6, e6⟩
            rw [List.length_map, List.take_of_length_le (Nat.le_refl _)] at e6
            exact ⟨_, _, rfl, s6, e6⟩
    · rintro σ H2 ⟨v2, v3, rfl, s2, e2⟩
      rw [List.length_map, List.take_of_length_le (Nat.le_refl _)] at e2
      exact ⟨_, rfl, q l H2 s2 hl e2⟩
end
section
variable {P : Program} {w : World} {K : PySem.W.Frag} {mg : Str → Option Value} {base : Heap}
theorem ok_with_inner {f : Addr} {fd : FuncData} (T : Bt mg) (T_with_inner : Fn K mg "with_inner" s_with_inner ["body"] f fd) : ∀ n : Nat, FnOk P w K mg base CX0 (n + 2) f fd ["body"] (sp_wi n)
  | 0 => wi_step T T_with_inner (.inl rfl) (T_with_inner.F.ok (k := 0) (sp := fun _ _ _ _ => False) sc_with_inner (fun _ _ _ _ h => h.elim) (fun _ _ _ _ _ _ _ _ _ h => h.elim))
  | n + 1 => wi_step T T_with_inner (.inr ⟨n, rfl, rfl⟩) (ok_with_inner T T_with_inner n)
end
end K46

set_option Elab.async false
set_option linter.all false
set_option maxRecDepth 100000
set_option maxHeartbeats 4000000
namespace K46
open PySem L2
def sp_many (n : Nat) : Sp := fun vs H Q _ => ∃ (r : Addr) (b : Bd), vs = [.ref r] ∧ H r = some (.lst b.refs) ∧ BdAt H b ∧ b.nest ≤ n ∧ Q (.int (b.flat.length : Int)) H
section
variable {P : Program} {w : World} {K : PySem.W.Frag} {mg : Str → Option Value} {base : Heap}
theorem sc_law_many : FnScope ["_law_body_here", "_law_many_here", "_law_one"] ["_law_body_here"] (defScope s_law_many) := ⟨rfl, rfl, rfl, by decide +kernel, rfl, by decide +kernel, by decide +kernel⟩
theorem many_step {n k : Nat} {prev : Sp} {f : Addr} {fd : FuncData} (T : Bt mg) (T_law_many : Fn K mg "_law_many" s_law_many ["_law_body_here"] f fd) (hp : n = 0 ∨ ∃ m, n = m + 1 ∧ prev = sp_many m) (G_law_many : FnOk P w K mg base CX0 k f fd ["_law_body_here"] prev) : FnOk P w K mg base CX0 (k + 1) f fd ["_law_body_here"] (sp_many n) := by
  refine T_law_many.F.ok (k := k) sc_law_many (fun vs H Q E h => ?_) (fun cdv A outer s H vs Q E hr h => ?_)
  · obtain ⟨r, b, rfl, _⟩ := h; rfl
  · obtain ⟨r, b, rfl, er, ba, hn, q⟩ := h
    have hs : sizeLine = 16777216 := sizeLine_eq
    refine ⟨_, (pss_cons (ps_set (i := 1) sc_law_many.nd rfl (Or.inl rfl) pe_int)
      (pss_cons (ps_for PassesOwn.never rfl (pi_list (pv 0)) (pg_name (i := 2) sc_law_many.nd rfl (Or.inl rfl))
        (pss_cons (ps_set (i := 1) sc_law_many.nd rfl (Or.inl rfl) (pe_op op_add (pv 1) pe_int))
        (pss_cons (ps_if (pt_cmpR op_eq (pe_ix ix_tup (pv 2) pe_int (fun _ _ => rfl)) pe_str (nomark _))
          (pss_one (ps_set (i := 1) sc_law_many.nd rfl (Or.inl rfl) (pe_op op_add (pe_op op_add (pv 1) (pe_call G_law_many (hr.mono (by omega)) rfl T_law_many.m T_law_many.F.kp T_law_many.b .nil pass0 (pa_consN (pe_ix ix_tup (pv 2) pe_int (fun _ _ => rfl)) pa_nil))) (pe_call G_law_many (hr.mono (by omega)) rfl T_law_many.m T_law_many.F.kp T_law_many.b .nil pass0 (pa_consN (pe_ix ix_tup (pv 2) pe_int (fun _ _ => rfl)) pa_nil)))))
          pss_nil)
        (pss_one (ps_if (pt_cmpR op_eq (pe_ix ix_tup (pv 2) pe_int (fun _ _ => rfl)) pe_str (nomark _))
          (pss_one (ps_set (i := 1) sc_law_many.nd rfl (Or.inl rfl) (pe_op op_add (pv 1) (pe_call G_law_many (hr.mono (by omega)) rfl T_law_many.m T_law_many.F.kp T_law_many.b .nil pass0 (pa_consN (pe_ix ix_tup (pv 2) pe_int (fun _ _ => rfl)) pa_nil)))))
          pss_nil)))))
      (pss_one (ps_ret (pv 1))))), ?_⟩
    rw [flat_eq] at q
    rw [refs_eq] at er
    obtain ⟨L, hL⟩ : ∃ z, b.toL = z := ⟨_, rfl⟩
    have bm := at_mem ba
    have nmm := nest_mem (b := b)
    rw [hL] at q er bm nmm
    refine ⟨_, rfl, r, rfl, ⟨_, SqL.of er⟩, for_list (K := K) (a := r) (xs := L.map Sm.ref) (fun i σ H2 => ∃ (v1 v2 : Option V), σ = [some (.ref r), v1, v2] ∧ v1 = some (.int (((L.take i).map Sm.here).flatten.length : Int)) ∧ H2 = H) ⟨_, _, rfl, rfl, rfl⟩ ?_ ?_ ?_⟩
    · rintro i σ H2 _ ⟨_, v2, rfl, rfl, rfl⟩
      exact SqL.of er
    · rintro i x σ H2 hx ⟨_, v2, rfl, rfl, rfl⟩
      rw [List.getElem?_map] at hx
      cases hLi : L[i]? with
      | none => rw [hLi] at hx; cases hx
      | some sm =>
        rw [hLi] at hx
        cases hx
        have hmem := List.mem_of_getElem? hLi
        obtain ⟨r2, tag, vs, esr, et, hform⟩ := sm_form (bm sm hmem)
        have hsn := nmm sm hmem
        have hlen : ((((L.take (i + 1)).map Sm.here).flatten.length : Nat) : Int) = (((L.take i).map Sm.here).flatten.length : Int) + 1 + (sm.inner.length : Int) := by
          rw [here_take hLi, List.length_append]
          have : sm.here.length = sm.inner.length + 1 := rfl
          omega
        obtain ⟨c0, hc0⟩ : ∃ z : Int, (((L.take i).map Sm.here).flatten.length : Int) = z := ⟨_, rfl⟩
        rw [hlen, hc0]
        refine ⟨_, rfl, _, _, rfl, rfl, ?_⟩
        refine ⟨_, rfl, r2, _, _, _, esr, rfl, SqT.of et, at_zero _ _, rfl, _, rfl, ?_⟩
        rcases hform with ⟨t1, t2, hin⟩ | ⟨rfl, v, a1, a2, b1, b2, rfl, hin⟩ | ⟨rfl, v, a1, b1, rfl, hin⟩
        · refine itDN (fun z => t1 (V.str.inj z)) ?_
          refine ⟨_, rfl, r2, _, _, _, esr, rfl, SqT.of et, at_zero _ _, rfl, _, rfl, itDN (fun z => t2 (V.str.inj z)) ⟨_, _, rfl, ?_, rfl⟩⟩
          rw [hin]
          show some (V.int (c0 + 1)) = some (V.int (c0 + 1 + ((0 : Nat) : Int)))
          rw [Int.natCast_zero, Int.add_zero]
        · obtain ⟨i1, i2, i3⟩ := hin.at' _ List.mem_cons_self
          obtain ⟨j1, j2, j3⟩ := hin.at' (a2, b2) (by simp)
          rcases hp with h0 | ⟨m, rfl, rfl⟩
          · omega
          refine itDP rfl ?_
          refine ⟨_, rfl, _, rfl, r2, _, _, _, esr, rfl, SqT.of et, rfl, a1, b1, rfl, i1, i2, by have i3 : b1.nest + 1 ≤ _ := i3; omega, _, _, rfl, rfl, ?_⟩
          refine ⟨_, rfl, r2, _, _, _, esr, rfl, SqT.of et, rfl, a2, b2, rfl, j1, j2, by have j3 : b2.nest + 1 ≤ _ := j3; omega, _, _, rfl, rfl, ?_⟩
          refine ⟨_, rfl, r2, _, _, _, esr, rfl, SqT.of et, at_zero _ _, rfl, _, rfl, itDN (by decide +kernel) ⟨_, _, rfl, ?_, rfl⟩⟩
          rw [hin.fl]
          have : (([(a1, b1), (a2, b2)] : List (Addr × Bd)).map fun p => p.2.flat).flatten.length = b1.flat.length + b2.flat.length := by simp
          rw [this]
          show some (V.int (c0 + 1 + (b1.flat.length : Int) + (b2.flat.length : Int))) = some (V.int (c0 + 1 + ((b1.flat.length + b2.flat.length : Nat) : Int)))
          rw [show c0 + 1 + (b1.flat.length : Int) + (b2.flat.length : Int) = c0 + 1 + ((b1.flat.length + b2.flat.length : Nat) : Int) by omega]
        · obtain ⟨i1, i2, i3⟩ := hin.at' _ List.mem_cons_self
          rcases hp with h0 | ⟨m, rfl, rfl⟩
          · omega
          refine itDN (by decide +kernel) ?_
          refine ⟨_, rfl, r2, _, _, _, esr, rfl, SqT.of et, at_zero _ _, rfl, _, rfl, itDP rfl ?_⟩
          refine ⟨_, rfl, _, rfl, r2, _, _, _, esr, rfl, SqT.of et, rfl, a1, b1, rfl, i1, i2, by have i3 : b1.nest + 1 ≤ _ := i3; omega, _, _, rfl, rfl, ⟨_, _, rfl, ?_, rfl⟩⟩
          rw [hin.fl]
          have : (([(a1, b1)] : List (Addr × Bd)).map fun p => p.2.flat).flatten.length = b1.flat.length := by simp
          rw [this]
    · rintro σ H2 ⟨_, v2, rfl, rfl, rfl⟩
      rw [List.length_map, List.take_of_length_le (Nat.le_refl _)]
      exact ⟨_, rfl, q⟩
theorem ok_law_many {f : Addr} {fd : FuncData} (T : Bt mg) (T_law_many : Fn K mg "_law_many" s_law_many ["_law_body_here"] f fd) : ∀ n : Nat, FnOk P w K mg base CX0 (n + 2) f fd ["_law_body_here"] (sp_many n)
  | 0 => many_step T T_law_many (.inl rfl) (T_law_many.F.ok (k := 0) (sp := fun _ _ _ _ => False) sc_law_many (fun _ _ _ _ h => h.elim) (fun _ _ _ _ _ _ _ _ _ h => h.elim))
  | n + 1 => many_step T T_law_many (.inr ⟨n, rfl, rfl⟩) (ok_law_many T T_law_many n)
theorem sc_law_all : FnScope ["_law_body_here", "_law_built", "_law_one"] ["_law_body_here"] (defScope s_law_all) := ⟨rfl, rfl, rfl, by decide +kernel, rfl, by decide +kernel, by decide +kernel⟩
theorem all_step {n k : Nat} {prev : Sp} {f : Addr} {fd : FuncData} (T : Bt mg) (T_law_all : Fn K mg "_law_all" s_law_all ["_law_body_here"] f fd) (hp : n = 0 ∨ ∃ m, n = m + 1 ∧ prev = sp_wi m) (G_law_all : FnOk P w K mg base CX0 k f fd ["_law_body_here"] prev) : FnOk P w K mg base CX0 (k + 1) f fd ["_law_body_here"] (sp_wi n) := by
  refine T_law_all.F.ok (k := k) sc_law_all (fun vs H Q E h => ?_) (fun cdv A outer s H vs Q E hr h => ?_)
  · obtain ⟨r, b, rfl, _⟩ := h; rfl
  · obtain ⟨r, b, rfl, er, ba, hn, hf, q⟩ := h
    have hs : sizeLine = 16777216 := sizeLine_eq
    refine ⟨_, (pss_cons (ps_set (i := 1) sc_law_all.nd rfl (Or.inl rfl) (pe_lst pa_nil))
      (pss_cons (ps_for PassesOwn.never rfl (pi_list (pv 0)) (pg_name (i := 2) sc_law_all.nd rfl (Or.inl rfl))
        (pss_cons (ps_expr (pe_bm PySem.F.plainAttrs_list PySem.F.slot_list_append PySem.F.type_list_append mt_append (pv 1) (pa_consN (pv 2) pa_nil)))
        (pss_cons (ps_if (pt_cmpR op_eq (pe_ix ix_tup (pv 2) pe_int (fun _ _ => rfl)) pe_str (nomark _))
          (pss_one (ps_set (i := 1) sc_law_all.nd rfl (Or.inl rfl) (pe_op op_cat (pe_op op_cat (pv 1) (pe_call G_law_all (hr.mono (by omega)) rfl T_law_all.m T_law_all.F.kp T_law_all.b .nil pass0 (pa_consN (pe_ix ix_tup (pv 2) pe_int (fun _ _ => rfl)) pa_nil))) (pe_call G_law_all (hr.mono (by omega)) rfl T_law_all.m T_law_all.F.kp T_law_all.b .nil pass0 (pa_consN (pe_ix ix_tup (pv 2) pe_int (fun _ _ => rfl)) pa_nil)))))
          pss_nil)
        (pss_one (ps_if (pt_cmpR op_eq (pe_ix ix_tup (pv 2) pe_int (fun _ _ => rfl)) pe_str (nomark _))
          (pss_one (ps_set (i := 1) sc_law_all.nd rfl (Or.inl rfl) (pe_op op_cat (pv 1) (pe_call G_law_all (hr.mono (by omega)) rfl T_law_all.m T_law_all.F.kp T_law_all.b .nil pass0 (pa_consN (pe_ix ix_tup (pv 2) pe_int (fun _ _ => rfl)) pa_nil)))))
          pss_nil)))))
      (pss_one (ps_ret (pv 1))))), ?_⟩
    refine ⟨Nat.zero_le _, fun l hl => ?_⟩
    have y1 := Same.put (o := .lst []) hl
    have el : upd H l (.lst []) l = some (.lst []) := upd_same
    generalize upd H l (.lst []) = H1 at y1 el ⊢
    rw [flat_eq] at hf q
    rw [refs_eq] at er
    obtain ⟨L, hL⟩ : ∃ z, b.toL = z := ⟨_, rfl⟩
    have bm := at_mem ba
    have nmm := nest_mem (b := b)
    rw [hL] at hf q er bm nmm
    refine ⟨_, rfl, r, rfl, ⟨_, SqL.of (y1 _ _ er)⟩, for_list (K := K) (a := r) (xs := L.map Sm.ref) (fun i σ H2 => ∃ (v2 : Option V) (l : Addr), σ = [some (.ref r), some (.ref l), v2] ∧ H l = none ∧ Same H H2 ∧ H2 l = some (.lst ((L.take i).map Sm.here).flatten)) ⟨_, l, rfl, hl, y1, by rw [List.take_zero]; exact el⟩ ?_ ?_ ?_⟩
    · rintro i σ H2 _ ⟨v2, l, rfl, _, s2, _⟩
      exact SqL.of (s2 _ _ er)
    · rintro i x σ H2 hx ⟨v2, l, rfl, hl, s2, e2⟩
      rw [List.getElem?_map] at hx
      cases hLi : L[i]? with
      | none => rw [hLi] at hx; cases hx
      | some sm =>
        rw [hLi] at hx
        cases hx
        have hmem := List.mem_of_getElem? hLi
        obtain ⟨r2, tag, vs, esr, et, hform⟩ := sm_form (bm sm hmem)
        have hsn := nmm sm hmem
        have hle := flat_take_le L (i + 1)
        rw [here_take hLi, List.length_append] at hle
        have hhere : sm.here.length = sm.inner.length + 1 := rfl
        refine ⟨_, rfl, .inl ⟨rfl, _, SqL.of e2⟩, _, rfl, l, _, _, rfl, rfl, e2, by omega, ?_⟩
        have s3 : Same H (upd H2 l (.lst (((L.take i).map Sm.here).flatten ++ [sm.ref]))) := Kl.same s2 hl Kl.one
        have e3 : upd H2 l (.lst (((L.take i).map Sm.here).flatten ++ [sm.ref])) l = some (.lst (((L.take i).map Sm.here).flatten ++ [sm.ref])) := upd_same
        generalize upd H2 l (.lst (((L.take i).map Sm.here).flatten ++ [sm.ref])) = H3 at s3 e3 ⊢
        have et3 := s3 _ _ et
        rw [here_take hLi]
        have hcat : ((L.take i).map Sm.here).flatten ++ sm.here = (((L.take i).map Sm.here).flatten ++ [sm.ref]) ++ sm.inner := by show _ ++ (sm.ref :: sm.inner) = _; simp
        rw [hcat]
        obtain ⟨pre, hpre⟩ : ∃ z, ((L.take i).map Sm.here).flatten ++ [sm.ref] = z := ⟨_, rfl⟩
        have lpre : pre.length + sm.inner.length ≤ 1000000 := by
          rw [← hpre, List.length_append]
          show _ + 1 + _ ≤ _
          omega
        rw [hpre] at e3 ⊢
        refine ⟨_, rfl, r2, _, _, _, esr, rfl, SqT.of et3, at_zero _ _, rfl, _, rfl, ?_⟩
        rcases hform with ⟨t1, t2, hin⟩ | ⟨rfl, v, a1, a2, b1, b2, rfl, hin⟩ | ⟨rfl, v, a1, b1, rfl, hin⟩
        · refine itDN (fun z => t1 (V.str.inj z)) ?_
          refine ⟨_, rfl, r2, _, _, _, esr, rfl, SqT.of et3, at_zero _ _, rfl, _, rfl, itDN (fun z => t2 (V.str.inj z)) ⟨_, l, rfl, hl, s3, ?_⟩⟩
          rw [hin, List.append_nil]; exact e3
        · obtain ⟨i1, i2, i3⟩ := hin.at' _ List.mem_cons_self
          obtain ⟨j1, j2, j3⟩ := hin.at' (a2, b2) (by simp)
          have fl : sm.inner = b1.flat ++ b2.flat := by rw [hin.fl]; simp
          rw [fl, List.length_append] at lpre
          rcases hp with h0 | ⟨m, rfl, rfl⟩
          · omega
          refine itDP rfl ?_
          refine ⟨_, rfl, _, rfl, r2, _, _, _, esr, rfl, SqT.of et3, rfl, a1, b1, rfl, s3 _ _ i1, i2.same s3, by have i3 : b1.nest + 1 ≤ _ := i3; omega, by omega, fun l1 H4 s4 hl1 e4 => ?_⟩
          refine ⟨l, l1, _, _, rfl, rfl, s4 _ _ e3, e4, by omega, fun p1 hp1 => ?_⟩
          have y5 := Same.put (o := .lst (pre ++ b1.flat)) hp1
          have e5 : upd H4 p1 (.lst (pre ++ b1.flat)) p1 = some (.lst (pre ++ b1.flat)) := upd_same
          generalize upd H4 p1 (.lst (pre ++ b1.flat)) = H5 at y5 e5 ⊢
          have s5 := s3.trans (s4.trans y5)
          refine ⟨_, rfl, r2, _, _, _, esr, rfl, SqT.of (s5 _ _ et), rfl, a2, b2, rfl, s5 _ _ j1, j2.same s5, by have j3 : b2.nest + 1 ≤ _ := j3; omega, by omega, fun l2 H6 s6 hl2 e6 => ?_⟩
          refine ⟨p1, l2, _, _, rfl, rfl, s6 _ _ e5, e6, by rw [List.length_append]; omega, fun p2 hp2 => ?_⟩
          have y7 := Same.put (o := .lst (pre ++ b1.flat ++ b2.flat)) hp2
          have s7 := s5.trans (s6.trans y7)
          refine ⟨_, rfl, r2, _, _, _, esr, rfl, SqT.of (s7 _ _ et), at_zero _ _, rfl, _, rfl, itDN (by decide +kernel) ⟨_, p2, rfl, (s5.trans s6).free hp2, s7, ?_⟩⟩
          rw [upd_same, fl, List.append_assoc]
        · obtain ⟨i1, i2, i3⟩ := hin.at' _ List.mem_cons_self
          have fl : sm.inner = b1.flat := by rw [hin.fl]; simp
          rw [fl] at lpre ⊢
          rcases hp with h0 | ⟨m, rfl, rfl⟩
          · omega
          refine itDN (by decide +kernel) ?_
          refine ⟨_, rfl, r2, _, _, _, esr, rfl, SqT.of et3, at_zero _ _, rfl, _, rfl, itDP rfl ?_⟩
          refine ⟨_, rfl, _, rfl, r2, _, _, _, esr, rfl, SqT.of et3, rfl, a1, b1, rfl, s3 _ _ i1, i2.same s3, by have i3 : b1.nest + 1 ≤ _ := i3; omega, by omega, fun l1 H4 s4 hl1 e4 => ?_⟩
          refine ⟨l, l1, _, _, rfl, rfl, s4 _ _ e3, e4, by omega, fun p1 hp1 => ?_⟩
          have y5 := Same.put (o := .lst (pre ++ b1.flat)) hp1
          exact ⟨_, p1, rfl, (s3.trans s4).free hp1, s3.trans (s4.trans y5), upd_same⟩
    · rintro σ H2 ⟨v2, l, rfl, hl, s2, e2⟩
      rw [List.length_map, List.take_of_length_le (Nat.le_refl _)] at e2
      exact ⟨_, rfl, q l H2 s2 hl e2⟩
theorem ok_law_all {f : Addr} {fd : FuncData} (T : Bt mg) (T_law_all : Fn K mg "_law_all" s_law_all ["_law_body_here"] f fd) : ∀ n : Nat, FnOk P w K mg base CX0 (n + 2) f fd ["_law_body_here"] (sp_wi n)
  | 0 => all_step T T_law_all (.inl rfl) (T_law_all.F.ok (k := 0) (sp := fun _ _ _ _ => False) sc_law_all (fun _ _ _ _ h => h.elim) (fun _ _ _ _ _ _ _ _ _ h => h.elim))
  | n + 1 => all_step T T_law_all (.inr ⟨n, rfl, rfl⟩) (ok_law_all T T_law_all n)
end
end K46

set_option Elab.async false
set_option linter.all false
set_option maxRecDepth 100000
set_option maxHeartbeats 4000000
namespace K46
open PySem L2
theorem kb_int_bool (K : PySem.W.Frag) : PySem.W.kitOne K (.type "int") (.type "bool") = some false := by rfl
theorem kb_int_int (K : PySem.W.Frag) : PySem.W.kitOne K (.type "int") (.type "int") = some true := by rfl
theorem kb_int_str (K : PySem.W.Frag) : PySem.W.kitOne K (.type "int") (.type "str") = some false := by rfl
theorem kb_str_bool (K : PySem.W.Frag) : PySem.W.kitOne K (.type "str") (.type "bool") = some false := by rfl
theorem kb_str_str (K : PySem.W.Frag) : PySem.W.kitOne K (.type "str") (.type "str") = some true := by rfl
theorem kb_bl_bool (K : PySem.W.Frag) : PySem.W.kitOne K (.type "bool") (.type "bool") = some true := by rfl
theorem kb_tup_bool (K : PySem.W.Frag) : PySem.W.kitOne K (.type "tuple") (.type "bool") = some false := by rfl
theorem kb_tup_str (K : PySem.W.Frag) : PySem.W.kitOne K (.type "tuple") (.type "str") = some false := by rfl
theorem kb_tup_list (K : PySem.W.Frag) : PySem.W.kitOne K (.type "tuple") (.type "list") = some false := by rfl
theorem kb_tup_tup (K : PySem.W.Frag) : PySem.W.kitOne K (.type "tuple") (.type "tuple") = some true := by rfl
theorem kb_int_lt (K : PySem.W.Frag) : PySem.W.kitAny K (.type "int") (["list", "tuple"].map Value.type) = some false := by rfl
theorem kb_tup_lt (K : PySem.W.Frag) : PySem.W.kitAny K (.type "tuple") (["list", "tuple"].map Value.type) = some true := by rfl
theorem kb_lst_bool (K : PySem.W.Frag) : PySem.W.kitOne K (.type "list") (.type "bool") = some false := by rfl
theorem kb_lst_str (K : PySem.W.Frag) : PySem.W.kitOne K (.type "list") (.type "str") = some false := by rfl
theorem kb_lst_list (K : PySem.W.Frag) : PySem.W.kitOne K (.type "list") (.type "list") = some true := by rfl
theorem kb_lst_tup (K : PySem.W.Frag) : PySem.W.kitOne K (.type "list") (.type "tuple") = some false := by rfl
theorem kb_lst_lt (K : PySem.W.Frag) : PySem.W.kitAny K (.type "list") (["list", "tuple"].map Value.type) = some true := by rfl
mutual
/-- data of lists and tuples at a heap -/
inductive LD (H : Hp) : V → PyData → Prop
  | int (i : Int) : LD H (.int i) (.int i)
  | str (x : Str) : LD H (.str x) (.str x)
  | bl (b : Bool) : LD H (.bl b) (.bool b)
  | tup {a : Addr} {vs : List V} {ds : List PyData} : H a = some (.tup vs) → vs.length ≤ 1000000 → LDs H vs ds → LD H (.ref a) (.tuple ds)
  | lst {a : Addr} {vs : List V} {ds : List PyData} : H a = some (.lst vs) → vs.length ≤ 1000000 → LDs H vs ds → LD H (.ref a) (.list ds)
inductive LDs (H : Hp) : List V → List PyData → Prop
  | nil : LDs H [] []
  | cons {x : V} {d : PyData} {xs : List V} {ds : List PyData} : LD H x d → LDs H xs ds → LDs H (x :: xs) (d :: ds)
end
mutual
theorem LD.same {H H' : Hp} (s : Same H H') : ∀ {v : V} {d : PyData}, LD H v d → LD H' v d
  | _, _, .int i => .int i
  | _, _, .str x => .str x
  | _, _, .bl b => .bl b
  | _, _, .tup h l r => .tup (s _ _ h) l (LDs.same s r)
  | _, _, .lst h l r => .lst (s _ _ h) l (LDs.same s r)
theorem LDs.same {H H' : Hp} (s : Same H H') : ∀ {v : List V} {d : List PyData}, LDs H v d → LDs H' v d
  | _, _, .nil => .nil
  | _, _, .cons a r => .cons (LD.same s a) (LDs.same s r)
end
mutual
theorem LD.rep (K : PySem.W.Frag) {H : Hp} : ∀ {v : V} {d : PyData}, LD H v d → Rep K H v d
  | _, _, .int i => .int i
  | _, _, .str x => .str x
  | _, _, .bl b => .bl b
  | _, _, .tup h _ r => .tup (SqT.of h) (LDs.rep K r)
  | _, _, .lst h _ r => .lst (SqL.of h) (LDs.rep K r)
theorem LDs.rep (K : PySem.W.Frag) {H : Hp} : ∀ {v : List V} {d : List PyData}, LDs H v d → RepAll K H v d
  | _, _, .nil => .nil
  | _, _, .cons a r => .cons (LD.rep K a) (LDs.rep K r)
end
theorem LDs.len {H : Hp} : ∀ {v : List V} {d : List PyData}, LDs H v d → v.length = d.length
  | _, _, .nil => rfl
  | _, _, .cons _ r => by rw [List.length_cons, List.length_cons, LDs.len r]
theorem LDs.get {H : Hp} : ∀ {xs : List V} {ds : List PyData} {i : Nat} {x : V}, LDs H xs ds → xs[i]? = some x → ∃ d, ds[i]? = some d ∧ LD H x d
  | _, _, 0, _, .cons r _, h => by cases h; exact ⟨_, rfl, r⟩
  | _, _, i + 1, _, .cons _ t, h => LDs.get (i := i) t h
  | _, _, _, _, .nil, h => by cases h
theorem LDs.app {H : Hp} : ∀ {xs ys : List V} {ds es : List PyData}, LDs H xs ds → LDs H ys es → LDs H (xs ++ ys) (ds ++ es)
  | _, _, _, _, .nil, b => b
  | _, _, _, _, .cons r t, b => .cons r (LDs.app t b)
theorem depthAll_get : ∀ {ds : List PyData} {i : Nat} {d : PyData}, ds[i]? = some d → PyData.depth d ≤ PyData.depthAll ds
  | d0 :: ds, 0, d, h => by cases h; show _ ≤ max _ _; omega
  | d0 :: ds, i + 1, d, h => by have := depthAll_get (ds := ds) (i := i) h; show _ ≤ max _ _; omega
  | [], _, _, h => by cases h
def sp_sm (n : Nat) : Sp := fun vs H Q _ => ∃ (u v : V) (d : PyData), vs = [u, v] ∧ LD H u d ∧ LD H v d ∧ PyData.depth d ≤ n ∧ ∀ H', Same H H' → Q (.bl true) H'
section
variable {P : Program} {w : World} {K : PySem.W.Frag} {mg : Str → Option Value} {base : Heap}
theorem sc_law_same : FnScope ["_law_found", "_law_due"] ["_law_found", "_law_due"] (defScope s_law_same) := ⟨rfl, rfl, rfl, by decide +kernel, rfl, by decide +kernel, by decide +kernel⟩
theorem sm_step {n k : Nat} {prev : Sp} {f : Addr} {fd : FuncData} (T : Bt mg) (T_law_same : Fn K mg "_law_same" s_law_same ["_law_found", "_law_due"] f fd) (hp : n = 0 ∨ ∃ m, n = m + 1 ∧ prev = sp_sm m) (G_law_same : FnOk P w K mg base CX0 k f fd ["_law_found", "_law_due"] prev) : FnOk P w K mg base CX0 (k + 1) f fd ["_law_found", "_law_due"] (sp_sm n) := by
  refine T_law_same.F.ok (k := k) sc_law_same (fun vs H Q E h => ?_) (fun cdv A outer s H vs Q E hr h => ?_)
  · obtain ⟨u, v, d, rfl, _⟩ := h; rfl
  · obtain ⟨u, v, d, rfl, hu, hv, hd, q⟩ := h
    have hs : sizeLine = 16777216 := sizeLine_eq
    have two : 2 ≤ sizeLine := by omega
    refine ⟨_, (pss_cons (ps_if (pt_cmpR op_isN (pv 1) pe_non (nomark _))
        (pss_one (ps_ret (pe_cmpR op_isN (pv 0) pe_non (nomark _))))
        pss_nil)
      (pss_cons (ps_if (pt_val (pe_callB (call_isi (T := "bool")) rfl T.b_isinstance (by decide +kernel) (pa_consN (pv 1) (pa_consN (pe_bltn (v := .ty "bool") (u := .type "bool") rfl T.b_bool (by decide +kernel) rfl) pa_nil))))
        (pss_one (ps_ret (pe_and (pe_callB (call_isi (T := "bool")) rfl T.b_isinstance (by decide +kernel) (pa_consN (pv 0) (pa_consN (pe_bltn (v := .ty "bool") (u := .type "bool") rfl T.b_bool (by decide +kernel) rfl) pa_nil))) (pe_one (pe_cmpR op_eq (pv 0) (pv 1) (nomark _))))))
        pss_nil)
      (pss_cons (ps_if (pt_val (pe_callB (call_isi (T := "str")) rfl T.b_isinstance (by decide +kernel) (pa_consN (pv 1) (pa_consN (pe_bltn (v := .ty "str") (u := .type "str") rfl T.b_str (by decide +kernel) rfl) pa_nil))))
        (pss_one (ps_ret (pe_and (pe_callB (call_isi (T := "str")) rfl T.b_isinstance (by decide +kernel) (pa_consN (pv 0) (pa_consN (pe_bltn (v := .ty "str") (u := .type "str") rfl T.b_str (by decide +kernel) rfl) pa_nil))) (pe_one (pe_cmpR op_eq (pv 0) (pv 1) (nomark _))))))
        pss_nil)
      (pss_cons (ps_if (pt_val (pe_callB call_isiL rfl T.b_isinstance (by decide +kernel) (pa_consN (pv 1) (pa_consN (pe_tup (pa_consN (pe_bltn (v := .ty "list") (u := .type "list") rfl T.b_list (by decide +kernel) rfl) (pa_consN (pe_bltn (v := .ty "tuple") (u := .type "tuple") rfl T.b_tuple (by decide +kernel) rfl) pa_nil))) pa_nil))))
        (pss_cons (ps_if (PW.pt (pw_or (pt_cmpR op_ne (pe_callB (call_isi (T := "list")) rfl T.b_isinstance (by decide +kernel) (pa_consN (pv 1) (pa_consN (pe_bltn (v := .ty "list") (u := .type "list") rfl T.b_list (by decide +kernel) rfl) pa_nil))) (pe_callB (call_isi (T := "list")) rfl T.b_isinstance (by decide +kernel) (pa_consN (pv 0) (pa_consN (pe_bltn (v := .ty "list") (u := .type "list") rfl T.b_list (by decide +kernel) rfl) pa_nil))) (nomark _)) (pw_or1 (pt_cmpR op_ne (pe_callB (call_isi (T := "tuple")) rfl T.b_isinstance (by decide +kernel) (pa_consN (pv 1) (pa_consN (pe_bltn (v := .ty "tuple") (u := .type "tuple") rfl T.b_tuple (by decide +kernel) rfl) pa_nil))) (pe_callB (call_isi (T := "tuple")) rfl T.b_isinstance (by decide +kernel) (pa_consN (pv 0) (pa_consN (pe_bltn (v := .ty "tuple") (u := .type "tuple") rfl T.b_tuple (by decide +kernel) rfl) pa_nil))) (nomark _)))))
          (pss_one (ps_ret pe_bl))
          pss_nil)
        (pss_cons (ps_if (pt_cmpR op_ne (pe_callB call_len_seq rfl T.b_len (by decide +kernel) (pa_consN (pv 0) pa_nil)) (pe_callB call_len_seq rfl T.b_len (by decide +kernel) (pa_consN (pv 1) pa_nil)) (nomark _))
          (pss_one (ps_ret pe_bl))
          pss_nil)
        (pss_one (ps_ret (pe_callB (call_allB rfl) rfl T.b_all (by decide +kernel) (pa_consN (pe_comp rfl (blk_of (sc0 := defScope s_law_same) (N0 := ["_law_found", "_law_due"]) (N' := ["_law_k", "_law_found", "_law_due"]) (own := 1) (fv := [0, 1]) (by decide +kernel) rfl rfl) (pi_range1 rfl T.b_range (pa_consN (pe_callB call_len_seq rfl T.b_len (by decide +kernel) (pa_consN (pv 1) pa_nil)) pa_nil)) (fun _ _ _ _ => (pg_name (i := 0) (by show List.Nodup (["_law_k", "_law_found", "_law_due"] : List Str); decide +kernel) rfl (Or.inl rfl))) (fun _ _ _ _ => (pe_call G_law_same (hr.mono (by omega)) rfl T_law_same.m T_law_same.F.kp T_law_same.b .nil pass0 (pa_consN (pe_ix (ix_anyK (K := K)) (pv 1) (pv 0) (fun _ _ => rfl)) (pa_consN (pe_ix (ix_anyK (K := K)) (pv 2) (pv 0) (fun _ _ => rfl)) pa_nil))))) pa_nil))))))
        pss_nil)
      (pss_one (ps_ret (pe_and (pe_callB (call_isi (T := "int")) rfl T.b_isinstance (by decide +kernel) (pa_consN (pv 0) (pa_consN (pe_bltn (v := .ty "int") (u := .type "int") rfl T.b_int (by decide +kernel) rfl) pa_nil))) (pe_and (pe_not (pe_callB (call_isi (T := "bool")) rfl T.b_isinstance (by decide +kernel) (pa_consN (pv 0) (pa_consN (pe_bltn (v := .ty "bool") (u := .type "bool") rfl T.b_bool (by decide +kernel) rfl) pa_nil)))) (pe_one (pe_cmpR op_eq (pv 0) (pv 1) (nomark _))))))))))), ?_⟩
    have a0 : ∀ (us : List V) (i : Nat) (x : V), us[i]? = some x → atI us (0 + (i : Int)) = some x := fun us i x h => by rw [Int.zero_add]; exact atI_nat h
    have hrep : ∀ i : Nat, (List.replicate i true).map V.bl ++ [V.bl true] = (List.replicate (i + 1) true).map V.bl := fun i => by rw [List.replicate_succ', List.map_append]; rfl
    cases hv with
    | int i =>
      cases hu
      refine ⟨_, rfl, rfl, _, rfl, iteF ?_⟩
      refine ⟨_, rfl, _, _, false, rfl, .int _, kb_int_bool K, _, rfl, iteF ?_⟩
      refine ⟨_, rfl, _, _, false, rfl, .int _, kb_int_str K, _, rfl, iteF ?_⟩
      refine ⟨_, rfl, two, fun p hp => ?_⟩
      have y := Same.put (o := .tup [V.ty "list", V.ty "tuple"]) hp
      refine ⟨.int i, "int", false, p, ["list", "tuple"], rfl, .s (.int i), upd_same, kb_int_lt K, _, rfl, iteF ?_⟩
      refine ⟨_, rfl, _, _, true, rfl, .int _, kb_int_int K, _, rfl, iteT ⟨_, rfl, _, _, false, rfl, .int _, kb_int_bool K, _, rfl, _, rfl, iteT ⟨_, rfl, _, rfl, rfl, ?_⟩⟩⟩
      rw [decide_eq_true rfl]
      exact q _ y
    | str x =>
      cases hu
      refine ⟨_, rfl, rfl, _, rfl, iteF ?_⟩
      refine ⟨_, rfl, _, _, false, rfl, .str _, kb_str_bool K, _, rfl, iteF ?_⟩
      refine ⟨_, rfl, _, _, true, rfl, .str _, kb_str_str K, _, rfl, iteT ?_⟩
      refine ⟨_, rfl, _, _, true, rfl, .str _, kb_str_str K, _, rfl, iteT ⟨_, rfl, _, rfl, rfl, ?_⟩⟩
      rw [decide_eq_true rfl]
      exact q _ (Same.refl _)
    | bl b =>
      cases hu
      refine ⟨_, rfl, rfl, _, rfl, iteF ?_⟩
      refine ⟨_, rfl, _, _, true, rfl, .bl _, kb_bl_bool K, _, rfl, iteT ?_⟩
      refine ⟨_, rfl, _, _, true, rfl, .bl _, kb_bl_bool K, _, rfl, iteT ⟨_, rfl, _, rfl, rfl, ?_⟩⟩
      rw [decide_eq_true rfl]
      exact q _ (Same.refl _)
    | @tup b ws ds hb lw rw' =>
      cases hu with
      | @tup a us _ ha lu ru =>
        have hd : PyData.depthAll ds + 1 ≤ n := hd
        have hl : us.length = ws.length := by rw [ru.len, rw'.len]
        rcases hp with h0 | ⟨m, rfl, rfl⟩
        · omega
        refine ⟨_, rfl, rfl, _, rfl, iteF ?_⟩
        refine ⟨_, rfl, _, _, false, rfl, .tup hb, kb_tup_bool K, _, rfl, iteF ?_⟩
        refine ⟨_, rfl, _, _, false, rfl, .tup hb, kb_tup_str K, _, rfl, iteF ?_⟩
        refine ⟨_, rfl, two, fun p hp => ?_⟩
        have y := Same.put (o := .tup [V.ty "list", V.ty "tuple"]) hp
        refine ⟨.ref b, "tuple", true, p, ["list", "tuple"], rfl, .s (.tup (y _ _ hb)), upd_same, kb_tup_lt K, _, rfl, iteT ?_⟩
        refine ⟨_, rfl, _, _, false, rfl, .tup (y _ _ hb), kb_tup_list K, _, rfl, _, _, false, rfl, .tup (y _ _ ha), kb_tup_list K, rfl, _, rfl, iteF ?_⟩
        refine ⟨_, rfl, _, _, true, rfl, .tup (y _ _ hb), kb_tup_tup K, _, rfl, _, _, true, rfl, .tup (y _ _ ha), kb_tup_tup K, rfl, _, rfl, iteF ?_⟩
        refine ⟨_, rfl, a, _, rfl, .inr (SqT.of (y _ _ ha)), _, rfl, b, _, rfl, .inr (SqT.of (y _ _ hb)), rfl, _, rfl, itBF (by rw [hl]; simp) ?_⟩
        generalize upd H p (.tup [V.ty "list", V.ty "tuple"]) = H1 at y ⊢
        refine ⟨_, rfl, b, _, rfl, .inr (SqT.of (y _ _ hb)), _, rfl, by omega, by omega, comp_rngInv (lo := 0) (n := ((ws.length : Nat) : Int).toNat) (fvals := [some (.ref a), some (.ref b)]) (fun acc i H2 => H1 acc = none ∧ i ≤ ws.length ∧ Same H1 H2 ∧ H2 acc = some (.lst ((List.replicate i true).map V.bl))) (fun acc hacc => ⟨hacc, Nat.zero_le _, Same.put hacc, upd_same⟩) ?_ ?_⟩
        · rintro acc i H2 R hi ⟨hacc, _, s2, e2⟩ hR
          have hi : i < ws.length := by omega
          have hxi : us[i]? = some us[i] := List.getElem?_eq_getElem (by omega)
          have hyi : ws[i]? = some ws[i] := List.getElem?_eq_getElem hi
          have s12 := y.trans s2
          obtain ⟨d1, hd1, l1⟩ := ru.get hxi
          obtain ⟨d2, hd2, l2⟩ := rw'.get hyi
          rw [hd1] at hd2
          cases hd2
          have := depthAll_get hd1
          refine ⟨_, rfl, _, rfl, .inr ⟨a, _, _, _, rfl, rfl, SqT.of (s12 _ _ ha), a0 _ _ _ hxi, _, rfl, _, rfl, .inr ⟨b, _, _, _, rfl, rfl, SqT.of (s12 _ _ hb), a0 _ _ _ hyi, us[i], ws[i], d1, rfl, l1.same s12, l2.same s12, by omega, fun H3 s3 => ?_⟩⟩⟩
          refine hR _ _ ⟨_, s3 _ _ e2, by rw [List.length_map, List.length_replicate]; omega, hacc, hi, Kl.same (s2.trans s3) hacc Kl.one, ?_⟩
          rw [upd_same, hrep]
        · rintro acc H2 hacc ⟨_, _, s2, e2⟩
          refine ⟨acc, List.replicate _ true, rfl, SqL.of e2, ?_⟩
          have : (List.replicate ((ws.length : Nat) : Int).toNat true).all id = true := by
            rw [List.all_eq_true]
            intro x hx
            exact (List.mem_replicate.mp hx).2
          rw [this]
          exact q _ (y.trans s2)
    | @lst b ws ds hb lw rw' =>
      cases hu with
      | @lst a us _ ha lu ru =>
        have hd : PyData.depthAll ds + 1 ≤ n := hd
        have hl : us.length = ws.length := by rw [ru.len, rw'.len]
        rcases hp with h0 | ⟨m, rfl, rfl⟩
        · omega
        refine ⟨_, rfl, rfl, _, rfl, iteF ?_⟩
        refine ⟨_, rfl, _, _, false, rfl, .lst hb, kb_lst_bool K, _, rfl, iteF ?_⟩
        refine ⟨_, rfl, _, _, false, rfl, .lst hb, kb_lst_str K, _, rfl, iteF ?_⟩
        refine ⟨_, rfl, two, fun p hp => ?_⟩
        have y := Same.put (o := .tup [V.ty "list", V.ty "tuple"]) hp
        refine ⟨.ref b, "list", true, p, ["list", "tuple"], rfl, .lst (y _ _ hb), upd_same, kb_lst_lt K, _, rfl, iteT ?_⟩
        refine ⟨_, rfl, _, _, true, rfl, .lst (y _ _ hb), kb_lst_list K, _, rfl, _, _, true, rfl, .lst (y _ _ ha), kb_lst_list K, rfl, _, rfl, iteF ?_⟩
        refine ⟨_, rfl, _, _, false, rfl, .lst (y _ _ hb), kb_lst_tup K, _, rfl, _, _, false, rfl, .lst (y _ _ ha), kb_lst_tup K, rfl, _, rfl, iteF ?_⟩
        refine ⟨_, rfl, a, _, rfl, .inl (SqL.of (y _ _ ha)), _, rfl, b, _, rfl, .inl (SqL.of (y _ _ hb)), rfl, _, rfl, itBF (by rw [hl]; simp) ?_⟩
        generalize upd H p (.tup [V.ty "list", V.ty "tuple"]) = H1 at y ⊢
        refine ⟨_, rfl, b, _, rfl, .inl (SqL.of (y _ _ hb)), _, rfl, by omega, by omega, comp_rngInv (lo := 0) (n := ((ws.length : Nat) : Int).toNat) (fvals := [some (.ref a), some (.ref b)]) (fun acc i H2 => H1 acc = none ∧ i ≤ ws.length ∧ Same H1 H2 ∧ H2 acc = some (.lst ((List.replicate i true).map V.bl))) (fun acc hacc => ⟨hacc, Nat.zero_le _, Same.put hacc, upd_same⟩) ?_ ?_⟩
        · rintro acc i H2 R hi ⟨hacc, _, s2, e2⟩ hR
          have hi : i < ws.length := by omega
          have hxi : us[i]? = some us[i] := List.getElem?_eq_getElem (by omega)
          have hyi : ws[i]? = some ws[i] := List.getElem?_eq_getElem hi
          have s12 := y.trans s2
          obtain ⟨d1, hd1, l1⟩ := ru.get hxi
          obtain ⟨d2, hd2, l2⟩ := rw'.get hyi
          rw [hd1] at hd2
          cases hd2
          have := depthAll_get hd1
          refine ⟨_, rfl, _, rfl, .inl ⟨a, _, _, _, rfl, rfl, SqL.of (s12 _ _ ha), a0 _ _ _ hxi, _, rfl, _, rfl, .inl ⟨b, _, _, _, rfl, rfl, SqL.of (s12 _ _ hb), a0 _ _ _ hyi, us[i], ws[i], d1, rfl, l1.same s12, l2.same s12, by omega, fun H3 s3 => ?_⟩⟩⟩
          refine hR _ _ ⟨_, s3 _ _ e2, by rw [List.length_map, List.length_replicate]; omega, hacc, hi, Kl.same (s2.trans s3) hacc Kl.one, ?_⟩
          rw [upd_same, hrep]
        · rintro acc H2 hacc ⟨_, _, s2, e2⟩
          refine ⟨acc, List.replicate _ true, rfl, SqL.of e2, ?_⟩
          have : (List.replicate ((ws.length : Nat) : Int).toNat true).all id = true := by
            rw [List.all_eq_true]
            intro x hx
            exact (List.mem_replicate.mp hx).2
          rw [this]
          exact q _ (y.trans s2)
theorem ok_law_same {f : Addr} {fd : FuncData} (T : Bt mg) (T_law_same : Fn K mg "_law_same" s_law_same ["_law_found", "_law_due"] f fd) : ∀ n : Nat, FnOk P w K mg base CX0 (n + 2) f fd ["_law_found", "_law_due"] (sp_sm n)
  | 0 => sm_step T T_law_same (.inl rfl) (T_law_same.F.ok (k := 0) (sp := fun _ _ _ _ => False) sc_law_same (fun _ _ _ _ h => h.elim) (fun _ _ _ _ _ _ _ _ _ h => h.elim))
  | n + 1 => sm_step T T_law_same (.inr ⟨n, rfl, rfl⟩) (ok_law_same T T_law_same n)
end
end K46

set_option Elab.async false
set_option linter.all false
set_option maxRecDepth 100000
set_option maxHeartbeats 4000000
namespace K46
open PySem L2
mutual
theorem TD.ld {H : Hp} : ∀ {v : V} {d : PyData}, TD H v d → LD H v d
  | _, _, .int i => .int i
  | _, _, .str x => .str x
  | _, _, .bl b => .bl b
  | _, _, .tup h r hl => .tup h (by omega) (TDs.ld r)
theorem TDs.ld {H : Hp} : ∀ {v : List V} {d : List PyData}, TDs H v d → LDs H v d
  | _, _, .nil => .nil
  | _, _, .cons a r => .cons (TD.ld a) (TDs.ld r)
end
mutual
theorem SmAt.ld {H : Hp} : ∀ {s : Sm}, SmAt H s → LD H s.ref s.dat
  | .leaf r d, ⟨tag, vs, ds, h1, h2, h3, _, _, h6⟩ => by
    rw [Sm.dat, h3]
    exact .tup h1 (by rw [List.length_cons]; omega) (.cons (.str _) h2.ld)
  | .iff r e a1 b1 a2 b2, ⟨v, h1, h2, h3, h4, h5, h6, h7, h8⟩ => by
    rw [Sm.dat]
    exact .tup h1 (by simp) (.cons (.str _) (.cons h2.ld (.cons (.lst h3 (by omega) (BdAt.ld h4)) (.cons (.lst h5 (by omega) (BdAt.ld h6)) .nil))))
  | .wh r e a1 b1, ⟨v, h1, h2, h3, h4, h5⟩ => by
    rw [Sm.dat]
    exact .tup h1 (by simp) (.cons (.str _) (.cons h2.ld (.cons (.lst h3 (by omega) (BdAt.ld h4)) .nil)))
theorem BdAt.ld {H : Hp} : ∀ {b : Bd}, BdAt H b → LDs H b.refs b.dat
  | .nil, _ => by rw [Bd.dat]; exact .nil
  | .cons s b, ⟨p, q⟩ => by rw [Bd.dat]; exact .cons (SmAt.ld p) (BdAt.ld q)
end
theorem depthAll_app : ∀ (xs ys : List PyData), PyData.depthAll (xs ++ ys) = max (PyData.depthAll xs) (PyData.depthAll ys)
  | [], ys => by show _ = max 0 _; simp
  | x :: xs, ys => by show max (PyData.depth x) (PyData.depthAll (xs ++ ys)) = max (max (PyData.depth x) (PyData.depthAll xs)) _; rw [depthAll_app xs ys]; omega
mutual
def Sm.flatD : Sm → List PyData
  | .leaf _ _ => []
  | .iff _ _ _ b1 _ b2 => b1.flatD ++ b2.flatD
  | .wh _ _ _ b1 => b1.flatD
def Bd.flatD : Bd → List PyData
  | .nil => []
  | .cons s b => s.dat :: (s.flatD ++ b.flatD)
end
mutual
theorem SmAt.fld {H : Hp} : ∀ {s : Sm}, SmAt H s → LDs H s.inner s.flatD
  | .leaf r d, _ => by rw [Sm.inner, Sm.flatD]; exact .nil
  | .iff r e a1 b1 a2 b2, ⟨v, h1, h2, h3, h4, h5, h6, h7⟩ => by rw [Sm.inner, Sm.flatD]; exact (BdAt.fld h4).app (BdAt.fld h6)
  | .wh r e a1 b1, ⟨v, h1, h2, h3, h4, h5⟩ => by rw [Sm.inner, Sm.flatD]; exact BdAt.fld h4
theorem BdAt.fld {H : Hp} : ∀ {b : Bd}, BdAt H b → LDs H b.flat b.flatD
  | .nil, _ => by rw [Bd.flat, Bd.flatD]; exact .nil
  | .cons s b, ⟨p, q⟩ => by rw [Bd.flat, Bd.flatD]; exact .cons p.ld ((SmAt.fld p).app (BdAt.fld q))
end
mutual
theorem Sm.flatD_dep : ∀ (s : Sm), PyData.depthAll s.flatD ≤ PyData.depth s.dat
  | .leaf r d => by rw [Sm.flatD]; exact Nat.zero_le _
  | .iff r e a1 b1 a2 b2 => by
    rw [Sm.flatD, Sm.dat]
    have h1 := Bd.flatD_dep b1
    have h2 := Bd.flatD_dep b2
    rw [depthAll_app]
    show _ ≤ max 0 (max (PyData.depth e) (max (PyData.depthAll b1.dat + 1) (max (PyData.depthAll b2.dat + 1) 0))) + 1
    omega
  | .wh r e a1 b1 => by
    rw [Sm.flatD, Sm.dat]
    have h1 := Bd.flatD_dep b1
    show _ ≤ max 0 (max (PyData.depth e) (max (PyData.depthAll b1.dat + 1) 0)) + 1
    omega
theorem Bd.flatD_dep : ∀ (b : Bd), PyData.depthAll b.flatD ≤ PyData.depthAll b.dat
  | .nil => by rw [Bd.flatD, Bd.dat]; exact Nat.le_refl _
  | .cons s b => by
    rw [Bd.flatD, Bd.dat]
    have h1 := Sm.flatD_dep s
    have h2 := Bd.flatD_dep b
    show max (PyData.depth s.dat) (PyData.depthAll (s.flatD ++ b.flatD)) ≤ max (PyData.depth s.dat) (PyData.depthAll b.dat)
    rw [depthAll_app]
    omega
end
/-! ### how many statements, by the data -/
def cntS : Nat → PyData → Nat
  | 0, _ => 1
  | n + 1, .tuple [.str tag, _, .list b1, .list b2] => if tag = "if" then 1 + ((b1.map (cntS n)).sum + (b2.map (cntS n)).sum) else 1
  | n + 1, .tuple [.str tag, _, .list b1] => if tag = "while" then 1 + (b1.map (cntS n)).sum else 1
  | _ + 1, _ => 1
theorem cntS_leaf (n : Nat) {tag : Str} {ds : List PyData} (h1 : tag ≠ "if") (h2 : tag ≠ "while") : cntS n (.tuple (.str tag :: ds)) = 1 := by
  cases n with
  | zero => rfl
  | succ n =>
    unfold cntS
    split
    · rfl
    · rename_i h; cases h; rw [if_neg h1]
    · rename_i h; cases h; rw [if_neg h2]
    · rfl
mutual
theorem SmAt.cnt {H : Hp} : ∀ {s : Sm} (n : Nat), SmAt H s → s.nest ≤ n → cntS n s.dat = s.inner.length + 1
  | .leaf r d, n, ⟨tag, vs, ds, _, _, h3, h4, h5, _⟩, _ => by rw [Sm.dat, Sm.inner, h3, cntS_leaf n h4 h5]; rfl
  | .iff r e a1 b1 a2 b2, n, ⟨v, h1, h2, h3, h4, h5, h6, h7⟩, hn => by
    rw [Sm.nest] at hn
    obtain ⟨m, rfl⟩ : ∃ m, n = m + 1 := ⟨n - 1, by omega⟩
    rw [Sm.dat, Sm.inner, List.length_append, ← BdAt.cnt m h4 (by omega), ← BdAt.cnt m h6 (by omega)]
    show (if _ then _ else _) = _
    rw [if_pos rfl]; omega
  | .wh r e a1 b1, n, ⟨v, h1, h2, h3, h4, h5⟩, hn => by
    rw [Sm.nest] at hn
    obtain ⟨m, rfl⟩ : ∃ m, n = m + 1 := ⟨n - 1, by omega⟩
    rw [Sm.dat, Sm.inner, ← BdAt.cnt m h4 (by omega)]
    show (if _ then _ else _) = _
    rw [if_pos rfl]; omega
theorem BdAt.cnt {H : Hp} : ∀ {b : Bd} (n : Nat), BdAt H b → b.nest ≤ n → (b.dat.map (cntS n)).sum = b.flat.length
  | .nil, n, _, _ => by rw [Bd.dat, Bd.flat]; rfl
  | .cons s b, n, ⟨p, q⟩, hn => by
    rw [Bd.nest] at hn
    rw [Bd.dat, Bd.flat, List.map_cons, List.sum_cons, SmAt.cnt n p (by omega), BdAt.cnt n q (by omega), List.length_cons, List.length_append]
    omega
end
/-! ### bodies drawn: written words, not deep, few -/
structure BOk (n m : Nat) (ds : List PyData) : Prop where
  lay : PyData.canLayAll0 ds = true
  dep : PyData.depthAll ds ≤ 4 + 2 * n
  cnt : (ds.map (cntS n)).sum ≤ m
def Sx : Nat → Nat
  | 0 => 3
  | n + 1 => 3 + 6 * Sx n
theorem lay_1 {x : Str} (hx : PyData.strOk x = true) : PyData.canLay0 (.tuple [.str x]) = true := by
  show (PyData.strOk x && true) = true
  rw [hx]; rfl
theorem lay_3 {x : Str} {d e f : PyData} (hx : PyData.strOk x = true) (hd : PyData.canLay0 d = true) (he : PyData.canLay0 e = true) (hf : PyData.canLay0 f = true) : PyData.canLay0 (.tuple [.str x, d, e, f]) = true := by
  show (PyData.strOk x && (PyData.canLay0 d && (PyData.canLay0 e && (PyData.canLay0 f && true)))) = true
  rw [hx, hd, he, hf]; rfl
structure SOk (n m : Nat) (d : PyData) : Prop where
  lay : PyData.canLay0 d = true
  dep : PyData.depth d ≤ 4 + 2 * n
  cnt : cntS n d ≤ m
theorem stB_ok {rec : Tp → List PyData × Tp} {names parts : List Str} {n m : Nat} (h0 : 0 < names.length) (hn : names.length < 1000000) (hok : ∀ x ∈ names, PyData.strOk x = true) (hpk : ∀ x ∈ parts, PyData.strOk x = true) {wy : Int} (hrec : ¬ (4 < wy ∧ wy < 7) ∨ ∃ k, n = k + 1 ∧ (∀ t, BOk k (Sx k) (rec t).1) ∧ 1 + 2 * Sx k ≤ m) (h1 : 1 ≤ m) (t : Tp) : SOk n m (stB rec names parts wy t).1 := by
  have nm := fun t : Tp => hok _ (str_ix (ss := names) (i := (nextM t names.length).1) (next_bd t (by omega)).1 (next_bd t (by omega)).2).1
  have e2 := fun t => expr_ok h0 hn hok 2 t
  have e1 := fun t => expr_ok h0 hn hok 1 t
  have lf : ∀ (tag : Str) (ds : List PyData), tag ≠ "if" → tag ≠ "while" → cntS n (.tuple (.str tag :: ds)) ≤ m := fun tag ds a b => by rw [cntS_leaf n a b]; exact h1
  unfold stB
  split
  · have := e2 t
    exact ⟨lay1 _ _ (by decide +kernel) this.lay, by show max 0 (max (PyData.depth _) 0) + 1 ≤ _; have := this.dep; omega, lf _ _ (by decide +kernel) (by decide +kernel)⟩
  split
  · have := e2 (nextM t names.length).2
    exact ⟨lay2 _ _ _ (by decide +kernel) (nm t) this.lay, by show max 0 (max 0 (max (PyData.depth _) 0)) + 1 ≤ _; have := this.dep; omega, lf _ _ (by decide +kernel) (by decide +kernel)⟩
  split
  · have a1 := e1 (nextM t names.length).2
    have a2 := e2 (exprM names 1 (nextM t names.length).2).2
    exact ⟨lay_3 (by decide +kernel) (nm t) a1.lay a2.lay, by show max 0 (max 0 (max (PyData.depth _) (max (PyData.depth _) 0))) + 1 ≤ _; have := a1.dep; have := a2.dep; omega, lf _ _ (by decide +kernel) (by decide +kernel)⟩
  split
  · exact ⟨lay1 _ _ (by decide +kernel) (nm t), by show max 0 (max 0 0) + 1 ≤ _; omega, lf _ _ (by decide +kernel) (by decide +kernel)⟩
  split
  · rename_i h
    have hp : 0 < parts.length := List.length_pos_iff.mpr h.2
    have pn := hpk _ (str_ix (ss := parts) (i := (nextM t parts.length).1) (next_bd t (by omega)).1 (next_bd t (by omega)).2).1
    exact ⟨lay1 _ _ (by decide +kernel) pn, by show max 0 (max 0 0) + 1 ≤ _; omega, lf _ _ (by decide +kernel) (by decide +kernel)⟩
  split
  · obtain ⟨k, rfl, hr, hm⟩ := hrec.resolve_left (fun z => z ⟨by omega, by omega⟩)
    have a0 := e2 t
    have a1 := hr (exprM names 2 t).2
    have a2 := hr (rec (exprM names 2 t).2).2
    refine ⟨lay_3 (by decide +kernel) a0.lay a1.lay a2.lay, ?_, ?_⟩
    · show max 0 (max (PyData.depth _) (max (PyData.depthAll _ + 1) (max (PyData.depthAll _ + 1) 0))) + 1 ≤ _
      have := a0.dep; have := a1.dep; have := a2.dep; omega
    · show (if _ then _ else _) ≤ _
      rw [if_pos rfl]
      have := a1.cnt; have := a2.cnt; omega
  split
  · obtain ⟨k, rfl, hr, hm⟩ := hrec.resolve_left (fun z => z ⟨by omega, by omega⟩)
    have a0 := e2 t
    have a1 := hr (exprM names 2 t).2
    refine ⟨lay2 _ _ _ (by decide +kernel) a0.lay a1.lay, ?_, ?_⟩
    · show max 0 (max (PyData.depth _) (max (PyData.depthAll _ + 1) 0)) + 1 ≤ _
      have := a0.dep; have := a1.dep; omega
    · show (if _ then _ else _) ≤ _
      rw [if_pos rfl]
      have := a1.cnt; omega
  split
  · exact ⟨lay_1 (by decide +kernel), by show max 0 0 + 1 ≤ _; omega, lf _ _ (by decide +kernel) (by decide +kernel)⟩
  · exact ⟨lay_1 (by decide +kernel), by show max 0 0 + 1 ≤ _; omega, lf _ _ (by decide +kernel) (by decide +kernel)⟩
theorem lay_app : ∀ (xs ys : List PyData), PyData.canLayAll0 (xs ++ ys) = (PyData.canLayAll0 xs && PyData.canLayAll0 ys)
  | [], ys => by show _ = (true && _); simp
  | x :: xs, ys => by show (PyData.canLay0 x && PyData.canLayAll0 (xs ++ ys)) = ((PyData.canLay0 x && PyData.canLayAll0 xs) && _); rw [lay_app xs ys, Bool.and_assoc]
theorem bodF_ok {stm : Tp → PyData × Tp} {n m : Nat} (h : ∀ t, SOk n m (stm t).1) (t : Tp) : ∀ k, BOk n (k * m) (bodF stm ([], t) k).1 ∧ (bodF stm ([], t) k).1.length ≤ k
  | 0 => ⟨⟨rfl, Nat.zero_le _, Nat.zero_le _⟩, Nat.le_refl _⟩
  | k + 1 => by
    obtain ⟨ih, il⟩ := bodF_ok h t k
    show BOk n ((k + 1) * m) (if _ then _ else _ : List PyData × Tp).1 ∧ (if _ then _ else _ : List PyData × Tp).1.length ≤ _
    have hs := h (bodF stm ([], t) k).2
    split
    · refine ⟨⟨?_, ?_, ?_⟩, ?_⟩
      · show PyData.canLayAll0 (_ ++ [_]) = true
        rw [lay_app, ih.lay]
        show (true && (PyData.canLay0 _ && true)) = true
        rw [hs.lay]; rfl
      · show PyData.depthAll (_ ++ [_]) ≤ _
        rw [depthAll_app]
        show max _ (max (PyData.depth _) 0) ≤ _
        have := ih.dep; have := hs.dep; omega
      · show ((_ ++ [_]).map _).sum ≤ _
        rw [List.map_append, List.sum_append, Nat.succ_mul]
        show _ + (cntS n _ + 0) ≤ _
        have := ih.cnt; have := hs.cnt; omega
      · show (_ ++ [_]).length ≤ _
        rw [List.length_append]; show _ + 1 ≤ _; omega
    · exact ⟨⟨ih.lay, ih.dep, by have := ih.cnt; rw [Nat.succ_mul]; omega⟩, by omega⟩
theorem bod_ok {names parts : List Str} (h0 : 0 < names.length) (hn : names.length < 1000000) (hok : ∀ x ∈ names, PyData.strOk x = true) (hpk : ∀ x ∈ parts, PyData.strOk x = true) : ∀ (n : Nat) (t : Tp), BOk n (Sx n) (bodM names parts n t).1 ∧ (bodM names parts n t).1.length ≤ 3
  | 0, t => by
    have bn := next_bd t (size := 4) (by decide)
    have := bodF_ok (stm := stM (fun t => ([], t)) true names parts) (n := 0) (m := 1) (fun t => stB_ok (rec := fun t => ([], t)) (n := 0) (m := 1) h0 hn hok hpk (.inl (by unfold wayM; split; omega; rename_i h; exact fun z => h ⟨.inl rfl, z⟩)) (Nat.le_refl _) (nextM t 9).2) (nextM t 4).2 (nextM t 4).1.toNat
    exact ⟨⟨this.1.lay, this.1.dep, by have h := this.1.cnt; show ((bodB _ t).1.map _).sum ≤ 3; unfold bodB; omega⟩, by show (bodB _ t).1.length ≤ 3; unfold bodB; omega⟩
  | n + 1, t => by
    have bn := next_bd t (size := 4) (by decide)
    have := bodF_ok (stm := stM (bodM names parts n) false names parts) (n := n + 1) (m := 1 + 2 * Sx n) (fun t => stB_ok (rec := bodM names parts n) (n := n + 1) (m := 1 + 2 * Sx n) h0 hn hok hpk (.inr ⟨n, rfl, fun t => (bod_ok h0 hn hok hpk n t).1, Nat.le_refl _⟩) (by omega) (nextM t 9).2) (nextM t 4).2 (nextM t 4).1.toNat
    have k3 : (nextM t 4).1.toNat * (1 + 2 * Sx n) ≤ 3 * (1 + 2 * Sx n) := Nat.mul_le_mul_right _ (by omega)
    exact ⟨⟨this.1.lay, this.1.dep, by have h := this.1.cnt; show ((bodB _ t).1.map _).sum ≤ 3 + 6 * Sx n; unfold bodB; omega⟩, by show (bodB _ t).1.length ≤ 3; unfold bodB; omega⟩
end K46

set_option Elab.async false
set_option linter.all false
set_option maxRecDepth 100000
set_option maxHeartbeats 4000000
namespace K46
open PySem L2
abbrev Pt := Str × Addr × Bd
def PartAt (H : Hp) (v : V) (p : Pt) : Prop := ∃ q, v = .ref q ∧ H q = some (.tup [.str p.1, .ref p.2.1]) ∧ H p.2.1 = some (.lst p.2.2.refs) ∧ BdAt H p.2.2
theorem PartAt.same {H H' : Hp} (s : Same H H') {v : V} {p : Pt} (h : PartAt H v p) : PartAt H' v p := by
  obtain ⟨q, e, e1, e2, e3⟩ := h
  exact ⟨q, e, s _ _ e1, s _ _ e2, e3.same s⟩
def psFlat (ps : List Pt) : List V := (ps.map fun p => p.2.2.flat).flatten
theorem psFlat_take {ps : List Pt} {i : Nat} {p : Pt} (h : ps[i]? = some p) : psFlat (ps.take (i + 1)) = psFlat (ps.take i) ++ p.2.2.flat := by
  unfold psFlat
  rw [List.take_add_one, h, List.map_append, List.flatten_append]
  show _ ++ ([p.2.2.flat] : List (List V)).flatten = _
  simp
theorem psFlat_le (ps : List Pt) (i : Nat) : (psFlat (ps.take i)).length ≤ (psFlat ps).length := by
  unfold psFlat
  conv => rhs; rw [← List.take_append_drop i ps]
  rw [List.map_append, List.flatten_append, List.length_append]; omega
structure TreeAt (H : Hp) (T told pl ml : Addr) (vsV xs : List V) (rows : List VRow) (ps : List Pt) (main : Bd) : Prop where
  et : H T = some (.tup [.ref told, .ref pl, .ref ml])
  etl : H told = some (.lst vsV)
  pv : Paired (VarAt H) vsV rows
  epl : H pl = some (.lst xs)
  pp : Paired (PartAt H) xs ps
  eml : H ml = some (.lst main.refs)
  bm : BdAt H main
  np : ∀ p ∈ ps, p.2.2.nest ≤ 8
  nm : main.nest ≤ 8
  tot : (psFlat ps).length + main.flat.length ≤ 1000000
theorem TreeAt.same {H H' : Hp} (s : Same H H') {T told pl ml : Addr} {vsV xs : List V} {rows : List VRow} {ps : List Pt} {main : Bd} (h : TreeAt H T told pl ml vsV xs rows ps main) : TreeAt H' T told pl ml vsV xs rows ps main :=
  ⟨s _ _ h.et, s _ _ h.etl, Paired.mapP h.pv fun _ _ z => z.same s, s _ _ h.epl, Paired.mapP h.pp fun _ _ z => z.same s, s _ _ h.eml, h.bm.same s, h.np, h.nm, h.tot⟩
def sp_stats : Sp := fun vs H Q _ => ∃ (T told pl ml : Addr) (vsV xs : List V) (rows : List VRow) (ps : List Pt) (main : Bd), vs = [.ref T] ∧ TreeAt H T told pl ml vsV xs rows ps main ∧ ∀ (l : Addr) (H' : Hp), Same H H' → H l = none → H' l = some (.lst (psFlat ps ++ main.flat)) → Q (.ref l) H'
section
variable {P : Program} {w : World} {K : PySem.W.Frag} {mg : Str → Option Value} {base : Heap}
theorem sc_statements : FnScope ["tree", "found", "name", "body"] ["tree"] (defScope s_statements) := ⟨rfl, rfl, rfl, by decide +kernel, rfl, by decide +kernel, by decide +kernel⟩
theorem ok_statements {f f1 : Addr} {fd d1 : FuncData} (F : Fun K "statements" "statements" s_statements f fd) (T : Bt mg) (T_with_inner : Fn K mg "with_inner" s_with_inner ["body"] f1 d1) : FnOk P w K mg base CX0 11 f fd ["tree"] sp_stats := by
  have G_with_inner : FnOk P w K mg base CX0 10 _ _ ["body"] (sp_wi 8) := ok_with_inner (P := P) (w := w) (base := base) T T_with_inner 8
  refine F.ok (k := 10) sc_statements (fun vs H Q E h => ?_) (fun cdv A outer s H vs Q E hr h => ?_)
  · obtain ⟨T0, told, pl, ml, vsV, xs, rows, ps, main, rfl, _⟩ := h; rfl
  · obtain ⟨T0, told, pl, ml, vsV, xs, rows, ps, main, rfl, tr, q⟩ := h
    have hs : sizeLine = 16777216 := sizeLine_eq
    have tot := tr.tot
    refine ⟨_, (pss_cons (ps_set (i := 1) sc_statements.nd rfl (Or.inl rfl) (pe_lst pa_nil))
      (pss_cons (ps_for PassesOwn.never rfl (pi_list (pe_ix ix_tup (pv 0) pe_int (fun _ _ => rfl))) (pg_tup rfl (pgs_cons (pg_name (i := 2) sc_statements.nd rfl (Or.inl rfl)) (pgs_cons (pg_name (i := 3) sc_statements.nd rfl (Or.inl rfl)) pgs_nil)))
        (pss_one (ps_expr (pe_bm PySem.F.plainAttrs_list PySem.F.slot_list_extend PySem.F.type_list_extend mt_extend (pv 1) (pa_consN (pe_call G_with_inner (hr.mono (by decide)) rfl T_with_inner.m T_with_inner.F.kp T_with_inner.b .nil pass0 (pa_consN (pv 3) pa_nil)) pa_nil)))))
      (pss_one (ps_ret (pe_op op_cat (pv 1) (pe_call G_with_inner (hr.mono (by decide)) rfl T_with_inner.m T_with_inner.F.kp T_with_inner.b .nil pass0 (pa_consN (pe_ix ix_tup (pv 0) pe_int (fun _ _ => rfl)) pa_nil))))))), ?_⟩
    refine ⟨Nat.zero_le _, fun l hl => ?_⟩
    have y1 := Same.put (o := .lst []) hl
    have el : upd H l (.lst []) l = some (.lst []) := upd_same
    generalize upd H l (.lst []) = H1 at y1 el ⊢
    refine ⟨_, rfl, T0, _, _, _, rfl, rfl, SqT.of (y1 _ _ tr.et), rfl, pl, rfl, ⟨_, SqL.of (y1 _ _ tr.epl)⟩, for_list (K := K) (a := pl) (xs := xs) (fun i σ H2 => ∃ (v2 v3 : Option V), σ = [some (.ref T0), some (.ref l), v2, v3] ∧ Same H H2 ∧ H2 l = some (.lst (psFlat (ps.take i)))) ⟨_, _, rfl, y1, by rw [List.take_zero]; exact el⟩ ?_ ?_ ?_⟩
    · rintro i σ H2 _ ⟨v2, v3, rfl, s2, _⟩
      exact SqL.of (s2 _ _ tr.epl)
    · rintro i x σ H2 hx ⟨v2, v3, rfl, s2, e2⟩
      obtain ⟨p, hpi, q0, rfl, eq, ea, bp⟩ := paired_at tr.pp hx
      have hmem := List.mem_of_getElem? hpi
      have hle := psFlat_le ps (i + 1)
      rw [psFlat_take hpi, List.length_append] at hle
      refine ⟨q0, _, rfl, SqT.of (s2 _ _ eq), rfl, _, _, rfl, _, _, rfl, rfl, ?_⟩
      refine ⟨_, rfl, .inl ⟨rfl, _, SqL.of e2⟩, _, rfl, p.2.1, p.2.2, rfl, s2 _ _ ea, bp.same s2, tr.np p hmem, by omega, fun l2 H3 s3 hl2 el2 => ?_⟩
      have e3 := s3 _ _ e2
      refine ⟨l, l2, _, _, rfl, rfl, e3, el2, by omega, ?_⟩
      refine ⟨_, _, rfl, Kl.same (s2.trans s3) hl Kl.one, ?_⟩
      rw [upd_same, psFlat_take hpi]
    · rintro σ H2 ⟨v2, v3, rfl, s2, e2⟩
      rw [tr.pp.length, List.take_of_length_le (Nat.le_refl _)] at e2
      refine ⟨_, rfl, _, rfl, T0, _, _, _, rfl, rfl, SqT.of (s2 _ _ tr.et), rfl, ml, main, rfl, s2 _ _ tr.eml, tr.bm.same s2, tr.nm, by omega, fun l2 H3 s3 hl2 el2 => ?_⟩
      refine ⟨l, l2, _, _, rfl, rfl, s3 _ _ e2, el2, by omega, fun p hp => ?_⟩
      exact q p _ ((s2.trans s3).trans (Same.put hp)) ((s2.trans s3).free hp) upd_same
end
end K46

set_option Elab.async false
set_option linter.all false
set_option maxRecDepth 100000
set_option maxHeartbeats 4000000
namespace K46
open PySem L2
/-! ### a tree drawn, as data -/
def t0M (ns : List Int) : Tp := tapM (ns.getD 0 0)
def nA (ns : List Int) : Int × Tp := nextM (t0M ns) 3
def mostM (ns : List Int) : Int := ([4, 9, 40] : List Int).getD (nA ns).1.toNat 0
def vM (ns : List Int) : List VRow × Tp := varsM (nA ns).2 (mostM ns)
def namesM (ns : List Int) : List Str := (vM ns).1.map fun p => p.2.1
def nB (ns : List Int) : Int × Tp := nextM (vM ns).2 8
def limM (ns : List Int) : Int := if (nB ns).1 = 7 then 13 else 4
def nC (ns : List Int) : Int × Tp := nextM (nB ns).2 (limM ns)
def titleK (ns : List Int) (k : Nat) : Str := (titlesM (t0M ns) 13).1.getD k ""
def tapK (ns : List Int) (k : Nat) : Tp := tapM (ns.getD (1 + k % 3) 0 + 2 * (k : Int))
def partsM (ns : List Int) : Nat → List (Str × List PyData)
  | 0 => []
  | k + 1 => partsM ns k ++ [(titleK ns k, (bodM (namesM ns) ((partsM ns k).map fun p => p.1) 2 (tapK ns k)).1)]
def ptsM (ns : List Int) : List (Str × List PyData) := partsM ns (nC ns).1.toNat
def ptit (ns : List Int) : List Str := (ptsM ns).map fun p => p.1
def nD (ns : List Int) : Int × Tp := nextM (nC ns).2 3
def deepM (t : Tp) : Nat := ([2, 3, 8] : List Nat).getD (nextM t 3).1.toNat 0
def mainM (ns : List Int) : Nat → List PyData × Tp
  | 0 => ([], (nD ns).2)
  | k + 1 => ((mainM ns k).1 ++ (bodM (namesM ns) (ptit ns) (deepM (mainM ns k).2) (tapM (ns.getD (4 + k) 0))).1, (nextM (mainM ns k).2 3).2)
def mnM (ns : List Int) : List PyData := (mainM ns (1 + (nD ns).1).toNat).1
def cntT (ns : List Int) : Nat := ((mnM ns).map (cntS 8)).sum + ((ptsM ns).map fun p => (p.2.map (cntS 8)).sum).sum
structure TD3 where
  rows : List VRow
  parts : List (Str × List PyData)
  main : List PyData
def treeM (ns : List Int) : TD3 := if 190 < cntT ns then ⟨(vM ns).1, (ptsM ns).take 1, []⟩ else ⟨(vM ns).1, ptsM ns, mnM ns⟩
theorem most_bd (ns : List Int) : 0 < mostM ns ∧ mostM ns ≤ 40 ∧ atI [V.int 4, V.int 9, V.int 40] (nA ns).1 = some (.int (mostM ns)) := by
  have b := next_bd (t0M ns) (size := 3) (by decide)
  have e : (nA ns).1 = (nextM (t0M ns) 3).1 := rfl
  unfold mostM
  rw [e]
  generalize (nextM (t0M ns) 3).1 = i at b
  have : i = 0 ∨ i = 1 ∨ i = 2 := by omega
  rcases this with rfl | rfl | rfl <;> exact ⟨by decide, by decide, rfl⟩
theorem deep_bd (t : Tp) : deepM t ≤ 8 ∧ atI [V.int 2, V.int 3, V.int 8] (nextM t 3).1 = some (.int (deepM t : Int)) := by
  have b := next_bd t (size := 3) (by decide)
  unfold deepM
  generalize (nextM t 3).1 = i at b
  have : i = 0 ∨ i = 1 ∨ i = 2 := by omega
  rcases this with rfl | rfl | rfl <;> exact ⟨by decide, rfl⟩
theorem names_facts (ns : List Int) : 0 < (namesM ns).length ∧ (namesM ns).length ≤ 40 ∧ (∀ x ∈ namesM ns, PyData.strOk x = true) ∧ (vM ns).2.c ≤ 86 := by
  have b := most_bd ns
  have f := vars_facts (nA ns).2 b.1 b.2.1
  have c : (nA ns).2.c = (t0M ns).c + 1 := next_c _ _
  have c0 : (t0M ns).c = 0 := rfl
  unfold namesM
  rw [List.length_map]
  refine ⟨f.2.1, f.2.2.1, fun x hx => ?_, by have := f.1; show (varsM _ _).2.c ≤ _; omega⟩
  obtain ⟨p, hp, rfl⟩ := List.mem_map.mp hx
  exact (f.2.2.2 p hp).2
theorem lim_bd (ns : List Int) : 0 < limM ns ∧ limM ns ≤ 13 := by unfold limM; split <;> decide
theorem pts_bd (ns : List Int) : 0 ≤ (nC ns).1 ∧ (nC ns).1 < 13 := by
  have l := lim_bd ns
  have b := next_bd (nB ns).2 (size := limM ns) l.1
  have e : (nC ns).1 = (nextM (nB ns).2 (limM ns)).1 := rfl
  omega
theorem parts_len (ns : List Int) : ∀ k, (partsM ns k).length = k
  | 0 => rfl
  | k + 1 => by show (_ ++ [_]).length = _; rw [List.length_append, parts_len ns k]; rfl
theorem title_ok2 (ns : List Int) {k : Nat} (h : k < 13) : PyData.strOk (titleK ns k) = true ∧ (titlesM (t0M ns) 13).1[k]? = some (titleK ns k) := by
  have l := titles_len (t0M ns) 13
  have e : (titlesM (t0M ns) 13).1[k]? = some (titleK ns k) := by
    unfold titleK
    rw [List.getD_eq_getElem?_getD, List.getElem?_eq_getElem (by omega)]; rfl
  exact ⟨titles_ok (t0M ns) (by decide) _ (List.mem_of_getElem? e), e⟩
theorem tit_ok (ns : List Int) : ∀ k, k ≤ 13 → ∀ x ∈ (partsM ns k).map (fun p => p.1), PyData.strOk x = true
  | 0, _, x, h => by cases h
  | k + 1, hk, x, h => by
    have h : x ∈ ((partsM ns k) ++ [_]).map _ := h
    rw [List.map_append] at h
    rcases List.mem_append.mp h with z | z
    · exact tit_ok ns k (by omega) x z
    · rw [List.mem_singleton.mp z]; exact (title_ok2 ns (by omega)).1
theorem ptit_facts (ns : List Int) : (ptit ns).length ≤ 13 ∧ ∀ x ∈ ptit ns, PyData.strOk x = true := by
  have b := pts_bd ns
  unfold ptit ptsM
  refine ⟨by rw [List.length_map, parts_len]; omega, tit_ok ns _ (by omega)⟩
theorem c_facts (ns : List Int) : (nC ns).2.c ≤ 88 := by
  have f := (names_facts ns).2.2.2
  have e1 : (nB ns).2.c = (vM ns).2.c + 1 := next_c _ _
  have e2 : (nC ns).2.c = (nB ns).2.c + 1 := next_c _ _
  omega
theorem main_c (ns : List Int) : ∀ k, (mainM ns k).2.c ≤ 89 + k
  | 0 => by
    have := c_facts ns
    have e : (nD ns).2.c = (nC ns).2.c + 1 := next_c _ _
    show (nD ns).2.c ≤ _; omega
  | k + 1 => by
    have := main_c ns k
    show (nextM _ _).2.c ≤ _
    rw [next_c]; omega
/-- the parts' places are none of these -/
def PNew (p : Addr → Prop) (ps : List Pt) : Prop := ∀ x ∈ ps, p x.2.1 ∧ BdAll p x.2.2
theorem parts_keep {H H' : Hp} {p : Addr → Prop} (k2 : ∀ b vs, H b = some (.tup vs) → H' b = some (.tup vs)) (k1 : ∀ a, p a → ∀ vs, H a = some (.lst vs) → H' a = some (.lst vs)) {xs : List V} {ps : List Pt} (h : Paired (PartAt H) xs ps) : PNew p ps → Paired (PartAt H') xs ps := by
  induction h with
  | nil => exact fun _ => .nil
  | cons a _ ih =>
    intro n
    obtain ⟨q, e, e1, e2, e3⟩ := a
    obtain ⟨n1, n2⟩ := n _ List.mem_cons_self
    exact .cons ⟨q, e, k2 _ _ e1, k1 _ n1 _ e2, e3.keep k2 k1 n2⟩ (ih fun x hx => n x (List.mem_cons_of_mem _ hx))
end K46

set_option Elab.async false
set_option linter.all false
set_option maxRecDepth 100000
set_option maxHeartbeats 4000000
namespace K46
open PySem L2
/-- what stands behind the parts' loop -/
structure S5 (H0 : Hp) (ns : List Int) (a0 nl pl told : Addr) (t : Tp) (vsV xs : List V) (ps : List Pt) (k : Nat) (H : Hp) : Prop where
  sm : Same H0 H
  f0 : H0 a0 = none
  ta : TapIs H a0 t
  en : H nl = some (.lst ((namesM ns).map V.str))
  etl : H told = some (.lst vsV)
  pv : Paired (VarAt H) vsV (vM ns).1
  epl : H pl = some (.lst xs)
  pp : Paired (PartAt H) xs ps
  dat : ps.map (fun p => (p.1, p.2.2.dat)) = partsM ns k
  np : ∀ p ∈ ps, p.2.2.nest ≤ 2
  an : a0 ≠ nl
  al : a0 ≠ told
  ap : a0 ≠ pl
  nw : PNew (fun x => x ≠ a0 ∧ x ≠ pl) ps
theorem S5.kl {H0 : Hp} {ns : List Int} {a0 nl pl told : Addr} {t t' : Tp} {vsV xs : List V} {ps : List Pt} {k : Nat} {H H' : Hp} (h : S5 H0 ns a0 nl pl told t vsV xs ps k H) (kl : Kl a0 H H') (ta : TapIs H' a0 t') : S5 H0 ns a0 nl pl told t' vsV xs ps k H' :=
  ⟨Kl.same h.sm h.f0 kl, h.f0, ta, kl _ _ h.en h.an.symm, kl _ _ h.etl h.al.symm, Paired.mapP h.pv fun _ _ z => z.keep (Kl.tup h.ta kl), kl _ _ h.epl h.ap.symm, parts_keep (Kl.tup h.ta kl) (fun a ha vs e => kl _ _ e ha.1) h.pp h.nw, h.dat, h.np, h.an, h.al, h.ap, h.nw⟩
theorem S5.same {H0 : Hp} {ns : List Int} {a0 nl pl told : Addr} {t : Tp} {vsV xs : List V} {ps : List Pt} {k : Nat} {H H' : Hp} (h : S5 H0 ns a0 nl pl told t vsV xs ps k H) (s : Same H H') : S5 H0 ns a0 nl pl told t vsV xs ps k H' := h.kl (Kl.of s) (h.ta.same s)
theorem dat_tit {ns : List Int} {ps : List Pt} {k : Nat} (h : ps.map (fun p => (p.1, p.2.2.dat)) = partsM ns k) : ps.map (fun p => p.1) = (partsM ns k).map fun p => p.1 := by
  rw [← h, List.map_map]; rfl
def sp_tree (K : PySem.W.Frag) : Sp := fun vs H Q _ => ∃ (a : Addr) (ns : List Int), vs = [.ref a, .int 0] ∧ SqL K H a (ns.map V.int) ∧
  ∀ (T told pl ml : Addr) (vsV xs : List V) (ps : List Pt) (main : Bd) (H' : Hp), Same H H' → TreeAt H' T told pl ml vsV xs (treeM ns).rows ps main → ps.map (fun p => (p.1, p.2.2.dat)) = (treeM ns).parts → main.dat = (treeM ns).main → Q (.ref T) H'
theorem sum_flat {ps : List Pt} : (ps.map fun p => p.2.2.flat.length).sum = (psFlat ps).length := by
  unfold psFlat
  induction ps with
  | nil => rfl
  | cons p r ih => rw [List.map_cons, List.sum_cons, ih, List.map_cons, List.flatten_cons, List.length_append]
theorem sum_int (l : List Nat) : (l.map fun n : Nat => (n : Int)).sum = (l.sum : Int) := by
  induction l with
  | nil => rfl
  | cons x r ih => rw [List.map_cons, List.sum_cons, ih, List.sum_cons]; omega
theorem cut1 (xs : List V) : cutV xs none (some 1) = xs.take 1 := by
  cases xs with
  | nil => rfl
  | cons x r =>
    unfold cutV
    have e1 : HT.sIx (x :: r).length 0 none = 0 := rfl
    have e2 : HT.sIx (x :: r).length (x :: r).length (some 1) = 1 := by
      unfold HT.sIx
      simp
      try omega
    rw [e1, e2]; rfl
section
variable {P : Program} {w : World} {K : PySem.W.Frag} {mg : Str → Option Value} {base : Heap}
theorem sc_law_tree : FnScope ["_law_script", "_law_at", "_law_tap_here", "_law_told", "_law_names", "_law_parts", "_law_k", "_law_one", "_law_title", "_law_main"] ["_law_script", "_law_at"] (defScope s_law_tree) := ⟨rfl, rfl, rfl, by decide +kernel, rfl, by decide +kernel, by decide +kernel⟩
theorem tree_D {f f1 : Addr} {d1 : FuncData} (T : Bt mg) (T_law_many : Fn K mg "_law_many" s_law_many ["_law_body_here"] f1 d1) {cdv : Value} {A : Around} {outer : List Env} {s : Shared} {H00 : Hp} {E : XK} (hr : Room 25 (A.deeper (PyProof.Rows.envOfC "_law_tree" (defScope s_law_tree) s.heap.objs.size f cdv))) :
    ∃ u, PSs (cxOf CX0 P w K mg base ["_law_script", "_law_at", "_law_tap_here", "_law_told", "_law_names", "_law_parts", "_law_k", "_law_one", "_law_title", "_law_main"] "_law_tree" (defScope s_law_tree) f cdv A outer s H00 E).nox ((defBody s_law_tree).drop 7) u ∧
      ∀ (D : Ends) (v0 v1 v2 v4 v6 v7 v8 : Option V) (ns : List Int) (a0 nl pl told ml : Addr) (t : Tp) (vsV xs : List V) (ps : List Pt) (main : Bd) (H0 H : Hp), S5 H0 ns a0 nl pl told t vsV xs ps (nC ns).1.toNat H → H ml = some (.lst main.refs) → BdAt H main → main.nest ≤ 8 → main.dat = mnM ns →
        (∀ (T told pl ml : Addr) (vsV xs : List V) (ps : List Pt) (main : Bd) (H' : Hp), Same H0 H' → TreeAt H' T told pl ml vsV xs (treeM ns).rows ps main → ps.map (fun p => (p.1, p.2.2.dat)) = (treeM ns).parts → main.dat = (treeM ns).main → D.rt (.ref T) H') →
        u D [v0, v1, v2, some (.ref told), v4, some (.ref pl), v6, v7, v8, some (.ref ml)] H := by
  have G_law_many : FnOk P w K mg base CX0 10 _ _ ["_law_body_here"] (sp_many 8) := ok_law_many (P := P) (w := w) (base := base) T T_law_many 8
  refine ⟨_, (pss_cons (ps_if (pt_cmpR op_gt (pe_op op_add (pe_call G_law_many (hr.mono (by decide)) rfl T_law_many.m T_law_many.F.kp T_law_many.b .nil pass0 (pa_consN (pv 9) pa_nil)) (pe_callB (call_sumI (K := K) rfl) rfl T.b_sum (by decide +kernel) (pa_consN (pe_comp rfl (blk_of (sc0 := defScope s_law_tree) (N0 := ["_law_script", "_law_at", "_law_tap_here", "_law_told", "_law_names", "_law_parts", "_law_k", "_law_one", "_law_title", "_law_main"]) (N' := ["_law_name", "_law_body_here"]) (own := 2) (fv := []) (by decide +kernel) rfl rfl) (pi_list (pv 5)) (fun _ _ _ _ => (pg_tupK (K := K) (n := 2) rfl (pgs_cons (pg_name (i := 0) (by show List.Nodup (["_law_name", "_law_body_here"] : List Str); decide +kernel) rfl (Or.inl rfl)) (pgs_cons (pg_name (i := 1) (by show List.Nodup (["_law_name", "_law_body_here"] : List Str); decide +kernel) rfl (Or.inl rfl)) pgs_nil)))) (fun _ _ _ _ => (pe_call G_law_many (hr.mono (by decide)) rfl T_law_many.m T_law_many.F.kp T_law_many.b .nil pass0 (pa_consN (pv 1) pa_nil)))) pa_nil))) pe_int (nomark _))
        (pss_one (ps_ret (pe_tup (pa_consN (pv 3) (pa_consN (pe_slice sl_list (pv 5) po_none (po_some pe_int)) (pa_consN (pe_lst pa_nil) pa_nil))))))
        pss_nil)
      (pss_one (ps_ret (pe_tup (pa_consN (pv 3) (pa_consN (pv 5) (pa_consN (pv 9) pa_nil))))))), ?_⟩
  intro D v0 v1 v2 v4 v6 v7 v8 ns a0 nl pl told ml t vsV xs ps main H0 H s5 eml bm nm dm q
  have hs : sizeLine = 16777216 := sizeLine_eq
  have pb := pts_bd ns
  have nf := names_facts ns
  have tf := ptit_facts ns
  have lp : ps.length ≤ 13 := by
    have := congrArg List.length s5.dat
    rw [List.length_map, parts_len] at this; omega
  have lx : xs.length = ps.length := s5.pp.length
  refine ⟨_, rfl, ml, main, rfl, eml, bm, nm, ?_⟩
  refine ⟨_, rfl, pl, rfl, ⟨_, SqL.of s5.epl⟩, comp_tup2 (K := K) (a := pl) (xs := xs) (fvals := []) (fun acc j H1 => H acc = none ∧ Same H H1 ∧ H1 acc = some (.lst (((ps.take j).map fun p => V.int (p.2.2.flat.length : Int))))) ?_ ?_ ?_ ?_ ?_⟩
  · rintro acc j H1 ⟨_, s1, _⟩
    exact SqL.of (s1 _ _ s5.epl)
  · intro acc hacc
    exact ⟨hacc, Same.put hacc, upd_same⟩
  · rintro acc j x H1 hx ⟨_, s1, _⟩
    obtain ⟨p, _, q0, rfl, e1, _⟩ := paired_at s5.pp hx
    exact ⟨q0, _, _, rfl, s1 _ _ e1⟩
  · rintro acc j T0 x1 x2 H1 R hx eT ⟨hacc, s1, ea⟩ hR
    obtain ⟨p, hp, q0, e, e1, e2, e3⟩ := paired_at s5.pp hx
    cases e
    have := s1 _ _ e1
    rw [eT] at this
    cases this
    have hj : j < xs.length := (List.getElem?_eq_some_iff.mp hx).1
    refine ⟨_, rfl, p.2.1, p.2.2, rfl, s1 _ _ e2, e3.same s1, by have := s5.np p (List.mem_of_getElem? hp); omega, hR _ _ ⟨_, ea, by rw [List.length_map, List.length_take]; omega, hacc, Kl.same s1 hacc Kl.one, ?_⟩⟩
    rw [upd_same, List.take_add_one, hp, List.map_append]; rfl
  · rintro acc H1 hacc ⟨_, s1, ea⟩
    rw [lx, List.take_of_length_le (Nat.le_refl _)] at ea
    have ea2 : H1 acc = some (.lst ((((ps.map fun p => p.2.2.flat.length).map fun n : Nat => (n : Int))).map V.int)) := by rw [ea, List.map_map, List.map_map]; rfl
    refine ⟨acc, _, rfl, SqL.of ea2, _, _, rfl, rfl, _, _, rfl, rfl, _, rfl, ?_⟩
    rw [sum_int, sum_flat]
    have s51 := s5.same s1
    have hcnt : main.flat.length + (psFlat ps).length = cntT ns := by
      unfold cntT
      rw [← dm, BdAt.cnt 8 bm nm]
      have e : (ptsM ns).map (fun p => (p.2.map (cntS 8)).sum) = ps.map fun p => p.2.2.flat.length := by
        show (partsM ns _).map _ = _
        rw [← s5.dat, List.map_map]
        refine List.map_congr_left fun p hp => ?_
        obtain ⟨i, hi⟩ := List.getElem?_of_mem hp
        have hil : i < xs.length := by have := (List.getElem?_eq_some_iff.mp hi).1; omega
        have hxi : xs[i]? = some xs[i] := List.getElem?_eq_getElem hil
        obtain ⟨p', hp', _, _, _, _, b3⟩ := paired_at s5.pp hxi
        rw [hi] at hp'
        cases hp'
        exact BdAt.cnt 8 b3 (by have := s5.np p hp; omega)
      rw [e, sum_flat]
    unfold treeM at q
    refine ite2 (fun h => ?_) (fun h => ?_)
    · have h : (190 : Int) < (main.flat.length : Int) + ((psFlat ps).length : Int) := of_decide_eq_true h
      rw [if_pos (by omega)] at q
      refine ⟨_, rfl, _, rfl, _, rfl, pl, _, rfl, SqL.of s51.epl, fun sl hsl => ?_⟩
      rw [cut1]
      have y2 := Same.put (o := .lst (xs.take 1)) hsl
      have esl : upd H1 sl (.lst (xs.take 1)) sl = some (.lst (xs.take 1)) := upd_same
      generalize upd H1 sl (.lst (xs.take 1)) = H2 at y2 esl ⊢
      refine ⟨Nat.zero_le _, fun m0 hm0 => ?_⟩
      have y3 := Same.put (o := .lst []) hm0
      have em0 : upd H2 m0 (.lst []) m0 = some (.lst []) := upd_same
      generalize upd H2 m0 (.lst []) = H3 at y3 em0 ⊢
      refine ⟨(by show 3 ≤ sizeLine; omega), fun T0 hT0 => ?_⟩
      have y4 := Same.put (o := .tup [V.ref told, V.ref sl, V.ref m0]) hT0
      have s14 := y2.trans (y3.trans y4)
      have s54 := s51.same s14
      have pp1 : ∀ {xs : List V} {ps : List Pt} {Hx : Hp}, Paired (PartAt Hx) xs ps → Paired (PartAt Hx) (xs.take 1) (ps.take 1) := fun h => by
        cases h with
        | nil => exact .nil
        | cons a _ => exact .cons a .nil
      have bk := bod_ok nf.1 (by omega) nf.2.2.1 (parts := []) (fun x hx => by cases hx) 2
      refine q T0 told sl m0 vsV (xs.take 1) (ps.take 1) .nil _ s54.sm ⟨upd_same, s54.etl, s54.pv, (y3.trans y4) _ _ esl, pp1 s54.pp, y4 _ _ em0, trivial, fun p hp => by have := s5.np p (List.mem_of_mem_take hp); omega, by rw [Bd.nest]; omega, ?_⟩ ?_ ?_
      · rw [Bd.flat]
        show (psFlat (ps.take 1)).length + 0 ≤ _
        cases hps : ps with
        | nil => exact Nat.zero_le _
        | cons p0 r =>
          have hd := s5.dat
          rw [hps] at hd
          have hk : ∃ k, (nC ns).1.toNat = k + 1 := by
            cases hn : (nC ns).1.toNat with
            | zero => rw [hn] at hd; cases hd
            | succ k => exact ⟨k, rfl⟩
          have h0 : (partsM ns (nC ns).1.toNat)[0]? = some (p0.1, p0.2.2.dat) := by rw [← hd]; rfl
          have h1 : ∀ k, 0 < k → (partsM ns k)[0]? = some (titleK ns 0, (bodM (namesM ns) [] 2 (tapK ns 0)).1) := fun k hk => by
            induction k with
            | zero => omega
            | succ k ih =>
              show ((partsM ns k) ++ [_])[0]? = _
              cases k with
              | zero => rfl
              | succ k => rw [List.getElem?_append_left (by rw [parts_len]; omega)]; exact ih (by omega)
          rw [h1 _ (by omega)] at h0
          have e0 : p0.2.2.dat = (bodM (namesM ns) [] 2 (tapK ns 0)).1 := (congrArg Prod.snd (Option.some.inj h0)).symm
          have hpp := s5.pp
          rw [hps] at hpp
          cases hpp with
          | cons a _ =>
            obtain ⟨_, _, _, _, b3⟩ := a
            have c8 := BdAt.cnt 2 b3 (s5.np p0 (by rw [hps]; exact List.mem_cons_self))
            have hb := (bk (tapK ns 0)).1.cnt
            rw [← e0] at hb
            have : (psFlat (List.take 1 (p0 :: r))).length = p0.2.2.flat.length := by unfold psFlat; simp
            rw [this, ← c8]
            have : Sx 2 = 129 := rfl
            omega
      · rw [List.map_take, s5.dat]; rfl
      · rw [Bd.dat]
    · have h : ¬ (190 : Int) < (main.flat.length : Int) + ((psFlat ps).length : Int) := fun z => h (decide_eq_true z)
      rw [if_neg (by omega)] at q
      refine ⟨_, rfl, _, rfl, _, rfl, (by show 3 ≤ sizeLine; omega), fun T0 hT0 => ?_⟩
      have y4 := Same.put (o := .tup [V.ref told, V.ref pl, V.ref ml]) hT0
      have s14 := s1.trans y4
      have s54 := s5.same s14
      exact q T0 told pl ml vsV xs ps main _ s54.sm ⟨upd_same, s54.etl, s54.pv, s54.epl, s54.pp, s14 _ _ eml, bm.same s14, fun p hp => (by have := s5.np p hp; omega), nm, by omega⟩ s5.dat dm
end
end K46

set_option Elab.async false
set_option linter.all false
set_option maxRecDepth 100000
set_option maxHeartbeats 4000000
namespace K46
open PySem L2
theorem FnOk.any8 {P : Program} {w : World} {K : PySem.W.Frag} {mg : Str → Option Value} {base : Heap} {CX : CXT} {k : Nat} {f : Addr} {fd : FuncData} {ps : List Str} {sp : Nat → Sp} (F : ∀ n, n ≤ 8 → FnOk P w K mg base CX k f fd ps (sp n)) : FnOk P w K mg base CX k f fd ps (fun vs H Q E => ∃ n, n ≤ 8 ∧ sp n vs H Q E) where
  len := fun vs H Q E ⟨n, hn, h⟩ => (F n hn).len vs H Q E h
  run := fun A outer s H args us vs Q E hr hb hi hv ⟨n, hn, h⟩ => (F n hn).run A outer s H args us vs Q E hr hb hi hv h
theorem Bb_le {n : Nat} (h : n ≤ 8) : Bb n ≤ 200000000 := by
  have : n = 0 ∨ n = 1 ∨ n = 2 ∨ n = 3 ∨ n = 4 ∨ n = 5 ∨ n = 6 ∨ n = 7 ∨ n = 8 := by omega
  rcases this with rfl | rfl | rfl | rfl | rfl | rfl | rfl | rfl | rfl <;> decide
section
variable {P : Program} {w : World} {K : PySem.W.Frag} {mg : Str → Option Value} {base : Heap}
theorem tree_C {x0 x1 x2 x3 x4 x5 x6 x7 x8 x9 x10 x11 x12 x13 x14 x15 f : Addr} {e0 e1 e2 e3 e4 e5 e6 e7 e8 e9 e10 e11 e12 e13 e14 e15 : FuncData} (T : Bt mg)
    (T_with_inner : Fn K mg "with_inner" s_with_inner ["body"] x0 e0) (T_statements : Fn K mg "statements" s_statements ["tree"] x1 e1) (T_law_cell_at : Fn K mg "_law_cell_at" s_law_cell_at ["_law_script", "_law_k"] x2 e2) (T_law_mixed : Fn K mg "_law_mixed" s_law_mixed ["_law_number_here", "_law_k"] x3 e3) (T_law_tap : Fn K mg "_law_tap" s_law_tap ["_law_cell"] x4 e4) (T_law_next : Fn K mg "_law_next" s_law_next ["_law_tap_here", "_law_size"] x5 e5) (T_law_number : Fn K mg "_law_number" s_law_number ["_law_tap_here"] x6 e6) (T_law_expr : Fn K mg "_law_expr" s_law_expr ["_law_tap_here", "_law_names", "_law_deep"] x7 e7) (T_law_titles : Fn K mg "_law_titles" s_law_titles ["_law_tap_here", "_law_many_here"] x8 e8) (T_law_vars : Fn K mg "_law_vars" s_law_vars ["_law_tap_here", "_law_most"] x9 e9) (T_law_statement : Fn K mg "_law_statement" s_law_statement ["_law_tap_here", "_law_names", "_law_parts", "_law_deep"] x10 e10) (T_law_body : Fn K mg "_law_body" s_law_body ["_law_tap_here", "_law_names", "_law_parts", "_law_deep"] x11 e11) (T_law_many : Fn K mg "_law_many" s_law_many ["_law_body_here"] x12 e12) (T_law_tree : Fn K mg "_law_tree" s_law_tree ["_law_script", "_law_at"] x13 e13) (T_law_same : Fn K mg "_law_same" s_law_same ["_law_found", "_law_due"] x14 e14) (T_law_all : Fn K mg "_law_all" s_law_all ["_law_body_here"] x15 e15) {cdv : Value} {A : Around} {outer : List Env} {s : Shared} {H00 : Hp} {E : XK} (hr : Room 25 (A.deeper (PyProof.Rows.envOfC "_law_tree" (defScope s_law_tree) s.heap.objs.size f cdv))) :
    ∃ u, PSs (cxOf CX0 P w K mg base ["_law_script", "_law_at", "_law_tap_here", "_law_told", "_law_names", "_law_parts", "_law_k", "_law_one", "_law_title", "_law_main"] "_law_tree" (defScope s_law_tree) f cdv A outer s H00 E).nox ((defBody s_law_tree).drop 5) u ∧
      ∀ (D : Ends) (v6 v7 v8 v9 : Option V) (a : Addr) (ns : List Int) (a0 nl pl told : Addr) (vsV xs : List V) (ps : List Pt) (H0 H : Hp), SqL K H0 a (ns.map V.int) → S5 H0 ns a0 nl pl told (nC ns).2 vsV xs ps (nC ns).1.toNat H →
        (∀ (T told pl ml : Addr) (vsV xs : List V) (ps : List Pt) (main : Bd) (H' : Hp), Same H0 H' → TreeAt H' T told pl ml vsV xs (treeM ns).rows ps main → ps.map (fun p => (p.1, p.2.2.dat)) = (treeM ns).parts → main.dat = (treeM ns).main → D.rt (.ref T) H') →
        u D [some (.ref a), some (.int 0), some (.ref a0), some (.ref told), some (.ref nl), some (.ref pl), v6, v7, v8, v9] H := by
  have G_law_next := ok_law_next (P := P) (w := w) (mg := mg) (base := base) T_law_next.F T_law_mixed
  have G_law_tap := ok_law_tap (P := P) (w := w) (base := base) T_law_tap.F T
  have G_law_cell_at := ok_law_cell_at (P := P) (w := w) (base := base) T_law_cell_at.F T
  have G_law_body : FnOk P w K mg base CX0 24 _ _ ["_law_tap_here", "_law_names", "_law_parts", "_law_deep"] (fun vs H Q E => ∃ n, n ≤ 8 ∧ sp_bd n vs H Q E) := FnOk.any8 (sp := sp_bd) fun n hn => (ok_law_body (P := P) (w := w) (base := base) T T_law_mixed T_law_next T_law_number T_law_expr T_law_statement T_law_body n).mono (by omega)
  obtain ⟨uD, hD, kD⟩ := tree_D (P := P) (w := w) (base := base) (f := f) (cdv := cdv) (outer := outer) (H00 := H00) (E := E) T T_law_many hr
  refine ⟨_, (pss_cons (ps_set (i := 9) sc_law_tree.nd rfl (Or.inl rfl) (pe_lst pa_nil))
      (pss_cons (ps_for PassesOwn.never rfl (pi_range1 rfl T.b_range (pa_consN (pe_op op_add pe_int (pe_call G_law_next (hr.mono (by decide)) rfl T_law_next.m T_law_next.F.kp T_law_next.b .nil pass0 (pa_consN (pv 2) (pa_consN pe_int pa_nil)))) pa_nil)) (pg_name (i := 6) sc_law_tree.nd rfl (Or.inl rfl))
        (pss_cons (ps_set (i := 7) sc_law_tree.nd rfl (Or.inl rfl) (pe_call G_law_tap (hr.mono (by decide)) rfl T_law_tap.m T_law_tap.F.kp T_law_tap.b .nil pass0 (pa_consN (pe_call G_law_cell_at (hr.mono (by decide)) rfl T_law_cell_at.m T_law_cell_at.F.kp T_law_cell_at.b .nil pass0 (pa_consN (pv 0) (pa_consN (pe_op op_add (pe_op op_add (pv 1) pe_int) (pv 6)) pa_nil))) pa_nil)))
        (pss_one (ps_set (i := 9) sc_law_tree.nd rfl (Or.inl rfl) (pe_op op_cat (pv 9) (pe_call G_law_body (hr.mono (by decide)) rfl T_law_body.m T_law_body.F.kp T_law_body.b .nil pass0 (pa_consN (pv 7) (pa_consN (pv 4) (pa_consN (pe_comp rfl (blk_of (sc0 := defScope s_law_tree) (N0 := ["_law_script", "_law_at", "_law_tap_here", "_law_told", "_law_names", "_law_parts", "_law_k", "_law_one", "_law_title", "_law_main"]) (N' := ["_law_name", "_law_body_here"]) (own := 2) (fv := []) (by decide +kernel) rfl rfl) (pi_list (pv 5)) (fun _ _ _ _ => (pg_tupK (K := K) (n := 2) rfl (pgs_cons (pg_name (i := 0) (by show List.Nodup (["_law_name", "_law_body_here"] : List Str); decide +kernel) rfl (Or.inl rfl)) (pgs_cons (pg_name (i := 1) (by show List.Nodup (["_law_name", "_law_body_here"] : List Str); decide +kernel) rfl (Or.inl rfl)) pgs_nil)))) (fun _ _ _ _ => (pv 0))) (pa_consN (pe_ix ix_list (pe_lst (pa_consN pe_int (pa_consN pe_int (pa_consN pe_int pa_nil)))) (pe_call G_law_next (hr.mono (by decide)) rfl T_law_next.m T_law_next.F.kp T_law_next.b .nil pass0 (pa_consN (pv 2) (pa_consN pe_int pa_nil))) (fun _ _ => rfl)) pa_nil))))))))))
      hD)), ?_⟩
  intro D v6 v7 v8 v9 a ns a0 nl pl told vsV xs ps H0 H hq s5 q
  have hs : sizeLine = 16777216 := sizeLine_eq
  have cm : cMax = 90000000000000 := rfl
  have pb := pts_bd ns
  have nf := names_facts ns
  have tf := ptit_facts ns
  have cf := c_facts ns
  have lp : ps.length ≤ 13 := by
    have := congrArg List.length s5.dat
    rw [List.length_map, parts_len] at this; omega
  have lx : xs.length = ps.length := s5.pp.length
  have htit : ps.map (fun p => p.1) = ptit ns := dat_tit s5.dat
  refine ⟨Nat.zero_le _, fun m0 hm0 => ?_⟩
  have y1 := Same.put (o := .lst []) hm0
  have em0 : upd H m0 (.lst []) m0 = some (.lst []) := upd_same
  generalize upd H m0 (.lst []) = H1 at y1 em0 ⊢
  have s51 := s5.same y1
  have m0a : m0 ≠ a0 := fun z => by rw [z, s5.ta] at hm0; cases hm0
  refine ⟨_, rfl, a0, _, 3, rfl, s51.ta, by omega, by decide, by decide, fun H2 k2 t2 => ?_⟩
  have s52 := s51.kl k2 t2
  have b3 := next_bd (nC ns).2 (size := 3) (by decide)
  have eD : (nextM (nC ns).2 3) = nD ns := rfl
  rw [eD] at t2 s52 b3 ⊢
  refine ⟨_, _, rfl, rfl, _, rfl, by omega, by omega, for_range (lo := 0) (n := (1 + (nD ns).1).toNat) (fun k σ H3 => ∃ (v6 v7 v8 : Option V) (ml : Addr) (main : Bd), σ = [some (.ref a), some (.int 0), some (.ref a0), some (.ref told), some (.ref nl), some (.ref pl), v6, v7, v8, some (.ref ml)] ∧ S5 H0 ns a0 nl pl told (mainM ns k).2 vsV xs ps (nC ns).1.toNat H3 ∧ H3 ml = some (.lst main.refs) ∧ ml ≠ a0 ∧ BdAt H3 main ∧ BdAll (fun x => x ≠ a0) main ∧ main.nest ≤ 8 ∧ main.dat = (mainM ns k).1 ∧ main.refs.length ≤ 3 * k)
    ⟨_, _, _, m0, .nil, rfl, s52, k2 _ _ em0 m0a, m0a, trivial, trivial, by rw [Bd.nest]; omega, by rw [Bd.dat]; rfl, Nat.zero_le _⟩ ?_ ?_⟩
  · rintro k σ H3 hk ⟨v6, v7, v8, ml, main, rfl, s3, eml, mla, bm, bma, nm, dm, lm⟩
    have hk3 : k ≤ 2 := by omega
    have mc := main_c ns k
    have hq3 : SqL K H3 a (ns.map V.int) := s3.sm.seq hq
    refine ⟨_, rfl, _, rfl, _, _, rfl, rfl, _, rfl, _, _, rfl, rfl, a, ns, 4 + k, ?_, hq3, ?_⟩
    · show [V.ref a, V.int ((0 : Int) + 4 + (0 + (k : Int)))] = [V.ref a, V.int ((4 + k : Nat) : Int)]
      rw [show (0 : Int) + 4 + (0 + (k : Int)) = ((4 + k : Nat) : Int) by omega]
    refine ⟨_, rfl, fun a1 H4 ha1 y4 t4 => ?_⟩
    have a1a : a1 ≠ a0 := fun z => by rw [z, s3.ta] at ha1; cases ha1
    have s4 := s3.same y4
    refine ⟨_, rfl, _, rfl, _, rfl, _, rfl, pl, rfl, ⟨_, SqL.of s4.epl⟩, comp_tup2 (K := K) (a := pl) (xs := xs) (fvals := []) (fun acc j H5 => H4 acc = none ∧ Same H4 H5 ∧ H5 acc = some (.lst (((ps.take j).map fun p => V.str p.1)))) ?_ ?_ ?_ ?_ ?_⟩
    · rintro acc j H5 ⟨_, s5', _⟩
      exact SqL.of (s5' _ _ s4.epl)
    · intro acc hacc
      exact ⟨hacc, Same.put hacc, upd_same⟩
    · rintro acc j x H5 hx ⟨_, s5', _⟩
      obtain ⟨p, _, q0, rfl, e1, _⟩ := paired_at s4.pp hx
      exact ⟨q0, _, _, rfl, s5' _ _ e1⟩
    · rintro acc j T0 x1 x2 H5 R hx eT ⟨hacc, s5', ea⟩ hR
      obtain ⟨p, hp, q0, e, e1, e2, e3⟩ := paired_at s4.pp hx
      cases e
      have := s5' _ _ e1
      rw [eT] at this
      cases this
      have hj : j < xs.length := (List.getElem?_eq_some_iff.mp hx).1
      refine ⟨_, rfl, hR _ _ ⟨_, ea, by rw [List.length_map, List.length_take]; omega, hacc, Kl.same s5' hacc Kl.one, ?_⟩⟩
      rw [upd_same, List.take_add_one, hp, List.map_append]; rfl
    · rintro acc H5 hacc ⟨_, y5, ea⟩
      rw [lx, List.take_of_length_le (Nat.le_refl _)] at ea
      have ea2 : H5 acc = some (.lst ((ptit ns).map V.str)) := by rw [ea, ← htit, List.map_map]; rfl
      have acca : acc ≠ a0 := fun z => by rw [z, s4.ta] at hacc; cases hacc
      have acca1 : acc ≠ a1 := fun z => by rw [z, t4] at hacc; cases hacc
      have s55 := s4.same y5
      refine ⟨(by show 3 ≤ sizeLine; omega), fun L hL => ?_⟩
      have y6 := Same.put (o := .lst [V.int 2, V.int 3, V.int 8]) hL
      have eL : upd H5 L (.lst [V.int 2, V.int 3, V.int 8]) L = some (.lst [V.int 2, V.int 3, V.int 8]) := upd_same
      generalize upd H5 L (.lst [V.int 2, V.int 3, V.int 8]) = H6 at y6 eL ⊢
      have La : L ≠ a0 := fun z => by rw [z, s55.ta] at hL; cases hL
      have s6 := s55.same y6
      obtain ⟨db, de⟩ := deep_bd (mainM ns k).2
      refine ⟨_, rfl, a0, _, 3, rfl, s6.ta, by omega, by decide, by decide, fun H7 k7 t7 => ?_⟩
      refine ⟨L, _, _, _, rfl, rfl, SqL.of (k7 _ _ eL La), de, ?_⟩
      have s7 := s6.kl k7 t7
      have t17 : TapIs H7 a1 (tapM (ns.getD (4 + k) 0)) := k7 _ _ (y6 _ _ (y5 _ _ t4)) a1a
      have ea7 := k7 _ _ (y6 _ _ ea2) acca
      have a1nl : a1 ≠ nl := fun z => by rw [z, s3.en] at ha1; cases ha1
      have bb := Bb_le db
      have c1 : (tapM (ns.getD (4 + k) 0)).c = 0 := rfl
      refine ⟨_, db, a1, nl, acc, namesM ns, ptit ns, _, rfl, t17, by omega, ⟨s7.en, ea7, nf.1, by omega, by omega, nf.2.2.1, tf.2, a1nl, acca1.symm⟩, fun r b H8 k8 t8 er fr ba bw bd bn bl => ?_⟩
      have k38 : Kl a0 H3 H8 := fun x o e n => k8 _ _ (k7 _ _ (y6 _ _ (y5 _ _ (y4 _ _ e))) n) (ne_of_none e ha1)
      have ta8 : TapIs H8 a0 (nextM (mainM ns k).2 3).2 := k8 _ _ t7 a1a.symm
      have s8 := s3.kl k38 ta8
      have eml8 := k38 _ _ eml mla
      have H7n : H7 a0 ≠ none := by rw [t7]; simp
      have ra : r ≠ a0 := fun z => H7n (z ▸ fr)
      refine ⟨ml, r, _, _, rfl, rfl, eml8, er, by omega, fun p hp => ?_⟩
      have yp := Same.put (o := .lst (main.refs ++ b.refs)) hp
      have pa : p ≠ a0 := fun z => by rw [z, ta8] at hp; cases hp
      have hnx : mainM ns (k + 1) = ((mainM ns k).1 ++ (bodM (namesM ns) (ptit ns) (deepM (mainM ns k).2) (tapM (ns.getD (4 + k) 0))).1, (nextM (mainM ns k).2 3).2) := rfl
      refine ⟨_, _, _, p, main.app b, rfl, by rw [hnx]; exact s8.same yp, by rw [upd_same, app_refs], pa, app_at ((bm.keep (Kl.tup s3.ta k38) (fun x hx vs e => k38 _ _ e hx) bma).same yp) (ba.same yp), app_all bma (BdAll.mono (q := fun x => x ≠ a0) (fun x hx z => H7n (by rw [← z]; exact hx)) bw), by rw [app_nest]; omega, by rw [app_dat, hnx, dm, bd], by rw [app_refs, List.length_append]; omega⟩
  · rintro σ H3 ⟨v6, v7, v8, ml, main, rfl, s3, eml, mla, bm, bma, nm, dm, lm⟩
    exact kD _ _ _ _ _ _ _ _ ns a0 nl pl told ml _ vsV xs ps main H0 H3 s3 eml bm nm dm q
end
end K46

set_option Elab.async false
set_option linter.all false
set_option maxRecDepth 100000
set_option maxHeartbeats 4000000
namespace K46
open PySem L2
theorem PNew.snoc {p : Addr → Prop} {ps : List Pt} {x : Pt} (h : PNew p ps) (h1 : p x.2.1) (h2 : BdAll p x.2.2) : PNew p (ps ++ [x]) := fun y hy => by
  rcases List.mem_append.mp hy with z | z
  · exact h y z
  · rw [List.mem_singleton.mp z]; exact ⟨h1, h2⟩
theorem vars_names {rows : List VRow} (j : Nat) {p : VRow} (h : rows[j]? = some p) : ((rows.take (j + 1)).map fun p => V.str p.2.1) = ((rows.take j).map fun p => V.str p.2.1) ++ [V.str p.2.1] := by
  rw [List.take_add_one, h, List.map_append]; rfl
section
variable {P : Program} {w : World} {K : PySem.W.Frag} {mg : Str → Option Value} {base : Heap}
theorem ok_law_tree {x0 x1 x2 x3 x4 x5 x6 x7 x8 x9 x10 x11 x12 x13 x14 x15 f : Addr} {e0 e1 e2 e3 e4 e5 e6 e7 e8 e9 e10 e11 e12 e13 e14 e15 fd : FuncData} (F : Fun K "_law_tree" "_law_tree" s_law_tree f fd) (T : Bt mg)
    (T_with_inner : Fn K mg "with_inner" s_with_inner ["body"] x0 e0) (T_statements : Fn K mg "statements" s_statements ["tree"] x1 e1) (T_law_cell_at : Fn K mg "_law_cell_at" s_law_cell_at ["_law_script", "_law_k"] x2 e2) (T_law_mixed : Fn K mg "_law_mixed" s_law_mixed ["_law_number_here", "_law_k"] x3 e3) (T_law_tap : Fn K mg "_law_tap" s_law_tap ["_law_cell"] x4 e4) (T_law_next : Fn K mg "_law_next" s_law_next ["_law_tap_here", "_law_size"] x5 e5) (T_law_number : Fn K mg "_law_number" s_law_number ["_law_tap_here"] x6 e6) (T_law_expr : Fn K mg "_law_expr" s_law_expr ["_law_tap_here", "_law_names", "_law_deep"] x7 e7) (T_law_titles : Fn K mg "_law_titles" s_law_titles ["_law_tap_here", "_law_many_here"] x8 e8) (T_law_vars : Fn K mg "_law_vars" s_law_vars ["_law_tap_here", "_law_most"] x9 e9) (T_law_statement : Fn K mg "_law_statement" s_law_statement ["_law_tap_here", "_law_names", "_law_parts", "_law_deep"] x10 e10) (T_law_body : Fn K mg "_law_body" s_law_body ["_law_tap_here", "_law_names", "_law_parts", "_law_deep"] x11 e11) (T_law_many : Fn K mg "_law_many" s_law_many ["_law_body_here"] x12 e12) (T_law_tree : Fn K mg "_law_tree" s_law_tree ["_law_script", "_law_at"] x13 e13) (T_law_same : Fn K mg "_law_same" s_law_same ["_law_found", "_law_due"] x14 e14) (T_law_all : Fn K mg "_law_all" s_law_all ["_law_body_here"] x15 e15) : FnOk P w K mg base CX0 26 f fd ["_law_script", "_law_at"] (sp_tree K) := by
  have G_law_next := ok_law_next (P := P) (w := w) (mg := mg) (base := base) T_law_next.F T_law_mixed
  have G_law_tap := ok_law_tap (P := P) (w := w) (base := base) T_law_tap.F T
  have G_law_cell_at := ok_law_cell_at (P := P) (w := w) (base := base) T_law_cell_at.F T
  have G_law_vars := ok_law_vars (P := P) (w := w) (base := base) T_law_vars.F T T_law_mixed T_law_next T_law_titles
  have G_law_titles := ok_law_titles (P := P) (w := w) (base := base) T_law_titles.F T T_law_mixed T_law_next
  have G_law_body : FnOk P w K mg base CX0 12 _ _ ["_law_tap_here", "_law_names", "_law_parts", "_law_deep"] (sp_bd 2) := ok_law_body (P := P) (w := w) (base := base) T T_law_mixed T_law_next T_law_number T_law_expr T_law_statement T_law_body 2
  refine F.ok (k := 25) sc_law_tree (fun vs H Q E h => ?_) (fun cdv A outer s H vs Q E hr h => ?_)
  · obtain ⟨a, ns, rfl, _⟩ := h; rfl
  · obtain ⟨a, ns, rfl, hq, q⟩ := h
    have hs : sizeLine = 16777216 := sizeLine_eq
    have cm : cMax = 90000000000000 := rfl
    obtain ⟨uC, hC, kC⟩ := tree_C (P := P) (w := w) (base := base) (f := f) (cdv := cdv) (outer := outer) (H00 := H) (E := E) T T_with_inner T_statements T_law_cell_at T_law_mixed T_law_tap T_law_next T_law_number T_law_expr T_law_titles T_law_vars T_law_statement T_law_body T_law_many T_law_tree T_law_same T_law_all hr
    refine ⟨_, (pss_cons (ps_set (i := 2) sc_law_tree.nd rfl (Or.inl rfl) (pe_call G_law_tap (hr.mono (by decide)) rfl T_law_tap.m T_law_tap.F.kp T_law_tap.b .nil pass0 (pa_consN (pe_call G_law_cell_at (hr.mono (by decide)) rfl T_law_cell_at.m T_law_cell_at.F.kp T_law_cell_at.b .nil pass0 (pa_consN (pv 0) (pa_consN (pv 1) pa_nil))) pa_nil)))
      (pss_cons (ps_set (i := 3) sc_law_tree.nd rfl (Or.inl rfl) (pe_call G_law_vars (hr.mono (by decide)) rfl T_law_vars.m T_law_vars.F.kp T_law_vars.b .nil pass0 (pa_consN (pv 2) (pa_consN (pe_ix ix_list (pe_lst (pa_consN pe_int (pa_consN pe_int (pa_consN pe_int pa_nil)))) (pe_call G_law_next (hr.mono (by decide)) rfl T_law_next.m T_law_next.F.kp T_law_next.b .nil pass0 (pa_consN (pv 2) (pa_consN pe_int pa_nil))) (fun _ _ => rfl)) pa_nil))))
      (pss_cons (ps_setComp (i := 4) rfl (blk_of (sc0 := defScope s_law_tree) (N0 := ["_law_script", "_law_at", "_law_tap_here", "_law_told", "_law_names", "_law_parts", "_law_k", "_law_one", "_law_title", "_law_main"]) (N' := ["_law_kind", "_law_name", "_law_size"]) (own := 3) (fv := []) (by decide +kernel) rfl rfl) sc_law_tree.nd rfl (Or.inl rfl) (pi_list (pv 3)) (fun _ _ _ _ => (pg_tupK (K := K) (n := 3) rfl (pgs_cons (pg_name (i := 0) (by show List.Nodup (["_law_kind", "_law_name", "_law_size"] : List Str); decide +kernel) rfl (Or.inl rfl)) (pgs_cons (pg_name (i := 1) (by show List.Nodup (["_law_kind", "_law_name", "_law_size"] : List Str); decide +kernel) rfl (Or.inl rfl)) (pgs_cons (pg_name (i := 2) (by show List.Nodup (["_law_kind", "_law_name", "_law_size"] : List Str); decide +kernel) rfl (Or.inl rfl)) pgs_nil))))) (fun _ _ _ _ => (pv 1)))
      (pss_cons (ps_set (i := 5) sc_law_tree.nd rfl (Or.inl rfl) (pe_lst pa_nil))
      (pss_cons (ps_for PassesOwn.never rfl (pi_range1 rfl T.b_range (pa_consN (pe_call G_law_next (hr.mono (by decide)) rfl T_law_next.m T_law_next.F.kp T_law_next.b .nil pass0 (pa_consN (pv 2) (pa_consN (pe_ix ix_list (pe_lst (pa_consN pe_int (pa_consN pe_int pa_nil))) (pe_callTy call_int1 rfl T.b_int (by decide +kernel) (pa_consN (pe_cmpR op_eq (pe_call G_law_next (hr.mono (by decide)) rfl T_law_next.m T_law_next.F.kp T_law_next.b .nil pass0 (pa_consN (pv 2) (pa_consN pe_int pa_nil))) pe_int (nomark _)) pa_nil)) (fun _ _ => rfl)) pa_nil))) pa_nil)) (pg_name (i := 6) sc_law_tree.nd rfl (Or.inl rfl))
        (pss_cons (ps_set (i := 7) sc_law_tree.nd rfl (Or.inl rfl) (pe_call G_law_tap (hr.mono (by decide)) rfl T_law_tap.m T_law_tap.F.kp T_law_tap.b .nil pass0 (pa_consN (pe_op op_add (pe_call G_law_cell_at (hr.mono (by decide)) rfl T_law_cell_at.m T_law_cell_at.F.kp T_law_cell_at.b .nil pass0 (pa_consN (pv 0) (pa_consN (pe_op op_add (pe_op op_add (pv 1) pe_int) (pe_op op_mod (pv 6) pe_int)) pa_nil))) (pe_op op_mul pe_int (pv 6))) pa_nil)))
        (pss_cons (ps_set (i := 8) sc_law_tree.nd rfl (Or.inl rfl) (pe_ix ix_list (pe_call G_law_titles (hr.mono (by decide)) rfl T_law_titles.m T_law_titles.F.kp T_law_titles.b .nil pass0 (pa_consN (pe_call G_law_tap (hr.mono (by decide)) rfl T_law_tap.m T_law_tap.F.kp T_law_tap.b .nil pass0 (pa_consN (pe_call G_law_cell_at (hr.mono (by decide)) rfl T_law_cell_at.m T_law_cell_at.F.kp T_law_cell_at.b .nil pass0 (pa_consN (pv 0) (pa_consN (pv 1) pa_nil))) pa_nil)) (pa_consN pe_int pa_nil))) (pv 6) (fun _ _ => rfl)))
        (pss_one (ps_expr (pe_bm PySem.F.plainAttrs_list PySem.F.slot_list_append PySem.F.type_list_append mt_append (pv 5) (pa_consN (pe_tup (pa_consN (pv 8) (pa_consN (pe_call G_law_body (hr.mono (by decide)) rfl T_law_body.m T_law_body.F.kp T_law_body.b .nil pass0 (pa_consN (pv 7) (pa_consN (pv 4) (pa_consN (pe_comp rfl (blk_of (sc0 := defScope s_law_tree) (N0 := ["_law_script", "_law_at", "_law_tap_here", "_law_told", "_law_names", "_law_parts", "_law_k", "_law_one", "_law_title", "_law_main"]) (N' := ["_law_name", "_law_body_here"]) (own := 2) (fv := []) (by decide +kernel) rfl rfl) (pi_list (pv 5)) (fun _ _ _ _ => (pg_tupK (K := K) (n := 2) rfl (pgs_cons (pg_name (i := 0) (by show List.Nodup (["_law_name", "_law_body_here"] : List Str); decide +kernel) rfl (Or.inl rfl)) (pgs_cons (pg_name (i := 1) (by show List.Nodup (["_law_name", "_law_body_here"] : List Str); decide +kernel) rfl (Or.inl rfl)) pgs_nil)))) (fun _ _ _ _ => (pv 0))) (pa_consN pe_int pa_nil))))) pa_nil))) pa_nil)))))))
      hC))))), ?_⟩
    have nf := names_facts ns
    have pb := pts_bd ns
    refine ⟨_, rfl, _, rfl, a, ns, 0, rfl, hq, _, rfl, fun a0 H1 ha0 y1 t1 => ?_⟩
    have t1 : TapIs H1 a0 (t0M ns) := t1
    have c0 : (t0M ns).c = 0 := rfl
    refine ⟨_, rfl, (by show 3 ≤ sizeLine; omega), fun L hL => ?_⟩
    have y2 := Same.put (o := .lst [V.int 4, V.int 9, V.int 40]) hL
    have eL : upd H1 L (.lst [V.int 4, V.int 9, V.int 40]) L = some (.lst [V.int 4, V.int 9, V.int 40]) := upd_same
    generalize upd H1 L (.lst [V.int 4, V.int 9, V.int 40]) = H2 at y2 eL ⊢
    have La : L ≠ a0 := fun z => by rw [z, t1] at hL; cases hL
    refine ⟨_, rfl, a0, t0M ns, 3, rfl, t1.same y2, by omega, by decide, by decide, fun H3 k3 t3 => ?_⟩
    have t3 : TapIs H3 a0 (nA ns).2 := t3
    obtain ⟨mb1, mb2, mb3⟩ := most_bd ns
    have cA : (nA ns).2.c = 1 := by have : (nA ns).2.c = (t0M ns).c + 1 := next_c _ _; omega
    refine ⟨L, _, _, _, rfl, rfl, SqL.of (k3 _ _ eL La), mb3, ?_⟩
    refine ⟨a0, (nA ns).2, mostM ns, rfl, t3, by omega, mb1, mb2, fun told vsV H4 htold tolda k4 t4 etl pv => ?_⟩
    have t4 : TapIs H4 a0 (vM ns).2 := t4
    have pv : Paired (VarAt H4) vsV (vM ns).1 := pv
    have k14 : Kl a0 H1 H4 := ((Kl.of (l := a0) y2).trans k3).trans k4
    have s4 : Same H H4 := Kl.same y1 ha0 k14
    have lv : vsV.length = (vM ns).1.length := pv.length
    have lr : (vM ns).1.length ≤ 40 := by have := nf.2.1; unfold namesM at this; rw [List.length_map] at this; exact this
    refine ⟨_, rfl, told, rfl, ⟨_, SqL.of etl⟩, comp_tup3 (K := K) (a := told) (xs := vsV) (fvals := []) (fun acc j H5 => H4 acc = none ∧ Same H4 H5 ∧ H5 acc = some (.lst (((vM ns).1.take j).map fun p => V.str p.2.1))) ?_ ?_ ?_ ?_ ?_⟩
    · rintro acc j H5 ⟨_, s5, _⟩
      exact SqL.of (s5 _ _ etl)
    · intro acc hacc
      exact ⟨hacc, Same.put hacc, upd_same⟩
    · rintro acc j x H5 hx ⟨_, s5, _⟩
      obtain ⟨p, _, T0, rfl, eT⟩ := paired_at pv hx
      exact ⟨T0, _, _, _, rfl, s5 _ _ eT⟩
    · rintro acc j T0 x1 x2 x3 H5 R hx eT ⟨hacc, s5, ea⟩ hR
      obtain ⟨p, hp, T1, e, e1⟩ := paired_at pv hx
      cases e
      have := s5 _ _ e1
      rw [eT] at this
      cases this
      have hj : j < vsV.length := (List.getElem?_eq_some_iff.mp hx).1
      refine ⟨_, rfl, hR _ _ ⟨_, ea, by rw [List.length_map, List.length_take]; omega, hacc, Kl.same s5 hacc Kl.one, ?_⟩⟩
      rw [upd_same, vars_names j hp]
    · rintro nl H5 hnl ⟨_, y5, en⟩
      rw [lv, List.take_of_length_le (Nat.le_refl _)] at en
      have en : H5 nl = some (.lst ((namesM ns).map V.str)) := by rw [en]; unfold namesM; rw [List.map_map]; rfl
      have nla : nl ≠ a0 := fun z => by rw [z, t4] at hnl; cases hnl
      refine ⟨Nat.zero_le _, fun pl hpl => ?_⟩
      have y6 := Same.put (o := .lst []) hpl
      have epl : upd H5 pl (.lst []) pl = some (.lst []) := upd_same
      generalize upd H5 pl (.lst []) = H6 at y6 epl ⊢
      have t6 : TapIs H6 a0 (vM ns).2 := t4.same (y5.trans y6)
      have pla : pl ≠ a0 := fun z => by rw [z, t4.same y5] at hpl; cases hpl
      have pln : pl ≠ nl := fun z => by rw [z, en] at hpl; cases hpl
      refine ⟨_, rfl, (by show 2 ≤ sizeLine; omega), fun L2 hL2 => ?_⟩
      have y7 := Same.put (o := .lst [V.int 4, V.int 13]) hL2
      have eL2 : upd H6 L2 (.lst [V.int 4, V.int 13]) L2 = some (.lst [V.int 4, V.int 13]) := upd_same
      generalize upd H6 L2 (.lst [V.int 4, V.int 13]) = H7 at y7 eL2 ⊢
      have L2a : L2 ≠ a0 := fun z => by rw [z, t6] at hL2; cases hL2
      have vc := nf.2.2.2
      refine ⟨_, rfl, a0, (vM ns).2, 8, rfl, t6.same y7, by omega, by decide, by decide, fun H8 k8 t8 => ?_⟩
      have t8 : TapIs H8 a0 (nB ns).2 := t8
      have cB : (nB ns).2.c = (vM ns).2.c + 1 := next_c _ _
      have lb := lim_bd ns
      have elim : ∃ b : Bool, decide (V.int (nB ns).1 = V.int 7) = b ∧ atI [V.int 4, V.int 13] (if b then 1 else 0) = some (.int (limM ns)) := by
        unfold limM
        by_cases h : (nB ns).1 = 7
        · rw [h]; exact ⟨true, by simp, by simp; rfl⟩
        · exact ⟨false, by simp [h], by simp [h]; rfl⟩
      obtain ⟨bb, hb1, hb2⟩ := elim
      refine ⟨rfl, .inr ⟨_, rfl, ?_⟩⟩
      show _
      have hb1' : decide (V.int (nextM (vM ns).2 8).1 = V.int 7) = bb := hb1
      rw [hb1']
      refine ⟨L2, _, _, _, rfl, rfl, SqL.of (k8 _ _ eL2 L2a), hb2, ?_⟩
      refine ⟨a0, (nB ns).2, limM ns, rfl, t8, by omega, lb.1, by omega, fun H9 k9 t9 => ?_⟩
      have t9 : TapIs H9 a0 (nC ns).2 := t9
      have k69 : Kl a0 H6 H9 := ((Kl.of (l := a0) y7).trans k8).trans k9
      have k49 : Kl a0 H4 H9 := (Kl.of (l := a0) (y5.trans y6)).trans k69
      have s9 : Same H H9 := Kl.same s4 ha0 k49
      have epl9 := k69 _ _ epl pla
      have pltold : pl ≠ told := fun z => by rw [z, y5 _ _ etl] at hpl; cases hpl
      have s59 : S5 H ns a0 nl pl told (nC ns).2 vsV [] [] 0 H9 := ⟨s9, ha0, t9, k69 _ _ (y6 _ _ en) nla, k49 _ _ etl tolda, Paired.mapP pv fun _ _ z => z.keep (Kl.tup t4 k49), epl9, .nil, rfl, fun p h => (by cases h), nla.symm, tolda.symm, pla.symm, fun p h => (by cases h)⟩
      have H9a : H9 a0 ≠ none := by rw [t9]; simp
      have H9p : H9 pl ≠ none := by rw [epl9]; simp
      refine ⟨_, rfl, by show -(2 ^ 62) ≤ (nC ns).1; omega, by show (nC ns).1 < 2 ^ 62; omega, for_range (lo := 0) (n := (nC ns).1.toNat) (fun k σ Hk => ∃ (v6 v7 v8 : Option V) (xs : List V) (ps : List Pt), σ = [some (.ref a), some (.int 0), some (.ref a0), some (.ref told), some (.ref nl), some (.ref pl), v6, v7, v8, none] ∧ S5 H ns a0 nl pl told (nC ns).2 vsV xs ps k Hk ∧ ∀ x, Hk x = none → H9 x = none) ⟨_, _, _, [], [], rfl, s59, fun x hx => hx⟩ ?_ ?_⟩
      · rintro k σ Hk hk ⟨v6, v7, v8, xs, ps, rfl, sk, dmk⟩
        have hk13 : k < 13 := by omega
        have hqk : SqL K Hk a (ns.map V.int) := sk.sm.seq hq
        have lps : ps.length = k := by
          have := congrArg List.length sk.dat
          rw [List.length_map, parts_len] at this; exact this
        have lx : xs.length = ps.length := sk.pp.length
        have htit : ps.map (fun p => p.1) = (partsM ns k).map fun p => p.1 := dat_tit sk.dat
        refine ⟨_, rfl, _, rfl, _, _, rfl, rfl, _, rfl, _, _, rfl, rfl, (by show (0 : Int) < 3; decide), _, _, rfl, rfl, a, ns, 1 + k % 3, ?_, hqk, ?_⟩
        · show [V.ref a, V.int ((0 : Int) + 1 + (0 + (k : Int)) % 3)] = [V.ref a, V.int ((1 + k % 3 : Nat) : Int)]
          rw [show (0 : Int) + 1 + (0 + (k : Int)) % 3 = ((1 + k % 3 : Nat) : Int) by omega]
        refine ⟨_, rfl, _, _, rfl, rfl, cmul_l (by decide) (by decide), _, _, rfl, rfl, _, rfl, fun a1 Ha ha1 ya ta => ?_⟩
        have ta : TapIs Ha a1 (tapK ns k) := by
          have e : ns.getD (1 + k % 3) 0 + 2 * (0 + (k : Int)) = ns.getD (1 + k % 3) 0 + 2 * (k : Int) := by rw [Int.zero_add]
          unfold tapK
          rw [← e]; exact ta
        have sa := sk.same ya
        have a1a : a1 ≠ a0 := fun z => by rw [z, sk.ta] at ha1; cases ha1
        have a1nl : a1 ≠ nl := fun z => by rw [z, sk.en] at ha1; cases ha1
        refine ⟨_, rfl, _, rfl, a, ns, 0, rfl, sa.sm.seq hq, _, rfl, fun a2 Hb ha2 yb tb => ?_⟩
        have tb : TapIs Hb a2 (t0M ns) := tb
        refine ⟨a2, t0M ns, 13, rfl, tb, by omega, by decide, fun tl Hc htl kc tc etl2 => ?_⟩
        obtain ⟨tok, tix⟩ := title_ok2 ns hk13
        refine ⟨_, rfl, tl, _, _, _, rfl, rfl, SqL.of etl2, by rw [Int.zero_add]; exact atI_nat (by rw [List.getElem?_map, tix]; rfl), ?_⟩
        have sc : Same Ha Hc := Kl.same yb ha2 kc
        have s5c := sa.same sc
        refine ⟨_, rfl, .inl ⟨rfl, _, SqL.of s5c.epl⟩, _, rfl, _, rfl, _, rfl, _, rfl, pl, rfl, ⟨_, SqL.of s5c.epl⟩, comp_tup2 (K := K) (a := pl) (xs := xs) (fvals := []) (fun acc j He => Hc acc = none ∧ Same Hc He ∧ He acc = some (.lst (((ps.take j).map fun p => V.str p.1)))) ?_ ?_ ?_ ?_ ?_⟩
        · rintro acc j He ⟨_, se, _⟩
          exact SqL.of (se _ _ s5c.epl)
        · intro acc hacc
          exact ⟨hacc, Same.put hacc, upd_same⟩
        · rintro acc j x He hx ⟨_, se, _⟩
          obtain ⟨p, _, q0, rfl, e1, _⟩ := paired_at s5c.pp hx
          exact ⟨q0, _, _, rfl, se _ _ e1⟩
        · rintro acc j T0 x1 x2 He R hx eT ⟨hacc, se, ea⟩ hR
          obtain ⟨p, hp, q0, e, e1, e2, e3⟩ := paired_at s5c.pp hx
          cases e
          have := se _ _ e1
          rw [eT] at this
          cases this
          have hj : j < xs.length := (List.getElem?_eq_some_iff.mp hx).1
          refine ⟨_, rfl, hR _ _ ⟨_, ea, by rw [List.length_map, List.length_take]; omega, hacc, Kl.same se hacc Kl.one, ?_⟩⟩
          rw [upd_same, List.take_add_one, hp, List.map_append]; rfl
        · rintro acc He hacc ⟨_, ye, ea⟩
          rw [lx, List.take_of_length_le (Nat.le_refl _)] at ea
          have ea2 : He acc = some (.lst (((partsM ns k).map fun p => p.1).map V.str)) := by rw [ea, ← htit, List.map_map]; rfl
          have s5e := s5c.same ye
          have tae : TapIs He a1 (tapK ns k) := (sc.trans ye) _ _ ta
          have acca1 : acc ≠ a1 := fun z => by rw [z, sc _ _ ta] at hacc; cases hacc
          have ck : (tapK ns k).c = 0 := rfl
          have b2 : Bb 2 = 4171 := rfl
          refine ⟨a1, nl, acc, namesM ns, _, tapK ns k, rfl, tae, by omega, ⟨s5e.en, ea2, nf.1, by omega, by rw [List.length_map, parts_len]; omega, nf.2.2.1, tit_ok ns k (by omega), a1nl, acca1.symm⟩, fun r b Hf kf tf er fr ba bw bd bn bl => ⟨(by show 2 ≤ sizeLine; omega), fun q0 hq0 => ?_⟩⟩
          have yq := Same.put (o := .tup [V.str (titleK ns k), V.ref r]) hq0
          have eq0 : upd Hf q0 (.tup [V.str (titleK ns k), V.ref r]) q0 = some (.tup [V.str (titleK ns k), V.ref r]) := upd_same
          generalize upd Hf q0 (.tup [V.str (titleK ns k), V.ref r]) = Hg at yq eq0 ⊢
          have hke : ∀ x o, Hk x = some o → He x = some o := fun x o e => ye _ _ (sc _ _ (ya _ _ e))
          have skg : Same Hk Hg := fun x o e => yq _ _ (kf _ _ (hke x o e) (ne_of_none e ha1))
          have sg := sk.same skg
          refine ⟨pl, _, _, rfl, rfl, sg.epl, by omega, ?_⟩
          have Hea : He a0 ≠ none := by rw [s5e.ta]; simp
          have Hep : He pl ≠ none := by rw [s5e.epl]; simp
          have xa : ∀ x, He x = none → x ≠ a0 ∧ x ≠ pl := fun x hx => ⟨fun z => Hea (by rw [← z]; exact hx), fun z => Hep (by rw [← z]; exact hx)⟩
          have kp : ∀ x o, Hg x = some o → x ≠ pl → upd Hg pl (.lst (xs ++ [V.ref q0])) x = some o := fun x o e n => by rw [upd_ne n]; exact e
          have tp : ∀ x vs, Hg x = some (.tup vs) → upd Hg pl (.lst (xs ++ [V.ref q0])) x = some (.tup vs) := fun x vs e => kp _ _ e (ne_of e sg.epl (by intro z; cases z))
          have plH : H pl = none := by
            cases z : H pl with
            | none => rfl
            | some o =>
              have := s4 _ _ z
              rw [y5 _ _ this] at hpl; cases hpl
          have xr := xa r fr
          have bx : BdAll (fun x => x ≠ a0 ∧ x ≠ pl) b := BdAll.mono xa bw
          refine ⟨_, _, _, xs ++ [.ref q0], ps ++ [(titleK ns k, r, b)], rfl, ⟨fun x o e => kp _ _ (sg.sm _ _ e) (ne_of_none e plH), ha0, kp _ _ sg.ta sg.ap, kp _ _ sg.en pln.symm, kp _ _ sg.etl pltold.symm, Paired.mapP sg.pv fun _ _ z => z.keep tp, upd_same, Paired.app (parts_keep tp (fun x hx vs e => kp _ _ e hx.2) sg.pp sg.nw) (.cons ⟨q0, rfl, tp _ _ eq0, kp _ _ (yq _ _ er) xr.2, (ba.same yq).keep tp (fun x hx vs e => kp _ _ e hx.2) bx⟩ .nil), ?_, fun p hp => ?_, sg.an, sg.al, sg.ap, sg.nw.snoc xr bx⟩, fun x hx => ?_⟩
          · rw [List.map_append, sg.dat]
            show _ ++ [(titleK ns k, b.dat)] = _
            rw [bd]; rfl
          · rcases List.mem_append.mp hp with z | z
            · exact sg.np p z
            · rw [List.mem_singleton.mp z]; exact bn
          · have xp : x ≠ pl := fun z => by rw [z, upd_same] at hx; cases hx
            rw [upd_ne xp] at hx
            exact dmk x (skg.free hx)
      · rintro σ Hk ⟨v6, v7, v8, xs, ps, rfl, sk, dmk⟩
        exact kC _ _ _ _ _ a ns a0 nl pl told vsV xs ps H Hk hq sk q
end
end K46

set_option Elab.async false
set_option linter.all false
set_option maxRecDepth 100000
set_option maxHeartbeats 4000000
namespace K46
open PySem L2
theorem pts_ok (ns : List Int) : ∀ k, k ≤ 13 → ∀ p ∈ partsM ns k, PyData.strOk p.1 = true ∧ PyData.canLayAll0 p.2 = true ∧ PyData.depthAll p.2 ≤ 8
  | 0, _, p, h => by cases h
  | k + 1, hk, p, h => by
    have nf := names_facts ns
    rcases List.mem_append.mp h with z | z
    · exact pts_ok ns k (by omega) p z
    · rw [List.mem_singleton.mp z]
      have b := (bod_ok nf.1 (by omega) nf.2.2.1 (tit_ok ns k (by omega)) 2 (tapK ns k)).1
      exact ⟨(title_ok2 ns (by omega)).1, b.lay, b.dep⟩
theorem main_ok (ns : List Int) : ∀ k, PyData.canLayAll0 (mainM ns k).1 = true ∧ PyData.depthAll (mainM ns k).1 ≤ 20
  | 0 => ⟨rfl, Nat.zero_le _⟩
  | k + 1 => by
    have nf := names_facts ns
    have tf := ptit_facts ns
    have ih := main_ok ns k
    have db := (deep_bd (mainM ns k).2).1
    have b := (bod_ok nf.1 (by omega) nf.2.2.1 tf.2 (deepM (mainM ns k).2) (tapM (ns.getD (4 + k) 0))).1
    show PyData.canLayAll0 (_ ++ _) = true ∧ PyData.depthAll (_ ++ _) ≤ 20
    rw [lay_app, depthAll_app, ih.1, b.lay]
    have := b.dep
    exact ⟨rfl, by omega⟩
structure TOk (t : TD3) : Prop where
  rows : VarsOk t.rows
  parts : ∀ p ∈ t.parts, PyData.strOk p.1 = true ∧ PyData.canLayAll0 p.2 = true ∧ PyData.depthAll p.2 ≤ 8
  ml : PyData.canLayAll0 t.main = true
  md : PyData.depthAll t.main ≤ 20
theorem tree_ok (ns : List Int) : TOk (treeM ns) := by
  have b := most_bd ns
  have f := (vars_facts (nA ns).2 b.1 b.2.1).2.2.2
  have pb := pts_bd ns
  have p := pts_ok ns (nC ns).1.toNat (by omega)
  have m := main_ok ns (1 + (nD ns).1).toNat
  unfold treeM
  split
  · exact ⟨f, fun x hx => p x (List.mem_of_mem_take hx), rfl, Nat.zero_le _⟩
  · exact ⟨f, p, m.1, m.2⟩
def dPart (p : Str × List PyData) : PyData := .tuple [.str p.1, .list p.2]
def dTree (t : TD3) : PyData := .tuple [.list (t.rows.map dRow), .list (t.parts.map dPart), .list t.main]
theorem lay_rows : ∀ {rows : List VRow}, VarsOk rows → PyData.canLayAll0 (rows.map dRow) = true
  | [], _ => rfl
  | p :: r, h => by
    show (PyData.canLay0 (dRow p) && PyData.canLayAll0 (r.map dRow)) = true
    have hp := h p List.mem_cons_self
    rw [lay_rows fun x hx => h x (List.mem_cons_of_mem _ hx)]
    have : PyData.canLay0 (dRow p) = true := by
      show (PyData.strOk p.1 && (PyData.strOk p.2.1 && (true && true))) = true
      rw [hp.1, hp.2]; rfl
    rw [this]; rfl
theorem dep_rows : ∀ (rows : List VRow), PyData.depthAll (rows.map dRow) ≤ 1
  | [] => Nat.zero_le _
  | p :: r => by
    show max (max 0 (max 0 (max 0 0)) + 1) (PyData.depthAll (r.map dRow)) ≤ 1
    have := dep_rows r; omega
theorem lay_parts : ∀ {ps : List (Str × List PyData)}, (∀ p ∈ ps, PyData.strOk p.1 = true ∧ PyData.canLayAll0 p.2 = true ∧ PyData.depthAll p.2 ≤ 8) → PyData.canLayAll0 (ps.map dPart) = true ∧ PyData.depthAll (ps.map dPart) ≤ 10
  | [], _ => ⟨rfl, Nat.zero_le _⟩
  | p :: r, h => by
    have hp := h p List.mem_cons_self
    have ih := lay_parts fun x hx => h x (List.mem_cons_of_mem _ hx)
    refine ⟨?_, ?_⟩
    · show (PyData.canLay0 (dPart p) && PyData.canLayAll0 (r.map dPart)) = true
      rw [ih.1]
      have : PyData.canLay0 (dPart p) = true := by
        show (PyData.strOk p.1 && (PyData.canLayAll0 p.2 && true)) = true
        rw [hp.1, hp.2.1]; rfl
      rw [this]; rfl
    · show max (max 0 (max (PyData.depthAll p.2 + 1) 0) + 1) (PyData.depthAll (r.map dPart)) ≤ 10
      have := hp.2.2; have := ih.2; omega
theorem layTree {t : TD3} (h : TOk t) : PyData.canLay0 (dTree t) = true ∧ PyData.depth (dTree t) ≤ 30 := by
  have p := lay_parts h.parts
  refine ⟨?_, ?_⟩
  · show (PyData.canLayAll0 (t.rows.map dRow) && (PyData.canLayAll0 (t.parts.map dPart) && (PyData.canLayAll0 t.main && true))) = true
    rw [lay_rows h.rows, p.1, h.ml]; rfl
  · show max (PyData.depthAll (t.rows.map dRow) + 1) (max (PyData.depthAll (t.parts.map dPart) + 1) (max (PyData.depthAll t.main + 1) 0)) + 1 ≤ 30
    have := dep_rows t.rows; have := p.2; have := h.md; omega
theorem vars_ld {K : PySem.W.Frag} {H : Hp} {xs : List V} {rows : List VRow} (h : Paired (VarAt H) xs rows) : RepAll K H xs (rows.map dRow) := by
  induction h with
  | nil => exact .nil
  | cons a _ ih =>
    obtain ⟨q, rfl, e⟩ := a
    exact .cons (.tup (SqT.of e) (.cons (.str _) (.cons (.str _) (.cons (.int _) .nil)))) ih
theorem parts_ld {K : PySem.W.Frag} {H : Hp} {xs : List V} {ps : List Pt} (h : Paired (PartAt H) xs ps) : RepAll K H xs ((ps.map fun p => (p.1, p.2.2.dat)).map dPart) := by
  induction h with
  | nil => exact .nil
  | cons a _ ih =>
    obtain ⟨q, rfl, e1, e2, e3⟩ := a
    exact .cons (.tup (SqT.of e1) (.cons (.str _) (.cons (.lst (SqL.of e2) (e3.ld.rep K)) .nil))) ih
theorem tree_rep {K : PySem.W.Frag} {H : Hp} {T told pl ml : Addr} {vsV xs : List V} {t : TD3} {ps : List Pt} {main : Bd} (h : TreeAt H T told pl ml vsV xs t.rows ps main) (h1 : ps.map (fun p => (p.1, p.2.2.dat)) = t.parts) (h2 : main.dat = t.main) : Rep K H (.ref T) (dTree t) := by
  have e1 : RepAll K H xs (t.parts.map dPart) := by rw [← h1]; exact parts_ld h.pp
  have e2 : RepAll K H main.refs t.main := by rw [← h2]; exact h.bm.ld.rep K
  exact .tup (SqT.of h.et) (.cons (.lst (SqL.of h.etl) (vars_ld h.pv)) (.cons (.lst (SqL.of h.epl) e1) (.cons (.lst (SqL.of h.eml) e2) .nil)))
def psFlatD (ps : List Pt) : List PyData := (ps.map fun p => p.2.2.flatD).flatten
theorem ps_fld {H : Hp} {xs : List V} {ps : List Pt} (h : Paired (PartAt H) xs ps) : LDs H (psFlat ps) (psFlatD ps) := by
  induction h with
  | nil => exact .nil
  | cons a _ ih =>
    obtain ⟨q, _, e1, e2, e3⟩ := a
    unfold psFlat psFlatD
    rw [List.map_cons, List.flatten_cons, List.map_cons, List.flatten_cons]
    exact e3.fld.app ih
theorem psD_dep : ∀ {ps : List Pt} {m : Nat}, (∀ p ∈ ps, PyData.depthAll p.2.2.dat ≤ m) → PyData.depthAll (psFlatD ps) ≤ m
  | [], _, _ => Nat.zero_le _
  | p :: r, m, h => by
    have ih := psD_dep (ps := r) (m := m) fun x hx => h x (List.mem_cons_of_mem _ hx)
    have h1 := Bd.flatD_dep p.2.2
    have h2 := h p List.mem_cons_self
    unfold psFlatD at ih ⊢
    rw [List.map_cons, List.flatten_cons, depthAll_app]
    omega
def sp_law (K : PySem.W.Frag) : Sp := fun vs H Q _ => ∃ (a : Addr) (ns : List Int), vs = [.ref a] ∧ SqL K H a (ns.map V.int) ∧ ns.length ≤ 63 ∧ ∀ H', Q (.bl true) H'
section
variable {P : Program} {w : World} {K : PySem.W.Frag} {mg : Str → Option Value} {base : Heap}
theorem sc_law : FnScope ["_law_script", "_law_tree_here", "_law_due", "_law_name", "_law_body_here", "_law_turn", "_law_found"] ["_law_script"] (defScope s_law) := ⟨rfl, rfl, rfl, by decide +kernel, rfl, by decide +kernel, by decide +kernel⟩
theorem ok_law {x0 x1 x2 x3 x4 x5 x6 x7 x8 x9 x10 x11 x12 x13 x14 x15 f : Addr} {e0 e1 e2 e3 e4 e5 e6 e7 e8 e9 e10 e11 e12 e13 e14 e15 fd : FuncData} (F : Fun K "law" "law" s_law f fd) (T : Bt mg)
    (T_with_inner : Fn K mg "with_inner" s_with_inner ["body"] x0 e0) (T_statements : Fn K mg "statements" s_statements ["tree"] x1 e1) (T_law_cell_at : Fn K mg "_law_cell_at" s_law_cell_at ["_law_script", "_law_k"] x2 e2) (T_law_mixed : Fn K mg "_law_mixed" s_law_mixed ["_law_number_here", "_law_k"] x3 e3) (T_law_tap : Fn K mg "_law_tap" s_law_tap ["_law_cell"] x4 e4) (T_law_next : Fn K mg "_law_next" s_law_next ["_law_tap_here", "_law_size"] x5 e5) (T_law_number : Fn K mg "_law_number" s_law_number ["_law_tap_here"] x6 e6) (T_law_expr : Fn K mg "_law_expr" s_law_expr ["_law_tap_here", "_law_names", "_law_deep"] x7 e7) (T_law_titles : Fn K mg "_law_titles" s_law_titles ["_law_tap_here", "_law_many_here"] x8 e8) (T_law_vars : Fn K mg "_law_vars" s_law_vars ["_law_tap_here", "_law_most"] x9 e9) (T_law_statement : Fn K mg "_law_statement" s_law_statement ["_law_tap_here", "_law_names", "_law_parts", "_law_deep"] x10 e10) (T_law_body : Fn K mg "_law_body" s_law_body ["_law_tap_here", "_law_names", "_law_parts", "_law_deep"] x11 e11) (T_law_many : Fn K mg "_law_many" s_law_many ["_law_body_here"] x12 e12) (T_law_tree : Fn K mg "_law_tree" s_law_tree ["_law_script", "_law_at"] x13 e13) (T_law_same : Fn K mg "_law_same" s_law_same ["_law_found", "_law_due"] x14 e14) (T_law_all : Fn K mg "_law_all" s_law_all ["_law_body_here"] x15 e15) : FnOk P w K mg base CX0 27 f fd ["_law_script"] (sp_law K) := by
  have G_law_tree := ok_law_tree (P := P) (w := w) (base := base) T_law_tree.F T T_with_inner T_statements T_law_cell_at T_law_mixed T_law_tap T_law_next T_law_number T_law_expr T_law_titles T_law_vars T_law_statement T_law_body T_law_many T_law_tree T_law_same T_law_all
  have G_statements := ok_statements (P := P) (w := w) (base := base) T_statements.F T T_with_inner
  have G_law_all : FnOk P w K mg base CX0 10 _ _ ["_law_body_here"] (sp_wi 8) := ok_law_all (P := P) (w := w) (base := base) T T_law_all 8
  have G_law_same : FnOk P w K mg base CX0 23 _ _ ["_law_found", "_law_due"] (sp_sm 21) := ok_law_same (P := P) (w := w) (base := base) T T_law_same 21
  refine F.ok (k := 26) sc_law (fun vs H Q E h => ?_) (fun cdv A outer s H vs Q E hr h => ?_)
  · obtain ⟨a, ns, rfl, _⟩ := h; rfl
  · obtain ⟨a, ns, rfl, hq, hn63, q⟩ := h
    have hs : sizeLine = 16777216 := sizeLine_eq
    have tk := tree_ok ns
    refine ⟨_, (pss_cons (ps_set (i := 1) sc_law.nd rfl (Or.inl rfl) (pe_call G_law_tree (hr.mono (by decide)) rfl T_law_tree.m T_law_tree.F.kp T_law_tree.b .nil pass0 (pa_consN (pv 0) (pa_consN pe_int pa_nil))))
      (pss_cons (ps_set (i := 2) sc_law.nd rfl (Or.inl rfl) (pe_lst pa_nil))
      (pss_cons (ps_for PassesOwn.never rfl (pi_list (pe_ix ix_tup (pv 1) pe_int (fun _ _ => rfl))) (pg_tup rfl (pgs_cons (pg_name (i := 3) sc_law.nd rfl (Or.inl rfl)) (pgs_cons (pg_name (i := 4) sc_law.nd rfl (Or.inl rfl)) pgs_nil)))
        (pss_one (ps_set (i := 2) sc_law.nd rfl (Or.inl rfl) (pe_op op_cat (pv 2) (pe_call G_law_all (hr.mono (by decide)) rfl T_law_all.m T_law_all.F.kp T_law_all.b .nil pass0 (pa_consN (pv 4) pa_nil))))))
      (pss_cons (ps_set (i := 2) sc_law.nd rfl (Or.inl rfl) (pe_op op_cat (pv 2) (pe_call G_law_all (hr.mono (by decide)) rfl T_law_all.m T_law_all.F.kp T_law_all.b .nil pass0 (pa_consN (pe_ix ix_tup (pv 1) pe_int (fun _ _ => rfl)) pa_nil))))
      (pss_cons (ps_for PassesOwn.never rfl (pi_range1 rfl T.b_range (pa_consN pe_int pa_nil)) (pg_name (i := 5) sc_law.nd rfl (Or.inl rfl))
        (pss_cons (ps_set (i := 6) sc_law.nd rfl (Or.inl rfl) (pe_call G_statements (hr.mono (by decide)) rfl T_statements.m T_statements.F.kp T_statements.b .nil pass0 (pa_consN (pv 1) pa_nil)))
        (pss_cons (ps_if (pt_not (pt_val (pe_call G_law_same (hr.mono (by decide)) rfl T_law_same.m T_law_same.F.kp T_law_same.b .nil pass0 (pa_consN (pv 6) (pa_consN (pv 2) pa_nil)))))
          (pss_one (ps_ret pe_bl))
          pss_nil)
        (pss_cons (ps_expr (pe_bm PySem.F.plainAttrs_list PySem.F.slot_list_append PySem.F.type_list_append mt_append (pv 6) (pa_consN pe_int pa_nil)))
        (pss_one (ps_expr (pe_bm0 PySem.F.plainAttrs_list PySem.F.slot_list_reverse PySem.F.type_list_reverse mt_reverse (pv 6))))))))
      (pss_one (ps_ret (pe_cmpR (op_eqD (hr.units)) (pv 1) (pe_call G_law_tree (hr.mono (by decide)) rfl T_law_tree.m T_law_tree.F.kp T_law_tree.b .nil pass0 (pa_consN (pv 0) (pa_consN pe_int pa_nil))) (nomark _))))))))), ?_⟩
    refine ⟨_, rfl, a, ns, rfl, hq, fun T0 told pl ml vsV xs ps main H1 s1 tr hd1 hd2 => ?_⟩
    have tot := tr.tot
    have dps : PyData.depthAll (psFlatD ps) ≤ 20 := psD_dep fun p hp => by
      have : (p.1, p.2.2.dat) ∈ (treeM ns).parts := by rw [← hd1]; exact List.mem_map.mpr ⟨p, hp, rfl⟩
      have := (tk.parts _ this).2.2
      show PyData.depthAll p.2.2.dat ≤ 20
      have : PyData.depthAll p.2.2.dat ≤ 8 := this
      omega
    have dmm : PyData.depthAll main.flatD ≤ 20 := by have := Bd.flatD_dep main; rw [hd2] at this; have := tk.md; omega
    refine ⟨Nat.zero_le _, fun l0 hl0 => ?_⟩
    have y2 := Same.put (o := .lst []) hl0
    have e2 : upd H1 l0 (.lst []) l0 = some (.lst []) := upd_same
    generalize upd H1 l0 (.lst []) = H2 at y2 e2 ⊢
    refine ⟨_, rfl, T0, _, _, _, rfl, rfl, SqT.of (y2 _ _ tr.et), rfl, pl, rfl, ⟨_, SqL.of (y2 _ _ tr.epl)⟩, for_list (K := K) (a := pl) (xs := xs) (fun i σ H3 => ∃ (v3 v4 v5 v6 : Option V) (l : Addr), σ = [some (.ref a), some (.ref T0), some (.ref l), v3, v4, v5, v6] ∧ Same H1 H3 ∧ H3 l = some (.lst (psFlat (ps.take i)))) ⟨_, _, _, _, l0, rfl, y2, by rw [List.take_zero]; exact e2⟩ ?_ ?_ ?_⟩
    · rintro i σ H3 _ ⟨v3, v4, v5, v6, l, rfl, s3, _⟩
      exact SqL.of (s3 _ _ tr.epl)
    · rintro i x σ H3 hx ⟨v3, v4, v5, v6, l, rfl, s3, e3⟩
      obtain ⟨p, hpi, q0, rfl, eq, ea, bp⟩ := paired_at tr.pp hx
      have hmem := List.mem_of_getElem? hpi
      have hle := psFlat_le ps (i + 1)
      rw [psFlat_take hpi, List.length_append] at hle
      refine ⟨q0, _, rfl, SqT.of (s3 _ _ eq), rfl, _, _, rfl, _, _, rfl, rfl, ?_⟩
      refine ⟨_, rfl, _, rfl, p.2.1, p.2.2, rfl, s3 _ _ ea, bp.same s3, tr.np p hmem, by omega, fun l2 H4 s4 hl2 el2 => ?_⟩
      refine ⟨l, l2, _, _, rfl, rfl, s4 _ _ e3, el2, by omega, fun p1 hp1 => ?_⟩
      refine ⟨_, _, _, _, p1, rfl, (s3.trans s4).trans (Same.put hp1), ?_⟩
      rw [upd_same, psFlat_take hpi]
    · rintro σ H3 ⟨v3, v4, v5, v6, l, rfl, s3, e3⟩
      rw [tr.pp.length, List.take_of_length_le (Nat.le_refl _)] at e3
      refine ⟨_, rfl, _, rfl, T0, _, _, _, rfl, rfl, SqT.of (s3 _ _ tr.et), rfl, ml, main, rfl, s3 _ _ tr.eml, tr.bm.same s3, tr.nm, by omega, fun l2 H4 s4 hl2 el2 => ?_⟩
      refine ⟨l, l2, _, _, rfl, rfl, s4 _ _ e3, el2, by omega, fun du hdu => ?_⟩
      have y5 := Same.put (o := .lst (psFlat ps ++ main.flat)) hdu
      have edu : upd H4 du (.lst (psFlat ps ++ main.flat)) du = some (.lst (psFlat ps ++ main.flat)) := upd_same
      generalize upd H4 du (.lst (psFlat ps ++ main.flat)) = H5 at y5 edu ⊢
      have s15 := (s3.trans s4).trans y5
      have tr5 := tr.same s15
      refine ⟨2, rfl, by decide, by decide, for_range (lo := 0) (n := 2) (fun i σ H6 => ∃ (v3 v4 v5 v6 : Option V), σ = [some (.ref a), some (.ref T0), some (.ref du), v3, v4, v5, v6] ∧ Same H5 H6) ⟨_, _, _, _, rfl, Same.refl _⟩ ?_ ?_⟩
      · rintro i σ H6 _ ⟨v3, v4, v5, v6, rfl, s6⟩
        have tr6 := tr5.same s6
        refine ⟨_, rfl, T0, told, pl, ml, vsV, xs, _, ps, main, rfl, tr6, fun fo H7 s7 hfo efo => ?_⟩
        have tr7 := tr6.same s7
        have ld : LDs H7 (psFlat ps ++ main.flat) (psFlatD ps ++ main.flatD) := (ps_fld tr7.pp).app tr7.bm.fld
        have hl : (psFlat ps ++ main.flat).length ≤ 1000000 := by rw [List.length_append]; exact tot
        refine ⟨_, rfl, _, rfl, .ref fo, .ref du, .list (psFlatD ps ++ main.flatD), rfl, .lst efo hl ld, .lst (s7 _ _ (s6 _ _ edu)) hl ld, ?_, fun H8 s8 => ⟨_, rfl, iteF ?_⟩⟩
        · show PyData.depthAll (psFlatD ps ++ main.flatD) + 1 ≤ 21
          rw [depthAll_app]; omega
        have efo8 := s8 _ _ efo
        refine ⟨_, rfl, .inl ⟨rfl, _, SqL.of efo8⟩, fo, _, _, rfl, rfl, efo8, by omega, ?_⟩
        have s9 : Same H6 (upd H8 fo (.lst (psFlat ps ++ main.flat ++ [V.int 7]))) := Kl.same (s7.trans s8) hfo Kl.one
        have e9 : upd H8 fo (.lst (psFlat ps ++ main.flat ++ [V.int 7])) fo = some (.lst (psFlat ps ++ main.flat ++ [V.int 7])) := upd_same
        generalize upd H8 fo (.lst (psFlat ps ++ main.flat ++ [V.int 7])) = H9 at s9 e9 ⊢
        refine ⟨_, rfl, .inl ⟨rfl, _, SqL.of e9⟩, fo, _, rfl, rfl, e9, ?_⟩
        exact ⟨_, _, _, _, rfl, s6.trans (Kl.same s9 hfo Kl.one)⟩
      · rintro σ H6 ⟨v3, v4, v5, v6, rfl, s6⟩
        have tr6 := tr5.same s6
        refine ⟨_, rfl, _, rfl, a, ns, rfl, ((s1.trans s15).trans s6).seq hq, fun T1 told1 pl1 ml1 vsV1 xs1 ps1 main1 H7 s7 tr7 he1 he2 => ?_⟩
        have lt := layTree tk
        refine ⟨dTree (treeM ns), dTree (treeM ns), tree_rep (tr6.same s7) hd1 hd2, tree_rep tr7 he1 he2, lt.1, lt.1, by have := lt.2; omega, ?_⟩
        rw [show PyData.eqv (dTree (treeM ns)) (dTree (treeM ns)) = true from SeqAt.eqv_refl _ lt.1]
        exact q _
end
end K46

set_option Elab.async false
set_option linter.all false
set_option maxRecDepth 100000
set_option maxHeartbeats 4000000
namespace K46
open PySem L2
theorem all_mk {l : PySem.W.OpenLaw} {w : World} {K : PySem.W.Frag} {h : Heap} {mg : Str → Option Value} {fz : Addr} {tk : Tok} (X : K.In h) (G : h.Ns mainGlobals mg) (hfa : mg "law" = some (.ref fz))
    {f0 : Addr} {od0 an0 : Option Addr} {sl0 : Array (Option Value)} {oc0 kV0 dc0 pm0 cd0 ct0 : Value}
    {f1 : Addr} {od1 an1 : Option Addr} {sl1 : Array (Option Value)} {oc1 kV1 dc1 pm1 cd1 ct1 : Value}
    {f2 : Addr} {od2 an2 : Option Addr} {sl2 : Array (Option Value)} {oc2 kV2 dc2 pm2 cd2 ct2 : Value}
    {f3 : Addr} {od3 an3 : Option Addr} {sl3 : Array (Option Value)} {oc3 kV3 dc3 pm3 cd3 ct3 : Value}
    {f4 : Addr} {od4 an4 : Option Addr} {sl4 : Array (Option Value)} {oc4 kV4 dc4 pm4 cd4 ct4 : Value}
    {f5 : Addr} {od5 an5 : Option Addr} {sl5 : Array (Option Value)} {oc5 kV5 dc5 pm5 cd5 ct5 : Value}
    {f6 : Addr} {od6 an6 : Option Addr} {sl6 : Array (Option Value)} {oc6 kV6 dc6 pm6 cd6 ct6 : Value}
    {f7 : Addr} {od7 an7 : Option Addr} {sl7 : Array (Option Value)} {oc7 kV7 dc7 pm7 cd7 ct7 : Value}
    {f8 : Addr} {od8 an8 : Option Addr} {sl8 : Array (Option Value)} {oc8 kV8 dc8 pm8 cd8 ct8 : Value}
    {f9 : Addr} {od9 an9 : Option Addr} {sl9 : Array (Option Value)} {oc9 kV9 dc9 pm9 cd9 ct9 : Value}
    {f10 : Addr} {od10 an10 : Option Addr} {sl10 : Array (Option Value)} {oc10 kV10 dc10 pm10 cd10 ct10 : Value}
    {f11 : Addr} {od11 an11 : Option Addr} {sl11 : Array (Option Value)} {oc11 kV11 dc11 pm11 cd11 ct11 : Value}
    {f12 : Addr} {od12 an12 : Option Addr} {sl12 : Array (Option Value)} {oc12 kV12 dc12 pm12 cd12 ct12 : Value}
    {f13 : Addr} {od13 an13 : Option Addr} {sl13 : Array (Option Value)} {oc13 kV13 dc13 pm13 cd13 ct13 : Value}
    {f14 : Addr} {od14 an14 : Option Addr} {sl14 : Array (Option Value)} {oc14 kV14 dc14 pm14 cd14 ct14 : Value}
    {f15 : Addr} {od15 an15 : Option Addr} {sl15 : Array (Option Value)} {oc15 kV15 dc15 pm15 cd15 ct15 : Value}
    {f16 : Addr} {od16 an16 : Option Addr} {sl16 : Array (Option Value)} {oc16 kV16 dc16 pm16 cd16 ct16 : Value}
    (a0 : PySem.W.nsIn K mainGlobals "with_inner" = some (some (.ref f0))) (l0 : K.lookup f0 = some ⟨oc0, od0, .func (PySem.W.fnOf "with_inner" "with_inner" (defArgs s_with_inner) (defBody s_with_inner) (defScope s_with_inner) .none kV0 dc0 pm0 an0 cd0 ct0), sl0⟩) (c0 : PySem.W.codeIn K cd0 "with_inner" = true) (k0 : PySem.W.keepIn K (.ref f0) = true)
    (a1 : PySem.W.nsIn K mainGlobals "statements" = some (some (.ref f1))) (l1 : K.lookup f1 = some ⟨oc1, od1, .func (PySem.W.fnOf "statements" "statements" (defArgs s_statements) (defBody s_statements) (defScope s_statements) .none kV1 dc1 pm1 an1 cd1 ct1), sl1⟩) (c1 : PySem.W.codeIn K cd1 "statements" = true) (k1 : PySem.W.keepIn K (.ref f1) = true)
    (a2 : PySem.W.nsIn K mainGlobals "_law_cell_at" = some (some (.ref f2))) (l2 : K.lookup f2 = some ⟨oc2, od2, .func (PySem.W.fnOf "_law_cell_at" "_law_cell_at" (defArgs s_law_cell_at) (defBody s_law_cell_at) (defScope s_law_cell_at) .none kV2 dc2 pm2 an2 cd2 ct2), sl2⟩) (c2 : PySem.W.codeIn K cd2 "_law_cell_at" = true) (k2 : PySem.W.keepIn K (.ref f2) = true)
    (a3 : PySem.W.nsIn K mainGlobals "_law_mixed" = some (some (.ref f3))) (l3 : K.lookup f3 = some ⟨oc3, od3, .func (PySem.W.fnOf "_law_mixed" "_law_mixed" (defArgs s_law_mixed) (defBody s_law_mixed) (defScope s_law_mixed) .none kV3 dc3 pm3 an3 cd3 ct3), sl3⟩) (c3 : PySem.W.codeIn K cd3 "_law_mixed" = true) (k3 : PySem.W.keepIn K (.ref f3) = true)
    (a4 : PySem.W.nsIn K mainGlobals "_law_tap" = some (some (.ref f4))) (l4 : K.lookup f4 = some ⟨oc4, od4, .func (PySem.W.fnOf "_law_tap" "_law_tap" (defArgs s_law_tap) (defBody s_law_tap) (defScope s_law_tap) .none kV4 dc4 pm4 an4 cd4 ct4), sl4⟩) (c4 : PySem.W.codeIn K cd4 "_law_tap" = true) (k4 : PySem.W.keepIn K (.ref f4) = true)
    (a5 : PySem.W.nsIn K mainGlobals "_law_next" = some (some (.ref f5))) (l5 : K.lookup f5 = some ⟨oc5, od5, .func (PySem.W.fnOf "_law_next" "_law_next" (defArgs s_law_next) (defBody s_law_next) (defScope s_law_next) .none kV5 dc5 pm5 an5 cd5 ct5), sl5⟩) (c5 : PySem.W.codeIn K cd5 "_law_next" = true) (k5 : PySem.W.keepIn K (.ref f5) = true)
    (a6 : PySem.W.nsIn K mainGlobals "_law_number" = some (some (.ref f6))) (l6 : K.lookup f6 = some ⟨oc6, od6, .func (PySem.W.fnOf "_law_number" "_law_number" (defArgs s_law_number) (defBody s_law_number) (defScope s_law_number) .none kV6 dc6 pm6 an6 cd6 ct6), sl6⟩) (c6 : PySem.W.codeIn K cd6 "_law_number" = true) (k6 : PySem.W.keepIn K (.ref f6) = true)
    (a7 : PySem.W.nsIn K mainGlobals "_law_expr" = some (some (.ref f7))) (l7 : K.lookup f7 = some ⟨oc7, od7, .func (PySem.W.fnOf "_law_expr" "_law_expr" (defArgs s_law_expr) (defBody s_law_expr) (defScope s_law_expr) .none kV7 dc7 pm7 an7 cd7 ct7), sl7⟩) (c7 : PySem.W.codeIn K cd7 "_law_expr" = true) (k7 : PySem.W.keepIn K (.ref f7) = true)
    (a8 : PySem.W.nsIn K mainGlobals "_law_titles" = some (some (.ref f8))) (l8 : K.lookup f8 = some ⟨oc8, od8, .func (PySem.W.fnOf "_law_titles" "_law_titles" (defArgs s_law_titles) (defBody s_law_titles) (defScope s_law_titles) .none kV8 dc8 pm8 an8 cd8 ct8), sl8⟩) (c8 : PySem.W.codeIn K cd8 "_law_titles" = true) (k8 : PySem.W.keepIn K (.ref f8) = true)
    (a9 : PySem.W.nsIn K mainGlobals "_law_vars" = some (some (.ref f9))) (l9 : K.lookup f9 = some ⟨oc9, od9, .func (PySem.W.fnOf "_law_vars" "_law_vars" (defArgs s_law_vars) (defBody s_law_vars) (defScope s_law_vars) .none kV9 dc9 pm9 an9 cd9 ct9), sl9⟩) (c9 : PySem.W.codeIn K cd9 "_law_vars" = true) (k9 : PySem.W.keepIn K (.ref f9) = true)
    (a10 : PySem.W.nsIn K mainGlobals "_law_statement" = some (some (.ref f10))) (l10 : K.lookup f10 = some ⟨oc10, od10, .func (PySem.W.fnOf "_law_statement" "_law_statement" (defArgs s_law_statement) (defBody s_law_statement) (defScope s_law_statement) .none kV10 dc10 pm10 an10 cd10 ct10), sl10⟩) (c10 : PySem.W.codeIn K cd10 "_law_statement" = true) (k10 : PySem.W.keepIn K (.ref f10) = true)
    (a11 : PySem.W.nsIn K mainGlobals "_law_body" = some (some (.ref f11))) (l11 : K.lookup f11 = some ⟨oc11, od11, .func (PySem.W.fnOf "_law_body" "_law_body" (defArgs s_law_body) (defBody s_law_body) (defScope s_law_body) .none kV11 dc11 pm11 an11 cd11 ct11), sl11⟩) (c11 : PySem.W.codeIn K cd11 "_law_body" = true) (k11 : PySem.W.keepIn K (.ref f11) = true)
    (a12 : PySem.W.nsIn K mainGlobals "_law_many" = some (some (.ref f12))) (l12 : K.lookup f12 = some ⟨oc12, od12, .func (PySem.W.fnOf "_law_many" "_law_many" (defArgs s_law_many) (defBody s_law_many) (defScope s_law_many) .none kV12 dc12 pm12 an12 cd12 ct12), sl12⟩) (c12 : PySem.W.codeIn K cd12 "_law_many" = true) (k12 : PySem.W.keepIn K (.ref f12) = true)
    (a13 : PySem.W.nsIn K mainGlobals "_law_tree" = some (some (.ref f13))) (l13 : K.lookup f13 = some ⟨oc13, od13, .func (PySem.W.fnOf "_law_tree" "_law_tree" (defArgs s_law_tree) (defBody s_law_tree) (defScope s_law_tree) .none kV13 dc13 pm13 an13 cd13 ct13), sl13⟩) (c13 : PySem.W.codeIn K cd13 "_law_tree" = true) (k13 : PySem.W.keepIn K (.ref f13) = true)
    (a14 : PySem.W.nsIn K mainGlobals "_law_same" = some (some (.ref f14))) (l14 : K.lookup f14 = some ⟨oc14, od14, .func (PySem.W.fnOf "_law_same" "_law_same" (defArgs s_law_same) (defBody s_law_same) (defScope s_law_same) .none kV14 dc14 pm14 an14 cd14 ct14), sl14⟩) (c14 : PySem.W.codeIn K cd14 "_law_same" = true) (k14 : PySem.W.keepIn K (.ref f14) = true)
    (a15 : PySem.W.nsIn K mainGlobals "_law_all" = some (some (.ref f15))) (l15 : K.lookup f15 = some ⟨oc15, od15, .func (PySem.W.fnOf "_law_all" "_law_all" (defArgs s_law_all) (defBody s_law_all) (defScope s_law_all) .none kV15 dc15 pm15 an15 cd15 ct15), sl15⟩) (c15 : PySem.W.codeIn K cd15 "_law_all" = true) (k15 : PySem.W.keepIn K (.ref f15) = true)
    (a16 : PySem.W.nsIn K mainGlobals "law" = some (some (.ref f16))) (l16 : K.lookup f16 = some ⟨oc16, od16, .func (PySem.W.fnOf "law" "law" (defArgs s_law) (defBody s_law) (defScope s_law) .none kV16 dc16 pm16 an16 cd16 ct16), sl16⟩) (c16 : PySem.W.codeIn K cd16 "law" = true) (k16 : PySem.W.keepIn K (.ref f16) = true)
    (z_len : PySem.W.nsIn K mainGlobals "len" = some none)
    (z_range : PySem.W.nsIn K mainGlobals "range" = some none)
    (z_list : PySem.W.nsIn K mainGlobals "list" = some none)
    (z_isinstance : PySem.W.nsIn K mainGlobals "isinstance" = some none)
    (z_int : PySem.W.nsIn K mainGlobals "int" = some none)
    (z_tuple : PySem.W.nsIn K mainGlobals "tuple" = some none)
    (z_bool : PySem.W.nsIn K mainGlobals "bool" = some none)
    (z_str : PySem.W.nsIn K mainGlobals "str" = some none)
    (z_sum : PySem.W.nsIn K mainGlobals "sum" = some none)
    (z_all : PySem.W.nsIn K mainGlobals "all" = some none)
    : ∃ fd : FuncData, (∀ (s : Shared) (v : Value), BindsTo s fd ⟨[v], []⟩ [("_law_script", v)]) ∧ ∀ base : Heap, K.In base → base.Ns mainGlobals mg → FnOk l.prog w K mg base CX0 27 fz fd ["_law_script"] (sp_law K) := by
  have e := hfa.symm.trans (PySem.W.mg_of X G a16)
  cases e
  have T : Bt mg := ⟨PySem.W.mg_none_of X G z_len, PySem.W.mg_none_of X G z_range, PySem.W.mg_none_of X G z_list, PySem.W.mg_none_of X G z_isinstance, PySem.W.mg_none_of X G z_int, PySem.W.mg_none_of X G z_tuple, PySem.W.mg_none_of X G z_bool, PySem.W.mg_none_of X G z_str, PySem.W.mg_none_of X G z_sum, PySem.W.mg_none_of X G z_all⟩
  have F0 := fun_mk (st := s_with_inner) l0 c0 k0
  have b0 := F0.binds (ps := ["body"]) fun _ _ _ _ _ _ us hl => match us, hl with | [_], _ => rfl
  have F1 := fun_mk (st := s_statements) l1 c1 k1
  have b1 := F1.binds (ps := ["tree"]) fun _ _ _ _ _ _ us hl => match us, hl with | [_], _ => rfl
  have F2 := fun_mk (st := s_law_cell_at) l2 c2 k2
  have b2 := F2.binds (ps := ["_law_script", "_law_k"]) fun _ _ _ _ _ _ us hl => match us, hl with | [_, _], _ => rfl
  have F3 := fun_mk (st := s_law_mixed) l3 c3 k3
  have b3 := F3.binds (ps := ["_law_number_here", "_law_k"]) fun _ _ _ _ _ _ us hl => match us, hl with | [_, _], _ => rfl
  have F4 := fun_mk (st := s_law_tap) l4 c4 k4
  have b4 := F4.binds (ps := ["_law_cell"]) fun _ _ _ _ _ _ us hl => match us, hl with | [_], _ => rfl
  have F5 := fun_mk (st := s_law_next) l5 c5 k5
  have b5 := F5.binds (ps := ["_law_tap_here", "_law_size"]) fun _ _ _ _ _ _ us hl => match us, hl with | [_, _], _ => rfl
  have F6 := fun_mk (st := s_law_number) l6 c6 k6
  have b6 := F6.binds (ps := ["_law_tap_here"]) fun _ _ _ _ _ _ us hl => match us, hl with | [_], _ => rfl
  have F7 := fun_mk (st := s_law_expr) l7 c7 k7
  have b7 := F7.binds (ps := ["_law_tap_here", "_law_names", "_law_deep"]) fun _ _ _ _ _ _ us hl => match us, hl with | [_, _, _], _ => rfl
  have F8 := fun_mk (st := s_law_titles) l8 c8 k8
  have b8 := F8.binds (ps := ["_law_tap_here", "_law_many_here"]) fun _ _ _ _ _ _ us hl => match us, hl with | [_, _], _ => rfl
  have F9 := fun_mk (st := s_law_vars) l9 c9 k9
  have b9 := F9.binds (ps := ["_law_tap_here", "_law_most"]) fun _ _ _ _ _ _ us hl => match us, hl with | [_, _], _ => rfl
  have F10 := fun_mk (st := s_law_statement) l10 c10 k10
  have b10 := F10.binds (ps := ["_law_tap_here", "_law_names", "_law_parts", "_law_deep"]) fun _ _ _ _ _ _ us hl => match us, hl with | [_, _, _, _], _ => rfl
  have F11 := fun_mk (st := s_law_body) l11 c11 k11
  have b11 := F11.binds (ps := ["_law_tap_here", "_law_names", "_law_parts", "_law_deep"]) fun _ _ _ _ _ _ us hl => match us, hl with | [_, _, _, _], _ => rfl
  have F12 := fun_mk (st := s_law_many) l12 c12 k12
  have b12 := F12.binds (ps := ["_law_body_here"]) fun _ _ _ _ _ _ us hl => match us, hl with | [_], _ => rfl
  have F13 := fun_mk (st := s_law_tree) l13 c13 k13
  have b13 := F13.binds (ps := ["_law_script", "_law_at"]) fun _ _ _ _ _ _ us hl => match us, hl with | [_, _], _ => rfl
  have F14 := fun_mk (st := s_law_same) l14 c14 k14
  have b14 := F14.binds (ps := ["_law_found", "_law_due"]) fun _ _ _ _ _ _ us hl => match us, hl with | [_, _], _ => rfl
  have F15 := fun_mk (st := s_law_all) l15 c15 k15
  have b15 := F15.binds (ps := ["_law_body_here"]) fun _ _ _ _ _ _ us hl => match us, hl with | [_], _ => rfl
  have F16 := fun_mk (st := s_law) l16 c16 k16
  exact ⟨PySem.W.fnOf "law" "law" (defArgs s_law) (defBody s_law) (defScope s_law) .none kV16 dc16 pm16 an16 cd16 ct16, fun s v => .of_eq rfl, fun base _ _ => ok_law F16 T ⟨F0, PySem.W.mg_of X G a0, b0⟩ ⟨F1, PySem.W.mg_of X G a1, b1⟩ ⟨F2, PySem.W.mg_of X G a2, b2⟩ ⟨F3, PySem.W.mg_of X G a3, b3⟩ ⟨F4, PySem.W.mg_of X G a4, b4⟩ ⟨F5, PySem.W.mg_of X G a5, b5⟩ ⟨F6, PySem.W.mg_of X G a6, b6⟩ ⟨F7, PySem.W.mg_of X G a7, b7⟩ ⟨F8, PySem.W.mg_of X G a8, b8⟩ ⟨F9, PySem.W.mg_of X G a9, b9⟩ ⟨F10, PySem.W.mg_of X G a10, b10⟩ ⟨F11, PySem.W.mg_of X G a11, b11⟩ ⟨F12, PySem.W.mg_of X G a12, b12⟩ ⟨F13, PySem.W.mg_of X G a13, b13⟩ ⟨F14, PySem.W.mg_of X G a14, b14⟩ ⟨F15, PySem.W.mg_of X G a15, b15⟩⟩
theorem walk {l : PySem.W.OpenLaw} {q : Program} {loose : List Str} {XP : (Str → Option Value) → Heap → Prop} {YP : World → Heap → Prop} {d : DefRec} {K : Params → PySem.W.Frag} (hn : l.most = some 63) (hdf : d.params.defaults = [])
    (hY : ∀ (w : World) (h : Heap), YP w h → (K w.params).In h)
    (F : ∀ (w : World) (mg : Str → Option Value) (fa : Addr) (h : Heap), (K w.params).In h → h.Ns mainGlobals mg → mg d.name = some (.ref fa) →
      ∃ fd : FuncData, (∀ (s : Shared) (u : Value), BindsTo s fd ⟨[u], []⟩ [("_law_script", u)]) ∧ ∀ base : Heap, (K w.params).In base → base.Ns mainGlobals mg → FnOk l.prog w (K w.params) mg base CX0 27 fa fd ["_law_script"] (sp_law (K w.params))) :
    PySem.W.WalkO q loose XP YP l.row.toRowW d [] (fun f vs => PySem.call f vs) :=
  L2.walk_of (n := 63) (k := 27) (x := "_law_script") (CX := fun _ => CX0) (sp := fun w => sp_law (K w.params)) hn (by decide) hdf ⟨rfl, by decide, by decide⟩ hY F (fun _ _ a ns hl _ hS => ⟨a, ns, rfl, hS, hl, fun _ => rfl⟩) fun _ _ _ _ _ z => z
end K46
open PySem PySem.W PyProof.Rows
set_option maxRecDepth 100000 in
set_option maxHeartbeats 0 in
theorem PySem.Challenge.cw_gatetown_k46_statements_in_order_holds : PySem.Challenge.rw_gatetown_k46_statements_in_order.Holds := by
  w_on; o_law; k_head; (case hw => w_witness2)
  k_fill
  refine K46.walk (l := PySem.Challenge.rw_gatetown_k46_statements_in_order) rfl rfl (fun w h Y => PySem.W.kIn_of Y) ?F
  case F =>
    intro w mg fa h KX G hmg
    refine' K46.all_mk (tk := 0) KX G hmg ?a0 ?l0 ?c0 ?k0 ?a1 ?l1 ?c1 ?k1 ?a2 ?l2 ?c2 ?k2 ?a3 ?l3 ?c3 ?k3 ?a4 ?l4 ?c4 ?k4 ?a5 ?l5 ?c5 ?k5 ?a6 ?l6 ?c6 ?k6 ?a7 ?l7 ?c7 ?k7 ?a8 ?l8 ?c8 ?k8 ?a9 ?l9 ?c9 ?k9 ?a10 ?l10 ?c10 ?k10 ?a11 ?l11 ?c11 ?k11 ?a12 ?l12 ?c12 ?k12 ?a13 ?l13 ?c13 ?k13 ?a14 ?l14 ?c14 ?k14 ?a15 ?l15 ?c15 ?k15 ?a16 ?l16 ?c16 ?k16 ?z_len ?z_range ?z_list ?z_isinstance ?z_int ?z_tuple ?z_bool ?z_str ?z_sum ?z_all
    (case a0 => k_is)
    (case l0 => k_is)
    (case c0 => k_is)
    (case k0 => k_is)
    (case a1 => k_is)
    (case l1 => k_is)
    (case c1 => k_is)
    (case k1 => k_is)
    (case a2 => k_is)
    (case l2 => k_is)
    (case c2 => k_is)
    (case k2 => k_is)
    (case a3 => k_is)
    (case l3 => k_is)
    (case c3 => k_is)
    (case k3 => k_is)
    (case a4 => k_is)
    (case l4 => k_is)
    (case c4 => k_is)
    (case k4 => k_is)
    (case a5 => k_is)
    (case l5 => k_is)
    (case c5 => k_is)
    (case k5 => k_is)
    (case a6 => k_is)
    (case l6 => k_is)
    (case c6 => k_is)
    (case k6 => k_is)
    (case a7 => k_is)
    (case l7 => k_is)
    (case c7 => k_is)
    (case k7 => k_is)
    (case a8 => k_is)
    (case l8 => k_is)
    (case c8 => k_is)
    (case k8 => k_is)
    (case a9 => k_is)
    (case l9 => k_is)
    (case c9 => k_is)
    (case k9 => k_is)
    (case a10 => k_is)
    (case l10 => k_is)
    (case c10 => k_is)
    (case k10 => k_is)
    (case a11 => k_is)
    (case l11 => k_is)
    (case c11 => k_is)
    (case k11 => k_is)
    (case a12 => k_is)
    (case l12 => k_is)
    (case c12 => k_is)
    (case k12 => k_is)
    (case a13 => k_is)
    (case l13 => k_is)
    (case c13 => k_is)
    (case k13 => k_is)
    (case a14 => k_is)
    (case l14 => k_is)
    (case c14 => k_is)
    (case k14 => k_is)
    (case a15 => k_is)
    (case l15 => k_is)
    (case c15 => k_is)
    (case k15 => k_is)
    (case a16 => k_is)
    (case l16 => k_is)
    (case c16 => k_is)
    (case k16 => k_is)
    (case z_len => k_is)
    (case z_range => k_is)
    (case z_list => k_is)
    (case z_isinstance => k_is)
    (case z_int => k_is)
    (case z_tuple => k_is)
    (case z_bool => k_is)
    (case z_str => k_is)
    (case z_sum => k_is)
    (case z_all => k_is)
