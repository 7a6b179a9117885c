import PyProof.Rows.All
import Wide.All
import OpenK.AllK
import Wide.FinOn
import Lean
import PyProof.EqAt
import PyProof.EqKinds
import PyProof.TupleCall
import PyProof.NeData
import PyProof.StrWalks
import PyProof.MeetsStr
import PyProof.Draws
import PyProof.EnumMake
import PyProof.Rows.Range3
import PyProof.AttrMissHeap
import PyProof.CollectWalk
import PyProof.TupleIter
import KE.KDictOf
import KE.KEqDict
import OpenK.KOwn
import KE.KTryOn
import PyProof.NsDelKeeps
import PyProof.ExcClass3
import PyProof.DictWalks
import PyProof.ListMulRoad
import PyProof.StrOps2
import PyProof.StrBlockG
import PyProof.ListStr
import PyProof.Rows.SortStr
import PyProof.ExcArgsOwn
import KE.KIsAll
import PyProof.ExcAttrAll.ValueError
import PyProof.Rows.SortShell
import PyProof.DictItems
import PyProof.CallFns
import PyProof.Conv_int
import PyProof.StrLawsIdx
import PyProof.StrLawsIn
import PyProof.Rows.StrSliceCases
import PySem.Challenge.RW_gatetown_k40_expressions_read
-- CHANGE: your row's module here, as the last of these rows
set_option Elab.async false
set_option linter.all false
set_option maxRecDepth 100000
/-! THE HAND LAYER, for ints, bools, texts, own classes, LISTS and tuples (index, slices, in, append, pop ..), calls, loops. Paste it whole ahead of your own text; what your proof does not reach may be deleted. -/
namespace L2
open PySem PySem.Spec PyProof.Rows

/-- a key: an int or a str -/
abbrev Key := Sum Int Str
def keyIs : Key → Value → Bool
  | .inl k, v => Value.isInt k v
  | .inr x, v => Value.isStrOf x v
def keyH (w : World) : Key → Int
  | .inl k => hashInt k
  | .inr x => hashStr w x
theorem keyIs_shape : ∀ {k : Key} {v : Value}, keyIs k v = true → (∃ i t, k = Sum.inl i ∧ v = Value.int i t) ∨ (∃ x t, k = Sum.inr x ∧ v = Value.str x t)
  | .inl i, v, h => by
    obtain ⟨t, e⟩ := Value.isInt_shape (k := i) (v := v) h
    exact .inl ⟨i, t, rfl, e⟩
  | .inr x, v, h => by
    obtain ⟨t, e⟩ := Value.isStrOf_shape (x := x) (v := v) h
    exact .inr ⟨x, t, rfl, e⟩
theorem key_ll (a b : Int) : decide ((Sum.inl a : Key) = Sum.inl b) = (a == b) := by
  by_cases e : a = b
  · subst e; simp
  · have h : ¬ (Sum.inl a : Key) = Sum.inl b := fun q => e (Sum.inl.inj q)
    rw [decide_eq_false h]
    exact (beq_eq_false_iff_ne.mpr e).symm
theorem key_rr (a b : Str) : decide ((Sum.inr a : Key) = Sum.inr b) = decide (a = b) := by
  by_cases e : a = b
  · subst e; simp
  · have h : ¬ (Sum.inr a : Key) = Sum.inr b := fun q => e (Sum.inr.inj q)
    rw [decide_eq_false h, decide_eq_false e]
theorem key_lr (a : Int) (b : Str) : decide ((Sum.inl a : Key) = Sum.inr b) = false := decide_eq_false (fun q => nomatch q)
theorem key_rl (a : Str) (b : Int) : decide ((Sum.inr a : Key) = Sum.inl b) = false := decide_eq_false (fun q => nomatch q)

def mixKind (prog : Program) (w : World) : PySem.KeyKind prog w Key where
  is := keyIs
  hash := keyH w
  inj := fun v a b ha hb => by
    rcases keyIs_shape ha with ⟨i, t, rfl, rfl⟩ | ⟨x, t, rfl, rfl⟩
    · rcases keyIs_shape hb with ⟨j, u, rfl, e⟩ | ⟨y, u, rfl, e⟩
      · injection e with e1 _; rw [e1]
      · exact nomatch e
    · rcases keyIs_shape hb with ⟨j, u, rfl, e⟩ | ⟨y, u, rfl, e⟩
      · exact nomatch e
      · injection e with e1 _; rw [e1]
  byValue := fun k v h => by
    rcases keyIs_shape h with ⟨i, t, rfl, rfl⟩ | ⟨x, t, rfl, rfl⟩ <;> rfl
  pyHash := fun hv h => by
    rcases keyIs_shape hv with ⟨i, t, rfl, rfl⟩ | ⟨x, t, rfl, rfl⟩
    · exact wpAny_pyHash_int h
    · exact wpAny_pyHash_str h
  eqBool := fun hu hv h => by
    rcases keyIs_shape hu with ⟨i, t, rfl, rfl⟩ | ⟨x, t, rfl, rfl⟩
    · rcases keyIs_shape hv with ⟨j, u, rfl, rfl⟩ | ⟨y, u, rfl, rfl⟩
      · rw [key_ll] at h; exact wpAny_eqBool_int h
      · rw [key_lr] at h; exact SeqAt.EqAt.int_str i t y u _ _ _ _ h
    · rcases keyIs_shape hv with ⟨j, u, rfl, rfl⟩ | ⟨y, u, rfl, rfl⟩
      · rw [key_rl] at h; exact SeqAt.EqAt.str_int x t j u _ _ _ _ h
      · rw [key_rr] at h; exact wpAny_eqBool_str h
  «strs» := fun k x t v h => by
    rcases keyIs_shape h with ⟨i, u, rfl, e⟩ | ⟨y, u, rfl, e⟩
    · exact nomatch e
    · injection e with e1 _
      subst e1
      cases v <;> rfl

end L2

namespace L2
open PySem PySem.Spec PyProof.Rows

/-- a value, without the heap -/
inductive V where
  | non | bl (b : Bool) | int (i : Int) | str (x : Str) | byt (b : Array UInt8) | flt (b : UInt64) | ref (a : Addr) | ty (n : String)
  deriving DecidableEq

def RelV : V → Value → Prop
  | .non, u => u = Value.none
  | .bl b, u => u = Value.bool b
  | .int i, u => ∃ t, u = Value.int i t
  | .str x, u => ∃ t, u = Value.str x t
  | .byt b, u => ∃ t, u = Value.bytes b t
  | .flt b, u => ∃ t, u = Value.float b t
  | .ref a, u => u = Value.ref a
  | .ty n, u => u = Value.type n

abbrev Vals : List V → List Value → Prop := Paired RelV
theorem Vals.length {xs : List V} {us : List Value} (r : Vals xs us) : xs.length = us.length := Paired.length r
theorem Vals.get : ∀ {xs : List V} {us : List Value} {i : Nat} {x : V}, Vals xs us → xs[i]? = some x → ∃ u, us[i]? = some u ∧ RelV x u
  | _, _, _, _, .nil, e => by simp at e
  | _, _, 0, _, .cons r _, e => by simp at e; subst e; exact ⟨_, rfl, r⟩
  | _, _, i + 1, x, .cons _ t, e => by
    obtain ⟨u, h1, h2⟩ := Vals.get (i := i) (x := x) t (by simpa using e)
    exact ⟨u, by simpa using h1, h2⟩
theorem Vals.set {x : V} {u : Value} (r : RelV x u) : ∀ {xs : List V} {us : List Value} (i : Nat), Vals xs us → Vals (xs.set i x) (us.set i u)
  | _, _, _, .nil => .nil
  | _, _, 0, .cons _ t => .cons r t
  | _, _, i + 1, .cons q t => .cons q (Vals.set r i t)
theorem Vals.append : ∀ {xs ys : List V} {us ws : List Value}, Vals xs us → Vals ys ws → Vals (xs ++ ys) (us ++ ws)
  | _, _, _, _, .nil, s => s
  | _, _, _, _, .cons r t, s => .cons r (Vals.append t s)
theorem Vals.take : ∀ {xs : List V} {us : List Value} (n : Nat), Vals xs us → Vals (xs.take n) (us.take n)
  | _, _, 0, _ => .nil
  | _, _, _ + 1, .nil => .nil
  | _, _, n + 1, .cons r t => .cons r (Vals.take n t)
theorem Vals.drop : ∀ {xs : List V} {us : List Value} (n : Nat), Vals xs us → Vals (xs.drop n) (us.drop n)
  | _, _, 0, r => r
  | _, _, _ + 1, .nil => .nil
  | _, _, n + 1, .cons _ t => Vals.drop n t

def RelO : Option V → Option Value → Prop
  | some v, some u => RelV v u
  | none, none => True
  | _, _ => False
def KV {κ : Type} : List (κ × V) → List (κ × Value) → Prop := Paired fun (p : κ × V) (q : κ × Value) => p.1 = q.1 ∧ RelV p.2 q.2

/-- a key of a dict (00_mix): an int or a text -/
def kV : Key → V
  | .inl i => .int i
  | .inr x => .str x

/-- what stands at a tracked address -/
inductive HO where
  /-- a list -/
  | lst (xs : List V)
  /-- a tuple (never changes) -/
  | tup (xs : List V)
  /-- a dict whose keys are ints and texts; one whose keys are tuples of ints and texts (the empty one is both) -/
  | dK (kvs : List (Key × V)) | dT (kvs : List (List Key × V))
  /-- a set of ints: its members, its size -/
  | set (S : Int → Bool) (n : Nat)
  /-- an instance of the class at C, its dict at dx, its attributes -/
  | ins (C dx : Addr) (fs : List (Str × V))
  /-- the dict of the instance at x -/
  | own (x : Addr)
  /-- the dict of an exception -/
  | xd (fs : List (Str × V))
  /-- a bound method, f of x -/
  | met (f x : Addr)
  /-- a range object lo, lo + 1, .. below hi -/
  | rng (lo hi : Int)
  /-- a thing that is known to the object (the script; a dict while a loop walks it): read, never written while it is so -/
  | frz (o : Obj) (u : HO)
  /-- a code object's table -/
  | tbl (ps : Array Value)
  /-- any other thing, by what is true of its one object (a def of one's own: SetO a S n := HO.ext fun h => ..) -/
  | ext (φ : Heap → Prop)

abbrev Hp := Addr → Option HO
def upd (H : Hp) (a : Addr) (o : HO) : Hp := fun b => if b = a then some o else H b
theorem upd_same {H : Hp} {a : Addr} {o : HO} : upd H a o a = some o := by unfold upd; rw [if_pos rfl]
theorem upd_ne {H : Hp} {a b : Addr} {o : HO} (h : b ≠ a) : upd H a o b = H b := by unfold upd; rw [if_neg h]
theorem upd_upd {H : Hp} {a : Addr} {o u : HO} : upd (upd H a o) a u = upd H a u := by
  funext b; unfold upd; split <;> rfl
/-- two objects of different content stand apart -/
theorem ne_of {H : Hp} {a b : Addr} {o u : HO} (h : H a = some o) (h' : H b = some u) (d : o ≠ u) : a ≠ b := by
  intro e; subst e; rw [h] at h'; exact d (Option.some.inj h')
theorem ne_of_none {H : Hp} {a b : Addr} {o : HO} (h : H a = some o) (h' : H b = none) : a ≠ b := by
  intro e; subst e; rw [h] at h'; cases h'

section
variable (P : Program) (w : World)
def ObjOk (H : Hp) (h : Heap) (a : Addr) : HO → Prop
  | .lst xs => xs.length ≤ sizeLine ∧ ∃ (its : List Value) (n : Nat), Vals xs its ∧ h.get? a = some { cls := .type "list", data := .seq its.toArray n }
  | .tup xs => xs.length ≤ sizeLine ∧ ∃ its : List Value, Vals xs its ∧ IsTup h a its.toArray
  | .dK kvs => kvs.length ≤ sizeLine ∧ (a == sysModules) = false ∧ ∃ vs, KV kvs vs ∧ h.DictOf (mixKind P w) a vs
  | .dT kvs => kvs.length ≤ sizeLine ∧ (a == sysModules) = false ∧ ∃ xs : List (List Key × Addr × Value),
      Paired (fun (p : List Key × V) (q : List Key × Addr × Value) => p.1 = q.1 ∧ H q.2.1 = some (.tup (p.1.map kV)) ∧ RelV p.2 q.2.2) kvs xs ∧
      ∃ o es ep, h.get? a = some o ∧ o.ExactDict ∧ o.data = .dict es ep ∧ es.toList = xs.map (entryOfKey (tupleKind (mixKind P w))) ∧ (xs.map (·.1)).Nodup
  | .set S n => h.SetOf (intKind P w) a S n
  | .ins C dx fs => H dx = some (.own a) ∧ fs.length ≤ 1000 ∧ dx ≠ a ∧ h.get? a = some (PySem.W.instObj C dx) ∧
      ∃ mA, h.Ns1 dx mA ∧ (∀ f, RelO (fs.lookup f) (mA f)) ∧ PySem.Within mA (fs.map (·.1))
  | .own _ => ∃ o, h.get? a = some o
  | .xd fs => ∃ mA, h.Ns1 a mA ∧ ∀ f, RelO (fs.lookup f) (mA f)
  | .rng lo hi => ∃ t u v, h.get? a = some { cls := .type "range", data := .fields #[.int lo t, .int hi u, .int 1 v] }
  | .frz o u => h.get? a = some o ∧ ObjOk H h a u
  | .tbl ps => h.get? a = some { cls := .none, data := .fields ps }
  | .met f x => h.get? a = some (PySem.W.methodObj (.ref f) (.ref x))
  | .ext φ => φ h ∧ (∃ o, h.get? a = some o) ∧ ∀ h1 h2 : Heap, φ h1 → (∀ o, h1.get? a = some o → h2.get? a = some o) → φ h2
/-- the abstract heap is held -/
def HOk (H : Hp) (h : Heap) : Prop := ∀ a o, H a = some o → ObjOk P w H h a o
end

section
variable {P : Program} {w : World} {H H' : Hp} {h h' : Heap} {a : Addr} {o : HO}
theorem ObjOk.lt (x : ObjOk P w H h a o) : a < h.objs.size := by
  cases o with
  | lst xs => obtain ⟨_, _, _, _, e⟩ := x; exact Heap.lt_size e
  | tup xs => obtain ⟨_, _, _, p⟩ := x; exact p.lt
  | dK kvs => obtain ⟨_, _, _, _, o, _, _, e, _⟩ := x; exact Heap.lt_size e
  | dT kvs => obtain ⟨_, _, _, _, o, _, _, e, _⟩ := x; exact Heap.lt_size e
  | set S n => obtain ⟨o, _, _, _, e, _⟩ := x; exact Heap.lt_size e
  | ins C dx fs => obtain ⟨_, _, _, e, _⟩ := x; exact Heap.lt_size e
  | own y => obtain ⟨_, e⟩ := x; exact Heap.lt_size e
  | xd fs => obtain ⟨_, ⟨_, _, _, e, _⟩, _⟩ := x; exact Heap.lt_size e
  | rng lo hi => obtain ⟨_, _, _, e⟩ := x; exact Heap.lt_size e
  | frz ob u => obtain ⟨e, _⟩ := x; exact Heap.lt_size e
  | tbl ps => exact Heap.lt_size (show h.get? a = some _ from x)
  | met f y => exact Heap.lt_size (show h.get? a = some _ from x)
  | ext φ => obtain ⟨_, ⟨_, e⟩, _⟩ := x; exact Heap.lt_size e
theorem Paired.mapP {α β : Type} {F G : α → β → Prop} : ∀ {l₁ : List α} {l₂ : List β}, Paired F l₁ l₂ → (∀ a b, F a b → G a b) → Paired G l₁ l₂
  | _, _, .nil, _ => .nil
  | _, _, .cons r t, f => .cons (f _ _ r) (Paired.mapP t f)
/-- what an object's description leans on: its own object, its own dict, the tuples -/
theorem ObjOk.stay (x : ObjOk P w H h a o) (k : ∀ b u, (b = a ∨ H b = some (.own a)) → h.get? b = some u → h'.get? b = some u)
    (ho : ∀ b, H b = some (.own a) → H' b = some (.own a)) (ht : ∀ b xs, H b = some (.tup xs) → H' b = some (.tup xs)) : ObjOk P w H' h' a o := by
  induction o with
  | lst xs => obtain ⟨z, its, n, r, e⟩ := x; exact ⟨z, its, n, r, k _ _ (.inl rfl) e⟩
  | tup xs => obtain ⟨z, its, r, ob, e, c⟩ := x; exact ⟨z, its, r, ob, k _ _ (.inl rfl) e, c⟩
  | dK kvs => obtain ⟨z, y, vs, r, ob, es, ep, e, c⟩ := x; exact ⟨z, y, vs, r, ob, es, ep, k _ _ (.inl rfl) e, c⟩
  | dT kvs =>
    obtain ⟨z, y, xs, r, ob, es, ep, e, c⟩ := x
    exact ⟨z, y, xs, Paired.mapP r fun p q z => ⟨z.1, ht _ _ z.2.1, z.2.2⟩, ob, es, ep, k _ _ (.inl rfl) e, c⟩
  | set S n => obtain ⟨ob, es, ep, t, e, c⟩ := x; exact ⟨ob, es, ep, t, k _ _ (.inl rfl) e, c⟩
  | ins C dx fs =>
    obtain ⟨d, z, ne, e, mA, ⟨od, es, ep, e2, c⟩, r⟩ := x
    exact ⟨ho _ d, z, ne, k _ _ (.inl rfl) e, mA, ⟨od, es, ep, k _ _ (.inr d) e2, c⟩, r⟩
  | own y => obtain ⟨ob, e⟩ := x; exact ⟨ob, k _ _ (.inl rfl) e⟩
  | xd fs => obtain ⟨mA, ⟨od, es, ep, e, c⟩, r⟩ := x; exact ⟨mA, ⟨od, es, ep, k _ _ (.inl rfl) e, c⟩, r⟩
  | rng lo hi => obtain ⟨t, u, v, e⟩ := x; exact ⟨t, u, v, k _ _ (.inl rfl) e⟩
  | frz ob u ih => obtain ⟨e, q⟩ := x; exact ⟨k _ _ (.inl rfl) e, ih q⟩
  | tbl ps =>
    have e : h.get? a = some { cls := .none, data := .fields ps } := x
    show h'.get? a = some { cls := .none, data := .fields ps }
    exact k a _ (.inl rfl) e
  | met f y =>
    have e : h.get? a = some (PySem.W.methodObj (.ref f) (.ref y)) := x
    show h'.get? a = some (PySem.W.methodObj (.ref f) (.ref y))
    exact k a _ (.inl rfl) e
  | ext φ => obtain ⟨p, ⟨o, e⟩, st⟩ := x; exact ⟨st _ _ p fun o q => k _ _ (.inl rfl) q, ⟨o, k _ _ (.inl rfl) e⟩, st⟩
theorem HOk.lt (x : HOk P w H h) (e : H a = some o) : a < h.objs.size := (x a o e).lt
theorem HOk.fresh (x : HOk P w H h) (e : h.objs.size ≤ a) : H a = none := by
  cases q : H a with
  | none => rfl
  | some u => exact absurd (Nat.lt_of_lt_of_le (x.lt q) e) (Nat.lt_irrefl _)
/-- every object of the heap is kept -/
theorem HOk.kept (x : HOk P w H h) (k : ∀ b u, h.get? b = some u → h'.get? b = some u) : HOk P w H h' := fun a o e =>
  (x a o e).stay (fun b u _ q => k b u q) (fun _ q => q) fun _ _ q => q
/-- a new object is laid and tracked -/
theorem HOk.laid (x : HOk P w H h) (k : ∀ b u, h.get? b = some u → h'.get? b = some u) (hp : h.objs.size ≤ a) (new : ObjOk P w (upd H a o) h' a o) : HOk P w (upd H a o) h' := fun b u e => by
  have hn := x.fresh hp
  by_cases hb : b = a
  · subst hb; rw [upd_same] at e; cases e; exact new
  · rw [upd_ne hb] at e
    exact (x b u e).stay (fun c v _ q => k c v q) (fun c q => by rw [upd_ne (ne_of_none q hn)]; exact q) fun c xs q => by rw [upd_ne (ne_of_none q hn)]; exact q
end

/-- what may be read as u: it is u, or a known u -/
def Rd (H : Hp) (a : Addr) (u : HO) : Prop := H a = some u ∨ ∃ o, H a = some (.frz o u)
theorem Rd.ok {P : Program} {w : World} {H : Hp} {h : Heap} {a : Addr} {u : HO} (r : Rd H a u) (x : HOk P w H h) : ObjOk P w H h a u := by
  rcases r with r | ⟨o, r⟩
  · exact x a u r
  · obtain ⟨_, q⟩ := x a _ r
    exact q
/-- what may be written -/
def Mut : Option HO → Prop
  | some (.lst _) => True
  | some (.dK _) => True
  | some (.dT _) => True
  | some (.set _ _) => True
  | some (.ins _ _ _) => True
  | some (.ext _) => True
  | _ => False
section
variable {P : Program} {w : World} {H : Hp} {h h' : Heap} {x e : Addr} {o' : HO}
/-- the object at e is changed: x itself, or the dict of the instance x -/
theorem HOk.write (ok : HOk P w H h) (mu : Mut (H x)) (he : e = x ∨ H e = some (.own x)) (k : ∀ b u, b ≠ e → h.get? b = some u → h'.get? b = some u) (heo : ∃ u, h'.get? e = some u)
    (new : ObjOk P w (upd H x o') h' x o') : HOk P w (upd H x o') h' := fun b u q => by
  have nown : ∀ c y, H c = some (.own y) → c ≠ x := fun c y r z => by subst z; rw [r] at mu; exact mu
  have ntup : ∀ c xs, H c = some (.tup xs) → c ≠ x := fun c xs r z => by subst z; rw [r] at mu; exact mu
  by_cases hb : b = x
  · subst hb; rw [upd_same] at q; cases q; exact new
  · rw [upd_ne hb] at q
    by_cases hbe : b = e
    · have q' : H b = some (.own x) := by
        rcases he with z | z
        · exact absurd (hbe.trans z) hb
        · rw [hbe]; exact z
      rw [q] at q'; cases q'
      obtain ⟨v, hv⟩ := heo
      exact ⟨v, by rw [hbe]; exact hv⟩
    · refine (ok b u q).stay (fun c v hc r => k c v ?_ r) (fun c r => by rw [upd_ne (nown c b r)]; exact r) fun c xs r => by rw [upd_ne (ntup c xs r)]; exact r
      rcases hc with rfl | hc
      · exact hbe
      · rintro rfl
        rcases he with z | z
        · exact nown c b hc z
        · rw [hc] at z; cases z; exact hb rfl
end

/-! ### kept unless tracked; of the frames at fs (the callers') the slots may change (an exception that passes writes there); of the records at ex (iterators) nothing is said -/
structure Un (fs ex : List Addr) (H H' : Hp) (h h' : Heap) : Prop where
  keep : ∀ b o, h.get? b = some o → H b = none → b ∉ fs → b ∉ ex → h'.get? b = some o
  slot : ∀ b o, h.get? b = some o → H b = none → b ∈ fs → b ∉ ex → ∃ sl, h'.get? b = some { o with slots := sl }
  free : ∀ b o, h.get? b = some o → H b = none → b ∉ ex → H' b = none
  there : ∀ b o, h.get? b = some o → b ∉ ex → ∃ o', h'.get? b = some o'
  tups : ∀ b xs, H b = some (.tup xs) → H' b = some (.tup xs)
  frzs : ∀ b o u, H b = some (.frz o u) → H' b = some (.frz o u)
  tbls : ∀ b ps, H b = some (.tbl ps) → ∃ more, H' b = some (.tbl (ps ++ more))
section
variable {fs fs' ex ex' : List Addr} {H H1 H2 : Hp} {h h1 h2 h' : Heap} {a x e : Addr} {o : HO}
theorem Un.any (u : Un fs ex H H1 h h1) {b : Addr} {ob : Obj} (q : h.get? b = some ob) (n : H b = none) (hx : b ∉ ex) : ∃ sl, h1.get? b = some { ob with slots := sl } := by
  by_cases hb : b ∈ fs
  · exact u.slot b ob q n hb hx
  · exact ⟨ob.slots, u.keep b ob q n hb hx⟩
theorem Un.kept (k : ∀ b u, h.get? b = some u → h'.get? b = some u) : Un fs ex H H h h' :=
  ⟨fun b ob q _ _ _ => k b ob q, fun b ob q _ _ _ => ⟨ob.slots, k b ob q⟩, fun _ _ _ n _ => n, fun b ob q _ => ⟨ob, k b ob q⟩, fun _ _ q => q, fun _ _ _ q => q, fun _ ps q => ⟨#[], by rw [q]; simp⟩⟩
theorem Un.refl : Un fs ex H H h h := Un.kept fun _ _ q => q
theorem Un.laid (k : ∀ b u, h.get? b = some u → h'.get? b = some u) (hp : h.objs.size ≤ a) (hn : H a = none) : Un fs ex H (upd H a o) h h' where
  keep := fun b u q _ _ _ => k b u q
  slot := fun b u q _ _ _ => ⟨u.slots, k b u q⟩
  free := fun b u q n _ => by rw [upd_ne (Nat.ne_of_lt (Nat.lt_of_lt_of_le (Heap.lt_size q) hp))]; exact n
  there := fun b u q _ => ⟨u, k b u q⟩
  tups := fun b xs q => by rw [upd_ne (ne_of_none q hn)]; exact q
  frzs := fun b u xs q => by rw [upd_ne (ne_of_none q hn)]; exact q
  tbls := fun b ps q => ⟨#[], by rw [upd_ne (ne_of_none q hn), q]; simp⟩
theorem Un.write (mu : Mut (H x)) (he : e = x ∨ H e = some (.own x)) (k : ∀ b u, b ≠ e → h.get? b = some u → h'.get? b = some u) (heo : ∃ u, h'.get? e = some u) : Un fs ex H (upd H x o) h h' := by
  have hx : ∀ b, H b = none → b ≠ x := fun b n z => by subst z; rw [n] at mu; exact mu
  have hb : ∀ b, H b = none → b ≠ e := fun b n z => by
    subst z
    rcases he with r | r
    · exact hx b n r
    · rw [n] at r; cases r
  have hm : ∀ b u, H b = some u → ¬ Mut (some u) → b ≠ x := fun b u q nm z => by subst z; rw [q] at mu; exact nm mu
  refine ⟨fun b u q n _ _ => k b u (hb b n) q, fun b u q n _ _ => ⟨u.slots, k b u (hb b n) q⟩, fun b u q n _ => by rw [upd_ne (hx b n)]; exact n, fun b u q _ => ?_,
    fun b xs q => by rw [upd_ne (hm b _ q fun z => z)]; exact q, fun b u xs q => by rw [upd_ne (hm b _ q fun z => z)]; exact q, fun b ps q => ⟨#[], by rw [upd_ne (hm b _ q fun z => z), q]; simp⟩⟩
  by_cases hbe : b = e
  · subst hbe; exact heo
  · exact ⟨u, k b u hbe q⟩
end

/-! ### the heap without what is tracked -/
def trk (h : Heap) (H : Hp) : List Addr := (List.range h.objs.size).filter fun a => (H a).isSome
def hidT (h : Heap) (H : Hp) : Heap := PySem.W.hideAll h (trk h H)
theorem hidT_size (h : Heap) (H : Hp) : (hidT h H).objs.size = h.objs.size := PySem.W.hideAll_size _ _
theorem hidT_get {h : Heap} {H : Hp} {b : Addr} {o : Obj} (e : h.get? b = some o) (n : H b = none) : (hidT h H).get? b = some o :=
  PySem.W.hideAll_get _ e fun hm => by
    have q : (H b).isSome = true := (List.mem_filter.mp hm).2
    rw [n] at q; simp at q
theorem of_hidT {h : Heap} {H : Hp} {b : Addr} {o : Obj} (e : (hidT h H).get? b = some o) : h.get? b = some o ∧ H b = none := by
  have e' : h.get? b = some o := PySem.W.of_hideAll (trk h H) e
  refine ⟨e', ?_⟩
  cases q : H b with
  | none => rfl
  | some x =>
    have hm : b ∈ trk h H := List.mem_filter.mpr ⟨List.mem_range.mpr (Heap.lt_size e'), by simp [q]⟩
    have z : (hidT h H).get? b = none := PySem.W.hideAll_none (trk h H) hm
    rw [z] at e; cases e

/-! ### OpenK's ledger, filled with every new object but one -/
end L2

namespace L2
open PySem PySem.Spec PyProof.Rows

/-- the module's facts, over the base: the heap at the law's entry without what is tracked there -/
structure Mod (K : PySem.W.Frag) (mg : Str → Option Value) (base : Heap) : Prop where
  kin : K.In base
  glob : base.Ns mainGlobals mg
  blt : ∃ mb, base.Ns builtinsNs mb ∧ ∀ x : Str, x ≠ "__name__" → mb x = bootBuiltins x
  nolimit : base.NoLimit

/-- the context: a def's body (or a comprehension's block) running. base: fixed through the whole law; s₀, H₀: the entry; outer: the frames whose slots others may change (a def's callers); stack: all frames that run;
   ex: iterators that were made ahead of the entry and are walked here (a comprehension's); fn: the names whose cells were made at the entry (a def: all; a comprehension's block: its own); calm: not within an except suite; pn: pins that every state bears; xe: what is wanted of an exception that leaves the code -/
structure Cx where
  prog : Program
  w : World
  K : PySem.W.Frag
  mg : Str → Option Value
  base : Heap
  A : Around
  N : List Str
  s₀ : Shared
  H₀ : Hp
  env : Env
  outer : List Env
  stack : List Env
  ex : List Addr
  fn : Str → Bool
  calm : Bool
  pn : List (Addr × Obj)
  xe : Value → Shared → Prop
/-- the callers' frames -/
def frs (l : List Env) : List Addr := l.filterMap (·.frame)
abbrev Cx.fs (X : Cx) : List Addr := frs X.outer

def Vis (sc : Scope) (x : Str) : Prop := sc.names.lookup x = some .local ∨ sc.names.lookup x = some .cell ∨ sc.names.lookup x = some .free
def Loc (sc : Scope) (x : Str) : Prop := sc.names.lookup x = some .local ∨ sc.names.lookup x = some .cell
def Look (env : Env) (h : Heap) (m : Str → Option Value) (x : Str) (u : Value) : Prop :=
  (env.kindOf x = some .local ∧ m x = some u) ∨ ((env.kindOf x = some .cell ∨ env.kindOf x = some .free) ∧ ∃ c, env.cells.lookup x = some c ∧ h.IsCell c (some u))

structure Cx.Ok (X : Cx) : Prop where
  mod : Mod X.K X.mg X.base
  kind : X.env.scope.kind = .function
  glob : X.env.globals = mainGlobals
  blt : X.env.builtins = builtinsNs
  above : X.s₀.heap.objs.size ≤ X.env.locals
  inj : ∀ x y c, X.env.cells.lookup x = some c → X.env.cells.lookup y = some c → x = y
  has : ∀ x, (X.env.kindOf x = some .cell ∨ X.env.kindOf x = some .free) → ∃ c, X.env.cells.lookup x = some c
  cab : ∀ x c, X.fn x = true → X.env.cells.lookup x = some c → X.s₀.heap.objs.size ≤ c
  hd : X.calm = true → X.A.handled = none
  frames : X.A.frames = some X.stack
  stk : X.stack = X.outer ∨ (X.stack = X.env :: X.outer ∧ X.env.frame = some X.env.locals)
  exf : ∀ b ∈ X.ex, b ≠ X.env.locals ∧ ∀ x c, X.env.cells.lookup x = some c → c ≠ b
  bs : ∀ b o, X.base.get? b = some o → X.s₀.heap.get? b = some o ∧ X.H₀ b = none
  bsz : X.base.objs.size ≤ X.s₀.heap.objs.size
  noex : ∀ b o, X.base.get? b = some o → b ∉ X.ex
  exfs : ∀ b ∈ X.ex, b ∉ X.fs
  funs : X.s₀.heap.FunFrames X.base X.outer
  frf : ∀ b ∈ X.fs, X.H₀ b = none

structure Inv (X : Cx) (pins : List (Addr × Obj)) (σ : List (Option V)) (H : Hp) (s : Shared) : Prop where
  ok : X.Ok
  os : s.os = X.s₀.os
  bare : AllBare s.gens
  base : Un X.fs X.ex X.H₀ H X.s₀.heap s.heap
  loc : ∃ m, s.heap.Ns X.env.locals m ∧ ∀ (i : Nat) (x : Str) (v : V), X.N[i]? = some x → σ[i]? = some (some v) → Vis X.env.scope x → ∃ u, RelV v u ∧ Look X.env s.heap m x u
  cell : ∀ x c, X.env.cells.lookup x = some c → ∃ v, s.heap.IsCell c v
  free : H X.env.locals = none
  freeC : ∀ x c, X.env.cells.lookup x = some c → H c = none
  pin : ∀ p ∈ X.pn ++ pins, s.heap.get? p.1 = some p.2 ∧ H p.1 = none ∧ p.1 ≠ X.env.locals ∧ p.1 ∉ X.fs ∧ ∀ v, p.2.data ≠ .cell v
  hok : HOk X.prog X.w H s.heap
  len : σ.length = X.N.length

section
variable {X : Cx} {pins : List (Addr × Obj)} {σ : List (Option V)} {H H' : Hp} {s : Shared} {h' : Heap}

theorem Cx.Ok.nofr (ok : X.Ok) {b : Addr} {o : Obj} (e : X.base.get? b = some o) : b ∉ X.fs := fun hb => by
  have := (ok.funs.mem hb).1
  rw [e] at this; cases this
theorem Inv.bs (I : Inv X pins σ H s) : ∀ b o, X.base.get? b = some o → s.heap.get? b = some o ∧ H b = none := fun b o e =>
  ⟨I.base.keep b o (I.ok.bs b o e).1 (I.ok.bs b o e).2 (I.ok.nofr e) (I.ok.noex b o e), I.base.free b o (I.ok.bs b o e).1 (I.ok.bs b o e).2 (I.ok.noex b o e)⟩
theorem Inv.bk (I : Inv X pins σ H s) : ∀ b o, X.base.get? b = some o → s.heap.get? b = some o := fun b o e => (I.bs b o e).1
theorem Inv.mod (I : Inv X pins σ H s) : Mod X.K X.mg X.base := I.ok.mod
theorem Inv.kIn (I : Inv X pins σ H s) : X.K.In s.heap := I.ok.mod.kin.keeps I.bk
theorem Inv.lt (I : Inv X pins σ H s) : X.env.locals < s.heap.objs.size := let ⟨_, hn, _⟩ := I.loc; hn.lt
theorem Inv.sz (I : Inv X pins σ H s) : X.s₀.heap.objs.size ≤ s.heap.objs.size := Nat.le_trans I.ok.above (Nat.le_of_lt I.lt)
theorem Inv.nofs (I : Inv X pins σ H s) {a : Addr} (h : s.heap.objs.size ≤ a) : a ∉ X.fs := fun hb => by
  obtain ⟨_, o, ho, _⟩ := I.ok.funs.mem hb
  exact absurd (Nat.lt_of_lt_of_le (Heap.lt_size ho) (Nat.le_trans I.sz h)) (Nat.lt_irrefl _)
theorem Inv.cne (I : Inv X pins σ H s) : ∀ x c, X.env.cells.lookup x = some c → c ≠ X.env.locals := fun x c e z => by
  obtain ⟨v, o, ho, hd⟩ := I.cell x c e
  obtain ⟨m, ⟨o', es, ep, ho', hd', _⟩, _⟩ := I.loc
  rw [z, ho'] at ho; cases ho; rw [hd'] at hd; cases hd
theorem Inv.funs (I : Inv X pins σ H s) : s.heap.FunFrames X.base X.outer := by
  have all : ∀ (l : List Env), (∀ b ∈ frs l, b ∈ X.fs) → X.s₀.heap.FunFrames X.base l → s.heap.FunFrames X.base l := by
    intro l
    induction l with
    | nil => intro _ _; trivial
    | cons env r ih =>
      intro hs hl
      obtain ⟨hk, ⟨L, o, hf, hn, ho, hd⟩, hr⟩ := hl
      have hL : L ∈ X.fs := hs L (by unfold frs; rw [List.filterMap_cons, hf]; exact List.mem_cons_self)
      obtain ⟨sl, e⟩ := I.base.slot L o ho (I.ok.frf L hL) hL fun z => I.ok.exfs L z hL
      exact ⟨hk, ⟨L, _, hf, hn, e, hd⟩, ih (fun b hb => hs b (by unfold frs; rw [List.filterMap_cons, hf]; exact List.mem_cons_of_mem _ hb)) hr⟩
  exact all X.outer (fun _ hb => hb) I.ok.funs

/-- the frames that run, for a call -/
theorem Inv.stack (I : Inv X pins σ H s) : s.heap.FunFrames X.base X.stack := by
  rcases I.ok.stk with e | ⟨e, hf⟩
  · rw [e]; exact I.funs
  · rw [e]
    obtain ⟨m, hn, _⟩ := I.loc
    refine .cons (by rw [I.ok.kind]; decide) hf hn ?_ I.funs
    exact Heap.get?_none_of_le (Nat.le_trans I.ok.bsz I.ok.above)
theorem Inv.stkSub (I : Inv X pins σ H s) : ∀ b ∈ frs X.stack, b ∈ X.env.locals :: X.fs := fun b hb => by
  rcases I.ok.stk with e | ⟨e, hf⟩
  · rw [e] at hb; exact List.mem_cons_of_mem _ hb
  · rw [e] at hb
    unfold frs at hb
    rw [List.filterMap_cons, hf] at hb
    exact hb
theorem Inv.stkFree (I : Inv X pins σ H s) : ∀ b ∈ frs X.stack, H b = none := fun b hb => by
  rcases List.mem_cons.mp (I.stkSub b hb) with e | hb
  · rw [e]; exact I.free
  · obtain ⟨_, o, ho, _⟩ := I.ok.funs.mem hb
    exact I.base.free b o ho (I.ok.frf b hb) fun z => I.ok.exfs b z hb

/-- THE STEP: the untracked objects but the frame and the records at ch are kept (the callers' frames up to slots), the frame's map is kept, the new abstract heap is held -/
theorem Inv.step {g' : Array GenState} {t' : Nat} {d' : Drawn} {ch : List Addr} (I : Inv X pins σ H s)
    (hch : ∀ b ∈ ch, (b ∈ X.ex ∨ X.s₀.heap.objs.size ≤ b) ∧ b ≠ X.env.locals ∧ (∀ x c, X.env.cells.lookup x = some c → c ≠ b) ∧ ∀ p ∈ X.pn ++ pins, p.1 ≠ b)
    (keep : ∀ b o, b ≠ X.env.locals → b ∉ X.fs → b ∉ ch → s.heap.get? b = some o → H b = none → h'.get? b = some o)
    (slot : ∀ b o, b ≠ X.env.locals → b ∈ X.fs → b ∉ ch → s.heap.get? b = some o → H b = none → ∃ sl, h'.get? b = some { o with slots := sl }) (free : ∀ b o, b ∉ ch → s.heap.get? b = some o → H b = none → H' b = none)
    (there : ∀ b o, b ∉ ch → s.heap.get? b = some o → ∃ o', h'.get? b = some o')
    (tups : ∀ b xs, H b = some (.tup xs) → H' b = some (.tup xs)) (frzs : ∀ b o u, H b = some (.frz o u) → H' b = some (.frz o u)) (tbls : ∀ b ps, H b = some (.tbl ps) → ∃ more, H' b = some (.tbl (ps ++ more)))
    (ns : ∀ m, s.heap.Ns X.env.locals m → h'.Ns X.env.locals m) (hok : HOk X.prog X.w H' h') (hg : AllBare g') :
    Inv X pins σ H' { s with heap := h', gens := g', drawn := d', toks := t' } := by
  have neL : ∀ b o, X.s₀.heap.get? b = some o → b ≠ X.env.locals := fun b o e => Nat.ne_of_lt (Nat.lt_of_lt_of_le (Heap.lt_size e) I.ok.above)
  have neC : ∀ b o, X.s₀.heap.get? b = some o → b ∉ X.ex → b ∉ ch := fun b o e hx hb => by
    rcases (hch b hb).1 with z | z
    · exact hx z
    · exact absurd (Nat.lt_of_lt_of_le (Heap.lt_size e) z) (Nat.lt_irrefl _)
  have cellK : ∀ x c, X.env.cells.lookup x = some c → ∀ v, s.heap.IsCell c v → h'.IsCell c v := fun x c e v ⟨o, ho, hd⟩ => by
    have nch : c ∉ ch := fun z => (hch c z).2.2.1 x c e rfl
    by_cases hc : c ∈ X.fs
    · obtain ⟨sl, q⟩ := slot c o (I.cne x c e) hc nch ho (I.freeC x c e)
      exact ⟨_, q, hd⟩
    · exact ⟨o, keep c o (I.cne x c e) hc nch ho (I.freeC x c e), hd⟩
  refine ⟨I.ok, I.os, hg, ⟨fun b o e n hb hx => ?_, fun b o e n hb hx => ?_, fun b o e n hx => ?_, fun b o e hx => ?_, fun b xs e => tups b xs (I.base.tups b xs e), fun b o xs e => frzs b o xs (I.base.frzs b o xs e), fun b ps e => ?_⟩, ?_, fun x c e => ?_, ?_, fun x c e => ?_, fun p hp => ?_, hok, I.len⟩
  · exact keep b o (neL b o e) hb (neC b o e hx) (I.base.keep b o e n hb hx) (I.base.free b o e n hx)
  · obtain ⟨sl, e1⟩ := I.base.slot b o e n hb hx
    obtain ⟨sl', e2⟩ := slot b _ (neL b o e) hb (neC b o e hx) e1 (I.base.free b o e n hx)
    exact ⟨sl', e2⟩
  · obtain ⟨o', e1⟩ := I.base.there b o e hx
    exact free b o' (neC b o e hx) e1 (I.base.free b o e n hx)
  · obtain ⟨o', e1⟩ := I.base.there b o e hx
    exact there b o' (neC b o e hx) e1
  · obtain ⟨m1, e1⟩ := I.base.tbls b ps e
    obtain ⟨m2, e2⟩ := tbls b _ e1
    exact ⟨m1 ++ m2, by rw [e2, Array.append_assoc]⟩
  · obtain ⟨m, hn, hl⟩ := I.loc
    refine ⟨m, ns m hn, fun i x v e1 e2 e3 => ?_⟩
    obtain ⟨u, r, l⟩ := hl i x v e1 e2 e3
    refine ⟨u, r, ?_⟩
    rcases l with l | ⟨k, c, e, z⟩
    · exact .inl l
    · exact .inr ⟨k, c, e, cellK x c e _ z⟩
  · obtain ⟨v, z⟩ := I.cell x c e
    exact ⟨v, cellK x c e v z⟩
  · obtain ⟨m, ⟨o, _, _, ho, _⟩, _⟩ := I.loc
    exact free _ o (fun z => (hch _ z).2.1 rfl) ho I.free
  · obtain ⟨v, o, ho, hd⟩ := I.cell x c e
    exact free c o (fun z => (hch c z).2.2.1 x c e rfl) ho (I.freeC x c e)
  · obtain ⟨e, n, ne, nf, d⟩ := I.pin p hp
    have nch : p.1 ∉ ch := fun z => (hch p.1 z).2.2.2 p hp rfl
    exact ⟨keep p.1 p.2 ne nf nch e n, free p.1 p.2 nch e n, ne, nf, d⟩
/-- .. where the frame's own object is kept too -/
theorem Inv.un {t' : Nat} (I : Inv X pins σ H s) (u : Un X.fs [] H H' s.heap h') (hok : HOk X.prog X.w H' h') : Inv X pins σ H' { s with heap := h', toks := t' } := by
  obtain ⟨m, ⟨o, es, ep, ho, r⟩, _⟩ := id I.loc
  obtain ⟨sl, hL⟩ := u.any ho I.free (by simp)
  exact I.step (g' := s.gens) (d' := s.drawn) (ch := []) (fun _ z => nomatch z) (fun b o _ hb _ e n => u.keep b o e n hb (by simp)) (fun b o _ hb _ e n => u.slot b o e n hb (by simp)) (fun b o _ e n => u.free b o e n (by simp)) (fun b o _ e => u.there b o e (by simp)) u.tups u.frzs u.tbls (fun m' hm => by
    obtain ⟨o', es', ep', ho', r'⟩ := hm
    rw [ho] at ho'; cases ho'
    exact ⟨_, es', ep', hL, r'⟩) hok I.bare
/-- behind a call (or a comprehension's block): the slots of this frame may have changed too, the records at ch may have turned -/
theorem Inv.call {g' : Array GenState} {t' : Nat} {d' : Drawn} {ch : List Addr} (I : Inv X pins σ H s) (u : Un (frs X.stack) ch H H' s.heap h') (hok : HOk X.prog X.w H' h') (hg : AllBare g')
    (hch : ∀ b ∈ ch, (b ∈ X.ex ∨ X.s₀.heap.objs.size ≤ b) ∧ b ≠ X.env.locals ∧ (∀ x c, X.env.cells.lookup x = some c → c ≠ b) ∧ ∀ p ∈ X.pn ++ pins, p.1 ≠ b) :
    Inv X pins σ H' { s with heap := h', gens := g', drawn := d', toks := t' } := by
  obtain ⟨m, ⟨o, es, ep, ho, r⟩, _⟩ := id I.loc
  obtain ⟨sl, hL⟩ := u.any ho I.free fun z => (hch _ z).2.1 rfl
  exact I.step (ch := ch) hch (fun b o hL hb hc e n => u.keep b o e n (fun z => (List.mem_cons.mp (I.stkSub b z)).elim hL hb) hc) (fun b o _ _ hc e n => u.any e n hc) (fun b o hc e n => u.free b o e n hc) (fun b o hc e => u.there b o e hc) u.tups u.frzs u.tbls (fun m' hm => by
    obtain ⟨o', es', ep', ho', r'⟩ := hm
    rw [ho] at ho'; cases ho'
    exact ⟨_, es', ep', hL, r'⟩) hok hg
/-- an untracked record of ours (an iterator) has turned -/
theorem Inv.turned {t' : Nat} {it : Addr} (I : Inv X pins σ H s) (k : ∀ b o, b ≠ it → s.heap.get? b = some o → h'.get? b = some o) (hn : H it = none) (hL : it ≠ X.env.locals)
    (h1 : it ∈ X.ex ∨ X.s₀.heap.objs.size ≤ it) (h2 : ∀ x c, X.env.cells.lookup x = some c → c ≠ it) (h3 : ∀ p ∈ X.pn ++ pins, p.1 ≠ it) : Inv X pins σ H { s with heap := h', toks := t' } := by
  have nit : ∀ b u, H b = some u → b ≠ it := fun b u e z => by rw [z, hn] at e; cases e
  refine I.step (g' := s.gens) (d' := s.drawn) (ch := [it]) (fun b hb => ?_) (fun b o _ _ hc e _ => k b o (fun z => hc (by simp [z])) e) (fun b o _ _ hc e _ => ⟨o.slots, k b o (fun z => hc (by simp [z])) e⟩) (fun _ _ _ _ n => n)
    (fun b o hc e => ⟨o, k b o (fun z => hc (by simp [z])) e⟩) (fun _ _ e => e) (fun _ _ _ e => e) (fun b ps e => ⟨#[], by rw [e]; simp⟩) (fun m hm => ?_) (fun b u e => ?_) I.bare
  · have e : b = it := by simpa using hb
    subst e
    exact ⟨h1, hL, h2, h3⟩
  · obtain ⟨o, es, ep, ho, r⟩ := hm
    exact ⟨o, es, ep, k _ o (Ne.symm hL) ho, r⟩
  · refine (I.hok b u e).stay (fun c v hc q => k c v ?_ q) (fun _ q => q) fun _ _ q => q
    rcases hc with z | z
    · rw [z]; exact nit b u e
    · exact nit c _ z
theorem Inv.tok (I : Inv X pins σ H s) (t : Nat) : Inv X pins σ H { s with toks := t } := I.un (h' := s.heap) (t' := t) Un.refl I.hok
/-- all objects kept -/
theorem Inv.kept {t' : Nat} (I : Inv X pins σ H s) (k : ∀ b u, s.heap.get? b = some u → h'.get? b = some u) : Inv X pins σ H { s with heap := h', toks := t' } := I.un (Un.kept k) (I.hok.kept k)
/-- a new object laid and tracked -/
theorem Inv.laid {a : Addr} {o : HO} {t' : Nat} (I : Inv X pins σ H s) (k : ∀ b u, s.heap.get? b = some u → h'.get? b = some u) (hp : s.heap.objs.size ≤ a) (new : ObjOk X.prog X.w (upd H a o) h' a o) :
    Inv X pins σ (upd H a o) { s with heap := h', toks := t' } := I.un (Un.laid k hp (I.hok.fresh hp)) (I.hok.laid k hp new)
/-- an object written -/
theorem Inv.write {x e : Addr} {o : HO} {t' : Nat} (I : Inv X pins σ H s) (mu : Mut (H x)) (he : e = x ∨ H e = some (.own x)) (k : ∀ b u, b ≠ e → s.heap.get? b = some u → h'.get? b = some u) (heo : ∃ u, h'.get? e = some u)
    (new : ObjOk X.prog X.w (upd H x o) h' x o) : Inv X pins σ (upd H x o) { s with heap := h', toks := t' } := I.un (Un.write mu he k heo) (I.hok.write mu he k heo new)
theorem Inv.pins_of {pins' : List (Addr × Obj)} (I : Inv X pins σ H s) (h : ∀ p ∈ pins', s.heap.get? p.1 = some p.2 ∧ H p.1 = none ∧ p.1 ≠ X.env.locals ∧ p.1 ∉ X.fs ∧ ∀ v, p.2.data ≠ .cell v) : Inv X pins' σ H s :=
  ⟨I.ok, I.os, I.bare, I.base, I.loc, I.cell, I.free, I.freeC, fun p hp => (List.mem_append.mp hp).elim (fun z => I.pin p (List.mem_append_left _ z)) (h p), I.hok, I.len⟩

theorem nodup_ix {N : List Str} (hN : N.Nodup) {i j : Nat} {x : Str} (a : N[i]? = some x) (b : N[j]? = some x) : i = j := by
  obtain ⟨h1, e1⟩ := List.getElem?_eq_some_iff.mp a
  obtain ⟨h2, e2⟩ := List.getElem?_eq_some_iff.mp b
  exact (List.getElem_inj hN).mp (e1.trans e2.symm)

/-- a name is stored; what changed -/
theorem store_ok2 {M : Model} {A : Around} {E : Value → Shared → Prop} {i : Nat} {x : Str} {v : V} {u : Value} {Q : Unit → Shared → Prop} (I : Inv X pins σ H s) (hN : X.N.Nodup) (hi : X.N[i]? = some x) (hx : Loc X.env.scope x) (r : RelV v u)
    (h : ∀ s', Inv X pins (σ.set i (some v)) H s' → (∃ a, Heap.SameBut a s.heap s'.heap ∧ (a = X.env.locals ∨ X.env.cells.lookup x = some a)) → Q () s') (hf : X.fn x = true ∨ X.env.scope.names.lookup x = some .local := by first | exact .inl rfl | exact .inr rfl | assumption) : wpAny M A (storeName X.env x u) Q E s := by
  obtain ⟨m, hn, hl⟩ := id I.loc
  have hcls : (X.env.scope.kind == .class || (X.env.scope.kind == .module && X.env.locals != X.env.globals)) = false := by rw [I.ok.kind]; rfl
  have hiσ : i < σ.length := by rw [I.len]; exact (List.getElem?_eq_some_iff.mp hi).1
  have cne := I.cne
  have tracked : ∀ {a : Addr} {h' : Heap}, (∃ o, s.heap.get? a = some o ∧ H a = none) → Heap.SameBut a s.heap h' → HOk X.prog X.w H h' := fun {a h'} ha hs b ob e => by
    obtain ⟨_, _, hfree⟩ := ha
    refine (I.hok b ob e).stay (fun c w' hc q => (hs.2 c ?_).trans q) (fun _ q => q) fun _ _ q => q
    rintro rfl
    rcases hc with rfl | hc
    · rw [hfree] at e; cases e
    · rw [hfree] at hc; cases hc
  rcases hx with hk | hk
  · refine wpAny_storeName_local hk hn (fun h' hn' hs => ?_) hcls
    obtain ⟨oL, _, _, hoL, _⟩ := id hn
    refine h _ ⟨I.ok, I.os, I.bare, ⟨fun b o e n hb hx => ?_, fun b o e n hb hx => ?_, I.base.free, fun b o e hx => ?_, I.base.tups, I.base.frzs, I.base.tbls⟩, ⟨_, hn', fun j y v' e1 e2 e3 => ?_⟩, fun y c e => ?_, I.free, I.freeC, fun p hp => ?_, tracked ⟨oL, hoL, I.free⟩ hs, by simpa using I.len⟩ ⟨_, hs, .inl rfl⟩
    · exact (hs.2 b (Nat.ne_of_lt (Nat.lt_of_lt_of_le (Heap.lt_size e) I.ok.above))).trans (I.base.keep b o e n hb hx)
    · obtain ⟨sl, e1⟩ := I.base.slot b o e n hb hx
      exact ⟨sl, (hs.2 b (Nat.ne_of_lt (Nat.lt_of_lt_of_le (Heap.lt_size e) I.ok.above))).trans e1⟩
    · obtain ⟨o', e1⟩ := I.base.there b o e hx
      exact ⟨o', (hs.2 b (Nat.ne_of_lt (Nat.lt_of_lt_of_le (Heap.lt_size e) I.ok.above))).trans e1⟩
    · by_cases hj : j = i
      · subst hj
        rw [hi] at e1; cases e1
        rw [List.getElem?_set_self hiσ] at e2
        cases e2
        exact ⟨u, r, .inl ⟨hk, by simp⟩⟩
      · rw [List.getElem?_set_ne (Ne.symm hj)] at e2
        obtain ⟨u', r', q⟩ := hl j y v' e1 e2 e3
        refine ⟨u', r', ?_⟩
        rcases q with ⟨k, e⟩ | ⟨k, c, e, z⟩
        · refine .inl ⟨k, ?_⟩
          have : y ≠ x := fun e => hj (nodup_ix hN e1 (e ▸ hi))
          simp [this, e]
        · exact .inr ⟨k, c, e, z.sameBut hs (cne y c e)⟩
    · obtain ⟨w', z⟩ := I.cell y c e
      exact ⟨w', z.sameBut hs (cne y c e)⟩
    · obtain ⟨e, n, ne, nf, d⟩ := I.pin p hp
      exact ⟨(hs.2 p.1 ne).trans e, n, ne, nf, d⟩
  · have hfn : X.fn x = true := by
      rcases hf with z | z
      · exact z
      · rw [z] at hk; cases hk
    obtain ⟨c, hc⟩ := I.ok.has x (.inl hk)
    obtain ⟨w', z⟩ := I.cell x c hc
    refine wpAny_storeName_cell I.ok.kind hk hc z (fun h' hc' hs => ?_)
    obtain ⟨oc, hoc, hocd⟩ := id z
    refine h { s with heap := h' } ⟨I.ok, I.os, I.bare, ⟨fun b o e n hb hx => ?_, fun b o e n hb hx => ?_, I.base.free, fun b o e hx => ?_, I.base.tups, I.base.frzs, I.base.tbls⟩, ⟨m, hn.sameBut hs (Ne.symm (cne x c hc)), fun j y v' e1 e2 e3 => ?_⟩, fun y c' e => ?_, I.free, I.freeC, fun p hp => ?_, tracked ⟨oc, hoc, I.freeC x c hc⟩ hs, by simpa using I.len⟩ ⟨c, hs, .inr hc⟩
    · exact (hs.2 b (Nat.ne_of_lt (Nat.lt_of_lt_of_le (Heap.lt_size e) (I.ok.cab x c hfn hc)))).trans (I.base.keep b o e n hb hx)
    · obtain ⟨sl, e1⟩ := I.base.slot b o e n hb hx
      exact ⟨sl, (hs.2 b (Nat.ne_of_lt (Nat.lt_of_lt_of_le (Heap.lt_size e) (I.ok.cab x c hfn hc)))).trans e1⟩
    · obtain ⟨o', e1⟩ := I.base.there b o e hx
      exact ⟨o', (hs.2 b (Nat.ne_of_lt (Nat.lt_of_lt_of_le (Heap.lt_size e) (I.ok.cab x c hfn hc)))).trans e1⟩
    · by_cases hj : j = i
      · subst hj
        rw [hi] at e1; cases e1
        rw [List.getElem?_set_self hiσ] at e2
        cases e2
        exact ⟨u, r, .inr ⟨.inl hk, c, hc, hc'⟩⟩
      · rw [List.getElem?_set_ne (Ne.symm hj)] at e2
        obtain ⟨u', r', q⟩ := hl j y v' e1 e2 e3
        refine ⟨u', r', ?_⟩
        rcases q with q | ⟨k, c', e, z'⟩
        · exact .inl q
        · refine .inr ⟨k, c', e, z'.sameBut hs ?_⟩
          rintro rfl
          exact hj (nodup_ix hN e1 (I.ok.inj _ _ _ e hc ▸ hi))
    · by_cases hcc : c' = c
      · subst hcc; exact ⟨_, hc'⟩
      · obtain ⟨w2, z2⟩ := I.cell y c' e
        exact ⟨w2, z2.sameBut hs hcc⟩
    · obtain ⟨e, n, ne, nf, d⟩ := I.pin p hp
      refine ⟨(hs.2 p.1 ?_).trans e, n, ne, nf, d⟩
      intro q
      rw [q, hoc] at e
      have q' : oc = p.2 := Option.some.inj e
      exact d w' (by rw [← q']; exact hocd)
theorem store_ok {M : Model} {A : Around} {E : Value → Shared → Prop} {i : Nat} {x : Str} {v : V} {u : Value} {Q : Unit → Shared → Prop} (I : Inv X pins σ H s) (hN : X.N.Nodup) (hi : X.N[i]? = some x) (hx : Loc X.env.scope x) (r : RelV v u)
    (h : ∀ s', Inv X pins (σ.set i (some v)) H s' → Q () s') (hf : X.fn x = true ∨ X.env.scope.names.lookup x = some .local := by first | exact .inl rfl | exact .inr rfl | assumption) : wpAny M A (storeName X.env x u) Q E s :=
  store_ok2 I hN hi hx r (fun s' I' _ => h s' I') hf
/-- behind a call or a block, the state as it is -/
theorem Inv.call' {s' : Shared} {ch : List Addr} (I : Inv X pins σ H s) (ho : s'.os = s.os) (u : Un (frs X.stack) ch H H' s.heap s'.heap) (hok : HOk X.prog X.w H' s'.heap) (hg : AllBare s'.gens)
    (hch : ∀ b ∈ ch, (b ∈ X.ex ∨ X.s₀.heap.objs.size ≤ b) ∧ b ≠ X.env.locals ∧ (∀ x c, X.env.cells.lookup x = some c → c ≠ b) ∧ ∀ p ∈ X.pn ++ pins, p.1 ≠ b) : Inv X pins σ H' s' := by
  obtain ⟨h', g', d', t', o'⟩ := s'
  have e : o' = s.os := ho
  subst e
  exact I.call (g' := g') (t' := t') (d' := d') u hok hg hch
end

/-! ### the judgements -/
/-- an exception: its class, its own dict's address (where it has one), the abstract heap behind it -/
abbrev XK := Value → Option Addr → Hp → Prop
abbrev St := List (Option V)
abbrev VK := V → Hp → Prop
/-- an expression's reading; a test's; an argument list's -/
abbrev TE := St → Hp → VK → Prop
abbrev TT := St → Hp → (Bool → Hp → Prop) → Prop
abbrev TA := St → Hp → (List V → Hp → Prop) → Prop
/-- what is wanted behind a statement -/
structure Ends where
  nx : St → Hp → Prop
  rt : VK
  bk : St → Hp → Prop := fun _ _ => False
  ct : St → Hp → Prop := fun _ _ => False
abbrev TS := Ends → St → Hp → Prop

def EP (X : Cx) (pins : List (Addr × Obj)) (σ : St) (Q : VK) (u : Value) (s' : Shared) : Prop := ∃ v H', Inv X pins σ H' s' ∧ RelV v u ∧ Q v H'
def TP (X : Cx) (pins : List (Addr × Obj)) (σ : St) (Q : Bool → Hp → Prop) (b : Bool) (s' : Shared) : Prop := ∃ H', Inv X pins σ H' s' ∧ Q b H'
def AP (X : Cx) (pins : List (Addr × Obj)) (σ : St) (Q : List V → Hp → Prop) (us : List Value) (s' : Shared) : Prop := ∃ vs H', Inv X pins σ H' s' ∧ Vals vs us ∧ Q vs H'
def SP (X : Cx) (pins : List (Addr × Obj)) (D : Ends) (f : Flow) (s' : Shared) : Prop :=
  match f with
  | .next => ∃ σ' H', Inv X pins σ' H' s' ∧ D.nx σ' H'
  | .brk => ∃ σ' H', Inv X pins σ' H' s' ∧ D.bk σ' H'
  | .cont => ∃ σ' H', Inv X pins σ' H' s' ∧ D.ct σ' H'
  | .ret u => ∃ v σ' H', Inv X pins σ' H' s' ∧ RelV v u ∧ D.rt v H'

def PE (X : Cx) (e : Expr) (t : TE) : Prop :=
  ∀ (pins : List (Addr × Obj)) (s : Shared) (σ : St) (H : Hp) (Q : VK), Inv X pins σ H s → t σ H Q → wpAny (model X.prog X.w) X.A (eval e X.env) (EP X pins σ Q) X.xe s
def PT (X : Cx) (e : Expr) (t : TT) : Prop :=
  ∀ (pins : List (Addr × Obj)) (s : Shared) (σ : St) (H : Hp) (Q : Bool → Hp → Prop), Inv X pins σ H s → t σ H Q → wpAny (model X.prog X.w) X.A (isTrue e X.env (eval e X.env)) (TP X pins σ Q) X.xe s
/-- a test whatever its 'whole' is (and, or) -/
def PW (X : Cx) (e : Expr) (t : TT) : Prop :=
  ∀ (whole : Sem Value) (pins : List (Addr × Obj)) (s : Shared) (σ : St) (H : Hp) (Q : Bool → Hp → Prop), Inv X pins σ H s → t σ H Q → wpAny (model X.prog X.w) X.A (isTrue e X.env whole) (TP X pins σ Q) X.xe s
theorem PW.pt {X : Cx} {e : Expr} {t : TT} (h : PW X e t) : PT X e t := h _
/-- an argument list (no star), from the left -/
def PA (X : Cx) (es : List Expr) (t : TA) : Prop :=
  ∀ (pos : Pos) (pins : List (Addr × Obj)) (s : Shared) (σ : St) (H : Hp) (Q : List V → Hp → Prop), Inv X pins σ H s → t σ H Q → wpAny (model X.prog X.w) X.A (spliced (backTo pos (starEach es X.env))) (AP X pins σ Q) X.xe s
def PS (X : Cx) (st : Stmt) (t : TS) : Prop :=
  ∀ (pins : List (Addr × Obj)) (s : Shared) (σ : St) (H : Hp) (D : Ends), Inv X pins σ H s → t D σ H → wpAny (model X.prog X.w) X.A (exec st X.env) (SP X pins D) X.xe s
def PSs (X : Cx) (st : List Stmt) (t : TS) : Prop :=
  ∀ (pins : List (Addr × Obj)) (s : Shared) (σ : St) (H : Hp) (D : Ends), Inv X pins σ H s → t D σ H → wpAny (model X.prog X.w) X.A (execs st X.env) (SP X pins D) X.xe s
/-- weaken the end -/
theorem thn {α : Type} {t : Sem α} {Q Q' : α → Shared → Prop} {M : Model} {A : Around} {E : Value → Shared → Prop} {s : Shared} (h : wpAny M A t Q E s) (hQ : ∀ a s, Q a s → Q' a s) : wpAny M A t Q' E s := wpAny_mono h hQ fun _ _ x => x
end L2

namespace L2
open PySem PySem.Spec PyProof.Rows
section
variable {X : Cx}

/-- two expressions in a row -/
theorem bin {a b : Expr} {ta tb : TE} (ha : PE X a ta) (hb : PE X b tb) {pins : List (Addr × Obj)} {s : Shared} {σ : St} {H : Hp} {R : V → V → Hp → Prop} (I : Inv X pins σ H s) (h : ta σ H fun x H1 => tb σ H1 fun y H2 => R x y H2)
    {α : Type} {Q : α → Shared → Prop} {f : Value → Value → Sem α}
    (hf : ∀ v u s2 x y H2, Inv X pins σ H2 s2 → RelV x v → RelV y u → R x y H2 → wpAny (model X.prog X.w) X.A (f v u) Q X.xe s2) :
    wpAny (model X.prog X.w) X.A (eval a X.env) (fun v s₁ => wpAny (model X.prog X.w) X.A (eval b X.env) (fun u s₂ => wpAny (model X.prog X.w) X.A (f v u) Q X.xe s₂) X.xe s₁) X.xe s := by
  refine thn (ha pins s σ H _ I h) fun v s1 ⟨x, H1, I1, r1, q1⟩ => ?_
  refine thn (hb pins s1 σ H1 _ I1 q1) fun u s2 ⟨y, H2, I2, r2, q2⟩ => ?_
  exact hf v u s2 x y H2 I2 r1 r2 q2

/-! ### names and constants -/
def tVar (i : Nat) : TE := fun σ H Q => ∃ v, σ[i]? = some (some v) ∧ Q v H
def tC (v : V) : TE := fun _ H Q => Q v H
theorem pe_var {i : Nat} {x : Str} {pos : Pos} (hN : X.N[i]? = some x) (hv : Vis X.env.scope x) (hd : (x == ("__debug__" : Str)) = false := by decide) (hcd : (x == ("__classdict__" : Str)) = false := by decide) : PE X (.Name x pos) (tVar i) := by
  intro pins s σ H Q I h
  obtain ⟨v, e, h⟩ := h
  obtain ⟨m, hn, hl⟩ := I.loc
  obtain ⟨u, r, l⟩ := hl i x v hN e hv
  have fin : EP X pins σ Q u s := ⟨v, H, I, r, h⟩
  rcases l with ⟨hk, hm⟩ | ⟨hk, c, hc, hcell⟩
  · exact wpAny_Name (wpAny_loadName_local I.ok.kind hk hn hm fin) hd
  · rcases hk with hk | hk
    · exact wpAny_Name (wpAny_loadName_cell I.ok.kind hk hc hcell fin) hd
    · exact wpAny_Name (wpAny_loadName_free I.ok.kind hk hc hcell fin hcd) hd
theorem pe_int {i j pos} : PE X (.Constant (.int i) j pos) (tC (.int i)) := fun _ _ _ H _ I h => wpAny_Constant_int ⟨.int i, H, I.tok _, ⟨_, rfl⟩, h⟩
theorem pe_bl {b j pos} : PE X (.Constant (.bool b) j pos) (tC (.bl b)) := fun _ _ _ H _ I h => Constant_bool ⟨.bl b, H, I, rfl, h⟩
theorem pe_non {j pos} : PE X (.Constant .none j pos) (tC .non) := fun _ _ _ H _ I h => Constant_none ⟨.non, H, I, rfl, h⟩
theorem pe_str {x j pos} : PE X (.Constant (.str x) j pos) (tC (.str x)) := fun _ _ _ H _ I h => Calls.Constant_str ⟨.str x, H, I.tok _, ⟨_, rfl⟩, h⟩

/-- a global name of the def -/
def Gl (X : Cx) (x : Str) : Prop := X.env.kindOf x = some .globalImplicit
theorem ld_glob {E : Value → Shared → Prop} {pins : List (Addr × Obj)} {s : Shared} {σ : St} {H : Hp} {x : Str} {u : Value} {pos : Pos} {Q : Value → Shared → Prop} (I : Inv X pins σ H s) (hg : Gl X x) (hm : X.mg x = some u) (h : Q u s)
    (hd : (x == ("__debug__" : Str)) = false := by decide) : wpAny (model X.prog X.w) X.A (eval (.Name x pos) X.env) Q E s :=
  Calls.Name_function_global I.ok.kind hg (Calls.loadGlobal_global (by rw [I.ok.glob]; exact I.mod.glob.keeps I.bk) hm h) hd
theorem ld_blt {E : Value → Shared → Prop} {pins : List (Addr × Obj)} {s : Shared} {σ : St} {H : Hp} {x : Str} {u : Value} {pos : Pos} {Q : Value → Shared → Prop} (I : Inv X pins σ H s) (hg : Gl X x) (hm : X.mg x = none) (hv : bootBuiltins x = some u) (h : Q u s)
    (hn : x ≠ "__name__" := by decide) (hd : (x == ("__debug__" : Str)) = false := by decide) : wpAny (model X.prog X.w) X.A (eval (.Name x pos) X.env) Q E s := by
  obtain ⟨mb, h1, h2⟩ := I.mod.blt
  exact Calls.Name_function_global I.ok.kind hg (Calls.loadGlobal_builtin (by rw [I.ok.glob]; exact I.mod.glob.keeps I.bk) hm (by rw [I.ok.blt]; exact h1.keeps I.bk) ((h2 x hn).trans hv) h) hd
/-- a module's constant, a class, a function, as a value -/
theorem pe_glob {x : Str} {v : V} {u : Value} {pos : Pos} (hg : Gl X x) (hm : X.mg x = some u) (r : RelV v u) (hd : (x == ("__debug__" : Str)) = false := by decide) : PE X (.Name x pos) (tC v) :=
  fun _ _ _ H _ I h => ld_glob I hg hm ⟨v, H, I, r, h⟩ hd
theorem pe_bltn {x : Str} {v : V} {u : Value} {pos : Pos} (hg : Gl X x) (hm : X.mg x = none) (hv : bootBuiltins x = some u) (r : RelV v u) (hn : x ≠ "__name__" := by decide) (hd : (x == ("__debug__" : Str)) = false := by decide) : PE X (.Name x pos) (tC v) :=
  fun _ _ _ H _ I h => ld_blt I hg hm hv ⟨v, H, I, r, h⟩ hn hd

/-! ### arithmetic -/
variable {a b : Expr} {ta tb : TE} {pos : Pos}

/-! ### comparisons -/
def PC (X : Cx) (op : CmpOp) (a b : Expr) (t : TE) : Prop :=
  ∀ (pins : List (Addr × Obj)) (s : Shared) (σ : St) (H : Hp) (Q : VK), Inv X pins σ H s → t σ H Q →
    wpAny (model X.prog X.w) X.A (eval a X.env) (fun v s₁ => wpAny (model X.prog X.w) X.A (eval b X.env) (fun u s₂ => wpAny (model X.prog X.w) X.A (compareOp op v u) (EP X pins σ Q) X.xe s₂) X.xe s₁) X.xe s
/-- a comparison as a value, as a test -/
def tB (t : TE) : TT := fun σ H Q => t σ H fun x H1 => ∃ c, x = .bl c ∧ Q c H1
theorem pt_cmp {op : CmpOp} {t : TE} (h : PC X op a b t) (h1 : behindInMarks op b = false := by first | exact nobehind _ (by decide) (by decide) | rfl) : PT X (.Compare a [op] [b] pos) (tB t) := by
  intro pins s σ H Q I hw
  refine wpAny_isTrue_Compare1 (thn (h pins s σ H _ I hw) fun v s1 h1 => thn h1 fun u s2 h2 => thn h2 fun c s3 ⟨x, H1, I1, r1, q1⟩ => ?_) h1
  obtain ⟨d, rfl, q⟩ := q1
  cases r1
  exact wpAny_truthy_bool ⟨H1, I1, q⟩
/-- an expression whose value is a bool, as a test -/
theorem pt_val {e : Expr} {t : TE} (h : PE X e t) (he : ∀ whole, isTrue e X.env whole = (do let v ← whole; standAt e.pos; holding [v] (truthy v)) := by intro _; rfl) : PT X e (tB t) := by
  intro pins s σ H Q I hw
  refine isTrue_plain (thn (h pins s σ H _ I hw) fun v s1 ⟨x, H1, I1, r1, q1⟩ => ?_) (he _)
  obtain ⟨d, rfl, q⟩ := q1
  cases r1
  exact wpAny_truthy_bool ⟨H1, I1, q⟩

/-! ### and, or, not -/
variable {tA tB' : TT} {rest : List Expr}
def tAnd (t u : TT) : TT := fun σ H Q => t σ H fun c H1 => if c = true then u σ H1 Q else Q false H1
def tOr (t u : TT) : TT := fun σ H Q => t σ H fun c H1 => if c = true then Q true H1 else u σ H1 Q
def tNot (t : TT) : TT := fun σ H Q => t σ H fun c H1 => Q (!c) H1
theorem pw_and1 (ha : PT X a tA) : PW X (.BoolOp .And [a] pos) tA := by
  intro wh pins s σ H Q I h
  refine isTrue_and (thn (ha pins s σ H Q I h) fun c s1 e => ?_)
  cases c with
  | true => exact isTrue_and_nil e
  | false => exact e
theorem pw_or1 (ha : PT X a tA) : PW X (.BoolOp .Or [a] pos) tA := by
  intro wh pins s σ H Q I h
  refine isTrue_or (thn (ha pins s σ H Q I h) fun c s1 e => ?_)
  cases c with
  | false => exact isTrue_or_nil e
  | true => exact e
theorem pw_and (ha : PT X a tA) (hb : PW X (.BoolOp .And (b :: rest) pos) tB') : PW X (.BoolOp .And (a :: b :: rest) pos) (tAnd tA tB') := by
  intro wh pins s σ H Q I h
  refine isTrue_and (thn (ha pins s σ H _ I h) fun c s1 ⟨H1, I1, q1⟩ => ?_)
  cases c with
  | true => exact hb wh pins s1 σ H1 Q I1 q1
  | false => exact ⟨H1, I1, q1⟩
theorem pw_or (ha : PT X a tA) (hb : PW X (.BoolOp .Or (b :: rest) pos) tB') : PW X (.BoolOp .Or (a :: b :: rest) pos) (tOr tA tB') := by
  intro wh pins s σ H Q I h
  refine isTrue_or (thn (ha pins s σ H _ I h) fun c s1 ⟨H1, I1, q1⟩ => ?_)
  cases c with
  | true => exact ⟨H1, I1, q1⟩
  | false => exact hb wh pins s1 σ H1 Q I1 q1
theorem pt_not (ha : PT X a tA) : PT X (.UnaryOp .Not a pos) (tNot tA) := by
  intro pins s σ H Q I h
  exact isTrue_not (ha pins s σ H (fun c H1 => Q (!c) H1) I h)
/-- .. as values (bools) -/
def tAndV (ta tb : TE) : TE := fun σ H Q => ta σ H fun x H1 => ∃ c, x = .bl c ∧ if c = true then tb σ H1 Q else Q (.bl false) H1
def tNotV (ta : TE) : TE := fun σ H Q => ta σ H fun x H1 => ∃ c, x = .bl c ∧ Q (.bl (!c)) H1
theorem pe_one {op} {t : TE} (h : PE X a t) : PE X (.BoolOp op [a] pos) t := fun pins s σ H Q I hw => BoolOp_one (h pins s σ H Q I hw)
theorem pe_and (ha : PE X a ta) (hb : PE X (.BoolOp .And (b :: rest) pos) tb) : PE X (.BoolOp .And (a :: b :: rest) pos) (tAndV ta tb) := by
  intro pins s σ H Q I h
  refine BoolOp_and (thn (ha pins s σ H _ I h) fun v s1 ⟨x, H1, I1, r1, q1⟩ => ?_)
  obtain ⟨c, rfl, q1⟩ := q1
  cases r1
  refine wpAny_truthy_bool ?_
  cases c with
  | true => exact hb pins s1 σ H1 Q I1 q1
  | false => exact ⟨.bl false, H1, I1, rfl, q1⟩
theorem pe_not (ha : PE X a ta) : PE X (.UnaryOp .Not a pos) (tNotV ta) := by
  intro pins s σ H Q I h
  refine UnaryOp_ (thn (ha pins s σ H _ I h) fun v s1 ⟨x, H1, I1, r1, q1⟩ => ?_)
  obtain ⟨c, rfl, q1⟩ := q1
  cases r1
  exact not_of (wpAny_truthy_bool ⟨.bl (!c), H1, I1, rfl, q1⟩)
/-- a if t else b -/
def tIf (t : TT) (ta tb : TE) : TE := fun σ H Q => t σ H fun c H1 => if c = true then ta σ H1 Q else tb σ H1 Q
theorem pe_ifExp {c : Expr} (hc : PT X c tA) (ha : PE X a ta) (hb : PE X b tb) : PE X (.IfExp c a b pos) (tIf tA ta tb) := by
  intro pins s σ H Q I h
  refine wpAny_IfExp (thn (hc pins s σ H _ I h) fun d s1 ⟨H1, I1, q1⟩ => ?_)
  cases d with
  | true => exact ha pins s1 σ H1 Q I1 q1
  | false => exact hb pins s1 σ H1 Q I1 q1
end
end L2

namespace L2
open PySem PySem.Spec PyProof.Rows

/-! ### a list, a tuple that is read: tracked, frozen, or an object of the module -/
def SqL (K : PySem.W.Frag) (H : Hp) (a : Addr) (xs : List V) : Prop :=
  Rd H a (.lst xs) ∨
    ∃ (o : Obj) (its : Array Value) (n : Nat), K.lookup a = some o ∧ o.cls = .type "list" ∧ o.dict = none ∧ o.data = .seq its n ∧ its.size ≤ sizeLine ∧ Vals xs its.toList
def SqT (K : PySem.W.Frag) (H : Hp) (a : Addr) (xs : List V) : Prop :=
  Rd H a (.tup xs) ∨
    ∃ (o : Obj) (its : Array Value) (n : Nat), K.lookup a = some o ∧ o.cls = .type "tuple" ∧ o.data = .seq its n ∧ its.size ≤ sizeLine ∧ Vals xs its.toList
def absV : Value → Option V
  | .none => some .non
  | .bool b => some (.bl b)
  | .int i _ => some (.int i)
  | .str x _ => some (.str x)
  | .bytes b _ => some (.byt b)
  | .float b _ => some (.flt b)
  | .ref a => some (.ref a)
  | .type n => some (.ty n)
  | _ => none
theorem RelV.abs {x : V} {u : Value} (r : RelV x u) : absV u = some x := by
  cases x with
  | non => cases r; rfl
  | bl _ => cases r; rfl
  | int _ => obtain ⟨t, rfl⟩ := r; rfl
  | str _ => obtain ⟨t, rfl⟩ := r; rfl
  | byt _ => obtain ⟨t, rfl⟩ := r; rfl
  | flt _ => obtain ⟨t, rfl⟩ := r; rfl
  | ref _ => cases r; rfl
  | ty _ => cases r; rfl
theorem RelV.inj {x y : V} {u : Value} (r : RelV x u) (q : RelV y u) : x = y := Option.some.inj (r.abs.symm.trans q.abs)
theorem Vals.inj : ∀ {xs ys : List V} {us : List Value}, Vals xs us → Vals ys us → xs = ys
  | _, _, _, .nil, .nil => rfl
  | _, _, _, .cons r t, .cons r' t' => by rw [r.inj r', Vals.inj t t']
section
variable {X : Cx} {pins : List (Addr × Obj)} {σ : St} {H : Hp} {s : Shared} {a : Addr} {xs ys : List V}
theorem SqL.of {K : PySem.W.Frag} (h : H a = some (.lst xs)) : SqL K H a xs := .inl (.inl h)
theorem SqT.of {K : PySem.W.Frag} (h : H a = some (.tup xs)) : SqT K H a xs := .inl (.inl h)
theorem Inv.list (I : Inv X pins σ H s) (h : SqL X.K H a xs) : ∃ its : List Value, Vals xs its ∧ PlainL s.heap a its.toArray ∧ xs.length ≤ sizeLine := by
  rcases h with h | ⟨o, its, n, hk, hc, hd, hs, hz, r⟩
  · obtain ⟨z, its, n, r, e⟩ := h.ok I.hok
    exact ⟨its, r, ⟨_, n, e, rfl, rfl, rfl⟩, z⟩
  · refine ⟨its.toList, r, ⟨o, n, I.kIn a o hk, hc, hd, by simpa using hs⟩, ?_⟩
    have e := r.length
    simp only [Array.length_toList] at e
    omega
theorem Inv.tuple (I : Inv X pins σ H s) (h : SqT X.K H a xs) : ∃ its : List Value, Vals xs its ∧ IsTup s.heap a its.toArray ∧ xs.length ≤ sizeLine := by
  rcases h with h | ⟨o, its, n, hk, hc, hs, hz, r⟩
  · obtain ⟨z, its, r, p⟩ := h.ok I.hok
    exact ⟨its, r, p, z⟩
  · refine ⟨its.toList, r, ⟨o, I.kIn a o hk, hc, n, by simpa using hs⟩, ?_⟩
    have e := r.length
    simp only [Array.length_toList] at e
    omega
theorem Inv.list_inj (I : Inv X pins σ H s) (h : SqL X.K H a xs) (h' : SqL X.K H a ys) : xs = ys := by
  obtain ⟨its, r, ⟨o, n, e, _, _, d⟩, _⟩ := I.list h
  obtain ⟨its', r', ⟨o', n', e', _, _, d'⟩, _⟩ := I.list h'
  rw [e] at e'; cases e'
  rw [d] at d'
  injection d' with d1 _
  have : its = its' := by simpa using congrArg Array.toList d1
  subst this
  exact r.inj r'
theorem Inv.tuple_inj (I : Inv X pins σ H s) (h : SqT X.K H a xs) (h' : SqT X.K H a ys) : xs = ys := by
  obtain ⟨its, r, ⟨o, e, _, n, d⟩, _⟩ := I.tuple h
  obtain ⟨its', r', ⟨o', e', _, n', d'⟩, _⟩ := I.tuple h'
  rw [e] at e'; cases e'
  rw [d] at d'
  injection d' with d1 _
  have : its = its' := by simpa using congrArg Array.toList d1
  subst this
  exact r.inj r'
end

/-! ### another wish about exceptions -/
abbrev Cx.wish (X : Cx) (E : Value → Shared → Prop) : Cx := { X with xe := E }
/-- no exception leaves -/
abbrev Cx.nox (X : Cx) : Cx := X.wish fun _ _ => False
theorem Cx.Ok.wish {X : Cx} (ok : X.Ok) (E : Value → Shared → Prop) : (X.wish E).Ok :=
  ⟨ok.mod, ok.kind, ok.glob, ok.blt, ok.above, ok.inj, ok.has, ok.cab, ok.hd, ok.frames, ok.stk, ok.exf, ok.bs, ok.bsz, ok.noex, ok.exfs, ok.funs, ok.frf⟩
theorem Cx.Ok.unwish {X : Cx} {E : Value → Shared → Prop} (ok : (X.wish E).Ok) : X.Ok :=
  ⟨ok.mod, ok.kind, ok.glob, ok.blt, ok.above, ok.inj, ok.has, ok.cab, ok.hd, ok.frames, ok.stk, ok.exf, ok.bs, ok.bsz, ok.noex, ok.exfs, ok.funs, ok.frf⟩
section
variable {X : Cx} {pins : List (Addr × Obj)} {σ : St} {H : Hp} {s : Shared} {E : Value → Shared → Prop}
theorem Inv.wish (I : Inv X pins σ H s) (E : Value → Shared → Prop) : Inv (X.wish E) pins σ H s := ⟨I.ok.wish E, I.os, I.bare, I.base, I.loc, I.cell, I.free, I.freeC, I.pin, I.hok, I.len⟩
theorem Inv.unwish (I : Inv (X.wish E) pins σ H s) : Inv X pins σ H s := ⟨I.ok.unwish, I.os, I.bare, I.base, I.loc, I.cell, I.free, I.freeC, I.pin, I.hok, I.len⟩
theorem SP.unwish {D : Ends} {f : Flow} {s' : Shared} (h : SP (X.wish E) pins D f s') : SP X pins D f s' := by
  cases f with
  | next => obtain ⟨σ', H', I, q⟩ := h; exact ⟨σ', H', I.unwish, q⟩
  | brk => obtain ⟨σ', H', I, q⟩ := h; exact ⟨σ', H', I.unwish, q⟩
  | cont => obtain ⟨σ', H', I, q⟩ := h; exact ⟨σ', H', I.unwish, q⟩
  | ret u => obtain ⟨v, σ', H', I, r, q⟩ := h; exact ⟨v, σ', H', I.unwish, r, q⟩
theorem PSs.nox {st : List Stmt} {t : TS} (h : PSs X.nox st t) : PSs X st t := fun pins s σ H D I hw =>
  wpAny_mono (h pins s σ H D (I.wish _) hw) (fun _ _ q => q.unwish) fun _ _ z => False.elim z
end

/-! ### blocks and small statements -/
section
variable {X : Cx} {st : Stmt} {rest : List Stmt} {t u : TS} {e : Expr} {te : TE} {pos : Pos}
def tNext : TS := fun D σ H => D.nx σ H
def tSeq (t u : TS) : TS := fun D σ H => t { D with nx := u D } σ H
theorem pss_nil : PSs X [] tNext := fun _ _ σ H _ I h => wpAny_execs_nil ⟨σ, H, I, h⟩
theorem pss_cons (h1 : PS X st t) (h2 : PSs X rest u) : PSs X (st :: rest) (tSeq t u) := by
  intro pins s σ H D I h
  refine wpAny_execs_cons (thn (h1 pins s σ H { D with nx := u D } I h) fun f s1 q => ?_)
  cases f with
  | next =>
    obtain ⟨σ', H', I', q⟩ := q
    exact h2 pins s1 σ' H' D I' q
  | ret v => exact q
  | brk => exact q
  | cont => exact q
theorem pss_one (h1 : PS X st t) : PSs X [st] t := by
  intro pins s σ H D I h
  refine wpAny_execs_cons (thn (h1 pins s σ H D I h) fun f s1 q => ?_)
  cases f with
  | next => exact wpAny_execs_nil q
  | ret v => exact q
  | brk => exact q
  | cont => exact q
def tRet (te : TE) : TS := fun D σ H => te σ H D.rt
theorem ps_ret (he : PE X e te) : PS X (.Return (some e) pos) (tRet te) := by
  intro pins s σ H D I h
  exact wpAny_Return_some (thn (he pins s σ H _ I h) fun v s1 ⟨x, H1, I1, r1, q1⟩ => ⟨x, σ, H1, I1, r1, q1⟩)
def tIfS (c : TT) (t u : TS) : TS := fun D σ H => c σ H fun b H1 => if b = true then t D σ H1 else u D σ H1
theorem ps_if {c : Expr} {a b : List Stmt} {tc : TT} (hc : PT X c tc) (ha : PSs X a t) (hb : PSs X b u) : PS X (.If c a b pos) (tIfS tc t u) := by
  intro pins s σ H D I h
  refine wpAny_If (thn (hc pins s σ H _ I h) fun d s1 ⟨H1, I1, q1⟩ => ?_)
  cases d with
  | true => exact ha pins s1 σ H1 D I1 q1
  | false => exact hb pins s1 σ H1 D I1 q1
end

/-! ### targets -/
abbrev TG := V → St → Hp → (St → Hp → Prop) → Prop
abbrev TGs := List V → St → Hp → (St → Hp → Prop) → Prop
def PG (X : Cx) (target : Expr) (t : TG) : Prop :=
  ∀ (pins : List (Addr × Obj)) (s : Shared) (σ : St) (H : Hp) (v : V) (u : Value) (Q : St → Hp → Prop), Inv X pins σ H s → RelV v u → t v σ H Q →
    wpAny (model X.prog X.w) X.A (assign target X.env u) (fun _ s' => ∃ σ' H', Inv X pins σ' H' s' ∧ Q σ' H') X.xe s
/-- several targets, one after another -/
def PGs (X : Cx) (ts : List Expr) (t : TGs) : Prop :=
  ∀ (pins : List (Addr × Obj)) (s : Shared) (σ : St) (H : Hp) (vs : List V) (us : List Value) (Q : St → Hp → Prop), Inv X pins σ H s → Vals vs us → t vs σ H Q →
    wpAny (model X.prog X.w) X.A (assignInOrder ((assignEach ts X.env).map (·.2)) us) (fun _ s' => ∃ σ' H', Inv X pins σ' H' s' ∧ Q σ' H') X.xe s
/-- o[i] = v, by values -/
abbrev TSet := V → V → V → Hp → (Hp → Prop) → Prop
def PSet (X : Cx) (t : TSet) : Prop :=
  ∀ (pins : List (Addr × Obj)) (s : Shared) (σ : St) (H : Hp) (o i v : V) (ov iv u : Value) (Q : Hp → Prop), Inv X pins σ H s → RelV o ov → RelV i iv → RelV v u → t o i v H Q →
    wpAny (model X.prog X.w) X.A (setItem ov iv u) (fun _ s' => ∃ H', Inv X pins σ H' s' ∧ Q H') X.xe s
section
variable {X : Cx} {pos : Pos}
def gName (i : Nat) : TG := fun v σ H Q => Q (σ.set i (some v)) H
theorem pg_name {i : Nat} {x : Str} (hN : X.N.Nodup) (hi : X.N[i]? = some x) (hx : Loc X.env.scope x) (hf : X.fn x = true ∨ X.env.scope.names.lookup x = some .local := by first | exact .inl rfl | exact .inr rfl | assumption) : PG X (.Name x pos) (gName i) := by
  intro pins s σ H v u Q I r h
  exact wpAny_assign_Name (store_ok I hN hi hx r (fun s' I' => ⟨_, H, I', h⟩) hf)
def gNil : TGs := fun vs σ H Q => vs = [] ∧ Q σ H
def gCons (t : TG) (u : TGs) : TGs := fun vs σ H Q => ∃ v r, vs = v :: r ∧ t v σ H fun σ' H' => u r σ' H' Q
theorem pgs_nil : PGs X [] gNil := by
  intro pins s σ H vs us Q I r h
  obtain ⟨e, h⟩ := h
  subst e
  cases r
  exact assignInOrder_nil ⟨σ, H, I, h⟩
theorem pgs_cons {e : Expr} {es : List Expr} {t : TG} {u : TGs} (h1 : PG X e t) (h2 : PGs X es u)
    (hs : (assignEach (e :: es) X.env).map (·.2) = assign e X.env :: (assignEach es X.env).map (·.2) := by rfl) : PGs X (e :: es) (gCons t u) := by
  intro pins s σ H vs us Q I r h
  obtain ⟨v, vr, e1, h⟩ := h
  subst e1
  cases r with
  | cons r rr =>
    rw [hs]
    refine assignInOrder_cons (thn (h1 pins s σ H _ _ _ I r h) fun _ s1 ⟨σ1, H1, I1, q1⟩ => ?_)
    exact h2 pins s1 σ1 H1 _ _ Q I1 rr q1
/-- (a, b, ..) = a tuple of that length -/
def gTup (K : PySem.W.Frag) (n : Nat) (t : TGs) : TG := fun v σ H Q => ∃ a xs, v = .ref a ∧ SqT K H a xs ∧ xs.length = n ∧ t xs σ H Q
theorem pg_tup {es : List Expr} {k : Nat} {t : TGs} {n : Nat} (hc : X.calm = true) (h : PGs X es t)
    (hn : (assignEach es X.env).length = n := by rfl) (hst : (assignEach es X.env).findIdx? (·.1) = none := by rfl) : PG X (.Tuple es k pos) (gTup X.K n t) := by
  intro pins s σ H v u Q I r hw
  obtain ⟨a, xs, e1, hq, hl, hw⟩ := hw
  subst e1
  cases r
  obtain ⟨its, rv, ht, hz⟩ := I.tuple hq
  refine assign_Tuple_tuple (I.ok.hd hc) ht (by simp [hn, ← hl, rv.length]) hst fun h' hx => ?_
  have I1 : Inv X pins σ H { s with heap := h' } := I.kept (t' := s.toks) fun b o e => hx b o (Nat.ne_of_lt (Heap.lt_size e)) e
  exact h pins _ σ H xs _ Q I1 (by simpa using rv) hw
/-- o[i] = .. -/
def gSub (to ti : TE) (t : TSet) : TG := fun v σ H Q => to σ H fun o H1 => ti σ H1 fun i H2 => t o i v H2 fun H3 => Q σ H3
theorem pg_sub {o i : Expr} {to ti : TE} {t : TSet} (ho : PE X o to) (hi : PE X i ti) (hs : PSet X t)
    (ha : ∀ v, assign (.Subscript o i pos) X.env v = (do
      let ov ← holding [v] (eval o X.env)
      let iv ← holding [v, ov] (eval i X.env)
      standAt pos
      holding [v, ov, iv] (setItem ov iv v)
      release [v, ov, iv] []) := by intro _; rfl) : PG X (.Subscript o i pos) (gSub to ti t) := by
  intro pins s σ H v u Q I r h
  rw [ha]
  refine wpAny_bind (wpAny_holding (thn (ho pins s σ H _ I h) fun ov s1 ⟨x, H1, I1, r1, q1⟩ => ?_))
  refine wpAny_bind (wpAny_holding (thn (hi pins s1 σ H1 _ I1 q1) fun iv s2 ⟨y, H2, I2, r2, q2⟩ => ?_))
  refine wpAny_bind (wpAny_standAt (wpAny_bind (wpAny_holding (thn (hs pins s2 σ H2 x y v ov iv u _ I2 r1 r2 r q2) fun _ s3 ⟨H3, I3, q3⟩ => ?_))))
  exact wpAny_release ⟨σ, H3, I3, q3⟩
/-- target = value -/
def tAsg (te : TE) (g : TG) : TS := fun D σ H => te σ H fun x H1 => g x σ H1 D.nx
theorem ps_asg {tg e : Expr} {te : TE} {g : TG} (he : PE X e te) (hg : PG X tg g) (hs : swapsWithSole [tg] e pos.line X.env = pure false := by rfl) (hw : swappedStores [tg] e X.env = pure none := by rfl)
    (h1 : (assignEach [tg] X.env).map (·.2) = [assign tg X.env] := by rfl) : PS X (.Assign [tg] e pos) (tAsg te g) := by
  intro pins s σ H D I h
  refine wpAny_Assign_stores (thn (he pins s σ H _ I h) fun v s1 ⟨x, H1, I1, r1, q1⟩ => ?_) hs hw
  rw [h1]
  exact thn (hg pins s1 σ H1 x v _ I1 r1 q1) fun _ s2 q => q
/-- name = value -/
theorem ps_set {i : Nat} {x : Str} {e : Expr} {te : TE} {pos' : Pos} (hN : X.N.Nodup) (hi : X.N[i]? = some x) (hx : Loc X.env.scope x) (he : PE X e te) (hs : swapsWith e (some (.Name x pos')) pos.line X.env = pure false := by rfl) (hf : X.fn x = true ∨ X.env.scope.names.lookup x = some .local := by first | exact .inl rfl | exact .inr rfl | assumption) :
    PS X (.Assign [.Name x pos'] e pos) (tAsg te (gName i)) := by
  intro pins s σ H D I h
  refine wpAny_Assign_Name (thn (he pins s σ H _ I h) fun v s1 ⟨y, H1, I1, r1, q1⟩ => ?_) hs
  exact store_ok I1 hN hi hx r1 (fun s2 I2 => ⟨_, H1, I2, q1⟩) hf
end

/-! ### while -/
section
variable {X : Cx} {pos : Pos}
/-- the invariant W with its measure -/
def tWhile (c : TT) (tb : TS) : TS := fun D σ H => ∃ W : Nat → St → Hp → Prop, (∃ m, W m σ H) ∧ ∀ m σ H, W m σ H →
  c σ H fun b H1 => if b = true then ∃ N : St → Hp → Prop, (∀ σ' H', N σ' H' → ∃ m', m' < m ∧ W m' σ' H') ∧ tb { D with nx := N, ct := N, bk := D.nx } σ H1 else D.nx σ H1
theorem ps_while {c : Expr} {body : List Stmt} {tc : TT} {tb : TS} (hp : PassesOwn (model X.prog X.w) X.A X.env X.xe) (hc : PT X c tc) (hb : PSs X body tb) : PS X (.While c body [] pos) (tWhile tc tb) := by
  intro pins s σ H D I h
  obtain ⟨W, ⟨m0, w0⟩, turn⟩ := h
  refine wpAny_While (codeAny_whileLoop (fun n s' => ∃ σ' H', Inv X pins σ' H' s' ∧ W n σ' H') ?_ m0 ⟨σ, H, I, w0⟩)
  rintro n s1 ⟨σ1, H1, I1, w1⟩
  refine wpAny_passesOwn hp (thn (hc pins s1 σ1 H1 _ I1 (turn n σ1 H1 w1)) fun b s2 ⟨H2, I2, q2⟩ => ?_)
  cases b with
  | true =>
    obtain ⟨N, hN, q2⟩ := q2
    rw [if_pos rfl]
    refine wpAny_passesOwn hp (thn (hb pins s2 σ1 H2 _ I2 q2) fun f s3 q3 => ?_)
    cases f with
    | next =>
      obtain ⟨σ3, H3, I3, n3⟩ := q3
      obtain ⟨m', hm, w3⟩ := hN σ3 H3 n3
      exact ⟨m', hm, σ3, H3, I3, w3⟩
    | cont =>
      obtain ⟨σ3, H3, I3, n3⟩ := q3
      obtain ⟨m', hm, w3⟩ := hN σ3 H3 n3
      exact ⟨m', hm, σ3, H3, I3, w3⟩
    | brk => exact q3
    | ret v => exact q3
  | false =>
    rw [if_neg Bool.false_ne_true]
    exact wpAny_execs_nil ⟨σ1, H2, I2, q2⟩
end

/-! ### what a loop or a comprehension walks -/
/-- at turn i: it yields x (the heap may grow), or it stops -/
structure It where
  go : Nat → Hp → Prop
  yld : Nat → Hp → V → Hp → Prop
  stop : Nat → Hp → Prop
/-- the iterator's own objects may turn: they are not the frame's, not pinned, younger than the entry (or a comprehension's own) -/
def FpOk (X : Cx) (pins : List (Addr × Obj)) (H : Hp) (b : Addr) : Prop :=
  H b = none ∧ b ≠ X.env.locals ∧ b ∉ X.fs ∧ (b ∈ X.ex ∨ X.s₀.heap.objs.size ≤ b) ∧ (∀ x c, X.env.cells.lookup x = some c → c ≠ b) ∧ ∀ p ∈ X.pn ++ pins, p.1 ≠ b
theorem Inv.fpOk {X : Cx} {pins : List (Addr × Obj)} {σ : St} {H H' : Hp} {s : Shared} {b : Addr} (I : Inv X pins σ H s) (hb : s.heap.objs.size ≤ b) (hn : H' b = none) : FpOk X pins H' b := by
  refine ⟨hn, Nat.ne_of_gt (Nat.lt_of_lt_of_le I.lt hb), I.nofs hb, .inr (Nat.le_trans I.sz hb), fun x c e z => ?_, fun p hp z => ?_⟩
  · obtain ⟨v, q⟩ := I.cell x c e
    exact absurd (Nat.lt_of_lt_of_le q.lt (by rw [z]; exact hb)) (Nat.lt_irrefl _)
  · exact absurd (Nat.lt_of_lt_of_le (Heap.lt_size (I.pin p hp).1) (by rw [z]; exact hb)) (Nat.lt_irrefl _)
structure Turn (P : Program) (w : World) (K : PySem.W.Frag) (tg : Expr) (J : It) (fp : List Addr) (it : Addr) (tn : Nat → Heap → Prop) : Prop where
  mem : it ∈ fp
  obj : ∀ i h, tn i h → ∀ b ∈ fp, ∃ o, h.get? b = some o ∧ ∀ v, o.data ≠ .cell v
  keep : ∀ i h h', tn i h → (∀ b ∈ fp, ∀ o, h.get? b = some o → h'.get? b = some o) → tn i h'
  item : ∀ (X : Cx), X.prog = P → X.w = w → X.K = K → X.calm = true → ∀ (i : Nat) (pins : List (Addr × Obj)) (s : Shared) (σ : St) (H : Hp) (E : Value → Shared → Prop), Inv X pins σ H s → (∀ b ∈ fp, FpOk X pins H b) → tn i s.heap → J.go i H →
    wpAny (model P w) X.A (pyNext (.ref it)) (fun r s1 => ∃ u, r = some u ∧
      wpAny (model P w) X.A (letOwnedTupleGo tg (.ref it) u) (fun _ s2 => ∃ x H', Inv X pins σ H' s2 ∧ RelV x u ∧ J.yld i H x H' ∧ tn (i + 1) s2.heap ∧ ∀ b ∈ fp, H' b = none) E s1) E s
  done : ∀ (X : Cx), X.prog = P → X.w = w → X.K = K → X.calm = true → ∀ (i : Nat) (pins : List (Addr × Obj)) (s : Shared) (σ : St) (H : Hp) (E : Value → Shared → Prop), Inv X pins σ H s → (∀ b ∈ fp, FpOk X pins H b) → tn i s.heap → J.stop i H →
    wpAny (model P w) X.A (pyNext (.ref it)) (fun r s1 => r = none ∧ Inv X pins σ H s1) E s
  self : ∀ (A : Around) (i : Nat) (s : Shared) (Q : Value → Shared → Prop) (E : Value → Shared → Prop), tn i s.heap → Q (.ref it) s → wpAny (model P w) A (pyIter (.ref it)) Q E s
abbrev TI := St → Hp → (It → Hp → Prop) → Prop
/-- an iterator has come -/
def PIE (X : Cx) (pins : List (Addr × Obj)) (σ : St) (tg : Expr) (R : It → Hp → Prop) (itv : Value) (s2 : Shared) : Prop :=
  ∃ (it : Addr) (fp : List Addr) (tn : Nat → Heap → Prop) (J : It) (H' : Hp), itv = .ref it ∧ Inv X pins σ H' s2 ∧ Turn X.prog X.w X.K tg J fp it tn ∧ tn 0 s2.heap ∧ (∀ b ∈ fp, FpOk X pins H' b) ∧ R J H'
def PI (X : Cx) (tg iter : Expr) (wi : TI) : Prop :=
  ∀ (pins : List (Addr × Obj)) (s : Shared) (σ : St) (H : Hp) (R : It → Hp → Prop), Inv X pins σ H s → wi σ H R →
    wpAny (model X.prog X.w) X.A (eval iter X.env) (fun v s1 => wpAny (model X.prog X.w) X.A (pyIter v) (PIE X pins σ tg R) X.xe s1) X.xe s

/-- the step ahead of the store is nothing for an iterator that keeps no tuple -/
theorem go_of {M : Model} {A : Around} {E : Value → Shared → Prop} {s : Shared} {tg : Expr} {it : Addr} {u : Value} {o : Obj} {n : String} {vs : Array Value} {Q : Unit → Shared → Prop} (ho : s.heap.get? it = some o) (hc : o.cls = .type n) (hd : o.data = .fields vs)
    (hn : ["enumerate", "zip", "dict_itemiterator", "dict_reverseitemiterator", "odict_iterator", "itertools.zip_longest", "itertools.pairwise"].contains n = false) (hQ : Q () s) : wpAny M A (letOwnedTupleGo tg (.ref it) u) Q E s := by
  unfold letOwnedTupleGo
  cases tg <;> first
    | exact wpAny_pure hQ
    | (cases u <;> first
        | exact wpAny_pure hQ
        | (refine wpAny_bind (wpAny_load ho ?_)
           rw [hc, hd]
           show wpAny M A (if (["enumerate", "zip", "dict_itemiterator", "dict_reverseitemiterator", "odict_iterator", "itertools.zip_longest", "itertools.pairwise"].contains n && vs[0]? == some (rawInt _)) = true then _ else _) Q E s
           rw [if_neg (by intro h; rw [hn, Bool.false_and] at h; cases h)]
           exact wpAny_pure hQ))

/-- the list at a, as it stands at each turn (a loop may append to it) -/
def Itl (K : PySem.W.Frag) (a : Addr) : It :=
  ⟨fun i H => ∃ xs x, SqL K H a xs ∧ xs[i]? = some x, fun i H x H' => H' = H ∧ ∀ xs, SqL K H a xs → xs[i]? = some x, fun i H => ∃ xs, SqL K H a xs ∧ xs.length ≤ i⟩
def Itt (K : PySem.W.Frag) (a : Addr) : It :=
  ⟨fun i H => ∃ xs x, SqT K H a xs ∧ xs[i]? = some x, fun i H x H' => H' = H ∧ ∀ xs, SqT K H a xs → xs[i]? = some x, fun i H => ∃ xs, SqT K H a xs ∧ xs.length ≤ i⟩
/-- lo, lo + 1, .. (n of them) -/
def Itr (lo : Int) (n : Nat) : It := ⟨fun i _ => i < n, fun i H x H' => H' = H ∧ x = .int (lo + i), fun i _ => n ≤ i⟩
theorem turn_list {P : Program} {w : World} {K : PySem.W.Frag} {tg : Expr} (a it : Addr) : Turn P w K tg (Itl K a) [it] it (fun i h => h.IsListIter it a i) where
  mem := by simp
  obj := fun i h st b hb => by
    have e : b = it := by simpa using hb
    subst e
    obtain ⟨o, e, c, d⟩ := st
    exact ⟨o, e, fun v z => by rw [d] at z; cases z⟩
  keep := fun i h h' st k => st.at fun o e => k it (by simp) o e
  item := by
    intro X hP hw hK hc i pins s σ H E I hf st hg
    subst hP hw hK
    obtain ⟨xs, x, hq, hx⟩ := hg
    obtain ⟨its, rv, p, hz⟩ := I.list hq
    obtain ⟨u, hu, ru⟩ := rv.get hx
    obtain ⟨f0, f1, f2, f3, f4, f5⟩ := hf it (by simp)
    refine wpAny_pyNext_list_item st p.isList (x := u) (by simpa using hu) fun h' st' sb => ?_
    have I1 : Inv X pins σ H { s with heap := h' } := I.turned (t' := s.toks) (fun b o hb e => (sb.2 b hb).trans e) f0 f1 f3 f4 f5
    obtain ⟨o, e, c, d⟩ := id st'
    exact ⟨u, rfl, go_of (s := { s with heap := h' }) e c d (by decide) ⟨x, H, I1, ru, ⟨rfl, fun ys hy => by rw [I.list_inj hy hq]; exact hx⟩, st', fun b hb => (hf b hb).1⟩⟩
  done := by
    intro X hP hw hK hc i pins s σ H E I hf st hg
    subst hP hw hK
    obtain ⟨xs, hq, hx⟩ := hg
    obtain ⟨its, rv, p, hz⟩ := I.list hq
    obtain ⟨f0, f1, f2, f3, f4, f5⟩ := hf it (by simp)
    have hl := rv.length
    exact wpAny_pyNext_list_end (I.ok.hd hc) st p.isList (by simp; omega) fun h' eb => ⟨rfl, I.turned (t' := s.toks) (fun b o hb e => eb b o hb e) f0 f1 f3 f4 f5⟩
  self := fun _ _ _ _ _ st h => wpAny_pyIter_listiter st h
theorem turn_tuple {P : Program} {w : World} {K : PySem.W.Frag} {tg : Expr} (a it : Addr) : Turn P w K tg (Itt K a) [it] it (fun i h => h.IsTupleIter it a i) where
  mem := by simp
  obj := fun i h st b hb => by
    have e : b = it := by simpa using hb
    subst e
    obtain ⟨o, e, c, d⟩ := st
    exact ⟨o, e, fun v z => by rw [d] at z; cases z⟩
  keep := fun i h h' st k => st.at fun o e => k it (by simp) o e
  item := by
    intro X hP hw hK hc i pins s σ H E I hf st hg
    subst hP hw hK
    obtain ⟨xs, x, hq, hx⟩ := hg
    obtain ⟨its, rv, p, hz⟩ := I.tuple hq
    obtain ⟨u, hu, ru⟩ := rv.get hx
    obtain ⟨f0, f1, f2, f3, f4, f5⟩ := hf it (by simp)
    refine wpAny_pyNext_tuple_item st (show s.heap.IsTuple a its.toArray from p) (x := u) (by simpa using hu) fun h' st' sb => ?_
    have I1 : Inv X pins σ H { s with heap := h' } := I.turned (t' := s.toks) (fun b o hb e => (sb.2 b hb).trans e) f0 f1 f3 f4 f5
    obtain ⟨o, e, c, d⟩ := id st'
    exact ⟨u, rfl, go_of (s := { s with heap := h' }) e c d (by decide) ⟨x, H, I1, ru, ⟨rfl, fun ys hy => by rw [I.tuple_inj hy hq]; exact hx⟩, st', fun b hb => (hf b hb).1⟩⟩
  done := by
    intro X hP hw hK hc i pins s σ H E I hf st hg
    subst hP hw hK
    obtain ⟨xs, hq, hx⟩ := hg
    obtain ⟨its, rv, p, hz⟩ := I.tuple hq
    obtain ⟨f0, f1, f2, f3, f4, f5⟩ := hf it (by simp)
    have hl := rv.length
    exact wpAny_pyNext_tuple_end (I.ok.hd hc) st (show s.heap.IsTuple a its.toArray from p) (by simp; omega) fun h' eb => ⟨rfl, I.turned (t' := s.toks) (fun b o hb e => eb b o hb e) f0 f1 f3 f4 f5⟩
  self := fun _ _ _ _ _ st h => wpAny_pyIter_tupleiter st h
theorem turn_range {P : Program} {w : World} {K : PySem.W.Frag} {tg : Expr} (it : Addr) (lo : Int) (n : Nat) : Turn P w K tg (Itr lo n) [it] it (fun i h => IsRangeIter h it (lo + (i : Nat) * 1) ((n : Int) - (i : Nat)) 1) where
  mem := by simp
  obj := fun i h st b hb => by
    have e : b = it := by simpa using hb
    subst e
    exact ⟨_, st, fun v z => by
      have z' : Data.fields _ = Data.cell v := z
      cases z'⟩
  keep := fun i h h' st k => k it (by simp) _ st
  item := by
    intro X hP hw hK hc i pins s σ H E I hf st hg
    subst hP hw hK
    obtain ⟨f0, f1, f2, f3, f4, f5⟩ := hf it (by simp)
    have W := Walks.range (prog := X.prog) (w := X.w) (I.ok.hd hc) it lo 1 n
    refine W.item i s _ _ hg st fun v h' tk hv st' kk => ?_
    obtain ⟨t, rfl⟩ := hv
    have I1 : Inv X pins σ H { s with heap := h', toks := tk } := I.turned (fun b o hb e => kk b o (by simpa using hb) e) f0 f1 f3 f4 f5
    refine ⟨_, rfl, go_of (s := { s with heap := h', toks := tk }) (n := "range_iterator") st' rfl rfl (by decide) ⟨.int (lo + i), H, I1, ⟨t, ?_⟩, ⟨rfl, rfl⟩, st', fun b hb => (hf b hb).1⟩⟩
    rw [Int.mul_one]
  done := by
    intro X hP hw hK hc i pins s σ H E I hf st hg
    subst hP hw hK
    obtain ⟨f0, f1, f2, f3, f4, f5⟩ := hf it (by simp)
    exact wpAny_pyNext_range_end (I.ok.hd hc) st (by have : n ≤ i := hg; omega) fun h' eb => ⟨rfl, I.turned (t' := s.toks) (fun b o hb e => eb b o hb e) f0 f1 f3 f4 f5⟩
  self := fun _ _ _ _ _ st h => wpAny_pyIter_rangeiter st h
end L2

namespace L2
open PySem PySem.Spec PyProof.Rows
section
variable {X : Cx} {tg : Expr}
def iTup (K : PySem.W.Frag) (tl : TE) : TI := fun σ H R => tl σ H fun x H1 => ∃ a, x = .ref a ∧ (∃ xs, SqT K H1 a xs) ∧ R (Itt K a) H1
theorem pi_tup {l : Expr} {tl : TE} (hl : PE X l tl) : PI X tg l (iTup X.K tl) := by
  intro pins s σ H R I h
  refine thn (hl pins s σ H _ I h) fun v s1 ⟨x, H1, I1, r1, q1⟩ => ?_
  obtain ⟨a, e, ⟨xs, hq⟩, q⟩ := q1
  subst e
  cases r1
  obtain ⟨its, rv, p, hz⟩ := I1.tuple hq
  refine wpAny_pyIter_tuple (show s1.heap.IsTuple a its.toArray from p) ?_
  refine ⟨s1.heap.objs.size, [s1.heap.objs.size], _, _, H1, rfl, I1.kept (t' := s1.toks) fun b o e => Heap.get?_push_of_some _ e, turn_tuple a _, ⟨_, Heap.get?_push_size _ rfl, rfl, rfl⟩, fun b hb => ?_, q⟩
  have e : b = s1.heap.objs.size := by simpa using hb
  subst e
  exact I1.fpOk (Nat.le_refl _) (I1.hok.fresh (Nat.le_refl _))
/-- a range object just made, walked -/
theorem range_it {pins : List (Addr × Obj)} {σ : St} {H : Hp} {s : Shared} {R : It → Hp → Prop} {E : Value → Shared → Prop} {lo hi : Int} {t u v : Tok} {tk : Nat} (I : Inv X pins σ H s) (h1 : -(2 ^ 62) ≤ lo) (h2 : lo < 2 ^ 62) (h3 : -(2 ^ 62) ≤ hi) (h4 : hi < 2 ^ 62)
    (q : R (Itr lo (hi - lo).toNat) H) : wpAny (model X.prog X.w) X.A (pyIter (.ref s.heap.objs.size)) (PIE X pins σ tg R) E { s with heap := s.heap.push { cls := .type "range", data := .fields #[.int lo t, .int hi u, .int 1 v] }, toks := tk } := by
  refine wpAny_pyIter_range (IsRange.new ..) (small_one h1 h2 h3 h4) ?_
  have I1 : Inv X pins σ H { s with heap := s.heap.push { cls := .type "range", data := .fields #[.int lo t, .int hi u, .int 1 v] }, toks := tk } := I.kept fun b o e => Heap.get?_push_of_some _ e
  refine ⟨(s.heap.push { cls := .type "range", data := .fields #[.int lo t, .int hi u, .int 1 v] }).objs.size, [(s.heap.push { cls := .type "range", data := .fields #[.int lo t, .int hi u, .int 1 v] }).objs.size], _, _, H, rfl,
    I1.kept (t' := tk) fun b o e => Heap.get?_push_of_some _ e, turn_range _ lo (hi - lo).toNat, ?_, fun b hb => ?_, q⟩
  · have e1 : lo + ((0 : Nat) : Int) * 1 = lo := by simp
    have e2 : (((hi - lo).toNat : Nat) : Int) - ((0 : Nat) : Int) = Builtin.Range.rangeSize lo hi 1 := by rw [rangeSize_one]; split <;> omega
    show IsRangeIter _ _ (lo + ((0 : Nat) : Int) * 1) ((((hi - lo).toNat : Nat) : Int) - ((0 : Nat) : Int)) 1
    rw [e1, e2]
    exact Heap.get?_push_size _ rfl
  · have e : b = (s.heap.push { cls := .type "range", data := .fields #[.int lo t, .int hi u, .int 1 v] }).objs.size := by simpa using hb
    subst e
    exact I1.fpOk (Nat.le_refl _) (I1.hok.fresh (Nat.le_refl _))
def iRng1 (ta : TA) : TI := fun σ H R => ta σ H fun vs H1 => ∃ j : Int, vs = [.int j] ∧ -(2 ^ 62) ≤ j ∧ j < 2 ^ 62 ∧ R (Itr 0 j.toNat) H1
theorem pi_range1 {a : Expr} {ta : TA} {p pos : Pos} (hg : Gl X "range") (hm : X.mg "range" = none) (ha : PA X [a] ta) (hs : starEach [a] X.env = [(false, eval a X.env)] := by rfl) : PI X tg (.Call (.Name "range" p) [a] [] pos) (iRng1 ta) := by
  intro pins s σ H R I h
  refine Call_ (ld_blt I hg hm boot_range (PyProof.Rows.callWith_type1 (thn (ha pos pins s σ H _ I h) fun us s1 ⟨vs, H1, I1, r1, q1⟩ => ?_) hs rfl))
  obtain ⟨j, e, q1, q2, q⟩ := q1
  subst e
  cases r1 with
  | cons r rr =>
    cases rr
    obtain ⟨t, rfl⟩ := r
    exact call_range_1 (range_it I1 (by omega) (by omega) q1 q2 (by simpa using q))

/-! ### for -/
/-- W: the invariant by the turn and a measure; N: what the body is to reach -/
def tFor (wi : TI) (g : TG) (tb : TS) : TS := fun D σ H => wi σ H fun J H1 => ∃ W : Nat → Nat → St → Hp → Prop, (∃ m, W 0 m σ H1) ∧ ∀ i m σ H, W i m σ H →
  (J.stop i H ∧ D.nx σ H) ∨ (J.go i H ∧ ∃ N : St → Hp → Prop, (∀ σ' H', N σ' H' → ∃ m', m' < m ∧ W (i + 1) m' σ' H') ∧ ∀ x H', J.yld i H x H' → g x σ H' fun σ2 H2 => tb { D with nx := N, ct := N, bk := D.nx } σ2 H2)
/-- the records at fp as they stand -/
def pinsAt (fp : List Addr) (h : Heap) : List (Addr × Obj) := fp.filterMap fun b => (h.get? b).map fun o => (b, o)
theorem mem_pinsAt {fp : List Addr} {h : Heap} {b : Addr} {o : Obj} (hb : b ∈ fp) (e : h.get? b = some o) : (b, o) ∈ pinsAt fp h := List.mem_filterMap.mpr ⟨b, hb, by rw [e]; rfl⟩
theorem of_pinsAt {fp : List Addr} {h : Heap} {p : Addr × Obj} (hp : p ∈ pinsAt fp h) : p.1 ∈ fp ∧ h.get? p.1 = some p.2 := by
  obtain ⟨b, hb, e⟩ := List.mem_filterMap.mp hp
  cases q : h.get? b with
  | none => rw [q] at e; cases e
  | some o =>
    rw [q] at e
    have e' : (b, o) = p := Option.some.inj e
    subst e'
    exact ⟨hb, q⟩
theorem Inv.pinned {pins : List (Addr × Obj)} {σ : St} {H : Hp} {s : Shared} {fp : List Addr} (I : Inv X pins σ H s) (hf : ∀ b ∈ fp, FpOk X pins H b) (ho : ∀ b ∈ fp, ∃ o, s.heap.get? b = some o ∧ ∀ v, o.data ≠ .cell v) : Inv X (pins ++ pinsAt fp s.heap) σ H s :=
  I.pins_of fun p hp => (List.mem_append.mp hp).elim (fun z => I.pin p (List.mem_append_right _ z)) fun z => by
    obtain ⟨hb, e⟩ := of_pinsAt z
    obtain ⟨f0, f1, f2, _⟩ := hf p.1 hb
    obtain ⟨o, e', d⟩ := ho p.1 hb
    rw [e] at e'; cases e'
    exact ⟨e, f0, f1, f2, d⟩
theorem Inv.unpinned {pins pl : List (Addr × Obj)} {σ : St} {H : Hp} {s : Shared} (I : Inv X (pins ++ pl) σ H s) : Inv X pins σ H s := I.pins_of fun p hp => I.pin p (List.mem_append_right _ (List.mem_append_left _ hp))
theorem ps_for {iter : Expr} {body : List Stmt} {wi : TI} {g : TG} {tb : TS} {pos : Pos} (hp : PassesOwn (model X.prog X.w) X.A X.env X.xe) (hc : X.calm = true) (hi : PI X tg iter wi) (hg : PG X tg g) (hb : PSs X body tb)
    (hs : ∀ x, foldedSetIterable iter X.env x = pure x := by intro _; rfl) : PS X (.For tg iter body [] pos) (tFor wi g tb) := by
  intro pins s σ H D I h
  refine wpAny_For (thn (hi pins s σ H _ I h) fun v s1 h1 => thn h1 fun itv s2 h2 => ?_) hs
  obtain ⟨it, fp, tn, J, H2, e, I2, T, st2, f2, W, ⟨m0, w0⟩, turn⟩ := h2
  subst e
  -- what stays true of the iterator's objects through the loop
  have stat : ∀ {H' : Hp}, (∀ b ∈ fp, H' b = none) → ∀ b ∈ fp, FpOk X pins H' b := fun hn b hb => ⟨hn b hb, (f2 b hb).2⟩
  refine codeAny_forLoop_any (fun n s' => ∃ i σ' H', Inv X pins σ' H' s' ∧ tn i s'.heap ∧ (∀ b ∈ fp, H' b = none) ∧ W i n σ' H') ?_ m0 ⟨0, σ, H2, I2, st2, fun b hb => (f2 b hb).1, w0⟩
  rintro n s3 ⟨i, σ3, H3, I3, st3, fr3, w3⟩
  rcases turn i n σ3 H3 w3 with ⟨stop, qn⟩ | ⟨go, N, hN, step⟩
  · refine wpAny_passesOwn hp (thn (T.done X rfl rfl rfl hc i pins s3 σ3 H3 X.xe I3 (stat fr3) st3 stop) fun r s4 ⟨hr, I4⟩ => ?_)
    subst hr
    exact wpAny_execs_nil ⟨σ3, H3, I4, qn⟩
  · refine wpAny_passesOwn hp (thn (T.item X rfl rfl rfl hc i pins s3 σ3 H3 X.xe I3 (stat fr3) st3 go) fun r s4 ⟨u, hr, h4⟩ => ?_)
    subst hr
    refine wpAny_passesOwn hp (thn h4 fun _ s5 ⟨x, H5, I5, r5, y5, st5, fr5⟩ => ?_)
    have I5' := I5.pinned (stat fr5) (T.obj _ _ st5)
    refine wpAny_passesOwn hp (thn (hg _ s5 σ3 H5 x u _ I5' r5 (step x H5 y5)) fun _ s6 ⟨σ6, H6, I6, q6⟩ => ?_)
    refine wpAny_passesOwn hp (thn (hb _ s6 σ6 H6 _ I6 q6) fun f s7 q7 => ?_)
    have again : ∀ {σ7 : St} {H7 : Hp}, Inv X (pins ++ pinsAt fp s5.heap) σ7 H7 s7 → N σ7 H7 → ∃ m, m < n ∧ ∃ i σ' H', Inv X pins σ' H' s7 ∧ tn i s7.heap ∧ (∀ b ∈ fp, H' b = none) ∧ W i m σ' H' := fun {σ7 H7} I7 n7 => by
      obtain ⟨m', hm, w7⟩ := hN σ7 H7 n7
      refine ⟨m', hm, i + 1, σ7, H7, I7.unpinned, T.keep _ _ _ st5 fun b hb o e => (I7.pin (b, o) (List.mem_append_right _ (List.mem_append_right _ (mem_pinsAt hb e)))).1, fun b hb => ?_, w7⟩
      obtain ⟨o, e, d⟩ := T.obj _ _ st5 b hb
      exact (I7.pin (b, o) (List.mem_append_right _ (List.mem_append_right _ (mem_pinsAt hb e)))).2.1
    cases f with
    | next => obtain ⟨σ7, H7, I7, n7⟩ := q7; exact again I7 n7
    | cont => obtain ⟨σ7, H7, I7, n7⟩ := q7; exact again I7 n7
    | brk => obtain ⟨σ7, H7, I7, q7⟩ := q7; exact ⟨σ7, H7, I7.unpinned, q7⟩
    | ret v => obtain ⟨x7, σ7, H7, I7, r7, q7⟩ := q7; exact ⟨x7, σ7, H7, I7.unpinned, r7, q7⟩
end

/-! ### the forms one uses -/
/-- over a list that the body leaves as it is -/
theorem for_list {K : PySem.W.Frag} {a : Addr} {xs : List V} {g : TG} {tb : TS} {D : Ends} {σ : St} {H : Hp} (Pv : Nat → St → Hp → Prop) (h0 : Pv 0 σ H) (hl : ∀ i σ H, i ≤ xs.length → Pv i σ H → SqL K H a xs)
    (hs : ∀ i x σ H, xs[i]? = some x → Pv i σ H → g x σ H fun σ2 H2 => tb { D with nx := Pv (i + 1), ct := Pv (i + 1), bk := D.nx } σ2 H2) (hd : ∀ σ H, Pv xs.length σ H → D.nx σ H) :
    ∃ W : Nat → Nat → St → Hp → Prop, (∃ m, W 0 m σ H) ∧ ∀ i m σ H, W i m σ H →
      ((Itl K a).stop i H ∧ D.nx σ H) ∨ ((Itl K a).go i H ∧ ∃ N : St → Hp → Prop, (∀ σ' H', N σ' H' → ∃ m', m' < m ∧ W (i + 1) m' σ' H') ∧ ∀ x H', (Itl K a).yld i H x H' → g x σ H' fun σ2 H2 => tb { D with nx := N, ct := N, bk := D.nx } σ2 H2) := by
  refine ⟨fun i m σ H => m = xs.length - i ∧ i ≤ xs.length ∧ Pv i σ H, ⟨xs.length, by simp, Nat.zero_le _, h0⟩, ?_⟩
  rintro i m σ H ⟨rfl, hi, p⟩
  have q := hl i σ H hi p
  by_cases hlt : i < xs.length
  · refine .inr ⟨⟨xs, xs[i], q, by simp [hlt]⟩, Pv (i + 1), fun σ' H' p' => ⟨xs.length - (i + 1), by omega, rfl, hlt, p'⟩, fun x H' y => ?_⟩
    obtain ⟨e, y⟩ := y
    subst e
    exact hs i x σ _ (y xs q) p
  · have e : i = xs.length := by omega
    subst e
    exact .inl ⟨⟨xs, q, Nat.le_refl _⟩, hd σ H p⟩
theorem for_tup {K : PySem.W.Frag} {a : Addr} {xs : List V} {g : TG} {tb : TS} {D : Ends} {σ : St} {H : Hp} (Pv : Nat → St → Hp → Prop) (h0 : Pv 0 σ H) (hl : ∀ i σ H, i ≤ xs.length → Pv i σ H → SqT K H a xs)
    (hs : ∀ i x σ H, xs[i]? = some x → Pv i σ H → g x σ H fun σ2 H2 => tb { D with nx := Pv (i + 1), ct := Pv (i + 1), bk := D.nx } σ2 H2) (hd : ∀ σ H, Pv xs.length σ H → D.nx σ H) :
    ∃ W : Nat → Nat → St → Hp → Prop, (∃ m, W 0 m σ H) ∧ ∀ i m σ H, W i m σ H →
      ((Itt K a).stop i H ∧ D.nx σ H) ∨ ((Itt K a).go i H ∧ ∃ N : St → Hp → Prop, (∀ σ' H', N σ' H' → ∃ m', m' < m ∧ W (i + 1) m' σ' H') ∧ ∀ x H', (Itt K a).yld i H x H' → g x σ H' fun σ2 H2 => tb { D with nx := N, ct := N, bk := D.nx } σ2 H2) := by
  refine ⟨fun i m σ H => m = xs.length - i ∧ i ≤ xs.length ∧ Pv i σ H, ⟨xs.length, by simp, Nat.zero_le _, h0⟩, ?_⟩
  rintro i m σ H ⟨rfl, hi, p⟩
  have q := hl i σ H hi p
  by_cases hlt : i < xs.length
  · refine .inr ⟨⟨xs, xs[i], q, by simp [hlt]⟩, Pv (i + 1), fun σ' H' p' => ⟨xs.length - (i + 1), by omega, rfl, hlt, p'⟩, fun x H' y => ?_⟩
    obtain ⟨e, y⟩ := y
    subst e
    exact hs i x σ _ (y xs q) p
  · have e : i = xs.length := by omega
    subst e
    exact .inl ⟨⟨xs, q, Nat.le_refl _⟩, hd σ H p⟩
theorem for_range {lo : Int} {n : Nat} {g : TG} {tb : TS} {D : Ends} {σ : St} {H : Hp} (Pv : Nat → St → Hp → Prop) (h0 : Pv 0 σ H)
    (hs : ∀ i σ H, i < n → Pv i σ H → g (.int (lo + i)) σ H fun σ2 H2 => tb { D with nx := Pv (i + 1), ct := Pv (i + 1), bk := D.nx } σ2 H2) (hd : ∀ σ H, Pv n σ H → D.nx σ H) :
    ∃ W : Nat → Nat → St → Hp → Prop, (∃ m, W 0 m σ H) ∧ ∀ i m σ H, W i m σ H →
      ((Itr lo n).stop i H ∧ D.nx σ H) ∨ ((Itr lo n).go i H ∧ ∃ N : St → Hp → Prop, (∀ σ' H', N σ' H' → ∃ m', m' < m ∧ W (i + 1) m' σ' H') ∧ ∀ x H', (Itr lo n).yld i H x H' → g x σ H' fun σ2 H2 => tb { D with nx := N, ct := N, bk := D.nx } σ2 H2) := by
  refine ⟨fun i m σ H => m = n - i ∧ i ≤ n ∧ Pv i σ H, ⟨n, by simp, Nat.zero_le _, h0⟩, ?_⟩
  rintro i m σ H ⟨rfl, hi, p⟩
  by_cases hlt : i < n
  · refine .inr ⟨hlt, Pv (i + 1), fun σ' H' p' => ⟨n - (i + 1), by omega, rfl, hlt, p'⟩, fun x H' y => ?_⟩
    obtain ⟨e, y⟩ := y
    subst e y
    exact hs i σ _ hlt p
  · have e : i = n := by omega
    subst e
    exact .inl ⟨Nat.le_refl _, hd σ H p⟩
end L2

namespace L2
open PySem PySem.Spec PyProof.Rows

abbrev R2 := V → V → Hp → VK → Prop
/-- a two-place operation on values: f is binaryOp op, inplaceOp op or compareOp op -/
def OpR (X : Cx) (f : Value → Value → Sem Value) (r : R2) : Prop :=
  ∀ (pins : List (Addr × Obj)) (s : Shared) (σ : St) (H : Hp) (x y : V) (v u : Value) (Q : VK), Inv X pins σ H s → RelV x v → RelV y u → r x y H Q →
    wpAny (model X.prog X.w) X.A (f v u) (EP X pins σ Q) X.xe s
/-- a one-place operation -/
def UnR (X : Cx) (f : Value → Sem Value) (r : V → Hp → VK → Prop) : Prop :=
  ∀ (pins : List (Addr × Obj)) (s : Shared) (σ : St) (H : Hp) (x : V) (v : Value) (Q : VK), Inv X pins σ H s → RelV x v → r x H Q →
    wpAny (model X.prog X.w) X.A (f v) (EP X pins σ Q) X.xe s
/-- a call of a value that is known (a builtin, a type) with values -/
def CallR (X : Cx) (f : Value) (r : List V → Hp → VK → Prop) : Prop :=
  ∀ (pins : List (Addr × Obj)) (s : Shared) (σ : St) (H : Hp) (xs : List V) (us : List Value) (Q : VK), Inv X pins σ H s → Vals xs us → r xs H Q →
    wpAny (model X.prog X.w) X.A (call f us) (EP X pins σ Q) X.xe s

def tOp (r : R2) (ta tb : TE) : TE := fun σ H Q => ta σ H fun x H1 => tb σ H1 fun y H2 => r x y H2 Q
def tUn (r : V → Hp → VK → Prop) (ta : TE) : TE := fun σ H Q => ta σ H fun x H1 => r x H1 Q
/-- ints in, under C, and a value out -/
def rI (C : Int → Int → Prop) (g : Int → Int → V) : R2 := fun x y H Q => ∃ i j, x = .int i ∧ y = .int j ∧ C i j ∧ Q (g i j) H
def rI0 (g : Int → Int → V) : R2 := fun x y H Q => ∃ i j, x = .int i ∧ y = .int j ∧ Q (g i j) H
def rU (g : Int → V) : V → Hp → VK → Prop := fun x H Q => ∃ i, x = .int i ∧ Q (g i) H

section
variable {X : Cx} {a b c : Expr} {ta tb tc : TE} {pos : Pos}

theorem binT (ha : PE X a ta) (hb : PE X b tb) {pins : List (Addr × Obj)} {s : Shared} {σ : St} {H : Hp} {R : V → V → Hp → Prop} (I : Inv X pins σ H s)
    (h : ta σ H fun x H1 => tb σ H1 fun y H2 => R x y H2) {Q : Value → Shared → Prop} {f : Value → Value → Sem Value}
    (hf : ∀ v u s2 x y H2, Inv X pins σ H2 s2 → RelV x v → RelV y u → R x y H2 → wpAny (model X.prog X.w) X.A (f v u) Q X.xe s2) :
    wpAny (model X.prog X.w) X.A (eval a X.env) (fun v s₁ => wpAny (model X.prog X.w) X.A (eval b X.env) (fun u s₂ => wpAny (model X.prog X.w) X.A (f v u) Q X.xe s₂) X.xe s₁) X.xe s := by
  refine thn (ha pins s σ H _ I h) fun v s1 ⟨x, H1, I1, r1, q1⟩ => ?_
  refine thn (hb pins s1 σ H1 _ I1 q1) fun u s2 ⟨y, H2, I2, r2, q2⟩ => ?_
  exact hf v u s2 x y H2 I2 r1 r2 q2

theorem pe_op {op : Operator} {r : R2} (ho : OpR X (binaryOp op) r) (ha : PE X a ta) (hb : PE X b tb) : PE X (.BinOp a op b pos) (tOp r ta tb) := by
  intro pins s σ H Q I h
  exact wpAny_BinOp (binT ha hb I h fun v u s2 x y H2 I2 rx ry q => ho pins s2 σ H2 x y v u Q I2 rx ry q)
theorem pe_un {op : UnaryOp} {r : V → Hp → VK → Prop} (ho : UnR X (unaryOp op) r) (ha : PE X a ta) : PE X (.UnaryOp op a pos) (tUn r ta) := by
  intro pins s σ H Q I h
  exact UnaryOp_ (thn (ha pins s σ H _ I h) fun v s1 ⟨x, H1, I1, r1, q1⟩ => ho pins s1 σ H1 x v Q I1 r1 q1)

/-! ### ints -/
theorem opI {f : Value → Value → Sem Value} {C : Int → Int → Prop} {g : Int → Int → Int}
    (rule : ∀ (i j : Int) (t u : Tok) (s : Shared) (Q : Value → Shared → Prop) (E : Value → Shared → Prop), C i j → Q (.int (g i j) s.toks) { s with toks := s.toks + 1 } → wpAny (model X.prog X.w) X.A (f (.int i t) (.int j u)) Q E s) :
    OpR X f (rI C fun i j => .int (g i j)) := by
  intro pins s σ H x y v u Q I rx ry h
  obtain ⟨i, j, rfl, rfl, hc, q⟩ := h
  obtain ⟨t, rfl⟩ := rx
  obtain ⟨t', rfl⟩ := ry
  exact rule i j t t' s _ _ hc ⟨.int (g i j), H, I.tok _, ⟨_, rfl⟩, q⟩
theorem opI0 {f : Value → Value → Sem Value} {g : Int → Int → Int}
    (rule : ∀ (i j : Int) (t u : Tok) (s : Shared) (Q : Value → Shared → Prop) (E : Value → Shared → Prop), Q (.int (g i j) s.toks) { s with toks := s.toks + 1 } → wpAny (model X.prog X.w) X.A (f (.int i t) (.int j u)) Q E s) :
    OpR X f (rI0 fun i j => .int (g i j)) := by
  intro pins s σ H x y v u Q I rx ry h
  obtain ⟨i, j, rfl, rfl, q⟩ := h
  obtain ⟨t, rfl⟩ := rx
  obtain ⟨t', rfl⟩ := ry
  exact rule i j t t' s _ _ ⟨.int (g i j), H, I.tok _, ⟨_, rfl⟩, q⟩
theorem opB0 {f : Value → Value → Sem Value} {g : Int → Int → Bool}
    (rule : ∀ (i j : Int) (t u : Tok) (s : Shared) (Q : Value → Shared → Prop) (E : Value → Shared → Prop), Q (.bool (g i j)) s → wpAny (model X.prog X.w) X.A (f (.int i t) (.int j u)) Q E s) :
    OpR X f (rI0 fun i j => .bl (g i j)) := by
  intro pins s σ H x y v u Q I rx ry h
  obtain ⟨i, j, rfl, rfl, q⟩ := h
  obtain ⟨t, rfl⟩ := rx
  obtain ⟨t', rfl⟩ := ry
  exact rule i j t t' s _ _ ⟨.bl (g i j), H, I, rfl, q⟩

def CDiv (i j : Int) : Prop := 0 < j ∧ j < 1073741824
def CPow (i j : Int) : Prop := 0 ≤ j ∧ j ≤ 1000000 ∧ i.natAbs < 2 ^ 64
def CMul (i j : Int) : Prop := (-(2 ^ 64) < i ∧ i < 2 ^ 64) ∨ (-(2 ^ 64) < j ∧ j < 2 ^ 64)
theorem CMul.ok {i j : Int} (h : CMul i j) : IntMulOk i j := by
  rcases h with ⟨h1, h2⟩ | ⟨h1, h2⟩
  · exact .of_left (intBits_le_64 h1 h2)
  · exact .of_right (intBits_le_64 h1 h2)

theorem op_add : OpR X (binaryOp .Add) (rI0 fun i j => .int (i + j)) := opI0 fun _ _ _ _ _ _ _ q => add_int q
theorem op_sub : OpR X (binaryOp .Sub) (rI0 fun i j => .int (i - j)) := opI0 fun _ _ _ _ _ _ _ q => sub_int q
theorem op_mul : OpR X (binaryOp .Mult) (rI CMul fun i j => .int (i * j)) := opI fun _ _ _ _ _ _ _ hc q => mul_int q hc.ok
/-- // by a positive divisor -/
theorem op_fdiv : OpR X (binaryOp .FloorDiv) (rI CDiv fun i j => .int (i / j)) := opI fun i j _ _ _ _ _ hc q => by
  have h1 : (0 : Int) < j := hc.1
  have h2 : j < 1073741824 := hc.2
  exact floordiv_int (by omega) (by rw [Int.fdiv_eq_ediv_of_nonneg i (by omega)]; exact q) (.inl (PyProof.noPylong_small (by omega)))
/-- % by a positive divisor of any size -/
theorem op_mod : OpR X (binaryOp .Mod) (rI (fun _ j => 0 < j) fun i j => .int (i % j)) := opI fun i j _ _ _ _ _ hc q => by
  have h1 : (0 : Int) < j := hc
  exact mod_int' (by omega) (by rw [Int.fmod_eq_emod_of_nonneg i (by omega)]; exact q)
theorem op_pow : OpR X (binaryOp .Pow) (rI CPow fun i j => .int (i ^ j.toNat)) := opI fun _ _ _ _ _ _ _ hc q => pow_int_small hc.1 hc.2.1 hc.2.2 q


theorem unI {f : Value → Sem Value} {g : Int → Int}
    (rule : ∀ (i : Int) (t : Tok) (s : Shared) (Q : Value → Shared → Prop) (E : Value → Shared → Prop), Q (.int (g i) s.toks) { s with toks := s.toks + 1 } → wpAny (model X.prog X.w) X.A (f (.int i t)) Q E s) :
    UnR X f (rU fun i => .int (g i)) := by
  intro pins s σ H x v Q I rx h
  obtain ⟨i, rfl, q⟩ := h
  obtain ⟨t, rfl⟩ := rx
  exact rule i t s _ _ ⟨.int (g i), H, I.tok _, ⟨_, rfl⟩, q⟩
theorem un_neg : UnR X (unaryOp .USub) (rU fun i => .int (-i)) := unI fun _ _ _ _ _ q => neg_int q

/-! ### bools among ints: n += (a < b) -/
end

/-! ### comparisons -/
/-- the scalars that == tells apart as data does -/
def scal : V → V → Bool
  | .non, .non => true | .non, .int _ => true | .int _, .non => true | .non, .bl _ => true | .bl _, .non => true | .non, .str _ => true | .str _, .non => true
  | .int _, .int _ => true | .bl _, .bl _ => true | .str _, .str _ => true | .byt _, .byt _ => true
  | .int _, .str _ => true | .str _, .int _ => true | .bl _, .str _ => true | .str _, .bl _ => true
  | _, _ => false
def rEq : R2 := fun x y H Q => scal x y = true ∧ Q (.bl (decide (x = y))) H
def rNe : R2 := fun x y H Q => scal x y = true ∧ Q (.bl (!decide (x = y))) H

theorem dec_int {i j : Int} : decide (V.int i = V.int j) = (i == j) := by
  rw [Bool.eq_iff_iff]
  simp
theorem dec_bl {i j : Bool} : decide (V.bl i = V.bl j) = (i == j) := by
  rw [Bool.eq_iff_iff]
  simp
theorem dec_str {i j : Str} : decide (V.str i = V.str j) = (i == j) := by
  rw [Bool.eq_iff_iff]
  simp
theorem dec_byt {i j : Array UInt8} : decide (V.byt i = V.byt j) = (i.toList == j.toList) := by
  rw [Bool.eq_iff_iff]
  cases i
  cases j
  simp

section
variable {X : Cx} {a b c : Expr} {ta tb tc : TE} {pos : Pos}
theorem fin_bl {pins : List (Addr × Obj)} {σ : St} {H : Hp} {s : Shared} {Q : VK} {k k' : Bool} (I : Inv X pins σ H s) (q : Q (.bl k) H) (e : k = k') : EP X pins σ Q (.bool k') s := by
  subst e
  exact ⟨.bl k, H, I, rfl, q⟩
theorem op_eq : OpR X (compareOp .Eq) rEq := by
  intro pins s σ H x y v u Q I rx ry h
  obtain ⟨hs, q⟩ := h
  cases x with
  | non =>
    cases rx
    cases y with
    | non => cases ry; exact PySem.EqNone.eq_none_none (fin_bl I q (by simp))
    | bl j => cases ry; exact PySem.EqNone.eq_none_bool (fin_bl I q (by simp))
    | int j => obtain ⟨t', rfl⟩ := ry; exact PySem.EqNone.eq_none_int (fin_bl I q (by simp))
    | str j => obtain ⟨t', rfl⟩ := ry; exact PySem.EqNone.eq_none_str (fin_bl I q (by simp))
    | _ => exact absurd (show false = true from hs) Bool.false_ne_true
  | bl i =>
    cases rx
    cases y with
    | non => cases ry; exact PySem.EqNone.eq_bool_none (fin_bl I q (by simp))
    | bl j => cases ry; exact eq_bool (fin_bl I q dec_bl)
    | str j => obtain ⟨t', rfl⟩ := ry; exact PySem.EqMixed.eq_bool_str (fin_bl I q (by simp))
    | _ => exact absurd (show false = true from hs) Bool.false_ne_true
  | int i =>
    obtain ⟨t, rfl⟩ := rx
    cases y with
    | non => cases ry; exact PySem.EqNone.eq_int_none (fin_bl I q (by simp))
    | int j => obtain ⟨t', rfl⟩ := ry; exact eq_int (fin_bl I q dec_int)
    | str j => obtain ⟨t', rfl⟩ := ry; exact PySem.EqMixed.eq_int_str (fin_bl I q (by simp))
    | _ => exact absurd (show false = true from hs) Bool.false_ne_true
  | str i =>
    obtain ⟨t, rfl⟩ := rx
    cases y with
    | non => cases ry; exact PySem.EqNone.eq_str_none (fin_bl I q (by simp))
    | bl j => cases ry; exact PySem.EqMixed.eq_str_bool (fin_bl I q (by simp))
    | int j => obtain ⟨t', rfl⟩ := ry; exact PySem.EqMixed.eq_str_int (fin_bl I q (by simp))
    | str j => obtain ⟨t', rfl⟩ := ry; exact eq_str (fin_bl I q dec_str)
    | _ => exact absurd (show false = true from hs) Bool.false_ne_true
  | byt i =>
    obtain ⟨t, rfl⟩ := rx
    cases y with
    | byt j => obtain ⟨t', rfl⟩ := ry; exact PySem.W.eq_bytes (fin_bl I q dec_byt)
    | _ => exact absurd (show false = true from hs) Bool.false_ne_true
  | _ => cases y <;> exact absurd (show false = true from hs) Bool.false_ne_true
theorem op_ne : OpR X (compareOp .NotEq) rNe := by
  intro pins s σ H x y v u Q I rx ry h
  obtain ⟨hs, q⟩ := h
  cases x with
  | non =>
    cases rx
    cases y with
    | non => cases ry; exact PySem.EqNone.ne_none_none (fin_bl I q (by simp))
    | bl j => cases ry; exact PySem.EqNone.ne_none_bool (fin_bl I q (by simp))
    | int j => obtain ⟨t', rfl⟩ := ry; exact PySem.EqNone.ne_none_int (fin_bl I q (by simp))
    | str j => obtain ⟨t', rfl⟩ := ry; exact PySem.EqNone.ne_none_str (fin_bl I q (by simp))
    | _ => exact absurd (show false = true from hs) Bool.false_ne_true
  | bl i =>
    cases rx
    cases y with
    | non => cases ry; exact PySem.EqNone.ne_bool_none (fin_bl I q (by simp))
    | bl j => cases ry; exact ne_bool (fin_bl I q (congrArg not dec_bl))
    | str j => obtain ⟨t', rfl⟩ := ry; exact PySem.EqMixed.ne_bool_str (fin_bl I q (by simp))
    | _ => exact absurd (show false = true from hs) Bool.false_ne_true
  | int i =>
    obtain ⟨t, rfl⟩ := rx
    cases y with
    | non => cases ry; exact PySem.EqNone.ne_int_none (fin_bl I q (by simp))
    | int j => obtain ⟨t', rfl⟩ := ry; exact ne_int (fin_bl I q (congrArg not dec_int))
    | str j => obtain ⟨t', rfl⟩ := ry; exact PySem.EqMixed.ne_int_str (fin_bl I q (by simp))
    | _ => exact absurd (show false = true from hs) Bool.false_ne_true
  | str i =>
    obtain ⟨t, rfl⟩ := rx
    cases y with
    | non => cases ry; exact PySem.EqNone.ne_str_none (fin_bl I q (by simp))
    | bl j => cases ry; exact PySem.EqMixed.ne_str_bool (fin_bl I q (by simp))
    | int j => obtain ⟨t', rfl⟩ := ry; exact PySem.EqMixed.ne_str_int (fin_bl I q (by simp))
    | str j => obtain ⟨t', rfl⟩ := ry; exact ne_str (fin_bl I q (congrArg not dec_str))
    | _ => exact absurd (show false = true from hs) Bool.false_ne_true
  | byt i =>
    obtain ⟨t, rfl⟩ := rx
    cases y with
    | byt j => obtain ⟨t', rfl⟩ := ry; exact PySem.W.ne_bytes (fin_bl I q (congrArg not dec_byt))
    | _ => exact absurd (show false = true from hs) Bool.false_ne_true
  | _ => cases y <;> exact absurd (show false = true from hs) Bool.false_ne_true

theorem op_lt : OpR X (compareOp .Lt) (rI0 fun i j => .bl (decide (i < j))) := opB0 fun _ _ _ _ _ _ _ q => lt_int q
theorem op_le : OpR X (compareOp .LtE) (rI0 fun i j => .bl (decide (i ≤ j))) := opB0 fun _ _ _ _ _ _ _ q => le_int q
theorem op_gt : OpR X (compareOp .Gt) (rI0 fun i j => .bl (decide (j < i))) := opB0 fun _ _ _ _ _ _ _ q => gt_int q
/-- the one string within the other -/
theorem op_in_str : OpR X (compareOp .In) (fun x y H Q => ∃ i j, x = .str i ∧ y = .str j ∧ Q (.bl (!(Builtin.Str.occurrences j i 0 j.length 1).isEmpty)) H) := by
  intro pins s σ H x y v u Q I rx ry h
  obtain ⟨i, j, rfl, rfl, q⟩ := h
  obtain ⟨t, rfl⟩ := rx
  obtain ⟨t', rfl⟩ := ry
  exact in_str (fin_bl I q rfl)

/-- is None, is not None: the right side a value none -/
theorem op_isN : OpR X (compareOp .Is) (fun x y H Q => y = .non ∧ Q (.bl (decide (x = .non))) H) := by
  intro pins s σ H x y v u Q I rx ry h
  obtain ⟨rfl, q⟩ := h
  cases ry
  refine is_none_gen (fin_bl I q ?_)
  cases x <;> first
    | (cases rx; rfl)
    | (obtain ⟨t, rfl⟩ := rx; rfl)



theorem nomark (b : Expr) {op : CmpOp} (h : op ≠ .In := by decide) (h2 : op ≠ .NotIn := by decide) : behindInMarks op b = false := by
  have e1 : (op == CmpOp.In) = false := by cases op <;> first | rfl | exact absurd rfl h
  have e2 : (op == CmpOp.NotIn) = false := by cases op <;> first | rfl | exact absurd rfl h2
  cases b <;> simp [behindInMarks, e1, e2]
/-- a comparison as a value; hm: nomark b, or (for in, not in) by with_unfolding_all rfl -/
theorem pe_cmpR {op : CmpOp} {r : R2} (ho : OpR X (compareOp op) r) (ha : PE X a ta) (hb : PE X b tb) (hm : behindInMarks op b = false) : PE X (.Compare a [op] [b] pos) (tOp r ta tb) := by
  intro pins s σ H Q I h
  exact wpAny_Compare1 (binT ha hb I h fun v u s2 x y H2 I2 rx ry q => ho pins s2 σ H2 x y v u Q I2 rx ry q) hm
/-- a reading of a value as a test -/
def tTest (t : TE) : TT := fun σ H Q => t σ H fun x H' => ∃ k, x = .bl k ∧ Q k H'
theorem pt_cmpR {op : CmpOp} {r : R2} (ho : OpR X (compareOp op) r) (ha : PE X a ta) (hb : PE X b tb) (hm : behindInMarks op b = false) : PT X (.Compare a [op] [b] pos) (tTest (tOp r ta tb)) := by
  intro pins s σ H Q I h
  refine wpAny_isTrue_Compare1 (thn (ha pins s σ H _ I h) fun v s1 ⟨x, H1, I1, r1, q1⟩ => thn (hb pins s1 σ H1 _ I1 q1) fun u s2 ⟨y, H2, I2, r2, q2⟩ =>
    thn (ho pins s2 σ H2 x y v u _ I2 r1 r2 q2) fun c s3 ⟨z, H3, I3, r3, k, e, q3⟩ => ?_) hm
  subst e
  cases r3
  exact wpAny_truthy_bool ⟨H3, I3, q3⟩
/-- a op1 b op2 c -/
def tChain (r r' : R2) (ta tb tc : TE) : TE := fun σ H Q => ta σ H fun x H1 => tb σ H1 fun y H2 => r x y H2 fun z H3 => ∃ k, z = .bl k ∧
  (if k = true then tc σ H3 fun w' H4 => r' y w' H4 Q else Q (.bl false) H3)
theorem pe_chain {op op' : CmpOp} {r r' : R2} (ho : OpR X (compareOp op) r) (ho' : OpR X (compareOp op') r') (ha : PE X a ta) (hb : PE X b tb) (hc : PE X c tc)
    (hm : lastMarks [op, op'] [b, c] = false := by with_unfolding_all rfl) : PE X (.Compare a [op, op'] [b, c] pos) (tChain r r' ta tb tc) := by
  intro pins s σ H Q I h
  refine Compare_chain (thn (ha pins s σ H _ I h) fun v s1 ⟨x, H1, I1, r1, q1⟩ => chain_link (thn (hb pins s1 σ H1 _ I1 q1) fun u s2 ⟨y, H2, I2, r2, q2⟩ =>
    thn (ho pins s2 σ H2 x y v u _ I2 r1 r2 q2) fun d s3 ⟨z, H3, I3, r3, k, e, q3⟩ => ?_)) hm
  subst e
  cases r3
  refine wpAny_truthy_bool ?_
  cases k with
  | false => exact ite_ff ⟨.bl false, H3, I3, rfl, q3⟩
  | true => exact ite_tt (chain_last (thn (hc pins s3 σ H3 _ I3 q3) fun w' s4 ⟨z', H4, I4, r4, q4⟩ => ho' pins s4 σ H4 y z' u w' Q I4 r2 r4 q4))

/-! ### truth -/
theorem line63 : (sizeLine : Nat) < 2 ^ 63 := by rw [sizeLine_eq]; decide

/-! ### strs and bytes -/
theorem op_add_str : OpR X (binaryOp .Add) (fun x y H Q => ∃ i j, x = .str i ∧ y = .str j ∧ i.length + j.length ≤ sizeLine ∧ Q (.str (i ++ j)) H) := by
  intro pins s σ H x y v u Q I rx ry h
  obtain ⟨i, j, rfl, rfl, hz, q⟩ := h
  obtain ⟨t, rfl⟩ := rx
  obtain ⟨t', rfl⟩ := ry
  exact add_str (fun t' tk => ⟨.str (i ++ j), H, I.tok _, ⟨_, rfl⟩, q⟩) hz

def PlainIxT (b : Expr) : Prop := ∀ o i, subscripted b false o i = operate [o, i] (getItem o i)
/-- s[i], 0 ≤ i < len -/
theorem pe_item_str (ha : PE X a ta) (hb : PE X b tb) (hs : PlainIxT b) :
    PE X (.Subscript a b pos) (tOp (fun x y H Q => ∃ z i c, x = .str z ∧ y = .int i ∧ 0 ≤ i ∧ i < 2 ^ 63 ∧ i < z.length ∧ z.cps[i.toNat]? = some c ∧ Q (.str ⟨#[c]⟩) H) ta tb) := by
  intro pins s σ H Q I h
  refine Subscript_ (binT ha hb I h fun v u s2 x y H2 I2 rx ry q => ?_)
  obtain ⟨z, i, c, rfl, rfl, h0, h63, h1, hc, q⟩ := q
  obtain ⟨t, rfl⟩ := rx
  obtain ⟨t', rfl⟩ := ry
  have e : seqIndex? i z.length = some i.toNat := PySem.StrLaws.seqIndex_nonneg h0 h1
  exact tail_any (typeIs_str s2 z t) slot_str_getitem.lookup (getItem_str (c := c) (by
    have e1 : decide (i < -(2 ^ 63 : Int)) = false := decide_eq_false (by omega)
    have e2 : decide (i ≥ 2 ^ 63) = false := decide_eq_false (by omega)
    rw [e1, e2] <;> rfl) (by rw [e]; exact hc) ⟨.str ⟨#[c]⟩, H2, I2.tok _, ⟨_, rfl⟩, q⟩) (hs _ _)

/-! ### scalar builtins, by CallR -/
theorem vals1 {x : V} {us : List Value} (r : Vals [x] us) : ∃ u, us = [u] ∧ RelV x u := by
  cases r with
  | cons r1 r2 => cases r2; exact ⟨_, rfl, r1⟩
theorem vals2 {x y : V} {us : List Value} (r : Vals [x, y] us) : ∃ u w', us = [u, w'] ∧ RelV x u ∧ RelV y w' := by
  cases r with
  | cons r1 r2 =>
    cases r2 with
    | cons r3 r4 => cases r4; exact ⟨_, _, rfl, r1, r3⟩
theorem call_int1 : CallR X (.type "int") (fun xs H Q => (∃ i, xs = [.int i] ∧ Q (.int i) H) ∨ ∃ k, xs = [.bl k] ∧ Q (.int (if k then 1 else 0)) H) := by
  intro pins s σ H xs us Q I r h
  rcases h with ⟨i, rfl, q⟩ | ⟨k, rfl, q⟩
  · obtain ⟨u, rfl, t, rfl⟩ := vals1 r
    exact call_int_int ⟨.int i, H, I, ⟨_, rfl⟩, q⟩
  · obtain ⟨u, rfl, r1⟩ := vals1 r
    cases r1
    exact call_int_bool ⟨.int (if k then 1 else 0), H, I.tok _, ⟨_, rfl⟩, q⟩
theorem call_str_int : CallR X (.type "str") (fun xs H Q => ∃ i, xs = [.int i] ∧ i.natAbs.log2 < 1920 ∧ Q (.str (toString i)) H) := by
  intro pins s σ H xs us Q I r h
  obtain ⟨i, rfl, hz, q⟩ := h
  obtain ⟨u, rfl, t, rfl⟩ := vals1 r
  exact PySem.P.str_of_int hz ⟨.str _, H, I.tok _, ⟨_, rfl⟩, q⟩
end
end L2

namespace L2
open PySem PySem.Spec PyProof.Rows

/-! ### an instance, its attributes a map -/
structure ObjM (h : Heap) (x dx C : Addr) (mA : Str → Option Value) : Prop where
  obj : h.get? x = some (PySem.W.instObj C dx)
  ns : h.Ns1 dx mA
  ne : dx ≠ x

theorem lookIn_ns {h : Heap} {dx : Addr} {mA : Str → Option Value} (n : h.Ns1 dx mA) : ∃ od, h.get? dx = some od ∧ ∀ name, PySem.W.lookIn name od = some (mA name) := by
  obtain ⟨o, es, ep, ho, hd, hk, _, hm⟩ := n
  refine ⟨o, ho, fun name => ?_⟩
  have e := hm name
  unfold nsFind findBy at e
  rw [← Array.find?_toList] at e
  unfold PySem.W.lookIn
  rw [hd]
  dsimp only
  split
  · rename_i y q
    rw [q] at e
    exact congrArg some e
  · rename_i q
    rw [q] at e
    have a : es.toList.any (·.refKey) = false := by
      rw [List.any_eq_false]
      intro y hy
      obtain ⟨z, t, hkey⟩ := hk y (Array.mem_toList_iff.mp hy)
      simp [DictEntry.refKey, hkey]
    have a' : ¬ es.toList.any (·.refKey) = true := by rw [a]; exact Bool.false_ne_true
    rw [if_neg a']
    exact congrArg some e

theorem ObjM.look {h : Heap} {x dx C : Addr} {mA : Str → Option Value} (I : ObjM h x dx C mA) : ∃ od, PySem.W.InstAt h x (PySem.W.instObj C dx) C (some od) ∧ ∀ name, PySem.W.lookIn name od = some (mA name) :=
  let ⟨od, ho, hl⟩ := lookIn_ns I.ns
  ⟨od, ⟨I.obj, rfl, rfl, ho⟩, hl⟩

section
variable {prog : Program} {w : World} {A : Around} {E : Value → Shared → Prop} {s : Shared} {K : PySem.W.Frag} {x dx C f : Addr} {mA : Str → Option Value} {name : Str} {v : Value}





end

/-! ### the attributes as a list of pairs -/


section
variable {P : Program} {w : World} {H H' : Hp} {h h' : Heap} {a C dx : Addr} {fs fs' : List (Str × V)}
theorem ins_get (hok : HOk P w H h) (e : H a = some (.ins C dx fs)) : ∃ mA, ObjM h a dx C mA ∧ (∀ f, RelO (fs.lookup f) (mA f)) ∧ PySem.Within mA (fs.map (·.1)) ∧ fs.length ≤ 1000 ∧ H dx = some (.own a) := by
  obtain ⟨d, z, ne, ob, mA, n, r, q⟩ := (show ObjOk P w H h a (.ins C dx fs) from hok a _ e)
  exact ⟨mA, ⟨ob, n, ne⟩, r, q, z, d⟩
end

/-! ### what of the text a class must have -/
structure Cls (K : PySem.W.Frag) (C : Addr) : Prop where
  pg : PySem.W.plainGet K C Str.empty = true
  hd : PySem.W.hasDictIn K C = true
  po : PySem.W.plainOver K C = true
  sa : PySem.W.findIn K (.ref C) "__setattr__" = some (some (.builtin "object.__setattr__"))
theorem Cls.get {K : PySem.W.Frag} {C : Addr} (c : Cls K C) (f : Str) : PySem.W.plainGet K C f = true := c.pg
/-- a constant of the class -/
structure Con (K : PySem.W.Frag) (C : Addr) (f : Str) (v : V) (u : Value) : Prop where
  at_ : PySem.W.findIn K (.ref C) f = some (some u)
  rel : RelV v u
  get : PySem.W.specialIn K u "__get__" = some none
  cp : PySem.W.copiedNames.contains f = false
/-- a method: a plain def of the class or of one above it -/
structure Meth (K : PySem.W.Frag) (C : Addr) (m : Str) (f : Addr) : Prop where
  at_ : PySem.W.findIn K (.ref C) m = some (some (.ref f))
  fn : PySem.W.isFn K (.ref f) = true
  kp : PySem.W.keepIn K (.ref f) = true

section
variable {X : Cx} {pins : List (Addr × Obj)} {σ : St} {H : Hp} {s : Shared} {a C dx : Addr} {fs : List (Str × V)} {f : Str} {v : V} {A : Around} {E : Value → Shared → Prop}






end

/-! ### readings and rules -/

section
variable {X : Cx} {o e value : Expr} {f : Str} {pos pos' tpos : Pos} {ta tv : TE}

end

/-! ### isinstance -/
section
variable {X : Cx} {pins : List (Addr × Obj)} {σ : St} {H : Hp} {s : Shared} {A : Around} {E : Value → Shared → Prop} {Q : Value → Shared → Prop} {c : Value} {b : Bool}
/-- the type of a value, as the fragment's deciders take it; for an instance its class -/
inductive TyOf (K : PySem.W.Frag) (H : Hp) : V → Value → Prop where
  | non : TyOf K H .non (.type "NoneType")
  | bl (x : Bool) : TyOf K H (.bl x) (.type "bool")
  | int (i : Int) : TyOf K H (.int i) (.type "int")
  | str (x : Str) : TyOf K H (.str x) (.type "str")
  | flt (x : UInt64) : TyOf K H (.flt x) (.type "float")
  | lst {a : Addr} {xs : List V} (e : H a = some (.lst xs)) : TyOf K H (.ref a) (.type "list")
  | frz {a : Addr} {o : Obj} {xs : List V} (e : H a = some (.frz o (.lst xs))) : TyOf K H (.ref a) (.type "list")
  | tup {a : Addr} {xs : List V} (e : H a = some (.tup xs)) : TyOf K H (.ref a) (.type "tuple")
  | dK {a : Addr} {kvs : List (Key × V)} (e : H a = some (.dK kvs)) : TyOf K H (.ref a) (.type "dict")
  | dT {a : Addr} {kvs : List (List Key × V)} (e : H a = some (.dT kvs)) : TyOf K H (.ref a) (.type "dict")
  | ins {a C dx : Addr} {fs : List (Str × V)} (e : H a = some (.ins C dx fs)) (cl : Cls K C) (ha : PySem.W.findIn K (.ref C) "__class__" = some (some (.builtin "object.__class__")))
      (hn : PySem.W.specialIn K (.builtin "object.__class__") "__get__" = some (some (.builtin "getset_descriptor.__get__"))) (htk : PySem.W.takesIn K (.builtin "object.__class__") = some true)
      (hm : PySem.W.mroIn K C (.type "object") = some true) : TyOf K H (.ref a) (.ref C)
/-- isinstance(x, c) for one class c, a built-in or an own one: kitOne's answer -/
theorem isinst_ok {x : V} {u t : Value} (I : Inv X pins σ H s) (rx : RelV x u) (ty : TyOf X.K H x t) (e : PySem.W.kitOne X.K t c = some b) (h : ∀ tk, Q (.bool b) { s with toks := tk }) :
    wpAny (model X.prog X.w) A (call (.builtin "isinstance") [u, c]) Q E s := by
  cases ty with
  | non => cases (show u = Value.none from rx); exact PySem.W.kia_one PySem.W.kitx_none I.kIn True.intro e (fun z => nomatch z) h
  | bl y => cases (show u = Value.bool y from rx); exact PySem.W.kia_one PySem.W.kitx_bool I.kIn True.intro e (fun z => nomatch z) h
  | int i => obtain ⟨t, q⟩ := (show ∃ t, u = Value.int i t from rx); cases q; exact PySem.W.kia_one PySem.W.kitx_int I.kIn True.intro e (fun z => nomatch z) h
  | str y => obtain ⟨t, q⟩ := (show ∃ t, u = Value.str y t from rx); cases q; exact PySem.W.kia_one PySem.W.kitx_str I.kIn True.intro e (fun z => nomatch z) h
  | flt y => obtain ⟨t, q⟩ := (show ∃ t, u = Value.float y t from rx); cases q; exact PySem.W.kia_one PySem.W.kitx_float I.kIn True.intro e (fun z => nomatch z) h
  | @lst a xs ea =>
    cases (show u = Value.ref a from rx)
    obtain ⟨_, _, n, _, h1⟩ := (show ObjOk X.prog X.w H s.heap a (.lst xs) from I.hok a _ ea)
    exact PySem.W.kia_one PySem.W.kitx_list I.kIn ⟨_, h1, rfl⟩ e (fun z => nomatch z) h
  | @frz a ob xs ea =>
    cases (show u = Value.ref a from rx)
    obtain ⟨_, _, _, n, _, h1⟩ := (show ObjOk X.prog X.w H s.heap a (.frz ob (.lst xs)) from I.hok a _ ea)
    exact PySem.W.kia_one PySem.W.kitx_list I.kIn ⟨_, h1, rfl⟩ e (fun z => nomatch z) h
  | @tup a xs ea =>
    cases (show u = Value.ref a from rx)
    obtain ⟨_, _, _, p⟩ := (show ObjOk X.prog X.w H s.heap a (.tup xs) from I.hok a _ ea)
    obtain ⟨o, h1, h2, _⟩ := p
    exact PySem.W.kia_one PySem.W.kitx_tuple I.kIn ⟨o, h1, h2⟩ e (fun z => nomatch z) h
  | @dK a kvs ea =>
    cases (show u = Value.ref a from rx)
    obtain ⟨_, _, vs, _, p⟩ := (show ObjOk X.prog X.w H s.heap a (.dK kvs) from I.hok a _ ea)
    obtain ⟨o, es, ep, h1, h2, _⟩ := p
    exact PySem.W.kia_one PySem.W.kitx_dict I.kIn ⟨o, h1, h2.1⟩ e (fun z => nomatch z) h
  | @dT a kvs ea =>
    cases (show u = Value.ref a from rx)
    obtain ⟨_, _, xs, _, o, es, ep, h1, h2, _⟩ := (show ObjOk X.prog X.w H s.heap a (.dT kvs) from I.hok a _ ea)
    exact PySem.W.kia_one PySem.W.kitx_dict I.kIn ⟨o, h1, h2.1⟩ e (fun z => nomatch z) h
  | @ins a C dx fs ea cl ha hn htk hm =>
    cases (show u = Value.ref a from rx)
    obtain ⟨mA, O, _⟩ := ins_get I.hok ea
    obtain ⟨od, J, _⟩ := O.look
    exact PySem.W.kia_one (PySem.W.kitx_own (cl.get _) cl.hd ha hn htk hm) I.kIn J e (fun z => nomatch z) h
end
end L2

namespace L2
open PySem PySem.Spec PyProof.Rows

/-! ### room -/
structure Room (k : Nat) (A : Around) : Prop where
  hd : A.handled = none
  dp : A.depth + 3 * k + 5 < recursionLimit
  un : A.units + 16 * k + 200 < cLine
theorem Room.mono {j k : Nat} {A : Around} (r : Room k A) (h : j ≤ k) : Room j A := ⟨r.hd, by have := r.dp; omega, by have := r.un; omega⟩
theorem Room.deeper {k : Nat} {A : Around} (r : Room (k + 1) A) (env : Env) : Room k (A.deeper env) :=
  ⟨r.hd, by have := r.dp; show A.depth + 1 + 3 * k + 5 < _; omega, by have := r.un; show A.units + 3 + 16 * k + 200 < _; omega⟩
theorem Room.depth {k : Nat} {A : Around} (r : Room k A) : A.depth < recursionLimit := by have := r.dp; omega
theorem Room.units {k : Nat} {A : Around} (r : Room k A) : A.units + 64 < cLine := by have := r.un; omega

/-! ### argument lists and displays -/
def tNil : TA := fun _ H Q => Q [] H
def tCons (ta : TE) (tr : TA) : TA := fun σ H Q => ta σ H fun x H1 => tr σ H1 fun xs H2 => Q (x :: xs) H2
section
variable {X : Cx} {e : Expr} {es : List Expr} {te : TE} {t : TA} {pos : Pos}
theorem pa_nil : PA X [] tNil := fun _ _ _ _ H Q I h => Calls.spliced_nil ⟨[], H, I, .nil, h⟩
theorem pa_cons (ha : PE X e te) (hr : PA X es t) (hs : starEach (e :: es) X.env = (false, eval e X.env) :: starEach es X.env := by rfl) : PA X (e :: es) (tCons te t) := by
  intro pos pins s σ H Q I h
  rw [hs]
  show wpAny _ _ (spliced ((false, eval e X.env) :: backTo pos (starEach es X.env))) _ _ s
  refine Calls.spliced_cons (thn (ha pins s σ H _ I h) fun u s1 ⟨x, H1, I1, r1, q1⟩ => ?_)
  exact thn (hr pos pins s1 σ H1 _ I1 q1) fun us s2 ⟨xs, H2, I2, r2, q2⟩ => ⟨x :: xs, H2, I2, .cons r1 r2, q2⟩

/-- a tuple, a list of written items -/
def tTup (t : TA) : TE := fun σ H Q => t σ H fun xs H1 => xs.length ≤ sizeLine ∧ ∀ p, H1 p = none → Q (.ref p) (upd H1 p (.tup xs))
def tLst (t : TA) : TE := fun σ H Q => t σ H fun xs H1 => xs.length ≤ sizeLine ∧ ∀ p, H1 p = none → Q (.ref p) (upd H1 p (.lst xs))
theorem pe_tup {x1} (h : PA X es t) : PE X (.Tuple es x1 pos) (tTup t) := by
  intro pins s σ H Q I hq
  refine wpAny_Tuple_spliced (thn (h pos pins s σ H _ I hq) fun us s1 ⟨xs, H1, I1, r, z, q⟩ => ⟨by rw [← r.length]; exact z, ?_⟩)
  have hf : H1 s1.heap.objs.size = none := I1.hok.fresh (Nat.le_refl _)
  refine ⟨.ref s1.heap.objs.size, upd H1 s1.heap.objs.size (.tup xs), I1.laid (t' := s1.toks) (fun b u e => Heap.get?_push_of_some _ e) (Nat.le_refl _) ?_, rfl, q _ hf⟩
  exact ⟨z, us, r, ⟨_, Heap.get?_push_size _ rfl, rfl, _, rfl⟩⟩
theorem pe_lst (h : PA X es t) : PE X (.List es pos) (tLst t) := by
  intro pins s σ H Q I hq
  refine wpAny_List_spliced (thn (h pos pins s σ H _ I hq) fun us s1 ⟨xs, H1, I1, r, z, q⟩ => ⟨by rw [← r.length]; exact z, ?_⟩)
  have hf : H1 s1.heap.objs.size = none := I1.hok.fresh (Nat.le_refl _)
  refine ⟨.ref s1.heap.objs.size, upd H1 s1.heap.objs.size (.lst xs), I1.laid (t' := s1.toks) (fun b u e => Heap.get?_push_of_some _ e) (Nat.le_refl _) ?_, rfl, q _ hf⟩
  exact ⟨z, us, 0, r, Heap.get?_push_size _ rfl⟩
end

/-! ### what a def promises -/
/-- a def's promise: the bound arguments in the parameters' order, the heap, the wanted end, the wanted exception -/
abbrev Sp := List V → Hp → VK → XK → Prop
/-- how an exception lies behind a call (file 08 gives it): the callers' frames, abstract heap and state ahead of the call, the wish, the exception, the state -/
abbrev CXT := List Env → Hp → Shared → XK → Value → Shared → Prop

/-- the state at a call -/
structure Env0 (P : Program) (w : World) (K : PySem.W.Frag) (mg : Str → Option Value) (base : Heap) (A : Around) (outer : List Env) (s : Shared) (H : Hp) : Prop where
  frames : A.frames = some outer
  mod : Mod K mg base
  bs : ∀ b o, base.get? b = some o → s.heap.get? b = some o ∧ H b = none
  bsz : base.objs.size ≤ s.heap.objs.size
  funs : s.heap.FunFrames base outer
  frf : ∀ b ∈ frs outer, H b = none
  hok : HOk P w H s.heap
  bare : AllBare s.gens
/-- a call's end -/
def CE (outer : List Env) (P : Program) (w : World) (H : Hp) (s : Shared) (Q : VK) (u : Value) (s' : Shared) : Prop :=
  ∃ v H', s'.os = s.os ∧ AllBare s'.gens ∧ Un (frs outer) [] H H' s.heap s'.heap ∧ HOk P w H' s'.heap ∧ RelV v u ∧ Q v H'
def CR (CX : CXT) (outer : List Env) (P : Program) (w : World) (H : Hp) (s : Shared) (Q : VK) (E : XK) (r : Result) (s' : Shared) : Prop :=
  match r with
  | .ok (.ret u) => CE outer P w H s Q u s'
  | .ok _ => False
  | .error e => CX outer H s E e s'
structure FnOk (P : Program) (w : World) (K : PySem.W.Frag) (mg : Str → Option Value) (base : Heap) (CX : CXT) (k : Nat) (f : Addr) (fd : FuncData) (ps : List Str) (sp : Sp) : Prop where
  len : ∀ vs H Q E, sp vs H Q E → vs.length = ps.length
  run : ∀ (A : Around) (outer : List Env) (s : Shared) (H : Hp) (args : Args) (us : List Value) (vs : List V) (Q : VK) (E : XK), Room k A → Env0 P w K mg base A outer s H → BindsTo s fd args (ps.zip us) → Vals vs us → sp vs H Q E →
    codeAny (model P w) A (.call (.ref f) args) (CR CX outer P w H s Q E) s
theorem FnOk.mono {P : Program} {w : World} {K : PySem.W.Frag} {mg : Str → Option Value} {base : Heap} {CX : CXT} {j k : Nat} {f : Addr} {fd : FuncData} {ps : List Str} {sp : Sp} (F : FnOk P w K mg base CX j f fd ps sp) (h : j ≤ k) :
    FnOk P w K mg base CX k f fd ps sp := ⟨F.len, fun A outer s H args us vs Q E hr => F.run A outer s H args us vs Q E (hr.mono h)⟩


section
variable {X : Cx} {pins : List (Addr × Obj)} {σ : St} {H : Hp} {s s' : Shared}
/-- from a body: what a callee wants -/
theorem Inv.env0 (I : Inv X pins σ H s) : Env0 X.prog X.w X.K X.mg X.base X.A X.stack s H :=
  ⟨I.ok.frames, I.ok.mod, I.bs, Nat.le_trans I.ok.bsz I.sz, I.stack, I.stkFree, I.hok, I.bare⟩
/-- behind a call -/
theorem Inv.after {Q : VK} {u : Value} (I : Inv X pins σ H s) (h : CE X.stack X.prog X.w H s Q u s') : EP X pins σ Q u s' := by
  obtain ⟨v, H', os, bare, un, hok, r, q⟩ := h
  obtain ⟨hh, g, d, t, os'⟩ := s'
  obtain rfl : os' = s.os := os
  exact ⟨v, H', I.call (h' := hh) (g' := g) (d' := d) (t' := t) (ch := []) un hok bare (fun b z => absurd z (by simp)), r, q⟩
end

/-! ### calls -/
/-- f(..): the written arguments, then the defaults dvs; E: what is wanted of an exception -/
def tCall (sp : Sp) (dvs : List V) (E : XK) (t : TA) : TE := fun σ H Q => t σ H fun vs H1 => sp (vs ++ dvs) H1 Q E

/-- how the parameters are bound: us the positional arguments, kw the keywords' values by name, ds the defaults that fill up -/
def Binds (K : PySem.W.Frag) (fd : FuncData) (ps : List Str) (ds : List Value) : Prop :=
  ∀ (s : Shared) (us : List Value), K.In s.heap → (us ++ ds).length = ps.length → BindsTo s fd ⟨us, []⟩ (ps.zip (us ++ ds))
/-- every parameter is given -/
theorem Binds.all {K : PySem.W.Frag} {fd : FuncData} {ps : List Str} (h : ∀ us : List Value, us.length = ps.length → bindArgs fd ⟨us, []⟩ = pure (ps.zip us)) : Binds K fd ps [] := fun s us _ hl => by
  rw [List.append_nil] at hl ⊢
  exact .of_eq (h us hl)

/-- an exception of a callee reaches what this body wants of exceptions -/
def Passes (CX : CXT) (X : Cx) (E : XK) : Prop := ∀ (pins : List (Addr × Obj)) (σ : St) (H : Hp) (s : Shared) (e : Value) (s' : Shared), Inv X pins σ H s → CX X.stack H s E e s' → X.xe e s'

section
variable {X : Cx} {CX : CXT} {k : Nat} {f C : Addr} {fd : FuncData} {ps : List Str} {sp : Sp} {dvs : List V} {ds : List Value} {E : XK} {x m : Str} {p pos apos : Pos} {e o : Expr} {es : List Expr} {ta : TE} {t : TA}

/-- the callee runs -/
theorem run_fn {pins : List (Addr × Obj)} {σ : St} {H : Hp} {s : Shared} {Q : VK} {us : List Value} {vs : List V} (F : FnOk X.prog X.w X.K X.mg X.base CX k f fd ps sp) (hr : Room k X.A) (hb : Binds X.K fd ps ds) (hd : Vals dvs ds) (hx : Passes CX X E)
    (I : Inv X pins σ H s) (r : Vals vs us) (h : sp (vs ++ dvs) H Q E) : wpAny (model X.prog X.w) X.A (call (.ref f) us) (EP X pins σ Q) X.xe s := by
  have r2 : Vals (vs ++ dvs) (us ++ ds) := r.append hd
  have hl : (us ++ ds).length = ps.length := by rw [← r2.length]; exact F.len _ _ _ _ h
  refine wpAny_call (codeAny_mono (F.run X.A X.stack s H ⟨us, []⟩ (us ++ ds) (vs ++ dvs) Q E hr I.env0 (hb s us I.kIn hl) r2 h) fun r s' hq => ?_)
  cases r with
  | error e => exact hx pins σ H s e s' I hq
  | ok fl =>
    cases fl with
    | ret u => exact I.after hq
    | next => exact False.elim hq
    | brk => exact False.elim hq
    | cont => exact False.elim hq

theorem pe_call (F : FnOk X.prog X.w X.K X.mg X.base CX k f fd ps sp) (hr : Room k X.A) (hg : Gl X x) (hm : X.mg x = some (.ref f)) (hk : PySem.W.keepIn X.K (.ref f) = true) (hb : Binds X.K fd ps ds) (hd : Vals dvs ds) (hx : Passes CX X E)
    (ha : PA X (e :: es) t) (hdb : (x == ("__debug__" : Str)) = false := by decide) (he : starEach (e :: es) X.env = (false, eval e X.env) :: starEach es X.env := by rfl) (hpl : (backTo pos (starEach es X.env)).any (·.1) = false := by rfl) :
    PE X (.Call (.Name x p) (e :: es) [] pos) (tCall sp dvs E t) := by
  intro pins s σ H Q I h
  refine wpAny_Call_Name_kw (ld_glob I hg hm ?_ hdb)
  refine PySem.W.callWith_K (h₀ := X.base) I.ok.mod.kin hk (thn (ha pos pins s σ H _ I h) fun us s1 ⟨vs, H1, I1, r, q⟩ => ⟨I1.kIn, ?_⟩) he hpl
  exact run_fn F hr hb hd hx I1 r q
theorem pe_call0 (F : FnOk X.prog X.w X.K X.mg X.base CX k f fd ps sp) (hr : Room k X.A) (hg : Gl X x) (hm : X.mg x = some (.ref f)) (hk : PySem.W.keepIn X.K (.ref f) = true) (hb : Binds X.K fd ps ds) (hd : Vals dvs ds) (hx : Passes CX X E)
    (hdb : (x == ("__debug__" : Str)) = false := by decide) : PE X (.Call (.Name x p) [] [] pos) (tCall sp dvs E tNil) := by
  intro pins s σ H Q I h
  refine wpAny_Call_Name_kw (ld_glob I hg hm ?_ hdb)
  exact PySem.W.callWith_K0 I.kIn hk (run_fn (us := []) F hr hb hd hx I .nil h)


/-- what a class must have to be made -/
structure Mk (K : PySem.W.Frag) (C f : Addr) : Prop where
  makes : PySem.W.makesIn K C = true
  init : PySem.W.findIn K (.ref C) "__init__" = some (some (.ref f))
  fn : PySem.W.isFn K (.ref f) = true
  kp : PySem.W.keepIn K (.ref C) = true

end

/-! ### keywords -/
section
variable {X : Cx} {CX : CXT} {k : Nat} {f C : Addr} {fd : FuncData} {ps ks : List Str} {sp : Sp} {E : XK} {x m : Str} {p pos apos kpos : Pos} {e o : Expr} {es : List Expr} {kws : List Keyword} {te ta : TE} {t tk : TA} {nm : Option Str}

/-- how a call with keywords binds: g puts the positional values us and the keywords' values ws (names ks) in the parameters' order, defaults among them -/
structure KBinds (K : PySem.W.Frag) (fd : FuncData) (ps ks : List Str) (g : List Value → List Value → List Value) (gV : List V → List V → List V) : Prop where
  to : ∀ (s : Shared) (us ws : List Value), K.In s.heap → (g us ws).length = ps.length → BindsTo s fd ⟨us, ks.zip ws⟩ (ps.zip (g us ws))
  rel : ∀ {vs : List V} {us : List Value} {zs : List V} {ws : List Value}, Vals vs us → Vals zs ws → Vals (gV vs zs) (g us ws)
variable {g : List Value → List Value → List Value} {gV : List V → List V → List V}
end

/-! ### a def's body keeps its promise -/
/-- names: the parameters first -/
structure FnScope (N P : List Str) (sc : Scope) : Prop where
  kind : sc.kind = .function
  co : sc.isCoroutine = false
  gen : sc.isGenerator = false
  nd : N.Nodup
  pre : N.take P.length = P
  par : ∀ x ∈ P, sc.names.lookup x = some .local ∨ sc.names.lookup x = some .cell
  nofree : ∀ y ∈ sc.names, y.2 ≠ .free

theorem bindL_out {kindOf : Str → Option NameKind} {x : Str} : ∀ {binds : List (Str × Value)} {m : Str → Option Value}, (∀ v, (x, v) ∉ binds) → bindL kindOf binds m x = m x
  | [], _, _ => rfl
  | (n, v) :: r, m, h => by
    unfold bindL
    rw [bindL_out fun w hw => h w (List.mem_cons_of_mem _ hw)]
    split
    · have : x ≠ n := by rintro rfl; exact h v List.mem_cons_self
      simp [this]
    · rfl
theorem bindC_out {kindOf : Str → Option NameKind} {x : Str} : ∀ {binds : List (Str × Value)} {m : Str → Option Value}, (∀ v, (x, v) ∉ binds) → bindC kindOf binds m x = m x
  | [], _, _ => rfl
  | (n, v) :: r, m, h => by
    unfold bindC
    rw [bindC_out fun w hw => h w (List.mem_cons_of_mem _ hw)]
    split
    · rfl
    · have : x ≠ n := by rintro rfl; exact h v List.mem_cons_self
      simp [this]
theorem bindL_get {kindOf : Str → Option NameKind} {x : Str} {v : Value} : ∀ {P : List Str} {vs : List Value} {i : Nat} {m : Str → Option Value}, P.Nodup → P[i]? = some x → vs[i]? = some v → kindOf x = some .local →
    bindL kindOf (P.zip vs) m x = some v
  | [], _, _, _, _, h, _, _ => by simp at h
  | _ :: _, [], _, _, _, _, h, _ => by simp at h
  | p :: P, w :: vs, 0, m, nd, h1, h2, hk => by
    simp at h1 h2; subst h1; subst h2
    show bindL kindOf ((p, w) :: P.zip vs) m p = _
    unfold bindL
    rw [bindL_out fun v hv => (List.nodup_cons.mp nd).1 (List.of_mem_zip hv).1, if_pos hk]
    simp
  | p :: P, w :: vs, i + 1, m, nd, h1, h2, hk => by
    show bindL kindOf ((p, w) :: P.zip vs) m x = _
    unfold bindL
    exact bindL_get (i := i) (List.nodup_cons.mp nd).2 (by simpa using h1) (by simpa using h2) hk
theorem bindC_get {kindOf : Str → Option NameKind} {x : Str} {v : Value} : ∀ {P : List Str} {vs : List Value} {i : Nat} {m : Str → Option Value}, P.Nodup → P[i]? = some x → vs[i]? = some v → kindOf x ≠ some .local →
    bindC kindOf (P.zip vs) m x = some v
  | [], _, _, _, _, h, _, _ => by simp at h
  | _ :: _, [], _, _, _, _, h, _ => by simp at h
  | p :: P, w :: vs, 0, m, nd, h1, h2, hk => by
    simp at h1 h2; subst h1; subst h2
    show bindC kindOf ((p, w) :: P.zip vs) m p = _
    unfold bindC
    rw [bindC_out fun v hv => (List.nodup_cons.mp nd).1 (List.of_mem_zip hv).1, if_neg hk]
    simp
  | p :: P, w :: vs, i + 1, m, nd, h1, h2, hk => by
    show bindC kindOf ((p, w) :: P.zip vs) m x = _
    unfold bindC
    exact bindC_get (i := i) (List.nodup_cons.mp nd).2 (by simpa using h1) (by simpa using h2) hk

/-- the names' values at the entry -/
def start (N : List Str) (vs : List V) : St := vs.map some ++ List.replicate (N.length - vs.length) none

/-- the context of a def's body, at its entry; an exception leaves the frame, then lies as CX says -/
def cxOf (CX : CXT) (P : Program) (w : World) (K : PySem.W.Frag) (mg : Str → Option Value) (base : Heap) (N : List Str) (qual : Str) (scope : Scope) (f : Addr) (cd : Value) (A : Around) (outer : List Env) (s : Shared) (H : Hp) (E : XK) : Cx where
  prog := P
  w := w
  K := K
  mg := mg
  base := base
  A := A.deeper (envOfC qual scope s.heap.objs.size f cd)
  N := N
  s₀ := s
  H₀ := H
  env := envOfC qual scope s.heap.objs.size f cd
  outer := outer
  stack := envOfC qual scope s.heap.objs.size f cd :: outer
  ex := []
  calm := true
  fn := fun _ => true
  pn := []
  xe := fun e s' => wpAny (model P w) (A.deeper (envOfC qual scope s.heap.objs.size f cd)) (leaving (envOfC qual scope s.heap.objs.size f cd) e) (fun _ s'' => CX outer H s E e s'') (fun e' s'' => CX outer H s E e' s'') s'

theorem cell_has {sc : Scope} {n : Nat} {x : Str} (h : sc.names.lookup x = some .cell) : ∃ c, (cellsFrom n sc.names []).lookup x = some c := by
  have q := PySem.W.cellsFrom_some sc.names n [] (.inl h)
  exact Option.isSome_iff_exists.mp q

theorem inv_start {CX : CXT} {P : Program} {w : World} {K : PySem.W.Frag} {mg : Str → Option Value} {base : Heap} {N ps : List Str} {qual : Str} {scope : Scope} {f : Addr} {cd : Value} {A : Around} {outer : List Env} {s s1 : Shared} {H : Hp} {E : XK} {us : List Value} {vs : List V}
    (S : FnScope N ps scope) (hd : A.handled = none) (e0 : Env0 P w K mg base A outer s H) (hl : vs.length = ps.length) (r : Vals vs us)
    (x : InCallC s s.heap.objs.size (bindL (envOfC qual scope s.heap.objs.size f cd).kindOf (ps.zip us) fun _ => none) (cellsFrom (s.heap.objs.size + 1) scope.names []) (bindC (envOfC qual scope s.heap.objs.size f cd).kindOf (ps.zip us) fun _ => none) s1) :
    Inv (cxOf CX P w K mg base N qual scope f cd A outer s H E) [] (start N vs) H s1 := by
  have hpl : ps.length ≤ N.length := by have := congrArg List.length S.pre; rw [List.length_take] at this; omega
  obtain ⟨h1, tk, rfl, hk⟩ := x.done
  have noA : ∀ b : Addr, b ∉ (cxOf CX P w K mg base N qual scope f cd A outer s H E).ex := fun b z => absurd (show b ∈ ([] : List Addr) from z) (by simp)
  refine ⟨⟨e0.mod, S.kind, rfl, rfl, Nat.le_refl _, fun y z c h1 h2 => ?_, fun y hy => ?_, fun y c _ h => ?_, fun _ => hd, Around.frames_deeper e0.frames, .inr ⟨rfl, rfl⟩, fun b z => absurd z (noA b), e0.bs, e0.bsz, fun b _ _ => noA b, fun b z => absurd z (noA b), e0.funs, e0.frf⟩,
    rfl, e0.bare, Un.kept hk, ⟨_, x.toInCall.ns, fun i y v h1 h2 h3 => ?_⟩, fun y c h => ⟨_, x.cell y c h⟩, e0.hok.fresh (Nat.le_refl _), fun y c h => ?_, fun p hp => absurd (show p ∈ ([] : List (Addr × Obj)) from hp) (by simp), e0.hok.kept hk, ?_⟩
  · exact name_of_addr x.apart (PySem.mem_of_lookup h1) (PySem.mem_of_lookup h2)
  · have hy : scope.names.lookup y = some .cell ∨ scope.names.lookup y = some .free := hy
    rcases hy with hy | hy
    · exact cell_has hy
    · exact absurd rfl (S.nofree _ (PySem.mem_of_lookup hy))
  · exact Nat.le_of_lt (x.above y c (PySem.mem_of_lookup h))
  · have hi : i < vs.length := by
      unfold start at h2
      by_cases hi : i < vs.length
      · exact hi
      · rw [List.getElem?_append_right (by simpa using hi)] at h2
        rw [List.getElem?_replicate] at h2
        split at h2 <;> cases h2
    have ha : vs[i]? = some v := by
      unfold start at h2
      rw [List.getElem?_append_left (by simpa using hi), List.getElem?_map] at h2
      cases e : vs[i]? with
      | none => rw [e] at h2; cases h2
      | some a => rw [e] at h2; cases h2; rfl
    obtain ⟨u, hu, rv⟩ := r.get ha
    have hp : ps[i]? = some y := by
      rw [← S.pre, List.getElem?_take_of_lt (by omega)]; exact h1
    have ndP : ps.Nodup := by rw [← S.pre]; exact S.nd.sublist (List.take_sublist _ _)
    refine ⟨u, rv, ?_⟩
    rcases S.par y (List.mem_of_getElem? hp) with k | k
    · exact .inl ⟨k, bindL_get ndP hp hu k⟩
    · obtain ⟨c, e⟩ := cell_has (n := s.heap.objs.size + 1) k
      refine .inr ⟨.inl k, c, e, ?_⟩
      have q := x.cell y c e
      rw [bindC_get ndP hp hu (by show scope.names.lookup y ≠ _; rw [k]; decide)] at q
      exact q
  · exact e0.hok.fresh (Nat.le_of_lt (x.above y c (PySem.mem_of_lookup h)))
  · unfold start
    show _ = N.length
    rw [List.length_append, List.length_map, List.length_replicate]
    omega

/-- THE RULE: a def (or a method) of the text, by its body. The body's reading t is chosen for each entry; it is run at the parameters' values -/
theorem fn_of {CX : CXT} {P : Program} {w : World} {K : PySem.W.Frag} {mg : Str → Option Value} {base : Heap} {k : Nat} {f : Addr} {name qual : Str} {params : Arguments} {body : List Stmt} {scope : Scope} {dV kV doc pm cdv ct oc : Value} {an od : Option Addr}
    {osl : Array (Option Value)} {N ps : List Str} {sp : Sp} (lk : K.lookup f = some ⟨oc, od, .func (PySem.W.fnOf name qual params body scope dV kV doc pm an cdv ct), osl⟩) (hcd : PySem.W.codeIn K cdv qual = true) (S : FnScope N ps scope)
    (len : ∀ vs H Q E, sp vs H Q E → vs.length = ps.length)
    (hbody : ∀ (A : Around) (outer : List Env) (s : Shared) (H : Hp) (vs : List V) (Q : VK) (E : XK), Room k (A.deeper (envOfC qual scope s.heap.objs.size f cdv)) → sp vs H Q E →
      ∃ t, PSs (cxOf CX P w K mg base N qual scope f cdv A outer s H E) body t ∧ t { nx := fun _ H' => Q .non H', rt := Q } (start N vs) H) :
    FnOk P w K mg base CX (k + 1) f (PySem.W.fnOf name qual params body scope dV kV doc pm an cdv ct) ps sp := by
  refine ⟨len, fun A outer s H args us vs Q E hr e0 hb r hsp => ?_⟩
  have hl := len _ _ _ _ hsp
  have KX : K.In s.heap := e0.mod.kin.keeps fun b o e => (e0.bs b o e).1
  have lim : s.heap.NoLimit := e0.mod.nolimit.keeps fun b o e => (e0.bs b o e).1
  have hkind : ∀ y ∈ ps.zip us, scope.names.lookup y.1 = some .local ∨ (scope.names.lookup y.1 = some .cell ∧ ((cellsFrom (s.heap.objs.size + 1) scope.names []).lookup y.1).isSome = true) := fun ⟨n, v⟩ hy => by
    rcases S.par n (List.of_mem_zip hy).1 with q | q
    · exact .inl q
    · exact .inr ⟨q, PySem.W.cellsFrom_some _ _ _ (.inl q)⟩
  refine codeAny_call_function hr.depth (KX _ _ lk) rfl S.co S.gen rfl (PySem.W.codeRec_of KX hcd) (hb _ _ _ _ ?_)
  refine wpAny_newFunctionEnv_cells S.kind hkind fun env he s1 x => ?_
  subst he
  refine ⟨lim.keeps x.toInCall.keep, codeAny_func ?_⟩
  obtain ⟨t, ht, hq⟩ := hbody A outer s H vs Q E (hr.deeper _) hsp
  have I : Inv (cxOf CX P w K mg base N qual scope f cdv A outer s H E) [] (start N vs) H s1 := inv_start S hr.hd e0 hl r x
  refine wpAny_mono (ht [] s1 (start N vs) H _ I hq) (fun fl s' hs => ?_) fun e s' hs => hs
  have fin : ∀ {σ' : St} {H' : Hp} {v : V} {u : Value}, Inv (cxOf CX P w K mg base N qual scope f cdv A outer s H E) [] σ' H' s' → RelV v u → Q v H' → CE outer P w H s Q u s' :=
    fun {σ' H' v u} J rv q => ⟨v, H', J.os, J.bare, J.base, J.hok, rv, q⟩
  cases fl with
  | ret u =>
    obtain ⟨v, σ', H', J, rv, q⟩ := hs
    exact fin J rv q
  | next =>
    obtain ⟨σ', H', J, q⟩ := hs
    exact fin (v := V.non) (u := Value.none) J rfl q
  | brk =>
    obtain ⟨_, _, _, q⟩ := hs
    exact False.elim q
  | cont =>
    obtain ⟨_, _, _, q⟩ := hs
    exact False.elim q
end L2

namespace L2
open PySem PySem.Spec PyProof.Rows
section
variable {X : Cx} {x : Str} {p pos : Pos} {e : Expr} {es : List Expr} {t : TA} {id T : String} {r : List V → Hp → VK → Prop}

def tCB (r : List V → Hp → VK → Prop) (t : TA) : TE := fun σ H Q => t σ H fun vs H1 => r vs H1 Q
/-- f(e, ..), f a built-in function -/
theorem pe_callB (hc : CallR X (.builtin id) r) (hg : Gl X x) (hm : X.mg x = none) (hv : bootBuiltins x = some (.builtin id)) (ha : PA X (e :: es) t) (hn : x ≠ "__name__" := by decide) (hdb : (x == ("__debug__" : Str)) = false := by decide)
    (he : starEach (e :: es) X.env = (false, eval e X.env) :: starEach es X.env := by rfl) (hpl : (backTo pos (starEach es X.env)).any (·.1) = false := by rfl) : PE X (.Call (.Name x p) (e :: es) [] pos) (tCB r t) := by
  intro pins s σ H Q I h
  refine wpAny_Call_Name_kw (ld_blt I hg hm hv ?_ hn hdb)
  exact PyProof.Rows.callWith_builtin1 (thn (ha pos pins s σ H _ I h) fun us s1 ⟨vs, H1, I1, r1, q1⟩ => hc pins s1 σ H1 vs us Q I1 r1 q1) he hpl
/-- T(e, ..), T a built-in type -/
theorem pe_callTy (hc : CallR X (.type T) r) (hg : Gl X x) (hm : X.mg x = none) (hv : bootBuiltins x = some (.type T)) (ha : PA X (e :: es) t) (hn : x ≠ "__name__" := by decide) (hdb : (x == ("__debug__" : Str)) = false := by decide)
    (he : starEach (e :: es) X.env = (false, eval e X.env) :: starEach es X.env := by rfl) (hpl : (backTo pos (starEach es X.env)).any (·.1) = false := by rfl) : PE X (.Call (.Name x p) (e :: es) [] pos) (tCB r t) := by
  intro pins s σ H Q I h
  refine wpAny_Call_Name_kw (ld_blt I hg hm hv ?_ hn hdb)
  exact PyProof.Rows.callWith_type1 (thn (ha pos pins s σ H _ I h) fun us s1 ⟨vs, H1, I1, r1, q1⟩ => hc pins s1 σ H1 vs us Q I1 r1 q1) he hpl
end
end L2

namespace HT
open PySem PyProof.Rows



section
open PySem.SeqAt
open PySem.AutoSeq1 (wpAny_loadPart')
open PySem.MeetsSeq PySem.MeetsSeq2 PySem.MeetsSeq3

end

section
variable {prog : Program} {w : World} {A : Around} {E : Value → Shared → Prop} {s : Shared}



/-! ### t[a:b], not the whole -/
/-- a slice's bound as a place among n (d where it is left out) -/
def sIx (n d : Nat) : Option Int → Nat
  | none => d
  | some v => if v < 0 then (v + (n : Int)).toNat else min v.toNat n
theorem sIx_le (n d : Nat) (hd : d ≤ n) (o : Option Int) : sIx n d o ≤ n := by
  cases o with
  | none => exact hd
  | some v =>
    show (if v < 0 then (v + (n : Int)).toNat else min v.toNat n) ≤ n
    by_cases hv : v < 0
    · rw [if_pos hv]; omega
    · rw [if_neg hv]; exact Nat.min_le_right _ _
theorem clip_eq (v : Int) (n d : Nat) : (if v < 0 then max (v + (n : Int)) 0 else min v (n : Int)) = ((sIx n d (some v) : Nat) : Int) := by
  show (if v < 0 then max (v + (n : Int)) 0 else min v (n : Int)) = (((if v < 0 then (v + (n : Int)).toNat else min v.toNat n) : Nat) : Int)
  by_cases hv : v < 0
  · simp only [if_pos hv]; omega
  · simp only [if_neg hv]; omega
theorem adjust_gen (lo hi : Option Int) (n : Nat) : Builtin.Slice.sliceAdjust lo hi 1 (n : Int) = (((sIx n 0 lo : Nat) : Int), ((sIx n n hi : Nat) : Int)) := by
  have h1 : ¬ ((1 : Int) < 0) := by omega
  unfold Builtin.Slice.sliceAdjust
  simp only [h1, if_false]
  refine Prod.ext ?_ ?_
  · cases lo with
    | none => rfl
    | some v => exact clip_eq v n 0
  · cases hi with
    | none => rfl
    | some v => exact clip_eq v n n
theorem places_gen (i j : Nat) : Builtin.Slice.slicePlaces (i : Int) (j : Int) 1 = j - i := by
  unfold Builtin.Slice.slicePlaces
  have h1 : (1 : Int) > 0 := by omega
  simp only [h1, if_true, Int.ediv_one]
  split <;> omega
theorem slicePart_ {v : Value} {o : Option Int} {Q : Option Int → Shared → Prop} (p : IsPart v o) (h : Q o s) : wpAny (model prog w) A (Builtin.Slice.slicePartIndex v) Q E s := by
  cases p with
  | none => exact slicePart_none h
  | int i t => exact slicePart_int h
theorem sliceApplied_gen {sl : Addr} {vl vu : Value} {lo hi : Option Int} {n : Nat} {Q : Int × Int × Nat → Shared → Prop} (hs : s.heap.IsSliceOf sl vl vu .none) (pl : IsPart vl lo) (pu : IsPart vu hi)
    (h : Q (((sIx n 0 lo : Nat) : Int), 1, sIx n n hi - sIx n 0 lo) s) : wpAny (model prog w) A (Builtin.Slice.sliceApplied (.ref sl) (pure (n : Int))) Q E s := by
  obtain ⟨os, hos, hcs, hds⟩ := id hs
  unfold Builtin.Slice.sliceApplied Builtin.Slice.sliceFields
  refine wpAny_bind (wpAny_bind (wpAny_field hos hds (x := vl) rfl (wpAny_bind (wpAny_field hos hds (x := vu) rfl (wpAny_bind (wpAny_field hos hds (x := .none) rfl (wpAny_pure ?_)))))))
  refine wpAny_bind (slicePart_none ?_)
  show wpAny _ _ (if ((1 : Int) == 0) = true then _ else _) _ _ s
  rw [if_neg (by decide)]
  refine wpAny_bind (slicePart_ pl (wpAny_bind (slicePart_ pu (wpAny_bind (wpAny_pure ?_)))))
  show wpAny _ _ (match Builtin.Slice.sliceAdjust lo hi 1 (n : Int) with | (lo, hi) => pure (lo, (1 : Int), Builtin.Slice.slicePlaces lo hi 1)) _ _ s
  rw [adjust_gen lo hi n]
  show wpAny _ _ (pure (((sIx n 0 lo : Nat) : Int), (1 : Int), Builtin.Slice.slicePlaces ((sIx n 0 lo : Nat) : Int) ((sIx n n hi : Nat) : Int) 1)) _ _ s
  rw [places_gen]
  exact wpAny_pure h
theorem pick_gen (xs : Array Value) (i k : Nat) : ((List.range k).filterMap fun (m : Nat) => xs[((i : Int) + (m : Int) * 1).toNat]?).toArray = ((xs.toList.drop i).take k).toArray := by
  have e : (fun (m : Nat) => xs[((i : Int) + (m : Int) * 1).toNat]?) = fun m => xs[i + m]? := by
    funext m
    have : ((i : Int) + (m : Int) * 1).toNat = i + m := by omega
    rw [this]
  rw [e]
  have := pick_run xs i k
  rw [List.filterMap_map] at this
  have e2 : ((fun x => xs[x]?) ∘ fun x => i + x) = fun m => xs[i + m]? := rfl
  rw [e2] at this
  rw [this]

theorem getItem_tuple_cut {t sl : Addr} {items : Array Value} {vl vu : Value} {lo hi : Option Int} {Q : Value → Shared → Prop} (ht : IsTup s.heap t items) (hs : s.heap.IsSliceOf sl vl vu .none) (pl : IsPart vl lo) (pu : IsPart vu hi)
    (hw : ¬ (sIx items.size 0 lo = 0 ∧ sIx items.size items.size hi = items.size))
    (h : Q (.ref s.heap.objs.size) { s with heap := s.heap.push { cls := .type "tuple", data := .seq ((items.toList.drop (sIx items.size 0 lo)).take (sIx items.size items.size hi - sIx items.size 0 lo)).toArray } })
    (hsz : items.size ≤ sizeLine) : wpAny (model prog w) A (getItem (.ref t) (.ref sl)) Q E s := by
  have htake : sizeOk (.seq ((items.toList.drop (sIx items.size 0 lo)).take (sIx items.size items.size hi - sIx items.size 0 lo)).toArray) := by
    show ((items.toList.drop (sIx items.size 0 lo)).take (sIx items.size items.size hi - sIx items.size 0 lo)).toArray.size ≤ sizeLine
    rw [List.size_toArray, List.length_take, List.length_drop, Array.length_toList]
    omega
  have hj : sIx items.size items.size hi ≤ items.size := sIx_le _ _ (Nat.le_refl _) hi
  obtain ⟨os, hos, hcs, hds⟩ := id hs
  have hTs : s.TypeIs (.ref sl) "slice" := ⟨os, hos, hcs⟩
  unfold getItem
  try with_reducible refine wpAny_holding ?_
  first | refine wpAny_bind (wpAny_pure ?_) | skip
  refine wpAny_bind (wpAny_sequenceKey ht.typeIs (by decide) ?_)
  refine wpAny_bind (wpAny_callSpecial?_slot (name := Str.ofString "__getitem__") ht.typeIs PyProof.Rows.slot_tuple_getitem
    (wpAny_call_entry PyProof.Rows.slot_tuple_getitem ht.typeIs entry_tuple_getitem ?_ (args_tuple_getitem _ _)))
  show wpAny _ _ (Builtin.Tuple.tupleItemsOf (.ref t) >>= _) _ _ s
  refine wpAny_bind (tupleItemsOf_ ht ?_)
  refine wpAny_bind (wpAny_typeOf hTs ?_)
  rw [if_pos (by decide)]
  refine wpAny_bind (sliceApplied_gen hs pl pu ?_)
  have hno : ¬ ((((sIx items.size 0 lo : Nat) : Int) == 0 && (1 : Int) == 1 && (sIx items.size items.size hi - sIx items.size 0 lo) == items.size) = true) := by
    intro q
    rw [Bool.and_eq_true, Bool.and_eq_true] at q
    have q1 : ((sIx items.size 0 lo : Nat) : Int) = 0 := eq_of_beq q.1.1
    have q2 : sIx items.size items.size hi - sIx items.size 0 lo = items.size := eq_of_beq q.2
    exact hw ⟨by omega, by omega⟩
  show wpAny _ _ (if (((sIx items.size 0 lo : Nat) : Int) == 0 && (1 : Int) == 1 && (sIx items.size items.size hi - sIx items.size 0 lo) == items.size) = true then _ else _) _ _ s
  rw [if_neg hno, pick_gen]
  first
    | exact wpAny_bind (m := Builtin.Tuple.tupleExact _) (wpAny_newObj_type (wpAny_pure ⟨_, rfl, wpAny_pure h⟩) htake)
    | exact wpAny_bind (m := Builtin.Tuple.tupleExact _) (wpAny_newObj_type (wpAny_bind (wpAny_pure (wpAny_pure ⟨_, rfl, wpAny_pure h⟩))) htake)
    | exact wpAny_bind (wpAny_bind (m := Builtin.Tuple.tupleExact _) (wpAny_newObj_type (wpAny_pure (wpAny_pure ⟨_, rfl, wpAny_pure h⟩)) htake))
    | exact wpAny_bind (wpAny_bind (m := Builtin.Tuple.tupleExact _) (wpAny_newObj_type (wpAny_pure ⟨_, rfl, wpAny_pure h⟩) htake))
end
end HT

namespace L2
open PySem PySem.Spec PyProof.Rows

/-! ### the parts of a slice -/
abbrev TO := St → Hp → (Option Int → Hp → Prop) → Prop
/-- a slice's part (left out, or an int) -/
def PO (X : Cx) (e : Option Expr) (t : TO) : Prop :=
  ∀ (pins : List (Addr × Obj)) (s : Shared) (σ : St) (H : Hp) (Q : Option Int → Hp → Prop), Inv X pins σ H s → t σ H Q →
    wpAny (model X.prog X.w) X.A (evalPart e X.env) (fun u s' => ∃ o H', Inv X pins σ H' s' ∧ IsPart u o ∧ Q o H') X.xe s
def tNoPart : TO := fun _ H Q => Q none H
def tPart (t : TE) : TO := fun σ H Q => t σ H fun x H1 => ∃ i, x = .int i ∧ Q (some i) H1


section
variable {X : Cx} {e : Expr} {te : TE} {lo hi : Option Expr} {tl th : TO} {pos p2 : Pos}

theorem po_none : PO X none tNoPart := by
  intro pins s σ H Q I h
  rw [evalPart_none]
  exact wpAny_pure ⟨none, H, I, .none, h⟩
theorem po_some (h : PE X e te) : PO X (some e) (tPart te) := by
  intro pins s σ H Q I hw
  rw [evalPart_some]
  refine thn (h pins s σ H _ I hw) fun u s1 ⟨x, H1, I1, r1, q1⟩ => ?_
  obtain ⟨i, rfl, q⟩ := q1
  obtain ⟨t, rfl⟩ := r1
  exact ⟨some i, H1, I1, .int i t, q⟩

/-- what a slice of a value is, by values: the slice object stands at sl -/
def SlR (X : Cx) (r : V → Option Int → Option Int → Hp → VK → Prop) : Prop :=
  ∀ (pins : List (Addr × Obj)) (s : Shared) (σ : St) (H : Hp) (x : V) (v vl vu : Value) (lo hi : Option Int) (sl : Addr) (Q : VK), Inv X pins σ H s → RelV x v → s.heap.IsSliceOf sl vl vu .none → IsPart vl lo → IsPart vu hi → r x lo hi H Q →
    ∃ T id, typeLookup (.type T) "__getitem__" = pure (some (.builtin id)) ∧ s.TypeIs v T ∧ wpAny (model X.prog X.w) X.A (getItem v (.ref sl)) (EP X pins σ Q) X.xe s
def tSl (r : V → Option Int → Option Int → Hp → VK → Prop) (te : TE) (tl th : TO) : TE := fun σ H Q => te σ H fun x H1 => tl σ H1 fun l H2 => th σ H2 fun u H3 => r x l u H3 Q
/-- a[lo:hi], any a -/
theorem pe_slice {r : V → Option Int → Option Int → Hp → VK → Prop} (hr : SlR X r) (he : PE X e te) (hl : PO X lo tl) (hu : PO X hi th) : PE X (.Subscript e (.Slice lo hi none p2) pos) (tSl r te tl th) := by
  intro pins s σ H Q I h
  refine Subscript_ (thn (he pins s σ H _ I h) fun v s1 ⟨x, H1, I1, r1, q1⟩ => ?_)
  refine wpAny_Slice (thn (hl pins s1 σ H1 _ I1 q1) fun vl s2 ⟨l, H2, I2, pl, q2⟩ => thn (hu pins s2 σ H2 _ I2 q2) fun vu s3 ⟨u, H3, I3, pu, q3⟩ => ?_)
  rw [evalPart_none]
  refine wpAny_pure ?_
  have I4 : Inv X pins σ H3 { s3 with heap := s3.heap.push { cls := .type "slice", data := .fields #[vl, vu, .none] } } := I3.kept (t' := s3.toks) fun b ob q => Heap.get?_push_of_some _ q
  obtain ⟨T, id, hT, ht, hg⟩ := hr pins { s3 with heap := s3.heap.push { cls := .type "slice", data := .fields #[vl, vu, .none] } } σ H3 x v vl vu l u s3.heap.objs.size Q I4 r1 (Heap.IsSliceOf.new ..) pl pu q3
  show wpAny (model X.prog X.w) X.A (subscriptTail e (.Slice lo hi none p2) v (.ref s3.heap.objs.size)) (EP X pins σ Q) X.xe { s3 with heap := s3.heap.push { cls := .type "slice", data := .fields #[vl, vu, .none] } }
  exact tail_any (ops := [.ref s3.heap.objs.size, v]) ht hT hg (by with_unfolding_all rfl)

/-- the items of xs[lo:hi] -/
def cutV (xs : List V) (lo hi : Option Int) : List V := (xs.drop (HT.sIx xs.length 0 lo)).take (HT.sIx xs.length xs.length hi - HT.sIx xs.length 0 lo)
theorem cutV_length (xs : List V) (lo hi : Option Int) : (cutV xs lo hi).length ≤ xs.length := by
  unfold cutV
  rw [List.length_take, List.length_drop]
  omega
/-- t[lo:hi], not the whole of it (the whole would be t itself) -/
def rSlT (K : PySem.W.Frag) : V → Option Int → Option Int → Hp → VK → Prop := fun x lo hi H Q => ∃ a xs, x = .ref a ∧ SqT K H a xs ∧
  ¬ (HT.sIx xs.length 0 lo = 0 ∧ HT.sIx xs.length xs.length hi = xs.length) ∧ ∀ p, H p = none → Q (.ref p) (upd H p (.tup (cutV xs lo hi)))
theorem sl_tup : SlR X (rSlT X.K) := by
  intro pins s σ H x v vl vu lo hi sl Q I rx hs pl pu h
  obtain ⟨a, xs, rfl, hx, hw, q⟩ := h
  cases rx
  obtain ⟨its, r, ht, hz⟩ := I.tuple hx
  have hlen : its.toArray.size = xs.length := by rw [List.size_toArray]; exact r.length.symm
  refine ⟨"tuple", _, PyProof.Rows.slot_tuple_getitem.lookup, ht.typeIs, ?_⟩
  refine HT.getItem_tuple_cut ht hs pl pu (by rw [hlen]; exact hw) ?_ (by rw [hlen]; exact hz)
  rw [hlen]
  refine ⟨.ref s.heap.objs.size, _, I.laid (t' := s.toks) (o := .tup (cutV xs lo hi)) (fun b ob q => Heap.get?_push_of_some _ q) (Nat.le_refl _) ?_, rfl, q _ (I.hok.fresh (Nat.le_refl _))⟩
  exact ⟨Nat.le_trans (cutV_length xs lo hi) hz, _, (r.drop (HT.sIx xs.length 0 lo)).take (HT.sIx xs.length xs.length hi - HT.sIx xs.length 0 lo), IsTup.new _ _⟩

/-! ### t < u, t + u -/
end
end L2

namespace L2
open PySem PySem.Spec PyProof.Rows

/-! ### places -/
/-- the place that an index of any sign means -/
def ixN (n : Nat) (i : Int) : Option Nat := if 0 ≤ i then (if i < n then some i.toNat else none) else if -(n : Int) ≤ i then some (i + n).toNat else none
def atI {α : Type} (xs : List α) (i : Int) : Option α := (ixN xs.length i).bind fun j => xs[j]?
theorem ixN_seq {n : Nat} {i : Int} {j : Nat} (h : ixN n i = some j) : seqIndex? i n = some j ∧ j < n ∧ -(n : Int) ≤ i ∧ i < n := by
  unfold ixN at h
  by_cases h0 : 0 ≤ i
  · rw [if_pos h0] at h
    by_cases h1 : i < n
    · rw [if_pos h1] at h
      have e : i.toNat = j := Option.some.inj h
      exact ⟨by rw [seqIndex_of h0 h1, e], by omega, by omega, h1⟩
    · rw [if_neg h1] at h; cases h
  · rw [if_neg h0] at h
    by_cases h1 : -(n : Int) ≤ i
    · rw [if_pos h1] at h
      have e : (i + n).toNat = j := Option.some.inj h
      exact ⟨by rw [seqIndex_neg (by omega) h1, e], by omega, h1, by omega⟩
    · rw [if_neg h1] at h; cases h
theorem atI_get {α : Type} {xs : List α} {i : Int} {v : α} (h : atI xs i = some v) : ∃ j, seqIndex? i xs.length = some j ∧ xs[j]? = some v ∧ j < xs.length ∧ -(xs.length : Int) ≤ i ∧ i < xs.length := by
  unfold atI at h
  cases e : ixN xs.length i with
  | none => rw [e] at h; cases h
  | some j =>
    rw [e] at h
    obtain ⟨h1, h2, h3, h4⟩ := ixN_seq e
    exact ⟨j, h1, h, h2, h3, h4⟩
theorem atI_nat {α : Type} {xs : List α} {j : Nat} {v : α} (h : xs[j]? = some v) : atI xs (j : Int) = some v := by
  have hj : j < xs.length := (List.getElem?_eq_some_iff.mp h).1
  have e : ixN xs.length (j : Int) = some j := by
    unfold ixN
    rw [if_pos (by omega), if_pos (by omega)]; simp
  unfold atI; rw [e]; exact h

/-! ### what may be subscripted -/
/-- what stands as an index of a plain subscript -/
def PlainIx (b : Expr) : Prop := ∀ o i, subscripted b false o i = operate [o, i] (getItem o i)
/-- a subscript by values -/
def IxR (X : Cx) (r : R2) : Prop :=
  ∀ (value slice : Expr) (pins : List (Addr × Obj)) (s : Shared) (σ : St) (H : Hp) (x y : V) (v u : Value) (Q : VK), Inv X pins σ H s → RelV x v → RelV y u → r x y H Q →
    subscripted slice false v u = operate [v, u] (getItem v u) → wpAny (model X.prog X.w) X.A (subscriptTail value slice v u) (EP X pins σ Q) X.xe s
/-- a call of a builtin's method by values: the receiver, the arguments -/
def MtR (X : Cx) (id : String) (r : V → List V → Hp → VK → Prop) : Prop :=
  ∀ (pins : List (Addr × Obj)) (s : Shared) (σ : St) (H : Hp) (x : V) (xs : List V) (v : Value) (us : List Value) (Q : VK), Inv X pins σ H s → RelV x v → Vals xs us → r x xs H Q →
    wpAny (model X.prog X.w) X.A (call (.builtin id) (v :: us)) (EP X pins σ Q) X.xe s
section
variable {X : Cx} {a b : Expr} {ta tb : TE} {pos : Pos}
/-- a[b] -/
theorem pe_ix {r : R2} (hr : IxR X r) (ha : PE X a ta) (hb : PE X b tb) (hs : PlainIx b) : PE X (.Subscript a b pos) (tOp r ta tb) := by
  intro pins s σ H Q I h
  exact Subscript_ (binT ha hb I h fun v u s2 x y H2 I2 rx ry q => hr a b pins s2 σ H2 x y v u Q I2 rx ry q (hs _ _))

def rIxL (K : PySem.W.Frag) : R2 := fun x y H Q => ∃ p xs i v, x = .ref p ∧ y = .int i ∧ SqL K H p xs ∧ atI xs i = some v ∧ Q v H
def rIxT (K : PySem.W.Frag) : R2 := fun x y H Q => ∃ p xs i v, x = .ref p ∧ y = .int i ∧ SqT K H p xs ∧ atI xs i = some v ∧ Q v H
theorem ix_list : IxR X (rIxL X.K) := by
  intro value slice pins s σ H x y v u Q I rx ry h hs
  obtain ⟨p, xs, i, z, rfl, rfl, hq, he, q⟩ := h
  cases rx
  obtain ⟨t, rfl⟩ := ry
  obtain ⟨its, r, pl, hz⟩ := I.list hq
  obtain ⟨j, h1, h2, h3, h4, h5⟩ := atI_get he
  obtain ⟨w, ew, rw'⟩ := r.get h2
  have hl := r.length
  have hn := line63
  have fin : EP X pins σ Q w s := ⟨z, H, I, rw', q⟩
  by_cases h0 : 0 ≤ i
  · have hj : i.toNat = j := by
      rw [seqIndex_of h0 h5] at h1
      exact Option.some.inj h1
    exact item_listR pl.isList h0 (by omega) (by rw [hj]; simpa using ew) fin hs
  · have hj : (i + (its.toArray.size : Int)).toNat = j := by
      rw [seqIndex_neg (by omega) h4] at h1
      rw [List.size_toArray, ← hl]
      exact Option.some.inj h1
    exact subscriptTail_builtinR (x := w) pl.isList.typeIs slot_list_getitem.lookup
      (wpAny_getItem_list_neg (Q := fun r s' => r = w ∧ EP X pins σ Q r s') pl.isList (by omega) (by rw [List.size_toArray] <;> omega) (by omega) (by rw [hj]; simpa using ew) ⟨rfl, fin⟩) hs
theorem ix_tup : IxR X (rIxT X.K) := by
  intro value slice pins s σ H x y v u Q I rx ry h hs
  obtain ⟨p, xs, i, z, rfl, rfl, hq, he, q⟩ := h
  cases rx
  obtain ⟨t, rfl⟩ := ry
  obtain ⟨its, r, pl, hz⟩ := I.tuple hq
  obtain ⟨j, h1, h2, h3, h4, h5⟩ := atI_get he
  obtain ⟨w, ew, rw'⟩ := r.get h2
  have hl := r.length
  have hn := line63
  have fin : EP X pins σ Q w s := ⟨z, H, I, rw', q⟩
  exact subscriptTail_builtinR (x := w) pl.typeIs slot_tuple_getitem.lookup
    (getItem_tuple (j := j) (Q := fun r s' => r = w ∧ EP X pins σ Q r s') pl (by omega) (by omega) (by rw [List.size_toArray, ← hl]; exact h1) (by simpa using ew) ⟨rfl, fin⟩) hs

/-! ### xs[i] = v, any sign -/
/-- the list's object behind a store -/
theorem mapSeq_set (its : List Value) (n j : Nat) (u : Value) : Obj.mapSeq (·.setIfInBounds j u) { cls := .type "list", data := .seq its.toArray n } = { cls := .type "list", data := .seq (its.set j u).toArray n } := by
  simp [Obj.mapSeq]
theorem Inv.lst {pins : List (Addr × Obj)} {σ : St} {H : Hp} {s : Shared} {p : Addr} {xs : List V} (I : Inv X pins σ H s) (h : H p = some (.lst xs)) :
    ∃ (its : List Value) (n : Nat), Vals xs its ∧ s.heap.get? p = some { cls := .type "list", data := .seq its.toArray n } ∧ xs.length ≤ sizeLine := by
  obtain ⟨z, its, n, r, e⟩ := I.hok p _ h
  exact ⟨its, n, r, e, z⟩
/-- the list at p is written by an update of its object -/
theorem Inv.lstUpd {pins : List (Addr × Obj)} {σ : St} {H : Hp} {s : Shared} {p : Addr} {xs ys : List V} {its its' : List Value} {n n' : Nat} {f : Obj → Obj} (I : Inv X pins σ H s) (h : H p = some (.lst xs))
    (ho : s.heap.get? p = some { cls := .type "list", data := .seq its.toArray n }) (hf : f { cls := .type "list", data := .seq its.toArray n } = { cls := .type "list", data := .seq its'.toArray n' }) (r : Vals ys its') (hz : ys.length ≤ sizeLine) (t : Nat) :
    Inv X pins σ (upd H p (.lst ys)) { s with heap := s.heap.update p f, toks := t } := by
  have e : (s.heap.update p f).get? p = some { cls := .type "list", data := .seq its'.toArray n' } := by
    rw [Heap.get?_update_self f ho (by rw [hf] <;> rfl), hf]
  refine I.write (x := p) (e := p) (by rw [h]; trivial) (.inl rfl) (fun b u hb q => (Heap.get?_update_other _ _ (Ne.symm hb)).trans q) ⟨_, e⟩ ?_
  exact ⟨hz, its', n', r, e⟩
def rSetL : V → V → V → Hp → (Hp → Prop) → Prop := fun o i v H Q => ∃ p xs k j, o = .ref p ∧ i = .int k ∧ H p = some (.lst xs) ∧ ixN xs.length k = some j ∧ Q (upd H p (.lst (xs.set j v)))
theorem set_list : PSet X rSetL := by
  intro pins s σ H o i v ov iv u Q I ro ri rv h
  obtain ⟨p, xs, k, j, rfl, rfl, hp, hj, q⟩ := h
  cases ro
  obtain ⟨t, rfl⟩ := ri
  obtain ⟨its, n, r, ho, hz⟩ := I.lst hp
  obtain ⟨h1, h2, h3, h4⟩ := ixN_seq hj
  have hl := r.length
  have hn := line63
  have I' : Inv X pins σ (upd H p (.lst (xs.set j v))) { s with heap := s.heap.update p (Obj.mapSeq (·.setIfInBounds j u)) } :=
    I.lstUpd hp ho (mapSeq_set its n j u) (r.set rv j) (by rw [List.length_set]; exact hz) s.toks
  by_cases h0 : 0 ≤ k
  · have hk : k.toNat = j := by
      rw [seqIndex_of h0 h4] at h1
      exact Option.some.inj h1
    exact PySem.W.ki_setAt ho h0 (by omega) (by rw [List.size_toArray, ← hl]; exact h4) (by rw [hk]; exact ⟨_, I', q⟩)
  · have hk : (k + (its.toArray.size : Int)).toNat = j := by
      rw [seqIndex_neg (by omega) h3] at h1
      rw [List.size_toArray, ← hl]
      exact Option.some.inj h1
    exact PySem.W.ki_setBack ho (by omega) (by rw [List.size_toArray, ← hl]; exact h3) (by omega) (by rw [hk]; exact ⟨_, I', q⟩)

/-! ### slices -/
theorem slice_bounds (lo hi : Option Int) (n : Nat) : (sliceBounds lo hi none n).1 = ((HT.sIx n 0 lo : Nat) : Int) ∧ (sliceBounds lo hi none n).2.1 = ((HT.sIx n n hi : Nat) : Int) ∧ (sliceBounds lo hi none n).2.2 = 1 := by
  refine ⟨?_, ?_, rfl⟩
  · cases lo with
    | none => simp [sliceBounds, HT.sIx]
    | some i =>
      simp only [sliceBounds, HT.sIx, Option.getD_none, show (1 : Int) > 0 by decide, if_true]
      by_cases h : i < 0
      · simp only [h, if_true] <;> omega
      · simp only [h, if_false] <;> omega
  · cases hi with
    | none => simp [sliceBounds, HT.sIx]
    | some i =>
      simp only [sliceBounds, HT.sIx, Option.getD_none, show (1 : Int) > 0 by decide, if_true]
      by_cases h : i < 0
      · simp only [h, if_true] <;> omega
      · simp only [h, if_false] <;> omega
theorem slicePick_cut (its : List Value) (lo hi : Option Int) : slicePick its.toArray lo hi none = ((its.drop (HT.sIx its.length 0 lo)).take (HT.sIx its.length its.length hi - HT.sIx its.length 0 lo)).toArray := by
  obtain ⟨h1, h2, h3⟩ := slice_bounds lo hi its.toArray.size
  unfold slicePick
  rw [h1, h2, h3]
  simp only [sliceRange_one, pick_run, List.size_toArray] <;> rfl
/-- xs[lo:hi] of a list: a new list -/
def rSlL (K : PySem.W.Frag) : V → Option Int → Option Int → Hp → VK → Prop := fun x lo hi H Q => ∃ a xs, x = .ref a ∧ SqL K H a xs ∧ ∀ p, H p = none → Q (.ref p) (upd H p (.lst (cutV xs lo hi)))
theorem sl_list : SlR X (rSlL X.K) := by
  intro pins s σ H x v vl vu lo hi sl Q I rx hs pl pu h
  obtain ⟨a, xs, rfl, hx, q⟩ := h
  cases rx
  obtain ⟨its, r, ht, hz⟩ := I.list hx
  have hlen := r.length
  refine ⟨"list", _, slot_list_getitem.lookup, ht.isList.typeIs, ?_⟩
  refine wpAny_getItem_list_slice ht.isList hs pl pu .none (by simp) ?_ (by rw [List.size_toArray] <;> omega)
  rw [slicePick_cut, ← hlen]
  refine ⟨.ref s.heap.objs.size, _, I.laid (t' := s.toks) (o := .lst (cutV xs lo hi)) (fun b ob q => Heap.get?_push_of_some _ q) (Nat.le_refl _) ?_, rfl, q _ (I.hok.fresh (Nat.le_refl _))⟩
  exact ⟨Nat.le_trans (cutV_length xs lo hi) hz, _, 0, (r.drop (HT.sIx xs.length 0 lo)).take (HT.sIx xs.length xs.length hi - HT.sIx xs.length 0 lo), Heap.get?_push_size _ rfl⟩

/-! ### in, not in: flat items -/
def flatV : V → Bool
  | .non => true
  | .bl _ => true
  | .int _ => true
  | .str _ => true
  | _ => false
/-- == of flat values -/
def eqV : V → V → Bool
  | .non, .non => true
  | .bl a, .bl b => a == b
  | .bl a, .int b => (if a then 1 else 0) == b
  | .int a, .bl b => a == (if b then 1 else 0)
  | .int a, .int b => a == b
  | .str a, .str b => a == b
  | _, _ => false
theorem eqAt_V {A : Around} {s : Shared} {y x : V} {u v : Value} (ry : RelV y u) (rx : RelV x v) (fy : flatV y = true) (fx : flatV x = true) : SeqAt.EqAt A s u v (eqV y x) := by
  cases y with
  | non =>
    cases ry
    cases x with
    | non => cases rx; exact SeqAt.EqAt.same _
    | bl b => cases rx; exact SeqAt.EqAt.none_bool b
    | int b => obtain ⟨t, rfl⟩ := rx; exact SeqAt.EqAt.none_int b t
    | str b => obtain ⟨t, rfl⟩ := rx; exact SeqAt.EqAt.none_str b t
    | _ => exact absurd (show false = true from fx) Bool.false_ne_true
  | bl a =>
    cases ry
    cases x with
    | non => cases rx; exact SeqAt.EqAt.bool_none a
    | bl b => cases rx; exact SeqAt.EqAt.bool_bool a b
    | int b => obtain ⟨t, rfl⟩ := rx; exact SeqAt.EqAt.bool_int a b t
    | str b => obtain ⟨t, rfl⟩ := rx; exact SeqAt.EqAt.bool_str a b t
    | _ => exact absurd (show false = true from fx) Bool.false_ne_true
  | int a =>
    obtain ⟨t', rfl⟩ := ry
    cases x with
    | non => cases rx; exact SeqAt.EqAt.int_none a t'
    | bl b => cases rx; exact SeqAt.EqAt.int_bool a t' b
    | int b => obtain ⟨t, rfl⟩ := rx; exact SeqAt.EqAt.int_int a t' b t
    | str b => obtain ⟨t, rfl⟩ := rx; exact SeqAt.EqAt.int_str a t' b t
    | _ => exact absurd (show false = true from fx) Bool.false_ne_true
  | str a =>
    obtain ⟨t', rfl⟩ := ry
    cases x with
    | non => cases rx; exact SeqAt.EqAt.str_none a t'
    | bl b => cases rx; exact SeqAt.EqAt.str_bool a t' b
    | int b => obtain ⟨t, rfl⟩ := rx; exact SeqAt.EqAt.str_int a t' b t
    | str b => obtain ⟨t, rfl⟩ := rx; exact SeqAt.EqAt.str_str a t' b t
    | _ => exact absurd (show false = true from fx) Bool.false_ne_true
  | _ => exact absurd (show false = true from fy) Bool.false_ne_true
/-- the items' answers, read off the values (a value's own answer does not lean on its token) -/
def eqU (x : V) (u : Value) : Bool := match u with
  | .none => eqV .non x
  | .bool b => eqV (.bl b) x
  | .int i _ => eqV (.int i) x
  | .str z _ => eqV (.str z) x
  | _ => false
theorem eqU_of {x y : V} {u : Value} (r : RelV y u) (f : flatV y = true) : eqU x u = eqV y x := by
  cases y with
  | non => cases r; rfl
  | bl b => cases r; rfl
  | int i => obtain ⟨t, rfl⟩ := r; rfl
  | str z => obtain ⟨t, rfl⟩ := r; rfl
  | _ => exact absurd (show false = true from f) Bool.false_ne_true
theorem any_eqU {x : V} : ∀ {xs : List V} {us : List Value}, Vals xs us → xs.all flatV = true → us.any (eqU x) = xs.any fun y => eqV y x
  | _, _, .nil, _ => rfl
  | y :: xs, u :: us, .cons r t, f => by
    rw [List.all_cons, Bool.and_eq_true] at f
    rw [List.any_cons, List.any_cons, eqU_of r f.1, any_eqU t f.2]
theorem mem_eqAt {A : Around} {s : Shared} {x : V} {v : Value} (rx : RelV x v) (fx : flatV x = true) : ∀ {xs : List V} {us : List Value}, Vals xs us → xs.all flatV = true → ∀ u ∈ us, SeqAt.EqAt A s u v (eqU x u)
  | _, _, .nil, _ => fun u hu => by cases hu
  | y :: xs, u :: us, .cons r t, f => fun u' hu => by
    rw [List.all_cons, Bool.and_eq_true] at f
    rcases List.mem_cons.mp hu with rfl | hu
    · rw [eqU_of r f.1]; exact eqAt_V r rx f.1 fx
    · exact mem_eqAt rx fx t f.2 u' hu
def inV (x : V) (xs : List V) : Bool := xs.any fun y => eqV y x
/-- x in a list or tuple of flat items -/
def rIn (K : PySem.W.Frag) (neg : Bool) : R2 := fun x y H Q => ∃ p xs, y = .ref p ∧ (SqL K H p xs ∨ SqT K H p xs) ∧ flatV x = true ∧ xs.all flatV = true ∧ Q (.bl (if neg then !inV x xs else inV x xs)) H
theorem op_in_seq : OpR X (compareOp .In) (rIn X.K false) := by
  intro pins s σ H x y v u Q I rx ry h
  obtain ⟨p, xs, rfl, hq, fx, fs, q⟩ := h
  cases ry
  rcases hq with hq | hq
  · obtain ⟨its, r, pl, hz⟩ := I.list hq
    refine SeqAt.in_listAt (eqU x) pl.isList (fun w hw => mem_eqAt rx fx r fs w (by simpa using hw)) ⟨.bl _, H, I, rfl, ?_⟩
    rw [show its.toArray.any (eqU x) = its.any (eqU x) by simp, any_eqU r fs]
    exact q
  · obtain ⟨its, r, pl, hz⟩ := I.tuple hq
    refine SeqAt.in_tupleAt (eqU x) pl (fun w hw => mem_eqAt rx fx r fs w (by simpa using hw)) ⟨.bl _, H, I, rfl, ?_⟩
    rw [show its.toArray.any (eqU x) = its.any (eqU x) by simp, any_eqU r fs]
    exact q
theorem op_notIn_seq : OpR X (compareOp .NotIn) (rIn X.K true) := by
  intro pins s σ H x y v u Q I rx ry h
  obtain ⟨p, xs, rfl, hq, fx, fs, q⟩ := h
  cases ry
  rcases hq with hq | hq
  · obtain ⟨its, r, pl, hz⟩ := I.list hq
    refine SeqAt.notIn_listAt (eqU x) pl.isList (fun w hw => mem_eqAt rx fx r fs w (by simpa using hw)) ⟨.bl _, H, I, rfl, ?_⟩
    rw [show its.toArray.any (eqU x) = its.any (eqU x) by simp, any_eqU r fs]
    exact q
  · obtain ⟨its, r, pl, hz⟩ := I.tuple hq
    refine SeqAt.notIn_tupleAt (eqU x) pl (fun w hw => mem_eqAt rx fx r fs w (by simpa using hw)) ⟨.bl _, H, I, rfl, ?_⟩
    rw [show its.toArray.any (eqU x) = its.any (eqU x) by simp, any_eqU r fs]
    exact q

/-! ### len, list(x), tuple(x) of any list or tuple that is read -/
theorem call_len_seq : CallR X (.builtin "len") (fun xs H Q => ∃ p ys, xs = [.ref p] ∧ (SqL X.K H p ys ∨ SqT X.K H p ys) ∧ Q (.int ys.length) H) := by
  intro pins s σ H xs us Q I r h
  obtain ⟨p, ys, rfl, hq, q⟩ := h
  obtain ⟨u, rfl, rx⟩ := vals1 r
  cases rx
  have hn := line63
  rcases hq with hq | hq
  · obtain ⟨its, r', pl, hz⟩ := I.list hq
    have hlen := r'.length
    exact Calls.call_len_list pl.isList (by simp only [List.size_toArray] <;> omega) ⟨.int ys.length, H, I.tok _, ⟨s.toks + 1, by rw [List.size_toArray, hlen]⟩, q⟩
  · obtain ⟨its, r', pl, hz⟩ := I.tuple hq
    have hlen := r'.length
    exact len_tuple pl (by simp only [List.size_toArray] <;> omega) ⟨.int ys.length, H, I.tok _, ⟨s.toks + 1, by rw [List.size_toArray, hlen]⟩, q⟩
theorem call_len_str : CallR X (.builtin "len") (fun xs H Q => ∃ z, xs = [.str z] ∧ z.length ≤ sizeLine ∧ Q (.int z.length) H) := by
  intro pins s σ H xs us Q I r h
  obtain ⟨z, rfl, hz, q⟩ := h
  obtain ⟨u, rfl, t, rfl⟩ := vals1 r
  have hn := line63
  exact len_str (by omega) ⟨.int z.length, H, I.tok _, ⟨_, rfl⟩, q⟩

/-! ### the call of a builtin's method: o.m(..) -/
/-- the value is of that builtin type -/
def tyV (K : PySem.W.Frag) (T : String) (x : V) (H : Hp) : Prop := match x with
  | .str _ => T = "str"
  | .int _ => T = "int"
  | .ref p => (T = "list" ∧ ∃ xs, SqL K H p xs) ∨ (T = "tuple" ∧ ∃ o, K.lookup p = some o ∧ o.cls = .type "tuple" ∧ o.dict = none) ∨
      (T = "dict" ∧ ((∃ kvs, H p = some (.dK kvs)) ∨ ∃ kvs, H p = some (.dT kvs))) ∨ (T = "set" ∧ ∃ S n, H p = some (.set S n))
  | _ => False
theorem tyV_is {pins : List (Addr × Obj)} {σ : St} {H : Hp} {s : Shared} {T : String} {x : V} {v : Value} (I : Inv X pins σ H s) (r : RelV x v) (ty : tyV X.K T x H) :
    s.TypeIs v T ∧ ∀ a, v = .ref a → ∃ ob, s.heap.get? a = some ob ∧ ob.dict = none := by
  cases x with
  | str z =>
    obtain ⟨t, rfl⟩ := r
    cases (show T = "str" from ty)
    exact ⟨typeIs_str s z t, fun _ e => nomatch e⟩
  | int i =>
    obtain ⟨t, rfl⟩ := r
    cases (show T = "int" from ty)
    exact ⟨typeIs_int s i t, fun _ e => nomatch e⟩
  | ref p =>
    cases r
    rcases ty with ⟨rfl, xs, hq⟩ | ⟨rfl, o, hk, hc, hd⟩ | ⟨rfl, hk⟩ | ⟨rfl, S, n, hk⟩
    · obtain ⟨its, _, pl, _⟩ := I.list hq
      refine ⟨pl.isList.typeIs, fun a e => ?_⟩
      cases e
      obtain ⟨o, n, e, c, hd, _⟩ := pl
      exact ⟨o, e, hd⟩
    · refine ⟨⟨o, I.kIn p o hk, hc⟩, fun a e => ?_⟩
      cases e
      exact ⟨o, I.kIn _ o hk, hd⟩
    · have z : ∃ o, s.heap.get? p = some o ∧ o.ExactDict := by
        rcases hk with ⟨kvs, hk⟩ | ⟨kvs, hk⟩
        · obtain ⟨_, _, _, _, o, _, _, e, ex, _⟩ := I.hok p _ hk
          exact ⟨o, e, ex⟩
        · obtain ⟨_, _, _, _, o, _, _, e, ex, _⟩ := I.hok p _ hk
          exact ⟨o, e, ex⟩
      obtain ⟨o, e, ex⟩ := z
      refine ⟨⟨o, e, ex.1⟩, fun a e2 => ?_⟩
      cases e2
      exact ⟨o, e, ex.2.1⟩
    · obtain ⟨o, _, _, _, e, ex, _⟩ := I.hok p _ hk
      refine ⟨⟨o, e, ex.1⟩, fun a e2 => ?_⟩
      cases e2
      exact ⟨o, e, ex.2.1⟩
  | _ => exact False.elim ty
def tBM (K : PySem.W.Frag) (T : String) (r : V → List V → Hp → VK → Prop) (to : TE) (t : TA) : TE := fun σ H Q => to σ H fun x H1 => tyV K T x H1 ∧ t σ H1 fun xs H2 => r x xs H2 Q
variable {o e : Expr} {es : List Expr} {to : TE} {t : TA} {name : Str} {apos cpos : Pos} {T id : String} {r : V → List V → Hp → VK → Prop}
theorem pe_bm (pa : PlainAttrs T) (slot : Slot T name id) (hty : typeOf (.builtin id) = pure (.type "method_descriptor")) (hm : MtR X id r) (ho : PE X o to) (ha : PA X (e :: es) t)
    (hbase : attributeBase o name X.env (eval o X.env) = eval o X.env := by rfl)
    (hfew : ((backTo cpos (starEach (e :: es) X.env)).all (fun x => !x.1) && (backToKw cpos (keywordEach [] X.env)).all (fun x => x.1.isSome)
      && decide ((e :: es).length + ([] : List Keyword).length + (if ([] : List Keyword).isEmpty then 0 else 1) < 30)) = true := by rfl)
    (hline : (apos.endLine == cpos.line) = true := by rfl) (hs : starEach (e :: es) X.env = (false, eval e X.env) :: starEach es X.env := by rfl) (hplain : (backTo cpos (starEach es X.env)).any (·.1) = false := by rfl) :
    PE X (.Call (.Attribute o name apos) (e :: es) [] cpos) (tBM X.K T r to t) := by
  intro pins s σ H Q I h
  refine wpAny_Call_method_late hbase hfew hline rfl (thn (ho pins s σ H _ I h) fun v s1 ⟨x, H1, I1, r1, ty, q1⟩ => ?_)
  obtain ⟨h1, h2⟩ := tyV_is I1 r1 ty
  refine ⟨T, id, pa, slot, hty, h1, h2, ?_⟩
  have hA := ha cpos pins s1 σ H1 _ I1 q1
  rw [hs] at hA ⊢
  refine Calls.callWith_builtin (by show (false || (backTo cpos (starEach es X.env)).any (·.1)) = false; rw [hplain] <;> rfl) (Calls.evalArgs_plain ?_)
  exact thn hA fun us s2 ⟨vs, H2, I2, r2, q2⟩ => hm pins s2 σ H2 x vs v us Q I2 r1 r2 q2
/- xs.append(e), list.index on a module's tuple .. are MtR facts of 06m -/
end
end L2

namespace L2
open PySem PySem.Spec PyProof.Rows

def MtM (X : Cx) (id : String) (r : V → List V → Hp → VK → Prop) : Prop :=
  ∀ (pins : List (Addr × Obj)) (s : Shared) (σ : St) (H : Hp) (x : V) (xs : List V) (v : Value) (us : List Value) (Q : VK), Inv X pins σ H s → RelV x v → Vals xs us → r x xs H Q →
    wpAny (model X.prog X.w) X.A (call (.builtin id) (v :: us)) (EP X pins σ Q) X.xe s

/-! ### lists of values -/
theorem Vals.one : ∀ {x : V} {us : List Value}, Vals [x] us → ∃ u, us = [u] ∧ RelV x u
  | _, _, .cons r .nil => ⟨_, rfl, r⟩

section
variable {X : Cx} {pins : List (Addr × Obj)} {σ : St} {H : Hp} {s : Shared} {l b : Addr} {xs ys zs : List V}

/-! ### the two steps: a tracked list is rewritten, a new list is laid -/
theorem Inv.lset {its its' : List Value} {n : Nat} {f : Array Value → Array Value} {t' : Nat} (I : Inv X pins σ H s) (hH : H l = some (.lst xs))
    (e : s.heap.get? l = some { cls := .type "list", data := .seq its.toArray n }) (hf : f its.toArray = its'.toArray) (hv : Vals ys its') (hz : ys.length ≤ sizeLine) :
    Inv X pins σ (upd H l (.lst ys)) { s with heap := s.heap.update l (Obj.mapSeq f), toks := t' } := by
  have q := PySem.IsL.update e f
  rw [hf] at q
  refine I.write (x := l) (e := l) (by rw [hH]; exact trivial) (.inl rfl) (fun b' u hb hu => (Heap.get?_update_other s.heap (Obj.mapSeq f) (Ne.symm hb)).trans hu) ⟨_, q⟩ ?_
  exact ⟨hz, its', _, hv, q⟩
theorem Inv.lnew {its : List Value} {t' : Nat} (I : Inv X pins σ H s) (hv : Vals ys its) (hz : ys.length ≤ sizeLine) :
    Inv X pins σ (upd H s.heap.objs.size (.lst ys)) { s with heap := s.heap.push { cls := .type "list", data := .seq its.toArray }, toks := t' } :=
  I.laid (fun _ _ q => Heap.get?_push_of_some _ q) (Nat.le_refl _) ⟨hz, its, 0, hv, Heap.get?_push_size _ rfl⟩
theorem Inv.fresh (I : Inv X pins σ H s) : H s.heap.objs.size = none := I.hok.fresh (Nat.le_refl _)
theorem Inv.lstM (I : Inv X pins σ H s) (hH : H l = some (.lst xs)) : xs.length ≤ sizeLine ∧ ∃ (its : List Value) (n : Nat), Vals xs its ∧ xs.length = its.length ∧ s.heap.get? l = some { cls := .type "list", data := .seq its.toArray n } := by
  obtain ⟨z, its, n, r, e⟩ := I.hok l _ hH
  exact ⟨z, its, n, r, r.length, e⟩

theorem notLongL {n : Nat} (h : n ≤ sizeLine) : Builtin.List.listTooLong n = false := by
  unfold Builtin.List.listTooLong
  exact decide_eq_false (by omega)
end

section
variable {X : Cx}

/-! ### methods -/
def rAppend : V → List V → Hp → VK → Prop := fun x vs H Q => ∃ l xs y, x = .ref l ∧ vs = [y] ∧ H l = some (.lst xs) ∧ xs.length < sizeLine ∧ Q .non (upd H l (.lst (xs ++ [y])))
theorem mt_append : MtM X "list.append" rAppend := by
  intro pins s σ H x vs v us Q I rx rv h
  obtain ⟨l, xs, y, rfl, rfl, hH, hz, q⟩ := h
  cases rx
  obtain ⟨u, rfl, ru⟩ := rv.one
  obtain ⟨z, its, n, r, hl, e⟩ := I.lstM hH
  refine call_meets F.slot_list_append ⟨_, e, rfl⟩ F.entry_list_append (F.args_list_append_2 _ _) (PySem.list_append l its.toArray n u (by rw [List.size_toArray]; omega)) ⟨e, ?_⟩
  refine ⟨.non, _, I.lset (its' := its ++ [u]) hH e (by simp) (r.append (.cons ru .nil)) ?_, rfl, q⟩
  rw [List.length_append, List.length_singleton]
  omega

def rExtend : V → List V → Hp → VK → Prop := fun x vs H Q => ∃ l b xs zs, x = .ref l ∧ vs = [.ref b] ∧ H l = some (.lst xs) ∧ H b = some (.lst zs) ∧ xs.length + zs.length ≤ sizeLine ∧ Q .non (upd H l (.lst (xs ++ zs)))
theorem mt_extend : MtM X "list.extend" rExtend := by
  intro pins s σ H x vs v us Q I rx rv h
  obtain ⟨l, b, xs, zs, rfl, rfl, hH, hB, hz, q⟩ := h
  cases rx
  obtain ⟨u, rfl, ru⟩ := rv.one
  cases ru
  obtain ⟨z, its, n, r, hl, e⟩ := I.lstM hH
  obtain ⟨z2, its2, n2, r2, hl2, e2⟩ := I.lstM hB
  have hsz : its.toArray.size + its2.toArray.size ≤ sizeLine := by rw [List.size_toArray, List.size_toArray]; omega
  have hlong : ¬ (!its.toArray.isEmpty && Builtin.List.listTooLong (its.toArray.size + its2.toArray.size)) = true := by
    rw [notLongL hsz, Bool.and_false]
    exact Bool.false_ne_true
  refine call_meets F.slot_list_extend ⟨_, e, rfl⟩ F.entry_list_extend (F.args_list_extend_2 _ _)
    (AutoSeq1.list_extend_list_list_0 l its.toArray n b its2.toArray n2 hlong (by rw [List.size_toArray]; omega) (by omega)) ⟨e, e2, ?_⟩
  refine ⟨.non, _, I.lset (its' := its ++ its2) hH e (by simp) (r.append r2) ?_, rfl, q⟩
  rw [List.length_append]
  omega





/-! ### list + list, list += list, list * int -/
def rCat : R2 := fun x y H Q => ∃ l b xs zs, x = .ref l ∧ y = .ref b ∧ H l = some (.lst xs) ∧ H b = some (.lst zs) ∧ xs.length + zs.length ≤ sizeLine ∧ ∀ p, H p = none → Q (.ref p) (upd H p (.lst (xs ++ zs)))
theorem op_cat : OpR X (binaryOp .Add) rCat := by
  intro pins s σ H x y v u Q I rx ry h
  obtain ⟨l, b, xs, zs, rfl, rfl, hH, hB, hz, q⟩ := h
  cases rx
  cases ry
  obtain ⟨z, its, n, r, hl, e⟩ := I.lstM hH
  obtain ⟨z2, its2, n2, r2, hl2, e2⟩ := I.lstM hB
  refine PySem.P.add_list e e2 ?_ (by rw [List.size_toArray, List.size_toArray]; omega)
  have ea : its.toArray ++ its2.toArray = (its ++ its2).toArray := by simp
  rw [ea]
  exact ⟨.ref _, _, I.lnew (t' := s.toks) (r.append r2) (by rw [List.length_append]; omega), rfl, q _ I.fresh⟩

/-! ### del xs[i] -/
end

/-! ### xs[a:b] = ys -/
section
variable {prog : Program} {w : World} {A : Around} {E : Value → Shared → Prop} {s : Shared}
end

section
variable {X : Cx}
end
end L2

namespace Att
open PySem PySem.W PySem.Calls PyProof.Rows

/-! ### the script -/
theorem ints_of_wellAll {P : Params} {h : Heap} : ∀ (ns : List Int) (vs : List Value), WellAll P h vs (ns.map WData.int) → IntsAre vs ns := by
  intro ns
  induction ns with
  | nil =>
    intro vs w
    rw [List.map_nil] at w
    cases w
    exact .nil
  | cons n ns ih =>
    intro vs w
    rw [List.map_cons] at w
    cases w with
    | cons a b =>
      cases a
      exact .cons _ _ (ih _ b)

theorem script_of {l : OpenLaw} {n : Nat} (hn : l.most = some n) {P : Params} {h : Heap} {args : List WData} {vals : List Value}
    (hpre : l.row.toRowW.claim.pre args = true) (hwl : WellAll P h vals args) :
    ∃ a vs ns, vals = [Value.ref a] ∧ args = [WData.list (ns.map WData.int)] ∧ h.get? a = some { cls := .type "list", data := .seq vs.toArray } ∧ IntsAre vs ns ∧ ns.length ≤ n := by
  have hsh : WShape.hasAll [] args [.list .int] = true := (pre_splitW hpre).1
  have hc : l.pre.holds [] { args := args } = true := (pre_splitW hpre).2
  obtain ⟨d, r, rfl, h1, h2⟩ := hasAllW_cons hsh
  obtain rfl := hasAllW_nil h2
  obtain ⟨xs, rfl, h3⟩ := hasW_list h1
  obtain ⟨ns, rfl⟩ := items_int h3
  have hlen : ns.length ≤ n := by
    unfold OpenLaw.pre at hc
    have h4 : (WTm.not (.lt (.lit (.int (n : Int))) (.len (.arg 0)))).holds [] { args := [.list (ns.map .int)] } = true := by
      have h4 := (holds_andW hc).1
      rw [hn] at h4
      exact h4
    have h5 := condW_of h4 (w_not (w_lt w_lit (w_len_list (w_arg rfl))))
    rw [List.length_map] at h5
    refine Nat.le_of_not_lt fun q => ?_
    have q' : (n : Int) < ((ns.length : Nat) : Int) := by omega
    first
      | (rw [decide_eq_true q'] at h5; exact absurd h5 (by decide))
      | (simp at h5; omega)
  cases hwl with
  | cons w1 w2 =>
    cases w2
    cases w1 with
    | list ho hall => exact ⟨_, _, ns, rfl, rfl, ho, ints_of_wellAll ns _ hall, hlen⟩

theorem post_true (l : OpenLaw) (args : List WData) : l.row.toRowW.claim.post args (.bool true) args = true :=
  postW_of (r := l.row.toRowW) (X := (true == true))
    (show WShape.has [] (.bool true) .bool = true by first | rfl | decide | simp [WShape.has, WShape.arms, WShape.armsAll])
    (show (WTm.eq .res (.lit (.bool true))).value [] { args := args, res := some (.bool true), after := args } = some (.bool (true == true)) from w_eq_bool (w_res rfl) w_lit) rfl

/-! ### the attachment: holds_open's last premise (the goal 'hc' behind k_head) from a wpAny of the law's body -/

/-- the same from a codeAny of the CALL (for a layer whose function contracts speak of calls) -/
theorem attach_call {l : OpenLaw} {n : Nat} {q : Program} {loose : List Str} {XP : (Str → Option Value) → Heap → Prop} {YP : World → Heap → Prop} {d : DefRec}
    (hn : l.most = some n) (hdf : d.params.defaults = [])
    (call : ∀ (w : World) (s₀ s₁ : Shared) (mg mb : Str → Option Value) (fa : Addr) (o : Obj) (pm cd doc : Value) (a : Addr) (vs : List Value) (ns : List Int),
      Ground q loose [] XP w s₀ mg mb s₁.heap → YP w s₁.heap →
      s₁.heap.get? fa = some o → o.data = .func (docDef d.name d.params d.body d.scope pm cd doc) → s₁.heap.CodeRec cd d.name → mg d.name = some (.ref fa) →
      s₁.heap.get? a = some { cls := .type "list", data := .seq vs.toArray } → IntsAre vs ns → ns.length ≤ n → s₁.gens = #[] →
      codeAny (model l.prog w) callerA (.call (.ref fa) ⟨[.ref a], []⟩) (fun r s' => r = .ok (.ret (.bool true)) ∧ OldK s₁.heap s'.heap ∧ s'.os = s₁.os ∧ AllBare s'.gens) s₁) :
    WalkO q loose XP YP l.row.toRowW d [] (fun f vs => PySem.call f vs) := by
  intro w s₀ s₁ mg mb G Y fa o pm cd doc dV kV ho hd hcd hD hmg hg args vals as hpre hlay hrd hwl hlo
  obtain rfl : dV = .none := Dflts.none hD hdf
  obtain rfl : kV = .none := Dflts.noKw hD
  obtain ⟨a, vs, ns, rfl, rfl, hobj, hints, hlen⟩ := script_of hn hpre hwl
  refine enter_call (codeAny_mono (call w s₀ s₁ mg mb fa o pm cd doc a vs ns G Y ho (fd_plain hd) hcd hmg hobj hints hlen hg) fun r s' hq => ?_)
  obtain ⟨rfl, h2, h3, h4⟩ := hq
  exact ⟨.inl ⟨.bool true, .bool true, [], rfl, fun _ => rfl, .bool true, post_true l _, fun _ => ⟨List.Pairwise.nil, fun _ hm => (nomatch hm)⟩⟩, h2, h3, h4⟩


/-! ### rules over ANY heap (no ledger) from facts about the written part K: the library's own take a ledger (News) for what they write -/
section
variable {prog : Program} {w : World} {A : Around} {E : Value → Shared → Prop} {s : Shared} {K : Frag}





/-! the whole heap as the ledger: makes every rule that writes through a ledger a rule over any heap -/

end
end Att

namespace L2
open PySem PySem.Spec PyProof.Rows

theorem vals_ints : ∀ {vs : List Value} {ns : List Int}, IntsAre vs ns → Vals (ns.map V.int) vs
  | _, _, .nil => .nil
  | _, _, .cons n t h => .cons ⟨t, rfl⟩ (vals_ints h)

/-- nothing is tracked but the script, known to the object (or it is an object of the module) -/
def Only (H : Hp) : Prop := ∀ b, H b = none ∨ ∃ o xs, H b = some (.frz o (.lst xs))

/-- THE HEAD: the law's promise, at the heap behind the top. F, the promise of the law's def, may use that base is part of the heap (so K.In base, base.Ns mainGlobals mg stand in Mod) -/
theorem law_call {P : Program} {w : World} {K : PySem.W.Frag} {mg mb : Str → Option Value} {CX : CXT} {k : Nat} {fa a : Addr} {fd : FuncData} {x : Str} {sp : Sp} {s₁ : Shared} {vs : List Value} {ns : List Int}
    (KX : K.In s₁.heap) (hns : s₁.heap.Ns mainGlobals mg) (hb : s₁.heap.Ns builtinsNs mb) (hbb : ∀ x : Str, x ≠ "__name__" → mb x = bootBuiltins x) (hlim : s₁.heap.NoLimit) (hg : s₁.gens = #[])
    (ha : s₁.heap.get? a = some { cls := .type "list", data := .seq vs.toArray }) (hi : IntsAre vs ns) (hl : ns.length ≤ sizeLine) (hr : Room k callerA)
    (F : ∀ base : Heap, K.In base → base.Ns mainGlobals mg → FnOk P w K mg base CX k fa fd [x] sp) (hbind : ∀ (s : Shared) (u : Value), BindsTo s fd ⟨[u], []⟩ [(x, u)])
    (hsp : ∀ H : Hp, Only H → SqL K H a (ns.map V.int) → sp [.ref a] H (fun v _ => v = .bl true) fun _ _ _ => False)
    (hCX : ∀ H e s', CX [] H s₁ (fun _ _ _ => False) e s' → False) :
    codeAny (model P w) callerA (.call (.ref fa) ⟨[.ref a], []⟩) (fun r s' => r = .ok (.ret (.bool true)) ∧ OldK s₁.heap s'.heap ∧ s'.os = s₁.os ∧ AllBare s'.gens) s₁ := by
  have rv := vals_ints hi
  have lenV := hi.length
  -- from an abstract heap in which nothing but the script may be tracked
  have core : ∀ H : Hp, Only H → SqL K H a (ns.map V.int) → HOk P w H s₁.heap → (∀ b, H b ≠ none → b = a) → (H a ≠ none → K.lookup a = none) →
      codeAny (model P w) callerA (.call (.ref fa) ⟨[.ref a], []⟩) (fun r s' => r = .ok (.ret (.bool true)) ∧ OldK s₁.heap s'.heap ∧ s'.os = s₁.os ∧ AllBare s'.gens) s₁ := by
    intro H hO hS hok hA hK
    have base_of : ∀ {b : Addr} {o : Obj}, s₁.heap.get? b = some o → H b = none → (hidT s₁.heap H).get? b = some o := fun e n => hidT_get e n
    have noA : ∀ {b : Addr} {o : Obj} {es : Array DictEntry} {ep : Nat}, s₁.heap.get? b = some o → o.data = .dict es ep → H b = none := fun {b o es ep} e d => by
      cases q : H b with
      | none => rfl
      | some u =>
        have e' : b = a := hA b (by rw [q]; simp)
        subst e'
        rw [ha] at e; cases e
        have d' : Data.seq vs.toArray _ = Data.dict es ep := d
        cases d'
    have nsK : ∀ {b : Addr} {m : Str → Option Value}, s₁.heap.Ns b m → (hidT s₁.heap H).Ns b m := fun {b m} ⟨o, es, ep, e, d, r⟩ => ⟨o, es, ep, base_of e (noA e d), d, r⟩
    have hKb : K.In (hidT s₁.heap H) := fun b o e => base_of (KX b o e) (by
      cases q : H b with
      | none => rfl
      | some u =>
        have e' : b = a := hA b (by rw [q]; simp)
        subst e'
        rw [hK (by rw [q]; simp)] at e; cases e)
    have hM : Mod K mg (hidT s₁.heap H) := ⟨hKb, nsK hns, ⟨mb, nsK hb, hbb⟩, let ⟨mc, h1, h2⟩ := hlim; ⟨mc, nsK h1, h2⟩⟩
    have e0 : Env0 P w K mg (hidT s₁.heap H) callerA [] s₁ H := ⟨rfl, hM, fun b o e => of_hidT e, Nat.le_of_eq (hidT_size _ _), trivial, fun b hb => absurd (show b ∈ ([] : List Addr) from hb) (by simp), hok, .of_eq hg⟩
    refine codeAny_mono ((F _ hKb (nsK hns)).run callerA [] s₁ H ⟨[.ref a], []⟩ [.ref a] [.ref a] _ _ hr e0 (hbind s₁ (.ref a)) (.cons rfl .nil) (hsp H hO hS)) fun r s' h => ?_
    cases r with
    | error e => exact (hCX H e s' h).elim
    | ok fl =>
      cases fl with
      | next => exact False.elim h
      | brk => exact False.elim h
      | cont => exact False.elim h
      | ret u =>
        obtain ⟨v, H', os, bare, un, hok', r', q⟩ := h
        have q' : v = .bl true := q
        subst q'
        obtain rfl : u = Value.bool true := r'
        refine ⟨rfl, OldK.of_keep fun b o e => ?_, os, bare⟩
        cases q : H b with
        | none => exact un.keep b o e q (by intro z; exact absurd (show b ∈ ([] : List Addr) from z) (by simp)) (by simp)
        | some u =>
          rcases hO b with z | ⟨ob, xs, z⟩
          · rw [q] at z; cases z
          · have z2 := un.frzs b ob _ z
            obtain ⟨e1, _⟩ := hok b _ z
            obtain ⟨e2, _⟩ := hok' b _ z2
            rw [e] at e1; cases e1
            exact e2
  cases hk : K.lookup a with
  | some o =>
    -- the script is one of the module's own objects
    have e := KX a o hk
    rw [ha] at e
    cases e
    refine core (fun _ => none) (fun _ => .inl rfl) (.inr ⟨_, vs.toArray, _, hk, rfl, rfl, rfl, by rw [List.size_toArray, lenV]; exact hl, by simpa using rv⟩) (fun b u z => by have z' : (none : Option HO) = some u := z; cases z') (fun b z => absurd rfl z) fun z => absurd rfl z
  | none =>
    refine core (fun b => if b = a then some (.frz { cls := .type "list", data := .seq vs.toArray } (.lst (ns.map V.int))) else none) (fun b => ?_) (.inl (.inr ⟨{ cls := .type "list", data := .seq vs.toArray }, if_pos rfl⟩)) (fun b u z => ?_) (fun b z => ?_) fun _ => hk
    · by_cases hb : b = a
      · exact .inr ⟨_, _, if_pos hb⟩
      · exact .inl (if_neg hb)
    · by_cases hb : b = a
      · have z' := (if_pos hb).symm.trans z
        cases z'
        subst hb
        exact ⟨ha, by rw [List.length_map]; exact hl, vs, _, rv, ha⟩
      · have z' := (if_neg hb).symm.trans z
        cases z'
    · by_cases hb : b = a
      · exact hb
      · exact absurd (if_neg hb) z
end L2

namespace L2
open PySem PySem.Spec PyProof.Rows


/-- the goal that k_head leaves (case hc), from the law's promise. F gives the function object fd (K's own) once, then the promise over every base -/
theorem walk_of {l : PySem.W.OpenLaw} {n k : Nat} {q : Program} {loose : List Str} {XP : (Str → Option Value) → Heap → Prop} {YP : World → Heap → Prop} {d : DefRec} {K : Params → PySem.W.Frag} {CX : World → CXT} {sp : World → Sp} {x : Str}
    (hn : l.most = some n) (hn2 : n ≤ sizeLine) (hdf : d.params.defaults = []) (hr : Room k callerA)
    (hY : ∀ (w : World) (h : Heap), YP w h → (K w.params).In h)
    (F : ∀ (w : World) (mg : Str → Option Value) (fa : Addr) (h : Heap), (K w.params).In h → h.Ns mainGlobals mg → mg d.name = some (.ref fa) →
      ∃ fd : FuncData, (∀ (s : Shared) (u : Value), BindsTo s fd ⟨[u], []⟩ [(x, u)]) ∧
        ∀ base : Heap, (K w.params).In base → base.Ns mainGlobals mg → FnOk l.prog w (K w.params) mg base (CX w) k fa fd [x] (sp w))
    (hsp : ∀ (w : World) (H : Hp) (a : Addr) (ns : List Int), ns.length ≤ n → Only H → SqL (K w.params) H a (ns.map V.int) → sp w [.ref a] H (fun v _ => v = .bl true) fun _ _ _ => False)
    (hCX : ∀ (w : World) (H : Hp) (s : Shared) (e : Value) (s' : Shared), CX w [] H s (fun _ _ _ => False) e s' → False) :
    PySem.W.WalkO q loose XP YP l.row.toRowW d [] (fun f vs => PySem.call f vs) := by
  refine Att.attach_call hn hdf fun w s₀ s₁ mg mb fa o pm cd doc a vs ns G Y ho hd hcd hmg hobj hints hlen hg => ?_
  have KX := hY w _ Y
  obtain ⟨fd, hb, hF⟩ := F w mg fa _ KX G.T.g hmg
  exact law_call KX G.T.g G.T.b G.T.builtins G.T.nolimit hg hobj hints (Nat.le_trans hlen hn2) hr hF hb (fun H hO hS => hsp w H a ns hlen hO hS) fun H e s' => hCX w H s₁ e s'
end L2


/-! SHORT WORDS over the layer: a def of the text, its body, what a loop and a test want. -/
namespace L2
open PySem PySem.Spec PyProof.Rows

/-! ### the text by places -/
def defArgs (s : Stmt) : Arguments := match s with
  | .FunctionDef _ a _ _ _ _ _ _ _ _ => a
  | _ => { posonlyargs := [], args := [], vararg := none, kwonlyargs := [], kw_defaults := [], kwarg := none, defaults := [] }
def defBody (s : Stmt) : List Stmt := match s with
  | .FunctionDef _ _ b _ _ _ _ _ _ _ => b
  | _ => []
def defScope (s : Stmt) : Scope := match s with
  | .FunctionDef _ _ _ _ _ _ sc _ _ _ => sc
  | _ => { kind := .function, names := [], isGenerator := false, isCoroutine := false }

/-! ### no exception leaves a def -/
abbrev CX0 : CXT := fun _ _ _ _ _ _ => False
abbrev E0 : XK := fun _ _ _ => False
theorem pass0 {X : Cx} : Passes CX0 X E0 := fun _ _ _ _ _ _ _ h => h.elim

/-! ### a def (or method) of the text as it stands behind the top -/
structure Fun (K : PySem.W.Frag) (x qual : Str) (st : Stmt) (f : Addr) (fd : FuncData) : Prop where
  ex : ∃ (oc : Value) (od : Option Addr) (kV doc pm : Value) (an : Option Addr) (cdv ct : Value) (osl : Array (Option Value)),
    fd = PySem.W.fnOf x qual (defArgs st) (defBody st) (defScope st) .none kV doc pm an cdv ct ∧ K.lookup f = some ⟨oc, od, .func fd, osl⟩ ∧ PySem.W.codeIn K cdv qual = true
  kp : PySem.W.keepIn K (.ref f) = true
section
variable {P : Program} {w : World} {K : PySem.W.Frag} {mg : Str → Option Value} {base : Heap}
/-- THE RULE for a def: its body as a term of rules, and the reading of that term -/
theorem Fun.ok {x qual : Str} {st : Stmt} {f : Addr} {fd : FuncData} {N ps : List Str} {k : Nat} {sp : Sp} (F : Fun K x qual st f fd) (S : FnScope N ps (defScope st)) (len : ∀ vs H Q E, sp vs H Q E → vs.length = ps.length)
    (hbody : ∀ (cdv : Value) (A : Around) (outer : List Env) (s : Shared) (H : Hp) (vs : List V) (Q : VK) (E : XK), Room k (A.deeper (envOfC qual (defScope st) s.heap.objs.size f cdv)) → sp vs H Q E →
      ∃ t, PSs (cxOf CX0 P w K mg base N qual (defScope st) f cdv A outer s H E).nox (defBody st) t ∧ t { nx := fun _ H' => Q .non H', rt := Q } (start N vs) H) : FnOk P w K mg base CX0 (k + 1) f fd ps sp := by
  obtain ⟨oc, od, kV, doc, pm, an, cdv, ct, osl, rfl, lk, hcd⟩ := F.ex
  refine fn_of lk hcd S len fun A outer s H vs Q E hr hsp => ?_
  obtain ⟨t, h, q⟩ := hbody cdv A outer s H vs Q E hr hsp
  exact ⟨t, h.nox, q⟩
/-- how its arguments bind (no defaults): h is «fun _ _ _ _ _ _ us hl => match us, hl with | [_, _], _ => rfl», one _ a parameter -/
theorem Fun.binds {x qual : Str} {st : Stmt} {f : Addr} {fd : FuncData} {ps : List Str} (F : Fun K x qual st f fd)
    (h : ∀ (kV doc pm : Value) (an : Option Addr) (cdv ct : Value) (us : List Value), us.length = ps.length → bindArgs (PySem.W.fnOf x qual (defArgs st) (defBody st) (defScope st) .none kV doc pm an cdv ct) ⟨us, []⟩ = pure (ps.zip us)) : Binds K fd ps [] := by
  obtain ⟨oc, od, kV, doc, pm, an, cdv, ct, osl, rfl, lk, hcd⟩ := F.ex
  exact .all (h kV doc pm an cdv ct)
theorem fun_mk {x qual : Str} {st : Stmt} {f : Addr} {oc : Value} {od an : Option Addr} {osl : Array (Option Value)} {kV doc pm cdv ct : Value} (l : K.lookup f = some ⟨oc, od, .func (PySem.W.fnOf x qual (defArgs st) (defBody st) (defScope st) .none kV doc pm an cdv ct), osl⟩)
    (c : PySem.W.codeIn K cdv qual = true) (k : PySem.W.keepIn K (.ref f) = true) : Fun K x qual st f (PySem.W.fnOf x qual (defArgs st) (defBody st) (defScope st) .none kV doc pm an cdv ct) := ⟨⟨oc, od, kV, doc, pm, an, cdv, ct, osl, rfl, l, c⟩, k⟩
end

/-! ### expressions in short: the name that stands in the i-th slot -/
section
variable {X : Cx}
theorem pv (i : Nat) {x : Str} {pos : Pos} (hN : X.N[i]? = some x := by rfl) (hv : Vis X.env.scope x := by first | exact Or.inl rfl | exact Or.inr (Or.inl rfl) | exact Or.inr (Or.inr rfl)) (hd : (x == ("__debug__" : Str)) = false := by decide)
    (hcd : (x == ("__classdict__" : Str)) = false := by decide) : PE X (.Name x pos) (tVar i) := pe_var hN hv hd hcd
end

/-! ### tests -/
theorem iteF {A B : Prop} (h : B) : if false = true then A else B := by
  rw [if_neg Bool.false_ne_true]
  exact h
theorem iteT {A B : Prop} (h : A) : if true = true then A else B := by
  rw [if_pos rfl]
  exact h
theorem ite2 {c A B : Prop} [Decidable c] (h1 : c → A) (h2 : ¬ c → B) : if c then A else B := by
  by_cases h : c
  · rw [if_pos h]
    exact h1 h
  · rw [if_neg h]
    exact h2 h

/-! ### heaps -/
/-- all that was tracked is as it was -/
def Same (H H' : Hp) : Prop := ∀ b o, H b = some o → H' b = some o
theorem Same.refl (H : Hp) : Same H H := fun _ _ h => h
theorem Same.trans {H H1 H2 : Hp} (a : Same H H1) (b : Same H1 H2) : Same H H2 := fun c o h => b c o (a c o h)
theorem Same.seq {K : PySem.W.Frag} {H H' : Hp} {a : Addr} {xs : List V} (e : Same H H') (h : SqL K H a xs) : SqL K H' a xs := by
  rcases h with (h | ⟨o, h⟩) | h
  · exact .inl (.inl (e _ _ h))
  · exact .inl (.inr ⟨o, e _ _ h⟩)
  · exact .inr h

end L2

set_option Elab.async false
set_option linter.all false
set_option maxRecDepth 100000
namespace L2
open PySem PySem.Spec PyProof.Rows
/-! ### an argument list, its parts of any size -/
def notStar : Expr → Bool
  | .Starred _ _ => false
  | _ => true
theorem star_of {e : Expr} {es : List Expr} {env : Env} (h : notStar e = true) : starEach (e :: es) env = (false, eval e env) :: starEach es env := by
  cases e <;> first | rfl | cases h
theorem pa_consN {X : Cx} {e : Expr} {es : List Expr} {te : TE} {t : TA} (ha : PE X e te) (hr : PA X es t) (hs : notStar e = true := by rfl) : PA X (e :: es) (tCons te t) := pa_cons ha hr (star_of hs)
end L2

set_option Elab.async false
set_option linter.all false
set_option maxRecDepth 100000

namespace L2
open PySem PySem.Spec PyProof.Rows

/-! ### a comprehension's block -/
theorem lookup_relabel_free {env : Env} : ∀ {names : List (Str × NameKind)} {x : Str}, names.lookup x = some .free →
    ((names.map fun (n, k) => if (k == NameKind.free && env.scope.kind == .function && env.kindOf n == some .cell) then (n, NameKind.cell) else (n, k)).lookup x = some .cell ∨
    (names.map fun (n, k) => if (k == NameKind.free && env.scope.kind == .function && env.kindOf n == some .cell) then (n, NameKind.cell) else (n, k)).lookup x = some .free)
  | [], _, h => by simp at h
  | (n, k) :: r, x, h => by
    have ih := @lookup_relabel_free env r x
    show (List.lookup x ((if (k == NameKind.free && env.scope.kind == .function && env.kindOf n == some .cell) = true then (n, NameKind.cell) else (n, k)) :: _) = _ ∨ List.lookup x ((if (k == NameKind.free && env.scope.kind == .function && env.kindOf n == some .cell) = true then (n, NameKind.cell) else (n, k)) :: _) = _)
    cases hx : x == n with
    | true =>
      simp only [List.lookup_cons, hx] at h
      cases h
      by_cases hc : (NameKind.free == NameKind.free && env.scope.kind == .function && env.kindOf n == some .cell) = true
      · rw [if_pos hc]; left; simp only [List.lookup_cons, hx]
      · rw [if_neg hc]; right; simp only [List.lookup_cons, hx]
    | false =>
      simp only [List.lookup_cons, hx] at h
      by_cases hc : (k == NameKind.free && env.scope.kind == .function && env.kindOf n == some .cell) = true
      · rw [if_pos hc]; simp only [List.lookup_cons, hx]; exact ih h
      · rw [if_neg hc]; simp only [List.lookup_cons, hx]; exact ih h
theorem lookup_relabel_inv {env : Env} : ∀ {names : List (Str × NameKind)} {x : Str}, (∀ y ∈ names, y.2 ≠ .cell) →
    ((names.map fun (n, k) => if (k == NameKind.free && env.scope.kind == .function && env.kindOf n == some .cell) then (n, NameKind.cell) else (n, k)).lookup x = some .cell ∨
    (names.map fun (n, k) => if (k == NameKind.free && env.scope.kind == .function && env.kindOf n == some .cell) then (n, NameKind.cell) else (n, k)).lookup x = some .free) →
    (x, NameKind.free) ∈ names
  | [], _, _, h => by simp at h
  | (n, k) :: r, x, hn, h => by
    have ih := @lookup_relabel_inv env r x (fun y hy => hn y (List.mem_cons_of_mem _ hy))
    have hk : k ≠ .cell := hn (n, k) List.mem_cons_self
    have h' : (List.lookup x ((if (k == NameKind.free && env.scope.kind == .function && env.kindOf n == some .cell) = true then (n, NameKind.cell) else (n, k)) :: r.map fun (n, k) => if (k == NameKind.free && env.scope.kind == .function && env.kindOf n == some .cell) then (n, NameKind.cell) else (n, k)) = some NameKind.cell ∨ List.lookup x ((if (k == NameKind.free && env.scope.kind == .function && env.kindOf n == some .cell) = true then (n, NameKind.cell) else (n, k)) :: r.map fun (n, k) => if (k == NameKind.free && env.scope.kind == .function && env.kindOf n == some .cell) then (n, NameKind.cell) else (n, k)) = some NameKind.free) := h
    cases hx : x == n with
    | true =>
      have e : x = n := eq_of_beq hx
      subst e
      by_cases hc : (k == NameKind.free && env.scope.kind == .function && env.kindOf x == some .cell) = true
      · have hkf : k = .free := by
          have := hc
          simp only [Bool.and_eq_true] at this
          exact eq_of_beq this.1.1
        subst hkf; exact List.mem_cons_self
      · rw [if_neg hc] at h'
        simp only [List.lookup_cons, hx] at h'
        rcases h' with h' | h'
        · cases h'; exact absurd rfl hk
        · cases h'; exact List.mem_cons_self
    | false =>
      refine List.mem_cons_of_mem _ (ih ?_)
      by_cases hc : (k == NameKind.free && env.scope.kind == .function && env.kindOf n == some .cell) = true
      · rw [if_pos hc] at h'; simp only [List.lookup_cons, hx] at h'; exact h'
      · rw [if_neg hc] at h'; simp only [List.lookup_cons, hx] at h'; exact h'

theorem closure_go {env : Env} (f : Str × NameKind → List (Str × Addr) → Sem (ForInStep (List (Str × Addr))))
    (h1 : ∀ n k r, (k == NameKind.free) = false → f (n, k) r = pure (.yield r)) (h2 : ∀ n c r, env.cells.lookup n = some c → f (n, .free) r = pure (.yield ((n, c) :: r))) :
    ∀ (l : List (Str × NameKind)) (acc : List (Str × Addr)), (∀ y ∈ l, y.2 = .free → ∃ c, env.cells.lookup y.1 = some c) → (∀ n c, acc.lookup n = some c → env.cells.lookup n = some c) →
      ∃ cl, forIn l acc f = pure cl ∧ (∀ n c, cl.lookup n = some c → env.cells.lookup n = some c) ∧ (∀ y ∈ l, y.2 = .free → ∃ c, cl.lookup y.1 = some c) ∧ ∀ n c, acc.lookup n = some c → ∃ c', cl.lookup n = some c'
  | [], acc, _, ha => ⟨acc, rfl, ha, ⟨fun y hy _ => absurd hy List.not_mem_nil, fun n c e => ⟨c, e⟩⟩⟩
  | (n, k) :: r, acc, hl, ha => by
    cases hk : k == NameKind.free with
    | false =>
      obtain ⟨cl, e, p1, p2, p3⟩ := closure_go f h1 h2 r acc (fun y hy => hl y (List.mem_cons_of_mem _ hy)) ha
      refine ⟨cl, ?_, p1, fun y hy hf => ?_, p3⟩
      · rw [List.forIn_cons, h1 n k acc hk, pure_bind]; exact e
      · rcases List.mem_cons.mp hy with rfl | hy
        · rw [show k = .free from hf] at hk; cases hk
        · exact p2 y hy hf
    | true =>
      have hkf : k = .free := eq_of_beq hk
      subst hkf
      obtain ⟨c, hc⟩ := hl (n, .free) List.mem_cons_self rfl
      have hc : env.cells.lookup n = some c := hc
      obtain ⟨cl, e, p1, p2, p3⟩ := closure_go f h1 h2 r ((n, c) :: acc) (fun y hy => hl y (List.mem_cons_of_mem _ hy)) (fun m d hm => by
        rw [List.lookup_cons] at hm
        cases hx : m == n with
        | true => rw [hx] at hm; cases hm; rw [eq_of_beq hx]; exact hc
        | false => rw [hx] at hm; exact ha m d hm)
      have here : ∃ c', cl.lookup n = some c' := p3 n c (by rw [List.lookup_cons]; simp)
      refine ⟨cl, ?_, p1, fun y hy hf => ?_, fun m d hm => ?_⟩
      · rw [List.forIn_cons, h2 n c acc hc, pure_bind]; exact e
      · rcases List.mem_cons.mp hy with rfl | hy
        · exact here
        · exact p2 y hy hf
      · cases hx : m == n with
        | true => rw [eq_of_beq hx]; exact here
        | false => exact p3 m d (by rw [List.lookup_cons, hx]; exact hm)
theorem closure_ex {scope : Scope} {env : Env} (h : ∀ y ∈ scope.names, y.2 = .free → ∃ c, env.cells.lookup y.1 = some c) :
    ∃ cl, closureFor scope env = pure cl ∧ (∀ n c, cl.lookup n = some c → env.cells.lookup n = some c) ∧ ∀ y ∈ scope.names, y.2 = .free → ∃ c, cl.lookup y.1 = some c := by
  obtain ⟨cl, e, p1, p2, _⟩ := closure_go (env := env) (fun x r => if (x.2 == NameKind.free) = true then (cellOf env x.1 >>= fun a => pure (ForInStep.yield ((x.1, a) :: r))) else pure (ForInStep.yield r))
    (fun n k r hk => by simp only [hk, Bool.false_eq_true, if_false]) (fun n c r hc => by simp only [cellOf, hc, beq_self_eq_true, if_true, pure_bind]) scope.names [] h (fun n c e => by simp at e)
  refine ⟨cl, ?_, p1, p2⟩
  rw [show closureFor scope env = (forIn scope.names [] (fun (x : Str × NameKind) (r : List (Str × Addr)) => if (x.2 == NameKind.free) = true then (cellOf env x.1 >>= fun a => pure (ForInStep.yield ((x.1, a) :: r))) else pure (ForInStep.yield r)) >>= fun cs => pure cs) from rfl, e, pure_bind]

section
variable {prog : Program} {w : World} {A : Around} {R : Result → Shared → Prop} {s : Shared}
theorem codeAny_compLoop_own {elt target iter : Expr} {scope : Scope} {pos : Pos} {it acc : Value} {env : Env} (I : Nat → Shared → Prop)
    (turn : ∀ n s, I n s → wpAny (model prog w) A (pyNext it) (fun r s1 => match r with
      | none => R (.ok .next) s1
      | some v => wpAny (model prog w) A (letOwnedTupleGo target it v) (fun _ s0 => wpAny (model prog w) A (assign target env v) (fun _ s2 => wpAny (model prog w) A (eval elt env) (fun x s3 =>
          wpAny (model prog w) A (call (.builtin "list.append") [acc, x]) (fun _ s4 => ∃ m, m < n ∧ I m s4) (notedBy (model prog w) A env fun e s' => R (.error e) s') s3)
          (notedBy (model prog w) A env fun e s' => R (.error e) s') s2) (notedBy (model prog w) A env fun e s' => R (.error e) s') s0) (notedBy (model prog w) A env fun e s' => R (.error e) s') s1) (notedBy (model prog w) A env fun e s' => R (.error e) s') s)
    (n : Nat) (h : I n s) :
    codeAny (model prog w) A (.compLoop (.ListComp elt [⟨target, iter, [], 0⟩] scope pos) 0 it acc env) R s := by
  refine codeAny_loop rfl I (fun n s hI => ?_) n h
  show wpAny _ _ ((compTurn (.ListComp elt [⟨target, iter, [], 0⟩] scope pos) 0 it acc env).onRaise (fun x => do noteFrame x env; theTreesLotGoes x)) _ _ s
  refine wpAny_noted ?_
  rw [compTurn_list1]
  refine wpAny_bind (wpAny_standAt (wpAny_bind (wpAny_mono (turn n s hI) (fun r s1 h1 => ?_) fun _ _ h' => h')))
  cases r with
  | none => exact wpAny_pure h1
  | some v =>
    refine wpAny_bind (wpAny_mono h1 (fun _ s0 h0 => ?_) fun _ _ h' => h')
    exact wpAny_bind (wpAny_mono h0 (fun _ s2 h2 => wpAny_bind (wpAny_bind (wpAny_mono h2 (fun x s3 h3 => wpAny_bind (wpAny_mono h3
      (fun _ s4 h4 => wpAny_pure (wpAny_pure ⟨rfl, h4⟩)) fun _ _ h' => h')) fun _ _ h' => h'))) fun _ _ h' => h')
end

/-- the block's names at its start: own ones unset, then the free ones as they are outside -/
def blkStart (own : Nat) (fv : List Nat) (σ : St) : St := List.replicate own none ++ fv.map fun j => (σ[j]?).getD none
def Cx.blk (X : Cx) (scope : Scope) (N' : List Str) (cl : List (Str × Addr)) (s3 : Shared) (H3 : Hp) (ex : List Addr) : Cx :=
  { X with N := N', s₀ := s3, H₀ := H3, env := compEnvC scope cl s3.heap.objs.size X.env, outer := X.stack, stack := X.stack, ex := ex, fn := fun _ => false, pn := [], xe := fun _ _ => False }
/-- what of the text a block must have; N': own names first (own of them), then the free ones, which stand in the slots fv of the names outside -/
structure BlkScope (X : Cx) (scope : Scope) (N' : List Str) (own : Nat) (fv : List Nat) : Prop where
  kind : scope.kind = .function
  nocell : ∀ y ∈ scope.names, y.2 ≠ .cell
  names : ∀ y ∈ scope.names, y.2 = .local → scope.names.lookup y.1 = some .local
  free : ∀ y ∈ scope.names, y.2 = .free → X.env.kindOf y.1 = some .cell ∨ X.env.kindOf y.1 = some .free
  len : N'.length = own + fv.length
  fvs : ∀ i : Fin fv.length, ∃ x, N'[own + i.val]? = some x ∧ X.N[fv[i.val]]? = some x ∧ scope.names.lookup x = some .free ∧ (X.env.kindOf x = some .cell ∨ X.env.kindOf x = some .free)

theorem mem_of_lookup {x : Str} {k : NameKind} : ∀ {l : List (Str × NameKind)}, l.lookup x = some k → (x, k) ∈ l
  | [], h => by simp at h
  | (n, j) :: r, h => by
    rw [List.lookup_cons] at h
    cases hx : x == n with
    | true => rw [hx] at h; cases h; rw [eq_of_beq hx]; exact List.mem_cons_self
    | false => rw [hx] at h; exact List.mem_cons_of_mem _ (mem_of_lookup h)

section
variable {X : Cx} {scope : Scope} {N' : List Str} {own : Nat} {fv : List Nat} {cl : List (Str × Addr)} {pins : List (Addr × Obj)} {σ : St} {H2 : Hp} {s3 : Shared} {fp : List Addr} {h1 : Heap} {t1 : Nat} {m1 : Str → Option Value}
theorem blk_inv (sc : BlkScope X scope N' own fv) (I : Inv X pins σ H2 s3) (f : ∀ b ∈ fp, FpOk X pins H2 b) (fo : ∀ b ∈ fp, b < s3.heap.objs.size)
    (c1 : ∀ n c, cl.lookup n = some c → X.env.cells.lookup n = some c) (c2 : ∀ y ∈ scope.names, y.2 = .free → ∃ c, cl.lookup y.1 = some c)
    (hns : h1.Ns s3.heap.objs.size m1) (old : ∀ b o, s3.heap.get? b = some o → h1.get? b = some o) :
    Inv (X.blk scope N' cl s3 H2 fp) [] (blkStart own fv σ) H2 { s3 with heap := h1, toks := t1 } where
  ok := {
    mod := I.ok.mod
    kind := sc.kind
    glob := I.ok.glob
    blt := I.ok.blt
    above := Nat.le_refl _
    inj := fun x y c hx hy => I.ok.inj x y c (c1 x c hx) (c1 y c hy)
    has := fun x hx => c2 (x, .free) (lookup_relabel_inv (env := X.env) sc.nocell hx) rfl
    cab := fun x c h => nomatch h
    hd := I.ok.hd
    frames := I.ok.frames
    stk := .inl rfl
    exf := fun b hb => ⟨Nat.ne_of_lt (fo b hb), fun x c hc => (f b hb).2.2.2.2.1 x c (c1 x c hc)⟩
    bs := fun b o e => I.bs b o e
    bsz := Nat.le_trans I.ok.bsz I.sz
    noex := fun b o e hb => by
      rcases (f b hb).2.2.2.1 with h | h
      · exact I.ok.noex b o e h
      · exact Nat.lt_irrefl _ (Nat.lt_of_lt_of_le (Heap.lt_size e) (Nat.le_trans I.ok.bsz h))
    exfs := fun b hb hf => by
      rcases List.mem_cons.mp (I.stkSub b hf) with h | h
      · exact (f b hb).2.1 h
      · exact (f b hb).2.2.1 h
    funs := I.stack
    frf := I.stkFree }
  os := rfl
  bare := I.bare
  base := Un.kept old
  loc := by
    refine ⟨m1, hns, fun i x v hi hv _ => ?_⟩
    have hi' : N'[i]? = some x := hi
    unfold blkStart at hv
    by_cases hlt : i < own
    · rw [List.getElem?_append_left (by rw [List.length_replicate]; exact hlt), List.getElem?_replicate, if_pos hlt] at hv
      cases hv
    · rw [List.getElem?_append_right (by rw [List.length_replicate]; omega), List.length_replicate, List.getElem?_map] at hv
      cases hj : fv[i - own]? with
      | none => rw [hj] at hv; cases hv
      | some j =>
        rw [hj] at hv
        have hv' : (σ[j]?).getD none = some v := Option.some.inj hv
        have hσ : σ[j]? = some (some v) := by
          cases e : σ[j]? with
          | none => rw [e] at hv'; cases hv'
          | some o => rw [e] at hv'; simp only [Option.getD_some] at hv'; rw [hv']
        obtain ⟨hk, ej⟩ := List.getElem?_eq_some_iff.mp hj
        obtain ⟨y, y1, y2, y3, y4⟩ := sc.fvs ⟨i - own, hk⟩
        have e1 : own + (i - own) = i := by omega
        simp only [e1] at y1
        rw [hi'] at y1; cases y1
        simp only [ej] at y2
        obtain ⟨m3, hn3, hl3⟩ := I.loc
        obtain ⟨u, ru, lk⟩ := hl3 j x v y2 hσ (by rcases y4 with h | h; exact .inr (.inl h); exact .inr (.inr h))
        refine ⟨u, ru, .inr ⟨lookup_relabel_free y3, ?_⟩⟩
        rcases lk with ⟨h, _⟩ | ⟨_, c, hc, ic⟩
        · rcases y4 with h' | h' <;> rw [h] at h' <;> cases h'
        · obtain ⟨c', hc'⟩ := c2 (x, .free) (mem_of_lookup y3) rfl
          have : c' = c := by have := c1 x c' hc'; rw [hc] at this; exact (Option.some.inj this).symm
          subst this
          exact ⟨c', hc', ic.keeps old⟩
  cell := fun x c hc => let ⟨v, hv⟩ := I.cell x c (c1 x c hc); ⟨v, hv.keeps old⟩
  free := I.fresh
  freeC := fun x c hc => I.freeC x c (c1 x c hc)
  pin := fun p hp => nomatch hp
  hok := I.hok.kept old
  len := by
    show (blkStart own fv σ).length = N'.length
    unfold blkStart
    rw [List.length_append, List.length_replicate, List.length_map, sc.len]
end

/-- W: the invariant by the turn and a measure; acc: where the new list stands -/
def compWalk (J : It) (H1 : Hp) (σ0 : St) (g : TG) (te : TE) (Q : Addr → Hp → Prop) : Prop :=
  ∀ acc, H1 acc = none → ∃ W : Nat → Nat → St → Hp → Prop, (∃ m, W 0 m σ0 (upd H1 acc (.lst []))) ∧ ∀ i m σ' H', W i m σ' H' →
    (J.stop i H' ∧ Q acc H') ∨ (J.go i H' ∧ ∀ x H2, J.yld i H' x H2 → g x σ' H2 fun σ2 H3 => te σ2 H3 fun y H4 => ∃ ys, H4 acc = some (.lst ys) ∧ ys.length < sizeLine ∧ ∃ m', m' < m ∧ W (i + 1) m' σ2 (upd H4 acc (.lst (ys ++ [y]))))
def tComp (wi : TI) (own : Nat) (fv : List Nat) (g : TG) (te : TE) : TE := fun σ H Q => wi σ H fun J H1 => compWalk J H1 (blkStart own fv σ) g te fun acc H' => Q (.ref acc) H'

section
variable {X : Cx} {elt tg iter : Expr} {scope : Scope} {N' : List Str} {own : Nat} {fv : List Nat} {cl : List (Str × Addr)} {pins : List (Addr × Obj)} {σ : St} {H2 : Hp} {s2 : Shared} {fp : List Addr} {it : Addr} {tn : Nat → Heap → Prop} {J : It} {pos : Pos} {g : TG} {te : TE} {Q : Addr → Hp → Prop}
theorem comp_block (hc : X.calm = true) (sc : BlkScope X scope N' own fv) (I2 : Inv X pins σ H2 s2) (T : Turn X.prog X.w X.K tg J fp it tn) (st2 : tn 0 s2.heap) (f2 : ∀ b ∈ fp, FpOk X pins H2 b)
    (c1 : ∀ n c, cl.lookup n = some c → X.env.cells.lookup n = some c) (c2 : ∀ y ∈ scope.names, y.2 = .free → ∃ c, cl.lookup y.1 = some c)
    (hg : ∀ cl s3 H3 ex, PG (X.blk scope N' cl s3 H3 ex) tg g) (he : ∀ cl s3 H3 ex, PE (X.blk scope N' cl s3 H3 ex) elt te)
    (hq : compWalk J H2 (blkStart own fv σ) g te Q) {RR : Value → Addr → Result → Shared → Prop}
    (hRR : ∀ acc C s' H' m, Inv X pins σ H' s' → Q acc H' → s'.heap.Ns C m → H' C = none → C ≠ X.env.locals → X.s₀.heap.objs.size ≤ C → (∀ x c, X.env.cells.lookup x = some c → c ≠ C) → (∀ p ∈ X.pn ++ pins, p.1 ≠ C) → RR (.ref acc) C (.ok .next) s') :
    wpAny (model X.prog X.w) X.A (newList []) (fun acc s3 => wpAny (model X.prog X.w) X.A (newFunctionEnv scope X.env.globals cl [] X.env.qual none .none (some X.env)) (fun cenv s4 =>
      codeAny (model X.prog X.w) X.A (.compStart (.ListComp elt [⟨tg, iter, [], 0⟩] scope pos) 0 (.ref it) acc { cenv with scope := relabel scope X.env }) (RR acc cenv.locals) s4) X.xe s3) X.xe s2 := by
  refine wpAny_newObj_type (wpAny_newFunctionEnv sc.nocell (by intro y hy; simp at hy) (fun h1 hns hsb => ?_) sc.kind)
  dsimp only at hns hsb ⊢
  have I3 : Inv X pins σ (upd H2 s2.heap.objs.size (.lst [])) { s2 with heap := s2.heap.push { cls := .type "list", dict := none, data := .seq ([] : List Value).toArray } } := I2.lnew (t' := s2.toks) .nil (Nat.zero_le _)
  have hacc : H2 s2.heap.objs.size = none := I2.fresh
  obtain ⟨W, ⟨m0, w0⟩, turn⟩ := hq s2.heap.objs.size hacc
  have flt : ∀ b ∈ fp, b < s2.heap.objs.size := fun b hb => by
    obtain ⟨o, e, _⟩ := T.obj _ _ st2 b hb
    exact Heap.lt_size e
  have f3 : ∀ b ∈ fp, FpOk X pins (upd H2 s2.heap.objs.size (.lst [])) b := fun b hb => ⟨by rw [upd_ne (Nat.ne_of_lt (flt b hb))]; exact (f2 b hb).1, (f2 b hb).2⟩
  have st3 : tn 0 (s2.heap.push { cls := .type "list", dict := none, data := .seq ([] : List Value).toArray }) := T.keep _ _ _ st2 fun b _ o e => Heap.get?_push_of_some _ e
  generalize hs3 : ({ s2 with heap := s2.heap.push { cls := .type "list", dict := none, data := .seq ([] : List Value).toArray } } : Shared) = s3 at I3 
  have eh : s2.heap.push { cls := .type "list", dict := none, data := .seq ([] : List Value).toArray } = s3.heap := by rw [← hs3]
  rw [eh] at hns hsb st3
  have old : ∀ b o, s3.heap.get? b = some o → h1.get? b = some o := fun b o e => hsb.extBut b o (Nat.ne_of_lt (Heap.lt_size e)) (Heap.get?_push_of_some _ e)
  have fo3 : ∀ b ∈ fp, b < s3.heap.objs.size := fun b hb => by
    obtain ⟨o, e, _⟩ := T.obj _ _ st3 b hb
    exact Heap.lt_size e
  have est : ({ s2 with heap := h1, toks := s2.toks + ([] : List (Str × Value)).length } : Shared) = { s3 with heap := h1, toks := s3.toks } := by rw [← hs3]; rfl
  have I4 : Inv (X.blk scope N' cl s3 (upd H2 s2.heap.objs.size (.lst [])) fp) [] (blkStart own fv σ) (upd H2 s2.heap.objs.size (.lst [])) { s3 with heap := h1, toks := s3.toks } :=
    blk_inv sc I3 f3 fo3 c1 c2 hns old
  have st4 : tn 0 h1 := T.keep _ _ _ st3 fun b _ o e => old b o e
  have stat : ∀ {H' : Hp}, (∀ b ∈ fp, H' b = none) → ∀ b ∈ fp, FpOk (X.blk scope N' cl s3 (upd H2 s2.heap.objs.size (.lst [])) fp) [] H' b := fun hn b hb =>
    ⟨hn b hb, Nat.ne_of_lt (fo3 b hb), fun hf => by
      rcases List.mem_cons.mp (I3.stkSub b hf) with h | h
      · exact (f3 b hb).2.1 h
      · exact (f3 b hb).2.2.1 h, .inl hb, fun x c hc' => (f3 b hb).2.2.2.2.1 x c (c1 x c hc'), fun p hp => nomatch hp⟩
  have loop : ∀ s4 : Shared, s4 = { s3 with heap := h1, toks := s3.toks } →
      codeAny (model X.prog X.w) X.A (.compLoop (.ListComp elt [⟨tg, iter, [], 0⟩] scope pos) 0 (.ref it) (.ref s2.heap.objs.size) (compEnvC scope cl s3.heap.objs.size X.env)) (RR (.ref s2.heap.objs.size) s3.heap.objs.size) s4 := by
    rintro s4 rfl
    refine codeAny_compLoop_own (fun n s' => ∃ i σ' H', Inv (X.blk scope N' cl s3 (upd H2 s2.heap.objs.size (.lst [])) fp) [] σ' H' s' ∧ tn i s'.heap ∧ (∀ b ∈ fp, H' b = none) ∧ W i n σ' H') ?_ m0
      ⟨0, _, _, I4, st4, fun b hb => (f3 b hb).1, w0⟩
    rintro n s5 ⟨i, σ5, H5, I5, st5, fr5, w5⟩
    rcases turn i n σ5 H5 w5 with ⟨stop, q⟩ | ⟨go, step⟩
    · refine thn (T.done (X.blk scope N' cl s3 (upd H2 s2.heap.objs.size (.lst [])) fp) rfl rfl rfl hc i [] s5 σ5 H5 _ I5 (stat fr5) st5 stop) fun r s6 ⟨hr, I6⟩ => ?_
      subst hr
      obtain ⟨m6, hn6, _⟩ := I6.loc
      refine hRR _ _ s6 H5 m6 (I3.call' (ch := fp) I6.os I6.base I6.hok I6.bare fun b hb => ⟨(f3 b hb).2.2.2.1, (f3 b hb).2.1, (f3 b hb).2.2.2.2.1, (f3 b hb).2.2.2.2.2⟩) q hn6 I6.free (Nat.ne_of_gt I3.lt) I3.sz (fun x c hc' => ?_) fun p hp => ?_
      · obtain ⟨v, o, ho, _⟩ := I3.cell x c hc'
        exact Nat.ne_of_lt (Heap.lt_size ho)
      · exact Nat.ne_of_lt (Heap.lt_size (I3.pin p hp).1)
    · refine thn (T.item (X.blk scope N' cl s3 (upd H2 s2.heap.objs.size (.lst [])) fp) rfl rfl rfl hc i [] s5 σ5 H5 _ I5 (stat fr5) st5 go) fun r s6 ⟨u, hr, h6⟩ => ?_
      subst hr
      refine thn h6 fun _ s7 ⟨x, H7, I7, r7, y7, st7, fr7⟩ => ?_
      have I7' := I7.pinned (stat fr7) (T.obj _ _ st7)
      refine wpAny_mono (hg cl s3 _ fp _ s7 σ5 H7 x u _ I7' r7 (step x H7 y7)) (fun _ s8 ⟨σ8, H8, I8, q8⟩ => ?_) fun _ _ z => z.elim
      refine wpAny_mono (he cl s3 _ fp _ s8 σ8 H8 _ I8 q8) (fun v s9 ⟨y, H9, I9, r9, ys, e9, z9, m', hm', w9⟩ => ?_) fun _ _ z => z.elim
      refine wpAny_mono (mt_append (X := X.blk scope N' cl s3 (upd H2 s2.heap.objs.size (.lst [])) fp) _ s9 σ8 H9 (.ref s2.heap.objs.size) [y] (.ref s2.heap.objs.size) [v] (fun _ H' => ∃ m', m' < n ∧ W (i + 1) m' σ8 H') I9 rfl (.cons r9 .nil) ⟨_, ys, y, rfl, rfl, e9, z9, m', hm', w9⟩) (fun _ s10 ⟨_, H10, I10, _, m10, hm10, w10⟩ => ?_) fun _ _ z => z.elim
      refine ⟨m10, hm10, i + 1, σ8, H10, I10.unpinned (pl := pinsAt fp s7.heap), T.keep _ _ _ st7 fun b hb o e => (I10.pin (b, o) (List.mem_append_right _ (List.mem_append_right _ (mem_pinsAt hb e)))).1, fun b hb => ?_, w10⟩
      obtain ⟨o, e, d⟩ := T.obj _ _ st7 b hb
      exact (I10.pin (b, o) (List.mem_append_right _ (List.mem_append_right _ (mem_pinsAt hb e)))).2.1
  rw [est]
  rw [eh]
  exact codeAny_compStart_list (loop _ rfl) (T.self _ 0 _ _ _ st4 (loop _ rfl))

theorem pe_comp {wi : TI} (hc : X.calm = true) (sc : BlkScope X scope N' own fv) (hi : PI X tg iter wi)
    (hg : ∀ cl s3 H3 ex, PG (X.blk scope N' cl s3 H3 ex) tg g) (he : ∀ cl s3 H3 ex, PE (X.blk scope N' cl s3 H3 ex) elt te)
    (hs : ∀ x, foldedSetIterable iter X.env x = pure x := by intro _; rfl) : PE X (.ListComp elt [⟨tg, iter, [], 0⟩] scope pos) (tComp wi own fv g te) := by
  intro pins s σ H Q I h
  obtain ⟨cl, hcl, c1, c2⟩ := closure_ex (scope := scope) (env := X.env) fun y hy hf => I.ok.has _ (sc.free y hy hf)
  rw [eval_ListComp]
  refine wpAny_comprehension_free (use := none) rfl hs hcl sc.kind sc.names (thn (hi pins s σ H _ I h) fun v s1 h1 => thn h1 fun itv s2 h2 => ?_)
  obtain ⟨it, fp, tn, J, H2, e, I2, T, st2, f2, hq⟩ := h2
  subst e
  refine comp_block (RR := fun acc C => compPost (model X.prog X.w) X.A X.xe none (EP X pins σ Q) acc C) hc sc I2 T st2 f2 c1 c2 hg he hq ?_
  intro acc C s' H' m I' q hn hC hL h0 hcc hp
  exact ⟨m, hn, fun h' sb => ⟨.ref acc, H', I'.turned (t' := s'.toks) (fun b o hb e => sb.extBut b o hb e) hC hL (.inr h0) hcc hp, rfl, q⟩⟩

/-- name = [..], a comprehension that is stored into a plain local name of its own row -/
theorem ps_setComp {wi : TI} {i : Nat} {x : Str} {pos' spos : Pos} (hc : X.calm = true) (sc : BlkScope X scope N' own fv) (hN : X.N.Nodup) (hix : X.N[i]? = some x) (hx : Loc X.env.scope x) (hi : PI X tg iter wi)
    (hg : ∀ cl s3 H3 ex, PG (X.blk scope N' cl s3 H3 ex) tg g) (he : ∀ cl s3 H3 ex, PE (X.blk scope N' cl s3 H3 ex) elt te)
    (hsw : swapsWith (.ListComp elt [⟨tg, iter, [], 0⟩] scope pos) (some (.Name x pos')) spos.line X.env = pure true := by rfl)
    (hs : ∀ x, foldedSetIterable iter X.env x = pure x := by intro _; rfl)
    (hf : X.fn x = true ∨ X.env.scope.names.lookup x = some .local := by first | exact .inl rfl | exact .inr rfl | assumption) :
    PS X (.Assign [.Name x pos'] (.ListComp elt [⟨tg, iter, [], 0⟩] scope pos) spos) (tAsg (tComp wi own fv g te) (gName i)) := by
  intro pins s σ H D I h
  obtain ⟨cl, hcl, c1, c2⟩ := closure_ex (scope := scope) (env := X.env) fun y hy hf => I.ok.has _ (sc.free y hy hf)
  rw [exec_Assign_Name_used _ _ _ _ hsw]
  refine wpAny_bind (wpAny_standAt (wpAny_bind ?_))
  show wpAny _ X.A (do let _ ← comprehension (.ListComp elt [⟨tg, iter, [], 0⟩] scope pos) scope X.env _ (newList []) false (eval iter X.env) (some (assign (.Name x pos') X.env))) _ _ s
  refine wpAny_bind (wpAny_mono (wpAny_comprehension_free (use := some (assign (.Name x pos') X.env)) (Q := fun _ s' => SP X pins D .next s') rfl hs hcl sc.kind sc.names
    (thn (hi pins s σ H _ I h) fun v s1 h1 => thn h1 fun itv s2 h2 => ?_)) (fun _ s' hq => wpAny_pure (wpAny_pure hq)) fun _ _ e => e)
  obtain ⟨it, fp, tn, J, H2, e, I2, T, st2, f2, hq⟩ := h2
  subst e
  refine comp_block (RR := fun acc C => compPost (model X.prog X.w) X.A X.xe (some (assign (.Name x pos') X.env)) (fun _ s' => SP X pins D .next s') acc C) hc sc I2 T st2 f2 c1 c2 hg he hq ?_
  intro acc C s' H' m I' q hn hC hL h0 hcc hp
  show wpAny _ X.A (assign (.Name x pos') X.env (.ref acc)) _ _ _
  refine wpAny_assign_Name (store_ok2 I' hN hix hx (v := .ref acc) rfl (fun s'' I'' ⟨a, sb, ha⟩ => ?_) hf)
  have hCa : C ≠ a := by
    rcases ha with rfl | ha
    · exact hL
    · exact fun z => hcc x a ha z.symm
  refine ⟨m, hn.sameBut sb hCa, fun h' sb' => ⟨_, H', I''.turned (t' := s''.toks) (fun b o hb e => sb'.extBut b o hb e) hC hL (.inr h0) hcc hp, q⟩⟩
end
end L2

set_option Elab.async false
set_option linter.all false
set_option maxRecDepth 100000

namespace L2
open PySem PySem.Spec PyProof.Rows

/-! ### a list taken apart: a, b = xs -/
section
variable {prog : Program} {w : World} {A : Around} {E : Value → Shared → Prop}
end
section
variable {X : Cx} {pos : Pos}

/-! ### all(list of bools) -/
theorem vals_bl {bs : List Bool} {us : List Value} (r : Vals (bs.map V.bl) us) {i : Nat} {v : Value} (e : us[i]? = some v) : ∃ b, bs[i]? = some b ∧ v = .bool b := by
  have hl := r.length
  rw [List.length_map] at hl
  obtain ⟨hi, _⟩ := List.getElem?_eq_some_iff.mp e
  have hb : (bs.map V.bl)[i]? = some (.bl (bs[i]'(by omega))) := by
    rw [List.getElem?_map, List.getElem?_eq_getElem (by omega)]; rfl
  obtain ⟨u, hu, ru⟩ := r.get hb
  rw [e] at hu; cases hu
  exact ⟨_, List.getElem?_eq_getElem (by omega), ru⟩
theorem call_allB (hc : X.calm = true) : CallR X (.builtin "all") (fun xs H Q => ∃ (p : Addr) (bs : List Bool), xs = [.ref p] ∧ SqL X.K H p (bs.map V.bl) ∧ Q (.bl (bs.all id)) H) := by
  intro pins s σ H xs us Q I r h
  obtain ⟨p, bs, rfl, hq, q⟩ := h
  obtain ⟨u, rfl, ru⟩ := vals1 r
  cases ru
  obtain ⟨its, rv, pl, hz⟩ := I.list hq
  have hl := pl.isList
  have hlt : p < s.heap.objs.size := by obtain ⟨_, e, _⟩ := hl; exact Heap.lt_size e
  have hlen := rv.length
  rw [List.length_map] at hlen
  refine call_all_walk (wpAny_pyIter_list hl ?_)
  refine ⟨s.heap.objs.size, [s.heap.objs.size, p], [s.heap.objs.size], its.toArray.size, _, _, fun i => (bs[i]?).getD true, rfl, Walks.list (A := X.A.in1) (I.ok.hd hc) _ p (Nat.ne_of_lt hlt) its.toArray,
    ⟨⟨_, Heap.get?_push_size _ rfl, rfl, rfl⟩, hl.push _⟩, fun i v s' Q' E' hP hQ => ?_, fun h' tk hk => ?_⟩
  · obtain ⟨b, e, rfl⟩ := vals_bl rv (by simpa using hP)
    simp only [e, Option.getD_some] at hQ
    exact wpAny_truthy_bool hQ
  · have e : ((List.range its.toArray.size).all fun i => (bs[i]?).getD true) = bs.all id := by
      rw [List.size_toArray, ← hlen]; exact LSm.range_all bs
    rw [e]
    exact ⟨.bl (bs.all id), H, I.kept (t' := tk) (LSm.kept_iter hk), rfl, q⟩

/-! ### min, max of a tuple of ints -/
end

/-! ### data within one another: what a value stands for -/
mutual
inductive Rep (K : PySem.W.Frag) (H : Hp) : V → PyData → Prop
  | non : Rep K H .non .none
  | bl (b : Bool) : Rep K H (.bl b) (.bool b)
  | int (i : Int) : Rep K H (.int i) (.int i)
  | str (x : Str) : Rep K H (.str x) (.str x)
  | lst {a : Addr} {xs : List V} {ds : List PyData} : SqL K H a xs → RepAll K H xs ds → Rep K H (.ref a) (.list ds)
  | tup {a : Addr} {xs : List V} {ds : List PyData} : SqT K H a xs → RepAll K H xs ds → Rep K H (.ref a) (.tuple ds)
inductive RepAll (K : PySem.W.Frag) (H : Hp) : List V → List PyData → Prop
  | nil : RepAll K H [] []
  | cons {x : V} {d : PyData} {xs : List V} {ds : List PyData} : Rep K H x d → RepAll K H xs ds → RepAll K H (x :: xs) (d :: ds)
end
mutual
theorem Rep.reads {X : Cx} {pins : List (Addr × Obj)} {σ : St} {H : Hp} {s : Shared} (I : Inv X pins σ H s) : ∀ {v : V} {d : PyData} {u : Value}, Rep X.K H v d → RelV v u → ∃ as, Reads s.heap u d as
  | _, _, _, .non, r => by cases r; exact ⟨_, .none⟩
  | _, _, _, .bl b, r => by cases r; exact ⟨_, .bool b⟩
  | _, _, _, .int i, r => by obtain ⟨t, rfl⟩ := r; exact ⟨_, .int i t⟩
  | _, _, _, .str x, r => by obtain ⟨t, rfl⟩ := r; exact ⟨_, .str x t⟩
  | _, _, _, .lst h q, r => by
    cases r
    obtain ⟨its, rv, pl, _⟩ := I.list h
    obtain ⟨as, ra⟩ := RepAll.reads I q rv
    obtain ⟨o, e, c, n, d⟩ := pl.isList
    exact ⟨_, .list e c d ra⟩
  | _, _, _, .tup h q, r => by
    cases r
    obtain ⟨its, rv, pl, _⟩ := I.tuple h
    obtain ⟨as, ra⟩ := RepAll.reads I q rv
    obtain ⟨o, e, c, n, d⟩ := pl
    exact ⟨_, .tuple e c d ra⟩
theorem RepAll.reads {X : Cx} {pins : List (Addr × Obj)} {σ : St} {H : Hp} {s : Shared} (I : Inv X pins σ H s) : ∀ {xs : List V} {ds : List PyData} {us : List Value}, RepAll X.K H xs ds → Vals xs us → ∃ as, ReadsAll s.heap us ds as
  | _, _, _, .nil, .nil => ⟨_, .nil⟩
  | _, _, _, .cons h q, .cons r rr => by
    obtain ⟨as, ra⟩ := Rep.reads I h r
    obtain ⟨bs, rb⟩ := RepAll.reads I q rr
    exact ⟨_, .cons ra rb⟩
end
section
variable {X : Cx}
/-- == of two things that are data; the parts of one may be the parts of the other -/
def rEqD (K : PySem.W.Frag) (neg : Bool) : R2 := fun x y H Q => ∃ d e, Rep K H x d ∧ Rep K H y e ∧ d.canLay0 = true ∧ e.canLay0 = true ∧ d.depth ≤ 64 ∧ Q (.bl (if neg then !PyData.eqv d e else PyData.eqv d e)) H
theorem op_eqD (hu : X.A.units + 64 < cLine) : OpR X (compareOp .Eq) (rEqD X.K false) := by
  intro pins s σ H x y v u Q I rx ry h
  obtain ⟨d, e, rd, re, ld, le, dd, q⟩ := h
  obtain ⟨as, ra⟩ := rd.reads I rx
  obtain ⟨bs, rb⟩ := re.reads I ry
  exact SeqAt.compareEq_reads ra rb ld le (by omega) ⟨.bl _, H, I, rfl, q⟩
theorem op_neD (hu : X.A.units + 64 < cLine) : OpR X (compareOp .NotEq) (rEqD X.K true) := by
  intro pins s σ H x y v u Q I rx ry h
  obtain ⟨d, e, rd, re, ld, le, dd, q⟩ := h
  obtain ⟨as, ra⟩ := rd.reads I rx
  obtain ⟨bs, rb⟩ := re.reads I ry
  exact SeqAt.compareNe_reads ra rb ld le (by omega) ⟨.bl _, H, I, rfl, q⟩

/-! ### isinstance(x, bool), isinstance(x, int) of a flat value; x is True -/
theorem call_isi {T : String} : CallR X (.builtin "isinstance") (fun xs H Q => ∃ x t k, xs = [x, .ty T] ∧ TyOf X.K H x t ∧ PySem.W.kitOne X.K t (.type T) = some k ∧ Q (.bl k) H) := by
  intro pins s σ H xs us Q I r h
  obtain ⟨x, t, k, rfl, ty, e, q⟩ := h
  obtain ⟨u, w', rfl, r1, r2⟩ := vals2 r
  cases r2
  exact isinst_ok I r1 ty e fun tk => ⟨.bl k, H, I.tok _, rfl, q⟩
end
end L2

namespace L2
open PySem PySem.Spec PyProof.Rows
section
variable {X : Cx}

/-! ### the text of a block, by one look -/
def blkOk (sc0 : Scope) (N0 : List Str) (scope : Scope) (N' : List Str) (own : Nat) (fv : List Nat) : Bool :=
  decide (scope.kind = .function) && (scope.names.all fun y => decide (y.2 ≠ .cell)) && (scope.names.all fun y => decide (y.2 ≠ .local) || decide (scope.names.lookup y.1 = some .local)) &&
  (scope.names.all fun y => decide (y.2 ≠ .free) || (decide (sc0.names.lookup y.1 = some .cell) || decide (sc0.names.lookup y.1 = some .free))) && decide (N'.length = own + fv.length) &&
  ((List.range fv.length).all fun i => match N'[own + i]?, fv[i]? with
    | some x, some j => decide (N0[j]? = some x) && decide (scope.names.lookup x = some .free) && (decide (sc0.names.lookup x = some .cell) || decide (sc0.names.lookup x = some .free))
    | _, _ => false)
theorem blk_of {sc0 : Scope} {N0 : List Str} {scope : Scope} {N' : List Str} {own : Nat} {fv : List Nat} (h : blkOk sc0 N0 scope N' own fv = true) (h1 : X.env.scope = sc0) (h2 : X.N = N0) : BlkScope X scope N' own fv := by
  unfold blkOk at h
  simp only [Bool.and_eq_true, List.all_eq_true, decide_eq_true_eq, Bool.or_eq_true] at h
  obtain ⟨⟨⟨⟨⟨a1, a2⟩, a3⟩, a4⟩, a5⟩, a6⟩ := h
  refine ⟨a1, a2, fun y hy e => ?_, fun y hy e => ?_, a5, fun i => ?_⟩
  · rcases a3 y hy with z | z
    · exact absurd e z
    · exact z
  · rcases a4 y hy with z | z
    · exact absurd e z
    · show X.env.scope.names.lookup y.1 = _ ∨ X.env.scope.names.lookup y.1 = _
      rw [h1]; exact z
  · have := a6 i.val (List.mem_range.mpr i.isLt)
    split at this
    · rename_i x j e1 e2
      simp only [Bool.and_eq_true, decide_eq_true_eq, Bool.or_eq_true] at this
      refine ⟨x, e1, ?_, this.1.2, ?_⟩
      · have e3 : fv[i.val] = j := by
          have := List.getElem?_eq_getElem i.isLt
          rw [e2] at this; exact (Option.some.inj this).symm
        rw [h2, e3]; exact this.1.1
      · show X.env.scope.names.lookup x = _ ∨ X.env.scope.names.lookup x = _
        rw [h1]; exact this.2
    · cases this
end

/-! ### comprehensions: the forms one uses (one name, own slot 0, then the free names' values fvals) -/
theorem Same.put {H : Hp} {a : Addr} {o : HO} (h : H a = none) : Same H (upd H a o) := fun b u e => by
  rw [upd_ne (ne_of_none e h)]; exact e
theorem take_map_snoc {α β : Type} (f : α → β) (xs : List α) (i : Nat) (x : α) (h : xs[i]? = some x) : (xs.take i).map f ++ [f x] = (xs.take (i + 1)).map f := by
  rw [List.take_add_one, h, List.map_append]; rfl
end L2

namespace L2
open PySem PySem.Spec PyProof.Rows
section
variable {X : Cx} {e : Expr}
end
end L2

namespace L2
open PySem PySem.Spec PyProof.Rows
section
variable {X : Cx}
/-- // by a positive divisor of up to 512 bits -/
def CDivL (i j : Int) : Prop := 0 < j ∧ j < 2 ^ 512
theorem op_fdivL : OpR X (binaryOp .FloorDiv) (rI CDivL fun i j => .int (i / j)) := opI fun i j _ _ _ _ _ hc q => by
  have h0 := hc.1
  have h1 := hc.2
  refine floordiv_int (by omega) ?_ (.inl (PyProof.noPylong_of_log2 ?_))
  · rw [Int.fdiv_eq_ediv_of_nonneg i (by omega)]; exact q
  · have h2 : j.natAbs < 2 ^ 512 := by omega
    have h3 : j.natAbs ≠ 0 := by omega
    exact Nat.lt_trans ((Nat.log2_lt h3).mpr h2) (by decide)
end
end L2

namespace L2
open PySem PySem.Spec PyProof.Rows
section
variable {X : Cx} {K : PySem.W.Frag} {tg l : Expr} {tl : TE}
/-! ### the rules that speak of the written part, by its own letter (for a block) -/
theorem ix_tupK (h : X.K = K := by rfl) : IxR X (rIxT K) := by subst h; exact ix_tup
end
end L2

set_option Elab.async false
set_option linter.all false
set_option maxRecDepth 100000

namespace L2
open PySem PySem.Spec PyProof.Rows
/-! ### zip of two lists, taken apart at once -/
section
variable {X : Cx} {pins : List (Addr × Obj)} {σ : St} {H : Hp} {s : Shared} {h' : Heap} {t' : Nat} {fp : List Addr}
theorem Inv.turnedAll (I : Inv X pins σ H s) (hf : ∀ b ∈ fp, FpOk X pins H b) (k : ∀ b o, b ∉ fp → s.heap.get? b = some o → h'.get? b = some o) : Inv X pins σ H { s with heap := h', toks := t' } := by
  have nit : ∀ b u, H b = some u → b ∉ fp := fun b u e z => by rw [(hf b z).1] at e; cases e
  refine I.step (g' := s.gens) (d' := s.drawn) (ch := fp) (fun b hb => ⟨(hf b hb).2.2.2.1, (hf b hb).2.1, (hf b hb).2.2.2.2.1, (hf b hb).2.2.2.2.2⟩) (fun b o _ _ hc e _ => k b o hc e) (fun b o _ _ hc e _ => ⟨o.slots, k b o hc e⟩) (fun _ _ _ _ n => n)
    (fun b o hc e => ⟨o, k b o hc e⟩) (fun _ _ e => e) (fun _ _ _ e => e) (fun b ps e => ⟨#[], by rw [e]; simp⟩) (fun m hm => ?_) (fun b u e => ?_) I.bare
  · obtain ⟨o, es, ep, ho, r⟩ := hm
    exact ⟨o, es, ep, k _ o (fun z => (hf _ z).2.1 rfl) ho, r⟩
  · refine (I.hok b u e).stay (fun c v hc q => k c v ?_ q) (fun _ q => q) fun _ _ q => q
    rcases hc with z | z
    · rw [z]; exact nit b u e
    · exact nit c _ z
/-- .. and a new tuple is laid and tracked -/
theorem Inv.turnedTup {T : Addr} {x y : V} {vx vy : Value} (I : Inv X pins σ H s) (hf : ∀ b ∈ fp, FpOk X pins H b) (hT : s.heap.objs.size ≤ T) (hp : IsPair h' T vx vy) (rx : RelV x vx) (ry : RelV y vy)
    (k : ∀ b o, b ∉ fp → s.heap.get? b = some o → h'.get? b = some o) : Inv X pins σ (upd H T (.tup [x, y])) { s with heap := h', toks := t' } := by
  have hn : H T = none := I.hok.fresh hT
  have sm : Same H (upd H T (.tup [x, y])) := fun b u e => by rw [upd_ne (ne_of_none e hn)]; exact e
  have nit : ∀ b u, H b = some u → b ∉ fp := fun b u e z => by rw [(hf b z).1] at e; cases e
  refine I.step (g' := s.gens) (d' := s.drawn) (ch := fp) (fun b hb => ⟨(hf b hb).2.2.2.1, (hf b hb).2.1, (hf b hb).2.2.2.2.1, (hf b hb).2.2.2.2.2⟩) (fun b o _ _ hc e _ => k b o hc e) (fun b o _ _ hc e _ => ⟨o.slots, k b o hc e⟩)
    (fun b o _ e n => by rw [upd_ne (Nat.ne_of_lt (Nat.lt_of_lt_of_le (Heap.lt_size e) hT))]; exact n)
    (fun b o hc e => ⟨o, k b o hc e⟩) (fun b xs e => sm b _ e) (fun b o u e => sm b _ e) (fun b ps e => ⟨#[], by rw [sm b _ e]; simp⟩) (fun m hm => ?_) (fun b u e => ?_) I.bare
  · obtain ⟨o, es, ep, ho, r⟩ := hm
    exact ⟨o, es, ep, k _ o (fun z => (hf _ z).2.1 rfl) ho, r⟩
  · by_cases hb : b = T
    · subst hb
      rw [upd_same] at e; cases e
      exact ⟨by show 2 ≤ sizeLine; rw [sizeLine_eq]; decide, [vx, vy], .cons rx (.cons ry .nil), ⟨_, hp, rfl, _, rfl⟩⟩
    · rw [upd_ne hb] at e
      refine (I.hok b u e).stay (fun c v hc q => k c v ?_ q) (fun c q => sm c _ q) fun c xs q => sm c _ q
      rcases hc with z | z
      · rw [z]; exact nit b u e
      · exact nit c _ z
end
section
variable {X : Cx} {K : PySem.W.Frag}
end

/-! ### comprehensions over zip(xs, ys), two own names -/
end L2

namespace L2
open PySem PySem.Spec PyProof.Rows
end L2

set_option Elab.async false
set_option linter.all false
set_option maxRecDepth 100000

namespace L2
open PySem PySem.Spec PyProof.Rows
/-! ### enumerate of a list, taken apart at once -/
def Ite (K : PySem.W.Frag) (a : Addr) : It :=
  ⟨fun i H => ∃ xs x, SqL K H a xs ∧ xs[i]? = some x,
   fun i H v H' => ∃ (T : Addr) (x : V), v = .ref T ∧ H T = none ∧ H' = upd H T (.tup [.int (i : Int), x]) ∧ (∀ xs, SqL K H a xs → xs[i]? = some x),
   fun i H => ∃ xs, SqL K H a xs ∧ xs.length ≤ i⟩
theorem turn_enum {P : Program} {w : World} {K : PySem.W.Frag} {elts : List Expr} {k0 : Nat} {pos : Pos} {e it l : Addr} (hne : e ≠ it) :
    Turn P w K (.Tuple elts k0 pos) (Ite K l) [e, it] e (fun i h => (∃ old, IsEnum h e it (i : Int) old) ∧ h.IsListIter it l i) where
  mem := by simp
  obj := fun i h st b hb => by
    obtain ⟨⟨old, he⟩, ⟨o1, e1, c1, d1⟩⟩ := st
    simp only [List.mem_cons, List.not_mem_nil, or_false] at hb
    rcases hb with rfl | rfl
    · exact ⟨_, he, fun v q => nomatch q⟩
    · exact ⟨o1, e1, fun v q => by rw [d1] at q; cases q⟩
  keep := fun i h h' st kp => by
    obtain ⟨⟨old, he⟩, h1⟩ := st
    exact ⟨⟨old, kp e (by simp) _ he⟩, h1.at fun o q => kp it (by simp) o q⟩
  item := by
    intro X hP hw hK hc i pins s σ H E I hf st hg
    subst hP hw hK
    obtain ⟨xs, x, hq1, hx⟩ := hg
    obtain ⟨its1, rv1, p1, _⟩ := I.list hq1
    obtain ⟨u1, hu1, ru1⟩ := rv1.get hx
    obtain ⟨⟨old, he⟩, h1⟩ := st
    refine wpAny_pyNext_enum_item he h1 p1.isList (x := u1) (by simpa using hu1) hne fun h' a1 a3 a5 a6 hk => ?_
    have kp : ∀ c o, c ∉ [e, it] → s.heap.get? c = some o → h'.get? c = some o := fun c o hc q => by
      simp only [List.mem_cons, List.not_mem_nil, or_false, not_or] at hc
      exact hk c o hc.1 hc.2 q
    have I1 : Inv X pins σ (upd H s.heap.objs.size (.tup [.int (i : Int), x])) { s with heap := h', toks := s.toks + 1 } := I.turnedTup (t' := s.toks + 1) hf (Nat.le_refl _) a5 ⟨_, rfl⟩ ru1 kp
    have nz : ∀ b ∈ [e, it], b ≠ s.heap.objs.size := fun b hb q => by
      simp only [List.mem_cons, List.not_mem_nil, or_false] at hb
      rcases hb with rfl | rfl
      · exact Nat.lt_irrefl _ (q ▸ Heap.lt_size he)
      · obtain ⟨_, e2, _⟩ := h1; exact Nat.lt_irrefl _ (q ▸ Heap.lt_size e2)
    have hf1 : ∀ b ∈ [e, it], FpOk X pins (upd H s.heap.objs.size (.tup [.int (i : Int), x])) b := fun b hb => ⟨by rw [upd_ne (nz b hb)]; exact (hf b hb).1, (hf b hb).2⟩
    refine ⟨.ref s.heap.objs.size, rfl, wpAny_letOwnedTupleGo_enum (s := { s with heap := h', toks := s.toks + 1 }) a1 fun h2' hz' hs' => ?_⟩
    have I2 : Inv X pins σ (upd H s.heap.objs.size (.tup [.int (i : Int), x])) { s with heap := h2', toks := s.toks + 1 } := I1.turnedAll (t' := s.toks + 1) hf1 fun c o hc q => hs'.extBut c o (fun z => hc (by simp [z])) q
    exact ⟨.ref s.heap.objs.size, _, I2, rfl, ⟨_, x, rfl, I.hok.fresh (Nat.le_refl _), rfl, fun xs' hx' => by rw [I.list_inj hx' hq1]; exact hx⟩,
      ⟨⟨_, by simpa using hz'⟩, a3.extBut hs'.extBut hne.symm⟩, fun b hb => (hf1 b hb).1⟩
  done := by
    intro X hP hw hK hc i pins s σ H E I hf st hg
    subst hP hw hK
    obtain ⟨xs, hq1, hl⟩ := hg
    obtain ⟨its1, rv1, p1, _⟩ := I.list hq1
    have l1 := rv1.length
    obtain ⟨⟨old, he⟩, h1⟩ := st
    refine wpAny_pyNext_enum_end (I.ok.hd hc) he h1 p1.isList (by simp; omega) fun h' hk => ⟨rfl, I.turnedAll (t' := s.toks) hf fun c o hc q => hk c o (fun z => hc (by simp [z])) q⟩
  self := fun _ _ _ _ _ st h => by obtain ⟨⟨old, he⟩, _⟩ := st; exact wpAny_pyIter_enum he h
section
variable {X : Cx} {K : PySem.W.Frag}
def iEnum (K : PySem.W.Frag) (ta : TA) : TI := fun σ H R => ta σ H fun vs H1 => ∃ (l : Addr) (xs : List V), vs = [.ref l] ∧ H1 l = some (.lst xs) ∧ R (Ite K l) H1
theorem pi_enum {elts : List Expr} {k0 : Nat} {tpos : Pos} {a : Expr} {ta : TA} {p pos : Pos} (hg : Gl X "enumerate") (hm : X.mg "enumerate" = none) (ha : PA X [a] ta) (hK : X.K = K := by rfl)
    (hs : starEach [a] X.env = [(false, eval a X.env)] := by rfl) : PI X (.Tuple elts k0 tpos) (.Call (.Name "enumerate" p) [a] [] pos) (iEnum K ta) := by
  subst hK
  intro pins s σ H R I h
  refine Call_ (ld_blt I hg hm (show bootBuiltins "enumerate" = some (.type "enumerate") by decide +kernel) (PyProof.Rows.callWith_type1 (thn (ha pos pins s σ H _ I h) fun us s1 ⟨vs, H1, I1, r1, q1⟩ => ?_) hs rfl))
  obtain ⟨l, xs, e, hx, q⟩ := q1
  subst e
  obtain ⟨u1, rfl, r2⟩ := vals1 r1
  have e1 : u1 = .ref l := r2
  subst e1
  obtain ⟨z, its, n, rv, el⟩ := I1.hok l _ hx
  refine call_enumerate_1 el fun h' hz hit _ hk => ?_
  refine wpAny_pyIter_enum hz ⟨_, [s1.heap.objs.size + 1, s1.heap.objs.size], _, Ite X.K l, H1, rfl, I1.kept (t' := s1.toks) hk, turn_enum (Nat.succ_ne_self _), ⟨⟨_, hz⟩, hit⟩, fun b hb => ?_, q⟩
  have hb' : s1.heap.objs.size ≤ b := by
    simp only [List.mem_cons, List.not_mem_nil, or_false] at hb
    rcases hb with rfl | rfl
    · exact Nat.le_succ _
    · exact Nat.le_refl _
  exact I1.fpOk hb' (I1.hok.fresh hb')
/-- over enumerate(xs), a loop that leaves xs as it is -/
theorem for_enum {a : Addr} {xs : List V} {g : TG} {tb : TS} {D : Ends} {σ : St} {H : Hp} (Pv : Nat → St → Hp → Prop) (h0 : Pv 0 σ H) (hl : ∀ i σ H, i ≤ xs.length → Pv i σ H → SqL K H a xs)
    (hs : ∀ i x σ H T, xs[i]? = some x → Pv i σ H → H T = none → g (.ref T) σ (upd H T (.tup [.int (i : Int), x])) fun σ2 H2 => tb { D with nx := Pv (i + 1), ct := Pv (i + 1), bk := D.nx } σ2 H2) (hd : ∀ σ H, Pv xs.length σ H → D.nx σ H) :
    ∃ W : Nat → Nat → St → Hp → Prop, (∃ m, W 0 m σ H) ∧ ∀ i m σ H, W i m σ H →
      ((Ite K a).stop i H ∧ D.nx σ H) ∨ ((Ite K a).go i H ∧ ∃ N : St → Hp → Prop, (∀ σ' H', N σ' H' → ∃ m', m' < m ∧ W (i + 1) m' σ' H') ∧ ∀ x H', (Ite K a).yld i H x H' → g x σ H' fun σ2 H2 => tb { D with nx := N, ct := N, bk := D.nx } σ2 H2) := by
  refine ⟨fun i m σ H => m = xs.length - i ∧ i ≤ xs.length ∧ Pv i σ H, ⟨_, rfl, Nat.zero_le _, h0⟩, ?_⟩
  rintro i m σ H ⟨rfl, hi, hp⟩
  by_cases hlt : i < xs.length
  · refine .inr ⟨⟨xs, xs[i], hl i σ H hi hp, List.getElem?_eq_getElem hlt⟩, Pv (i + 1), fun σ' H' h' => ⟨xs.length - (i + 1), by omega, rfl, hlt, h'⟩, ?_⟩
    rintro x H' ⟨T, y, rfl, hT, rfl, hy⟩
    exact hs i y σ H T (hy xs (hl i σ H hi hp)) hp hT
  · have e : i = xs.length := by omega
    subst e
    exact .inl ⟨⟨xs, hl _ σ H hi hp, Nat.le_refl _⟩, hd σ H hp⟩

/-! ### xs.insert(i, y), 0 ≤ i -/

/-! ### range(..) as a thing, list(range(..)) -/
end
end L2

namespace L2
open PySem PySem.Spec PyProof.Rows
end L2



set_option Elab.async false
set_option linter.all false
set_option maxRecDepth 100000

namespace L2
open PySem PySem.Spec PyProof.Rows
/-- a comprehension over a list of pairs, taken apart, whose parts change the heap -/
theorem comp_tupInv {K : PySem.W.Frag} {a : Addr} {xs : List V} {H1 : Hp} {fvals : St} {te : TE} {Q : Addr → Hp → Prop} (Pv : Addr → Nat → Hp → Prop) (hl : ∀ acc i H, Pv acc i H → SqL K H a xs)
    (h0 : ∀ acc, H1 acc = none → Pv acc 0 (upd H1 acc (.lst [])))
    (tup : ∀ (acc : Addr) (i : Nat) (x : V) (H : Hp), xs[i]? = some x → Pv acc i H → ∃ (T : Addr) (x1 x2 : V), x = .ref T ∧ H T = some (.tup [x1, x2]))
    (step : ∀ (acc : Addr) (i : Nat) (T : Addr) (x1 x2 : V) (H : Hp) (R : VK), xs[i]? = some (.ref T) → H T = some (.tup [x1, x2]) → Pv acc i H → (∀ v H2, (∃ zs, H2 acc = some (.lst zs) ∧ zs.length < sizeLine ∧ Pv acc (i + 1) (upd H2 acc (.lst (zs ++ [v])))) → R v H2) → te (some x1 :: some x2 :: fvals) H R)
    (q : ∀ acc H', H1 acc = none → Pv acc xs.length H' → Q acc H') :
    compWalk (Itl K a) H1 (none :: none :: fvals) (gTup K 2 (gCons (gName 0) (gCons (gName 1) gNil))) te Q := by
  intro acc hacc
  refine ⟨fun i m σ' H' => m = xs.length - i ∧ i ≤ xs.length ∧ (∃ o1 o2, σ' = o1 :: o2 :: fvals) ∧ Pv acc i H', ⟨_, rfl, Nat.zero_le _, ⟨none, none, rfl⟩, h0 acc hacc⟩, ?_⟩
  rintro i m σ' H' ⟨rfl, hi, ⟨o1, o2, rfl⟩, pv⟩
  by_cases hlt : i < xs.length
  · have hxi : xs[i]? = some xs[i] := List.getElem?_eq_getElem hlt
    refine .inr ⟨⟨xs, _, hl _ _ _ pv, hxi⟩, ?_⟩
    rintro v H2 ⟨rfl, hx⟩
    have hxx := hx xs (hl _ _ _ pv)
    obtain ⟨T, x1, x2, rfl, hT⟩ := tup acc i v H2 hxx pv
    refine ⟨T, _, rfl, SqT.of hT, rfl, _, _, rfl, _, _, rfl, rfl, ?_⟩
    exact step acc i T x1 x2 H2 _ hxx hT pv fun u H3 ⟨zs, e1, e2, e3⟩ => ⟨zs, e1, e2, xs.length - (i + 1), by omega, rfl, hlt, ⟨_, _, rfl⟩, e3⟩
  · have e : i = xs.length := by omega
    subst e
    exact .inl ⟨⟨xs, hl _ _ _ pv, Nat.le_refl _⟩, q acc H' hacc pv⟩
/-- a comprehension over range(n) whose parts change the heap -/
theorem comp_rngInv {lo : Int} {n : Nat} {H1 : Hp} {fvals : St} {te : TE} {Q : Addr → Hp → Prop} (Pv : Addr → Nat → Hp → Prop)
    (h0 : ∀ acc, H1 acc = none → Pv acc 0 (upd H1 acc (.lst [])))
    (step : ∀ (acc : Addr) (i : Nat) (H : Hp) (R : VK), i < n → Pv acc i H → (∀ v H2, (∃ zs, H2 acc = some (.lst zs) ∧ zs.length < sizeLine ∧ Pv acc (i + 1) (upd H2 acc (.lst (zs ++ [v])))) → R v H2) → te (some (.int (lo + i)) :: fvals) H R)
    (q : ∀ acc H', H1 acc = none → Pv acc n H' → Q acc H') : compWalk (Itr lo n) H1 (none :: fvals) (gName 0) te Q := by
  intro acc hacc
  refine ⟨fun i m σ' H' => m = n - i ∧ i ≤ n ∧ (∃ o, σ' = o :: fvals) ∧ Pv acc i H', ⟨_, rfl, Nat.zero_le _, ⟨none, rfl⟩, h0 acc hacc⟩, ?_⟩
  rintro i m σ' H' ⟨rfl, hi, ⟨o, rfl⟩, pv⟩
  by_cases hlt : i < n
  · refine .inr ⟨hlt, ?_⟩
    rintro x H2 ⟨rfl, rfl⟩
    exact step acc i _ _ hlt pv fun u H3 ⟨zs, e1, e2, e3⟩ => ⟨zs, e1, e2, n - (i + 1), by omega, rfl, hlt, ⟨_, rfl⟩, e3⟩
  · have e : i = n := by omega
    subst e
    exact .inl ⟨Nat.le_refl _, q acc H' hacc pv⟩
end L2




set_option Elab.async false
set_option linter.all false
set_option maxRecDepth 100000

namespace L2
open PySem PySem.Spec PyProof.Rows
/-! ### a comprehension with one test -/
section
variable {prog : Program} {w : World} {A : Around} {R : Result → Shared → Prop} {s : Shared}
theorem codeAny_compLoop_ownIf {elt target iter c : Expr} {scope : Scope} {pos : Pos} {it acc : Value} {env : Env} (I : Nat → Shared → Prop)
    (turn : ∀ n s, I n s → wpAny (model prog w) A (pyNext it) (fun r s1 => match r with
      | none => R (.ok .next) s1
      | some v => wpAny (model prog w) A (letOwnedTupleGo target it v) (fun _ s0 => wpAny (model prog w) A (assign target env v) (fun _ s2 => wpAny (model prog w) A (isTrue c env (eval c env)) (fun ok s3 =>
          if ok = true then wpAny (model prog w) A (eval elt env) (fun x s4 =>
            wpAny (model prog w) A (call (.builtin "list.append") [acc, x]) (fun _ s5 => ∃ m, m < n ∧ I m s5) (notedBy (model prog w) A env fun e s' => R (.error e) s') s4) (notedBy (model prog w) A env fun e s' => R (.error e) s') s3
          else ∃ m, m < n ∧ I m s3)
          (notedBy (model prog w) A env fun e s' => R (.error e) s') s2) (notedBy (model prog w) A env fun e s' => R (.error e) s') s0) (notedBy (model prog w) A env fun e s' => R (.error e) s') s1) (notedBy (model prog w) A env fun e s' => R (.error e) s') s)
    (n : Nat) (h : I n s) :
    codeAny (model prog w) A (.compLoop (.ListComp elt [⟨target, iter, [c], 0⟩] scope pos) 0 it acc env) R s := by
  refine codeAny_loop rfl I (fun n s hI => ?_) n h
  show wpAny _ _ ((compTurn (.ListComp elt [⟨target, iter, [c], 0⟩] scope pos) 0 it acc env).onRaise (fun x => do noteFrame x env; theTreesLotGoes x)) _ _ s
  refine wpAny_noted ?_
  rw [compTurn_list]
  refine wpAny_bind (wpAny_standAt (wpAny_bind (wpAny_mono (turn n s hI) (fun r s1 h1 => ?_) fun _ _ h' => h')))
  cases r with
  | none => exact wpAny_pure h1
  | some v =>
    refine wpAny_bind (wpAny_mono h1 (fun _ s0 h0 => ?_) fun _ _ h' => h')
    refine wpAny_bind (wpAny_mono h0 (fun _ s2 h2 => wpAny_bind (wpAny_mono (wpAny_tests_one h2) (fun ok s3 h3 => ?_) fun _ _ h' => h')) fun _ _ h' => h')
    cases ok with
    | false => exact wpAny_pure ⟨rfl, h3⟩
    | true =>
      exact wpAny_bind (wpAny_bind (wpAny_mono h3 (fun x s4 h4 => wpAny_bind (wpAny_mono h4 (fun _ s5 h5 => wpAny_pure (wpAny_pure ⟨rfl, h5⟩)) fun _ _ h' => h')) fun _ _ h' => h'))
end

def compWalkIf (J : It) (H1 : Hp) (σ0 : St) (g : TG) (tt : TT) (te : TE) (Q : Addr → Hp → Prop) : Prop :=
  ∀ acc, H1 acc = none → ∃ W : Nat → Nat → St → Hp → Prop, (∃ m, W 0 m σ0 (upd H1 acc (.lst []))) ∧ ∀ i m σ' H', W i m σ' H' →
    (J.stop i H' ∧ Q acc H') ∨ (J.go i H' ∧ ∀ x H2, J.yld i H' x H2 → g x σ' H2 fun σ2 H3 => tt σ2 H3 fun b H3' => if b = true then te σ2 H3' fun y H4 => ∃ ys, H4 acc = some (.lst ys) ∧ ys.length < sizeLine ∧ ∃ m', m' < m ∧ W (i + 1) m' σ2 (upd H4 acc (.lst (ys ++ [y])))
      else ∃ m', m' < m ∧ W (i + 1) m' σ2 H3')
def tCompIf (wi : TI) (own : Nat) (fv : List Nat) (g : TG) (tt : TT) (te : TE) : TE := fun σ H Q => wi σ H fun J H1 => compWalkIf J H1 (blkStart own fv σ) g tt te fun acc H' => Q (.ref acc) H'

section
variable {X : Cx} {elt tg iter c : Expr} {scope : Scope} {N' : List Str} {own : Nat} {fv : List Nat} {cl : List (Str × Addr)} {pins : List (Addr × Obj)} {σ : St} {H2 : Hp} {s2 : Shared} {fp : List Addr} {it : Addr} {tn : Nat → Heap → Prop} {J : It} {pos : Pos} {g : TG} {tt : TT} {te : TE} {Q : Addr → Hp → Prop}
theorem comp_blockIf (hc : X.calm = true) (sc : BlkScope X scope N' own fv) (I2 : Inv X pins σ H2 s2) (T : Turn X.prog X.w X.K tg J fp it tn) (st2 : tn 0 s2.heap) (f2 : ∀ b ∈ fp, FpOk X pins H2 b)
    (c1 : ∀ n c, cl.lookup n = some c → X.env.cells.lookup n = some c) (c2 : ∀ y ∈ scope.names, y.2 = .free → ∃ c, cl.lookup y.1 = some c)
    (hg : ∀ cl s3 H3 ex, PG (X.blk scope N' cl s3 H3 ex) tg g) (ht : ∀ cl s3 H3 ex, PT (X.blk scope N' cl s3 H3 ex) c tt) (he : ∀ cl s3 H3 ex, PE (X.blk scope N' cl s3 H3 ex) elt te)
    (hq : compWalkIf J H2 (blkStart own fv σ) g tt te Q) {RR : Value → Addr → Result → Shared → Prop}
    (hRR : ∀ acc C s' H' m, Inv X pins σ H' s' → Q acc H' → s'.heap.Ns C m → H' C = none → C ≠ X.env.locals → X.s₀.heap.objs.size ≤ C → (∀ x c, X.env.cells.lookup x = some c → c ≠ C) → (∀ p ∈ X.pn ++ pins, p.1 ≠ C) → RR (.ref acc) C (.ok .next) s') :
    wpAny (model X.prog X.w) X.A (newList []) (fun acc s3 => wpAny (model X.prog X.w) X.A (newFunctionEnv scope X.env.globals cl [] X.env.qual none .none (some X.env)) (fun cenv s4 =>
      codeAny (model X.prog X.w) X.A (.compStart (.ListComp elt [⟨tg, iter, [c], 0⟩] scope pos) 0 (.ref it) acc { cenv with scope := relabel scope X.env }) (RR acc cenv.locals) s4) X.xe s3) X.xe s2 := by
  refine wpAny_newObj_type (wpAny_newFunctionEnv sc.nocell (by intro y hy; simp at hy) (fun h1 hns hsb => ?_) sc.kind)
  dsimp only at hns hsb ⊢
  have I3 : Inv X pins σ (upd H2 s2.heap.objs.size (.lst [])) { s2 with heap := s2.heap.push { cls := .type "list", dict := none, data := .seq ([] : List Value).toArray } } := I2.lnew (t' := s2.toks) .nil (Nat.zero_le _)
  have hacc : H2 s2.heap.objs.size = none := I2.fresh
  obtain ⟨W, ⟨m0, w0⟩, turn⟩ := hq s2.heap.objs.size hacc
  have flt : ∀ b ∈ fp, b < s2.heap.objs.size := fun b hb => by
    obtain ⟨o, e, _⟩ := T.obj _ _ st2 b hb
    exact Heap.lt_size e
  have f3 : ∀ b ∈ fp, FpOk X pins (upd H2 s2.heap.objs.size (.lst [])) b := fun b hb => ⟨by rw [upd_ne (Nat.ne_of_lt (flt b hb))]; exact (f2 b hb).1, (f2 b hb).2⟩
  have st3 : tn 0 (s2.heap.push { cls := .type "list", dict := none, data := .seq ([] : List Value).toArray }) := T.keep _ _ _ st2 fun b _ o e => Heap.get?_push_of_some _ e
  generalize hs3 : ({ s2 with heap := s2.heap.push { cls := .type "list", dict := none, data := .seq ([] : List Value).toArray } } : Shared) = s3 at I3 
  have eh : s2.heap.push { cls := .type "list", dict := none, data := .seq ([] : List Value).toArray } = s3.heap := by rw [← hs3]
  rw [eh] at hns hsb st3
  have old : ∀ b o, s3.heap.get? b = some o → h1.get? b = some o := fun b o e => hsb.extBut b o (Nat.ne_of_lt (Heap.lt_size e)) (Heap.get?_push_of_some _ e)
  have fo3 : ∀ b ∈ fp, b < s3.heap.objs.size := fun b hb => by
    obtain ⟨o, e, _⟩ := T.obj _ _ st3 b hb
    exact Heap.lt_size e
  have est : ({ s2 with heap := h1, toks := s2.toks + ([] : List (Str × Value)).length } : Shared) = { s3 with heap := h1, toks := s3.toks } := by rw [← hs3]; rfl
  have I4 : Inv (X.blk scope N' cl s3 (upd H2 s2.heap.objs.size (.lst [])) fp) [] (blkStart own fv σ) (upd H2 s2.heap.objs.size (.lst [])) { s3 with heap := h1, toks := s3.toks } :=
    blk_inv sc I3 f3 fo3 c1 c2 hns old
  have st4 : tn 0 h1 := T.keep _ _ _ st3 fun b _ o e => old b o e
  have stat : ∀ {H' : Hp}, (∀ b ∈ fp, H' b = none) → ∀ b ∈ fp, FpOk (X.blk scope N' cl s3 (upd H2 s2.heap.objs.size (.lst [])) fp) [] H' b := fun hn b hb =>
    ⟨hn b hb, Nat.ne_of_lt (fo3 b hb), fun hf => by
      rcases List.mem_cons.mp (I3.stkSub b hf) with h | h
      · exact (f3 b hb).2.1 h
      · exact (f3 b hb).2.2.1 h, .inl hb, fun x c hc' => (f3 b hb).2.2.2.2.1 x c (c1 x c hc'), fun p hp => nomatch hp⟩
  have loop : ∀ s4 : Shared, s4 = { s3 with heap := h1, toks := s3.toks } →
      codeAny (model X.prog X.w) X.A (.compLoop (.ListComp elt [⟨tg, iter, [c], 0⟩] scope pos) 0 (.ref it) (.ref s2.heap.objs.size) (compEnvC scope cl s3.heap.objs.size X.env)) (RR (.ref s2.heap.objs.size) s3.heap.objs.size) s4 := by
    rintro s4 rfl
    refine codeAny_compLoop_ownIf (fun n s' => ∃ i σ' H', Inv (X.blk scope N' cl s3 (upd H2 s2.heap.objs.size (.lst [])) fp) [] σ' H' s' ∧ tn i s'.heap ∧ (∀ b ∈ fp, H' b = none) ∧ W i n σ' H') ?_ m0
      ⟨0, _, _, I4, st4, fun b hb => (f3 b hb).1, w0⟩
    rintro n s5 ⟨i, σ5, H5, I5, st5, fr5, w5⟩
    rcases turn i n σ5 H5 w5 with ⟨stop, q⟩ | ⟨go, step⟩
    · refine thn (T.done (X.blk scope N' cl s3 (upd H2 s2.heap.objs.size (.lst [])) fp) rfl rfl rfl hc i [] s5 σ5 H5 _ I5 (stat fr5) st5 stop) fun r s6 ⟨hr, I6⟩ => ?_
      subst hr
      obtain ⟨m6, hn6, _⟩ := I6.loc
      refine hRR _ _ s6 H5 m6 (I3.call' (ch := fp) I6.os I6.base I6.hok I6.bare fun b hb => ⟨(f3 b hb).2.2.2.1, (f3 b hb).2.1, (f3 b hb).2.2.2.2.1, (f3 b hb).2.2.2.2.2⟩) q hn6 I6.free (Nat.ne_of_gt I3.lt) I3.sz (fun x c hc' => ?_) fun p hp => ?_
      · obtain ⟨v, o, ho, _⟩ := I3.cell x c hc'
        exact Nat.ne_of_lt (Heap.lt_size ho)
      · exact Nat.ne_of_lt (Heap.lt_size (I3.pin p hp).1)
    · refine thn (T.item (X.blk scope N' cl s3 (upd H2 s2.heap.objs.size (.lst [])) fp) rfl rfl rfl hc i [] s5 σ5 H5 _ I5 (stat fr5) st5 go) fun r s6 ⟨u, hr, h6⟩ => ?_
      subst hr
      refine thn h6 fun _ s7 ⟨x, H7, I7, r7, y7, st7, fr7⟩ => ?_
      have I7' := I7.pinned (stat fr7) (T.obj _ _ st7)
      refine wpAny_mono (hg cl s3 _ fp _ s7 σ5 H7 x u _ I7' r7 (step x H7 y7)) (fun _ s8 ⟨σ8, H8, I8, q8⟩ => ?_) fun _ _ z => z.elim
      refine wpAny_mono (ht cl s3 _ fp _ s8 σ8 H8 _ I8 q8) (fun ok s8' ⟨H8', I8', q8'⟩ => ?_) fun _ _ z => z.elim
      have gone : ∀ {H10 : Hp} {s10 : Shared}, Inv (X.blk scope N' cl s3 (upd H2 s2.heap.objs.size (.lst [])) fp) ([] ++ pinsAt fp s7.heap) σ8 H10 s10 → ∀ m10, m10 < n → W (i + 1) m10 σ8 H10 →
          ∃ m, m < n ∧ ∃ i σ' H', Inv (X.blk scope N' cl s3 (upd H2 s2.heap.objs.size (.lst [])) fp) [] σ' H' s10 ∧ tn i s10.heap ∧ (∀ b ∈ fp, H' b = none) ∧ W i m σ' H' := fun {H10 s10} I10 m10 hm10 w10 => by
        refine ⟨m10, hm10, i + 1, σ8, H10, I10.unpinned (pl := pinsAt fp s7.heap), T.keep _ _ _ st7 fun b hb o e => (I10.pin (b, o) (List.mem_append_right _ (List.mem_append_right _ (mem_pinsAt hb e)))).1, fun b hb => ?_, w10⟩
        obtain ⟨o, e, d⟩ := T.obj _ _ st7 b hb
        exact (I10.pin (b, o) (List.mem_append_right _ (List.mem_append_right _ (mem_pinsAt hb e)))).2.1
      cases ok with
      | false =>
        obtain ⟨m', hm', w9⟩ := Eq.mp (if_neg Bool.false_ne_true) q8'
        exact Eq.mpr (if_neg Bool.false_ne_true) (gone I8' m' hm' w9)
      | true =>
        refine Eq.mpr (if_pos rfl) ?_
        refine wpAny_mono (he cl s3 _ fp _ s8' σ8 H8' _ I8' (Eq.mp (if_pos rfl) q8')) (fun v s9 ⟨y, H9, I9, r9, ys, e9, z9, m', hm', w9⟩ => ?_) fun _ _ z => z.elim
        exact wpAny_mono (mt_append (X := X.blk scope N' cl s3 (upd H2 s2.heap.objs.size (.lst [])) fp) _ s9 σ8 H9 (.ref s2.heap.objs.size) [y] (.ref s2.heap.objs.size) [v] (fun _ H' => ∃ m', m' < n ∧ W (i + 1) m' σ8 H') I9 rfl (.cons r9 .nil) ⟨_, ys, y, rfl, rfl, e9, z9, m', hm', w9⟩) (fun _ s10 ⟨_, H10, I10, _, m10, hm10, w10⟩ => gone I10 m10 hm10 w10) fun _ _ z => z.elim
  rw [est]
  rw [eh]
  exact codeAny_compStart_list (loop _ rfl) (T.self _ 0 _ _ _ st4 (loop _ rfl))

theorem pe_compIf {wi : TI} (hc : X.calm = true) (sc : BlkScope X scope N' own fv) (hi : PI X tg iter wi)
    (hg : ∀ cl s3 H3 ex, PG (X.blk scope N' cl s3 H3 ex) tg g) (ht : ∀ cl s3 H3 ex, PT (X.blk scope N' cl s3 H3 ex) c tt) (he : ∀ cl s3 H3 ex, PE (X.blk scope N' cl s3 H3 ex) elt te)
    (hs : ∀ x, foldedSetIterable iter X.env x = pure x := by intro _; rfl) : PE X (.ListComp elt [⟨tg, iter, [c], 0⟩] scope pos) (tCompIf wi own fv g tt te) := by
  intro pins s σ H Q I h
  obtain ⟨cl, hcl, c1, c2⟩ := closure_ex (scope := scope) (env := X.env) fun y hy hf => I.ok.has _ (sc.free y hy hf)
  rw [eval_ListComp]
  refine wpAny_comprehension_free (use := none) rfl hs hcl sc.kind sc.names (thn (hi pins s σ H _ I h) fun v s1 h1 => thn h1 fun itv s2 h2 => ?_)
  obtain ⟨it, fp, tn, J, H2, e, I2, T, st2, f2, hq⟩ := h2
  subst e
  refine comp_blockIf (RR := fun acc C => compPost (model X.prog X.w) X.A X.xe none (EP X pins σ Q) acc C) hc sc I2 T st2 f2 c1 c2 hg ht he hq ?_
  intro acc C s' H' m I' q hn hC hL h0 hcc hp
  exact ⟨m, hn, fun h' sb => ⟨.ref acc, H', I'.turned (t' := s'.toks) (fun b o hb e => sb.extBut b o hb e) hC hL (.inr h0) hcc hp, rfl, q⟩⟩
end
end L2
namespace L2
open PySem PySem.Spec PyProof.Rows
end L2


set_option Elab.async false
set_option linter.all false
set_option maxRecDepth 100000

namespace L2
open PySem PySem.Spec PyProof.Rows
section
variable {X : Cx} {K : PySem.W.Frag}
/-- an int, a text, a tuple -/
inductive TyS (H : Hp) : V → String → Prop where
  | int (i : Int) : TyS H (.int i) "int"
  | str (x : Str) : TyS H (.str x) "str"
  | tup {a : Addr} {xs : List V} (e : H a = some (.tup xs)) : TyS H (.ref a) "tuple"
/-- isinstance(x, (A, B, ..)), the classes built-in ones -/
theorem call_isiT : CallR X (.builtin "isinstance") (fun xs H Q => ∃ (x : V) (t : String) (k : Bool) (p : Addr) (Ts : List String), xs = [x, .ref p] ∧ TyS H x t ∧ H p = some (.tup (Ts.map V.ty)) ∧ PySem.W.kitAny X.K (.type t) (Ts.map Value.type) = some k ∧ Q (.bl k) H) := by
  intro pins s σ H xs us Q I r h
  obtain ⟨x, t, k, p, Ts, rfl, ty, hp, e, q⟩ := h
  obtain ⟨u, w', rfl, r1, r2⟩ := vals2 r
  cases r2
  obtain ⟨its, rv, pl, _⟩ := I.tuple (SqT.of hp)
  have pl' : s.heap.IsTuple p its.toArray := pl
  obtain ⟨⟨cls, dd, data, sl⟩, ho, hc, n, hd⟩ := id pl'
  simp only at hc hd
  subst hc hd
  have eits : ∀ (Ts : List String) (its : List Value), Vals (Ts.map V.ty) its → its = Ts.map Value.type := fun Ts => by
    induction Ts with
    | nil => intro its rv; cases rv; rfl
    | cons T r ih =>
      intro its rv
      cases rv with
      | cons h t =>
        cases h
        show _ :: _ = _ :: _
        rw [ih _ t]
  have ei := eits Ts its rv
  subst ei
  have fin : ∀ tk, EP X pins σ Q (.bool k) { s with toks := tk } := fun tk => ⟨.bl k, H, I.tok _, rfl, q⟩
  cases ty with
  | int i => obtain ⟨t, q⟩ := (show ∃ t, u = Value.int i t from r1); cases q; exact PySem.W.kia_tup PySem.W.kitx_int I.kIn True.intro ho e (fun z => nomatch z) fin
  | str y => obtain ⟨t, q⟩ := (show ∃ t, u = Value.str y t from r1); cases q; exact PySem.W.kia_tup PySem.W.kitx_str I.kIn True.intro ho e (fun z => nomatch z) fin
  | @tup a xs ea =>
    cases (show u = Value.ref a from r1)
    obtain ⟨its1, _, p1, _⟩ := I.tuple (SqT.of ea)
    obtain ⟨o1, h1, c1, _⟩ := (show s.heap.IsTuple a its1.toArray from p1)
    exact PySem.W.kia_tup PySem.W.kitx_tuple I.kIn ⟨o1, h1, c1⟩ ho e (fun z => nomatch z) fin
end
end L2
namespace L2
open PySem PySem.Spec PyProof.Rows
section
variable {X : Cx} {K : PySem.W.Frag}
end
end L2

set_option Elab.async false
set_option linter.all false
set_option maxRecDepth 100000

namespace L2
open PySem PySem.Spec PyProof.Rows
/-! ### the signs of a text, one by one -/
def Itx (x : Str) : It := ⟨fun i _ => i < x.cps.size, fun i H v H' => H' = H ∧ ∃ c, x.cps[i]? = some c ∧ v = .str ⟨#[c]⟩, fun i _ => x.cps.size ≤ i⟩
theorem turn_str {P : Program} {w : World} {K : PySem.W.Frag} {tg : Expr} (it : Addr) (x : Str) (t : Tok) (ty : String) (hty : ty = "str_ascii_iterator" ∨ ty = "str_iterator") :
    Turn P w K tg (Itx x) [it] it (fun i h => h.IsStrIter it ty x t i) where
  mem := by simp
  obj := fun i h st b hb => by
    have e : b = it := by simpa using hb
    subst e
    obtain ⟨o, e1, c1, d1⟩ := st
    exact ⟨o, e1, fun v q => by rw [d1] at q; cases q⟩
  keep := fun i h h' st k => by
    obtain ⟨o, e1, r⟩ := st
    exact ⟨o, k it (by simp) o e1, r⟩
  item := by
    intro X hP hw hK hc i pins s σ H E I hf st hg
    subst hP hw hK
    obtain ⟨f0, f1, f2, f3, f4, f5⟩ := hf it (by simp)
    have W : Walks X.prog X.w X.A it [it] [it] x.cps.size (SignAt x) (fun i h => h.IsStrIter it ty x t i) := by
      rcases hty with rfl | rfl
      · exact Walks.strAscii (I.ok.hd hc) it x t
      · exact Walks.strWide (I.ok.hd hc) it x t
    refine W.item i s _ _ hg st fun v h' tk hv st' kk => ?_
    obtain ⟨c, u, hx, rfl⟩ := hv
    have I1 : Inv X pins σ H { s with heap := h', toks := tk } := I.turned (fun b o hb e => kk b o (by simpa using hb) e) f0 f1 f3 f4 f5
    obtain ⟨o', e', c', d'⟩ := id st'
    exact ⟨_, rfl, go_of (s := { s with heap := h', toks := tk }) (n := ty) e' c' d' (by rcases hty with rfl | rfl <;> decide) ⟨.str ⟨#[c]⟩, H, I1, ⟨u, rfl⟩, ⟨rfl, c, hx, rfl⟩, st', fun b hb => (hf b hb).1⟩⟩
  done := by
    intro X hP hw hK hc i pins s σ H E I hf st hg
    subst hP hw hK
    obtain ⟨f0, f1, f2, f3, f4, f5⟩ := hf it (by simp)
    have hi : x.cps[i]? = none := Array.getElem?_eq_none hg
    rcases hty with rfl | rfl
    · exact wpAny_pyNext_ascii_end (I.ok.hd hc) st hi fun h' eb => ⟨rfl, I.turned (t' := s.toks) (fun b o hb e => eb b o hb e) f0 f1 f3 f4 f5⟩
    · exact wpAny_pyNext_wide_end (I.ok.hd hc) st hi fun h' eb => ⟨rfl, I.turned (t' := s.toks) (fun b o hb e => eb b o hb e) f0 f1 f3 f4 f5⟩
  self := fun _ _ _ _ _ st h => by
    rcases hty with rfl | rfl
    · exact wpAny_pyIter_striter_ascii st h
    · exact wpAny_pyIter_striter_wide st h
section
variable {X : Cx} {tg : Expr}
def iStr (tl : TE) : TI := fun σ H R => tl σ H fun v H1 => ∃ x, v = .str x ∧ R (Itx x) H1
theorem pi_str {l : Expr} {tl : TE} (hl : PE X l tl) : PI X tg l (iStr tl) := by
  intro pins s σ H R I h
  refine thn (hl pins s σ H _ I h) fun v s1 ⟨y, H1, I1, r1, x, e, q⟩ => ?_
  subst e
  obtain ⟨t, rfl⟩ := r1
  have mk : ∀ (ty : String), (ty = "str_ascii_iterator" ∨ ty = "str_iterator") → PIE X pins σ tg R (.ref s1.heap.objs.size) { s1 with heap := s1.heap.push { cls := .type ty, data := .fields #[.str x t, .int 0 0] } } := fun ty hty => by
    refine ⟨s1.heap.objs.size, [s1.heap.objs.size], _, _, H1, rfl, I1.kept (t' := s1.toks) fun b o e => Heap.get?_push_of_some _ e, turn_str _ x t ty hty, ⟨_, Heap.get?_push_size _ rfl, rfl, rfl⟩, fun b hb => ?_, q⟩
    have e : b = s1.heap.objs.size := by simpa using hb
    subst e
    exact I1.fpOk (Nat.le_refl _) (I1.hok.fresh (Nat.le_refl _))
  cases ha : x.cps.all (· < 128) with
  | false => exact wpAny_pyIter_wide ha (mk _ (.inr rfl))
  | true => exact wpAny_pyIter_ascii ha (mk _ (.inl rfl))
end
section
variable {X : Cx}
end
end L2












set_option Elab.async false
set_option linter.all false
set_option maxRecDepth 100000
namespace L2
open PySem PySem.Spec PyProof.Rows
section
variable {X : Cx}
/-- x[lo:hi] of a text -/
theorem sl_str : SlR X (fun x lo hi H Q => ∃ z, x = .str z ∧ z.length ≤ sizeLine ∧ Q (.str (PySem.Txt.slice z lo hi)) H) := by
  intro pins s σ H x v vl vu lo hi sl Q I rx hs pl pu h
  obtain ⟨z, rfl, hz, q⟩ := h
  obtain ⟨t, rfl⟩ := rx
  refine ⟨"str", _, F.slot_str_getitem.lookup, typeIs_str _ _ _, ?_⟩
  have fin : ∀ (u : Tok) (tk : Nat), EP X pins σ Q (.str (PySem.Txt.slice z lo hi) u) { s with toks := tk } := fun u tk => ⟨.str _, H, I.tok _, ⟨_, rfl⟩, q⟩
  obtain ⟨o, e1, e2, e3⟩ := hs
  cases pl with
  | none =>
    cases pu with
    | none => exact wpAny_getItem_str_slice (l := none) (u := none) (st := none) ⟨o, e1, e2, e3⟩ rfl (post_val_or_str ⟨Nat.le_trans (PySem.Txt.slice_le z _ _) hz, fun t' k => fin t' k⟩)
    | int j uj => exact wpAny_getItem_str_slice (l := none) (u := some (j, uj)) (st := none) ⟨o, e1, e2, e3⟩ rfl (post_val_or_str ⟨Nat.le_trans (PySem.Txt.slice_le z _ _) hz, fun t' k => fin t' k⟩)
  | int i ui =>
    cases pu with
    | none => exact wpAny_getItem_str_slice (l := some (i, ui)) (u := none) (st := none) ⟨o, e1, e2, e3⟩ rfl (post_val_or_str ⟨Nat.le_trans (PySem.Txt.slice_le z _ _) hz, fun t' k => fin t' k⟩)
    | int j uj => exact wpAny_getItem_str_slice (l := some (i, ui)) (u := some (j, uj)) (st := none) ⟨o, e1, e2, e3⟩ rfl (post_val_or_str ⟨Nat.le_trans (PySem.Txt.slice_le z _ _) hz, fun t' k => fin t' k⟩)
end
end L2







set_option Elab.async false
set_option linter.all false
set_option maxRecDepth 100000
namespace L2
open PySem PySem.Spec PyProof.Rows
/-- over a list, with a test, one name -/
theorem compIf_lst {K : PySem.W.Frag} {a : Addr} {xs : List V} {H1 : Hp} {fvals : St} {tt : TT} {te : TE} {Q : Addr → Hp → Prop} (Pv : Addr → Nat → Hp → Prop) (hl : ∀ acc i H, Pv acc i H → SqL K H a xs)
    (h0 : ∀ acc, H1 acc = none → Pv acc 0 (upd H1 acc (.lst [])))
    (step : ∀ (acc : Addr) (i : Nat) (x : V) (H : Hp) (m : Nat) (W : Nat → Hp → Prop), xs[i]? = some x → Pv acc i H → (∀ H2, Pv acc (i + 1) H2 → ∃ m', m' < m ∧ W m' H2) →
      tt (some x :: fvals) H fun b H' => if b = true then te (some x :: fvals) H' fun y H4 => ∃ ys, H4 acc = some (.lst ys) ∧ ys.length < sizeLine ∧ ∃ m', m' < m ∧ W m' (upd H4 acc (.lst (ys ++ [y]))) else ∃ m', m' < m ∧ W m' H')
    (q : ∀ acc H', H1 acc = none → Pv acc xs.length H' → Q acc H') :
    compWalkIf (Itl K a) H1 (none :: fvals) (gName 0) tt te Q := by
  intro acc hacc
  refine ⟨fun i m σ' H' => m = xs.length - i ∧ i ≤ xs.length ∧ (∃ o1, σ' = o1 :: fvals) ∧ Pv acc i H', ⟨_, rfl, Nat.zero_le _, ⟨none, rfl⟩, h0 acc hacc⟩, ?_⟩
  rintro i m σ' H' ⟨rfl, hi, ⟨o1, rfl⟩, pv⟩
  by_cases hlt : i < xs.length
  · have hxi : xs[i]? = some xs[i] := List.getElem?_eq_getElem hlt
    refine .inr ⟨⟨xs, _, hl _ _ _ pv, hxi⟩, ?_⟩
    rintro v H2 ⟨rfl, hx⟩
    have hxx := hx xs (hl _ _ _ pv)
    exact step acc i v H2 (xs.length - i) (fun m' H'' => m' = xs.length - (i + 1) ∧ i + 1 ≤ xs.length ∧ (∃ p1, some v :: fvals = p1 :: fvals) ∧ Pv acc (i + 1) H'') hxx pv fun H3 e3 => ⟨xs.length - (i + 1), by omega, rfl, hlt, ⟨_, rfl⟩, e3⟩
  · have e : i = xs.length := by omega
    subst e
    exact .inl ⟨⟨xs, hl _ _ _ pv, Nat.le_refl _⟩, q acc H' hacc pv⟩
/-- over a tuple, with a test, one name -/
theorem compIf_ttp {K : PySem.W.Frag} {a : Addr} {xs : List V} {H1 : Hp} {fvals : St} {tt : TT} {te : TE} {Q : Addr → Hp → Prop} (Pv : Addr → Nat → Hp → Prop) (hl : ∀ acc i H, Pv acc i H → SqT K H a xs)
    (h0 : ∀ acc, H1 acc = none → Pv acc 0 (upd H1 acc (.lst [])))
    (step : ∀ (acc : Addr) (i : Nat) (x : V) (H : Hp) (m : Nat) (W : Nat → Hp → Prop), xs[i]? = some x → Pv acc i H → (∀ H2, Pv acc (i + 1) H2 → ∃ m', m' < m ∧ W m' H2) →
      tt (some x :: fvals) H fun b H' => if b = true then te (some x :: fvals) H' fun y H4 => ∃ ys, H4 acc = some (.lst ys) ∧ ys.length < sizeLine ∧ ∃ m', m' < m ∧ W m' (upd H4 acc (.lst (ys ++ [y]))) else ∃ m', m' < m ∧ W m' H')
    (q : ∀ acc H', H1 acc = none → Pv acc xs.length H' → Q acc H') :
    compWalkIf (Itt K a) H1 (none :: fvals) (gName 0) tt te Q := by
  intro acc hacc
  refine ⟨fun i m σ' H' => m = xs.length - i ∧ i ≤ xs.length ∧ (∃ o1, σ' = o1 :: fvals) ∧ Pv acc i H', ⟨_, rfl, Nat.zero_le _, ⟨none, rfl⟩, h0 acc hacc⟩, ?_⟩
  rintro i m σ' H' ⟨rfl, hi, ⟨o1, rfl⟩, pv⟩
  by_cases hlt : i < xs.length
  · have hxi : xs[i]? = some xs[i] := List.getElem?_eq_getElem hlt
    refine .inr ⟨⟨xs, _, hl _ _ _ pv, hxi⟩, ?_⟩
    rintro v H2 ⟨rfl, hx⟩
    have hxx := hx xs (hl _ _ _ pv)
    exact step acc i v H2 (xs.length - i) (fun m' H'' => m' = xs.length - (i + 1) ∧ i + 1 ≤ xs.length ∧ (∃ p1, some v :: fvals = p1 :: fvals) ∧ Pv acc (i + 1) H'') hxx pv fun H3 e3 => ⟨xs.length - (i + 1), by omega, rfl, hlt, ⟨_, rfl⟩, e3⟩
  · have e : i = xs.length := by omega
    subst e
    exact .inl ⟨⟨xs, hl _ _ _ pv, Nat.le_refl _⟩, q acc H' hacc pv⟩
end L2

set_option Elab.async false
set_option linter.all false
set_option maxRecDepth 100000
namespace L2
open PySem PySem.Spec PyProof.Rows
theorem strs_valsN : ∀ l : List (Str × Tok), Vals ((l.map (·.1)).map V.str) (strValues l)
  | [] => .nil
  | (x, t) :: r => .cons ⟨t, rfl⟩ (strs_valsN r)
section
variable {X : Cx}
/-- a.split(b), b not empty -/
theorem mt_split : MtM X "str.split" (fun x vs H Q => ∃ a b, x = .str a ∧ vs = [.str b] ∧ (b.length == 0) = false ∧ a.length < sizeLine ∧ (Builtin.Str.partsBetween a (Builtin.Str.occurrences a b 0 a.length (a.length + 1)) b.length).length ≤ sizeLine ∧ (Txt.split a b).length ≤ sizeLine ∧ ∀ l, H l = none → Q (.ref l) (upd H l (.lst ((Txt.split a b).map V.str)))) := by
  intro pins s σ H x vs v us Q I rx rv h
  obtain ⟨a, b, rfl, rfl, hb, ha, hn, hl, q⟩ := h
  obtain ⟨t, rfl⟩ := rx
  obtain ⟨u, rfl, t', rfl⟩ := rv.one
  have fin : ∀ (l : List (Str × Tok)) (tk : Nat), l.map (·.1) = Txt.split a b → EP X pins σ Q (.ref s.heap.objs.size) { s with heap := s.heap.push { cls := .type "list", data := .seq (strValues l).toArray }, toks := tk } := fun l tk e => by
    refine ⟨.ref s.heap.objs.size, _, I.laid (t' := tk) (fun _ _ q => Heap.get?_push_of_some _ q) (Nat.le_refl _) (show ObjOk X.prog X.w _ _ _ (.lst ((Txt.split a b).map V.str)) from ⟨by rw [List.length_map]; exact hl, strValues l, 0, by rw [← e]; exact strs_valsN l, Heap.get?_push_size _ rfl⟩), rfl, q _ (I.hok.fresh (Nat.le_refl _))⟩
  cases h1 : (decide (a.length < b.length) || decide (Builtin.Str.strKind a < Builtin.Str.strKind b))
  · cases hf : (Builtin.Str.occurrences a b 0 a.length (a.length + 1)).isEmpty
    · refine call_meets F.slot_str_split (typeIs_str s a t) F.entry_str_split (F.args_str_split_2 _ _) (meets_str_split_sep a b t t' h1 hb hf (Nat.le_of_lt ha) hn) ?_
      rw [strsFrom_eq]
      exact fin _ _ ((numbered_texts _ _).trans ((if_neg (ne_true_of_eq_false h1)).trans (if_neg (ne_true_of_eq_false hf))).symm)
    · exact call_meets F.slot_str_split (typeIs_str s a t) F.entry_str_split (F.args_str_split_2 _ _) (meets_str_split_not_found a b t t' h1 hb hf) (fin [(a, t)] s.toks ((if_neg (ne_true_of_eq_false h1)).trans (if_pos hf)).symm)
  · exact call_meets F.slot_str_split (typeIs_str s a t) F.entry_str_split (F.args_str_split_2 _ _) (meets_str_split_cannot_occur a b t t' h1) (fin [(a, t)] s.toks (if_pos h1).symm)
end
end L2

set_option Elab.async false
set_option linter.all false
set_option maxRecDepth 100000
namespace L2
open PySem PySem.Spec PyProof.Rows
local macro_rules | `(term| ‹$x:ident›) => do
  let p := fun n => Lean.mkPrivateNameCore `PySem.Builtin.Int.W0All (`PySem.Builtin ++ n)
  match x.getId with
  | `rdN => pure (Lean.mkCIdent (p `readNumeral)).raw
  | `rdB => pure (Lean.mkCIdent (p `isBlank)).raw
  | `rdP => pure (Lean.mkCIdent (p `prefixBase?)).raw
  | `rdD => pure (Lean.mkCIdent (p `numeralDigits?)).raw
  | `rdT => pure (Lean.mkCIdent (p `Numeral)).raw
  | _ => Lean.Macro.throwUnsupported
local macro_rules | `(tactic| walk_at "unfold_num") => do
  let p := fun n => Lean.mkCIdent (Lean.mkPrivateNameCore `PySem.Builtin.Int.W0All (`PySem.Builtin ++ n))
  `(tactic| delta $(p `readNumeral) $(p `isBlank) $(p `prefixBase?) $(p `numeralDigits?) $(p `digitValue?))
local macro_rules | `(tactic| walk_at "unfold_rd") => do
  let p := fun n => Lean.mkCIdent (Lean.mkPrivateNameCore `PySem.Builtin.Int.W0All (`PySem.Builtin ++ n))
  `(tactic| delta $(p `readNumeral))
noncomputable def numOf (r : ‹rdT›) : Option Int := by
  induction r with
  | invalid => exact none
  | tooLong k => exact none
  | byTheLibrary => exact none
  | value i => exact some i
theorem tw_all {p : Nat → Bool} : ∀ {l : List Nat}, (∀ c ∈ l, p c = true) → l.takeWhile p = l
  | [], _ => rfl
  | c :: r, h => by rw [List.takeWhile_cons, h c List.mem_cons_self, if_pos rfl, tw_all fun x hx => h x (List.mem_cons_of_mem _ hx)]
/-- the number that figures tell -/
def numF (ds : List Nat) : Nat := ds.foldl (fun a d => a * 10 + d) 0
theorem blank_fig {d : Nat} (h : d < 10) : (‹rdB› (d + 48)) = false := by
  have : d = 0 ∨ d = 1 ∨ d = 2 ∨ d = 3 ∨ d = 4 ∨ d = 5 ∨ d = 6 ∨ d = 7 ∨ d = 8 ∨ d = 9 := by omega
  rcases this with rfl | rfl | rfl | rfl | rfl | rfl | rfl | rfl | rfl | rfl <;> rfl
theorem dropB : ∀ {ds : List Nat}, (∀ d ∈ ds, d < 10) → (ds.map (· + 48)).dropWhile (‹rdB›) = ds.map (· + 48)
  | [], _ => rfl
  | d :: r, h => by rw [List.map_cons, List.dropWhile_cons, blank_fig (h d List.mem_cons_self)]; rfl
theorem foldD {f : Array Nat × Bool → Nat → Option (Array Nat × Bool)} (hf : ∀ a b d, d < 10 → f (a, b) (d + 48) = some (a.push d, true)) : ∀ (ds : List Nat) (a : Array Nat) (b : Bool), (∀ d ∈ ds, d < 10) → (ds.map (· + 48)).foldlM f (a, b) = some (a ++ ds.toArray, b || !ds.isEmpty)
  | [], a, b, _ => by cases b <;> simp [List.foldlM]
  | d :: r, a, b, h => by
    rw [List.map_cons, List.foldlM_cons, hf a b d (h d List.mem_cons_self)]
    show (r.map (· + 48)).foldlM f (a.push d, true) = _
    rw [foldD hf r (a.push d) true fun x hx => h x (List.mem_cons_of_mem _ hx)]
    simp
theorem numD {ds : List Nat} (h : ∀ d ∈ ds, d < 10) (h0 : ds ≠ []) : (‹rdD› 10 (ds.map (· + 48))) = some ds.toArray := by
  walk_at "unfold_num"
  rw [foldD (fun a b d hd => ?_) ds #[] false h]
  · cases ds with
    | nil => exact absurd rfl h0
    | cons d r => simp
  · have : d = 0 ∨ d = 1 ∨ d = 2 ∨ d = 3 ∨ d = 4 ∨ d = 5 ∨ d = 6 ∨ d = 7 ∨ d = 8 ∨ d = 9 := by omega
    rcases this with rfl | rfl | rfl | rfl | rfl | rfl | rfl | rfl | rfl | rfl <;> rfl
theorem prefD {ds : List Nat} (h : ∀ d ∈ ds, d < 10) : (‹rdP› (ds.map (· + 48))) = none := by
  match ds, h with
  | [], _ => rfl
  | [d], h => 
    have : d < 10 := h d List.mem_cons_self
    have : d = 0 ∨ d = 1 ∨ d = 2 ∨ d = 3 ∨ d = 4 ∨ d = 5 ∨ d = 6 ∨ d = 7 ∨ d = 8 ∨ d = 9 := by omega
    rcases this with rfl | rfl | rfl | rfl | rfl | rfl | rfl | rfl | rfl | rfl <;> rfl
  | d :: c :: r, h =>
    have h1 : d < 10 := h d List.mem_cons_self
    have h2 : c < 10 := h c (List.mem_cons_of_mem _ List.mem_cons_self)
    have h1 : d = 0 ∨ d = 1 ∨ d = 2 ∨ d = 3 ∨ d = 4 ∨ d = 5 ∨ d = 6 ∨ d = 7 ∨ d = 8 ∨ d = 9 := by omega
    have h2 : c = 0 ∨ c = 1 ∨ c = 2 ∨ c = 3 ∨ c = 4 ∨ c = 5 ∨ c = 6 ∨ c = 7 ∨ c = 8 ∨ c = 9 := by omega
    rcases h1 with rfl | rfl | rfl | rfl | rfl | rfl | rfl | rfl | rfl | rfl
    · rcases h2 with rfl | rfl | rfl | rfl | rfl | rfl | rfl | rfl | rfl | rfl <;> rfl
    all_goals rfl
theorem numR {ds : List Nat} (h : ∀ d ∈ ds, d < 10) (h0 : ds ≠ []) (h1 : ds.length ≤ 640) : numOf (‹rdN› 0 10 (ds.map (· + 48))) = some (numF ds : Int) := by
  have e1 := dropB h
  have e2 : (((ds.map (· + 48)).reverse).dropWhile (‹rdB›)).reverse = ds.map (· + 48) := by
    rw [← List.map_reverse, dropB (ds := ds.reverse) fun d hd => h d (List.mem_reverse.mp hd), List.map_reverse, List.reverse_reverse]
  have e3 := numD h h0
  have e4 := prefD h
  have hs : ¬ (ds.toArray.size > 6000) := by rw [List.size_toArray]; omega
  have hn : ds.toArray.foldl (fun a d => a * 10 + d) 0 = numF ds := by rw [List.foldl_toArray]; rfl
  generalize hD : ds.toArray = D at *
  generalize hN : numF ds = N at *
  cases ds with
  | nil => exact absurd rfl h0
  | cons d r =>
    have hd : d < 10 := h d List.mem_cons_self
    have hd : d = 0 ∨ d = 1 ∨ d = 2 ∨ d = 3 ∨ d = 4 ∨ d = 5 ∨ d = 6 ∨ d = 7 ∨ d = 8 ∨ d = 9 := by omega
    rw [List.map_cons] at *
    generalize r.map (· + 48) = t at *
    walk_at "unfold_rd"
    rw [e1]
    rcases hd with rfl | rfl | rfl | rfl | rfl | rfl | rfl | rfl | rfl | rfl
    all_goals (dsimp only [Nat.reduceAdd] at e2 e3 e4 ⊢; rw [List.reverse_cons] at e2; simp [e2, e3, e4, numOf]; simp only [if_neg hs, hn])
end L2
namespace PySem
open Sem (wp)
local macro_rules | `(term| ‹$x:ident›) => if x.getId == `rdN then pure (Lean.mkCIdent (Lean.mkPrivateNameCore `PySem.Builtin.Int.W0All `PySem.Builtin.readNumeral)).raw else Lean.Macro.throwUnsupported
theorem F.no_str_int : typeLookup (.type "str") "__int__" = pure none := by rw [typeLookup_type, builtinLookup_eq_fast]; kernel_rfl
theorem F.no_str_index : typeLookup (.type "str") "__index__" = pure none := by rw [typeLookup_type, builtinLookup_eq_fast]; kernel_rfl
theorem F.no_str_trunc : typeLookup (.type "str") "__trunc__" = pure none := by rw [typeLookup_type, builtinLookup_eq_fast]; kernel_rfl
theorem meets_int_new_txt {x : Str} {ds : List Nat} (hx : x.cps.toList = ds.map (· + 48)) (h : ∀ d ∈ ds, d < 10) (h0 : ds ≠ []) (h1 : ds.length ≤ 640) (t : Tok) : Meets (Builtin.«int.__new__» ⟨[.type "int", .str x t], []⟩) (Made.int (L2.numF ds)).spec :=
  Meets.of_wp fun prog w A R s hs => by
    obtain ⟨hp, g, d, tk, os⟩ := s
    have f1 := F.conv_sub_int
    have f2 := F.madeHere_int
    have e2 := L2.numR h h0 h1
    rw [← hx] at e2
    have a0 : ∀ c ∈ x.cps.toList, 48 ≤ c ∧ c < 58 := by
      rw [hx]
      intro c hc
      obtain ⟨d, hd, rfl⟩ := List.mem_map.mp hc
      have := h d hd
      exact ⟨by omega, by omega⟩
    have a1 : (x.cps.all fun x => decide (x < 128)) = true := by
      rw [← Array.all_toList, List.all_eq_true]
      intro c hc
      have := a0 c hc
      exact decide_eq_true (by omega)
    have a2 : List.takeWhile (fun x => x != 0) x.cps.toList = x.cps.toList := by
      exact L2.tw_all fun c hc => by have := a0 c hc; exact bne_iff_ne.mpr (by omega)
    have a3 : x.cps.toList.length ≤ 640 := by rw [hx, List.length_map]; exact h1
    generalize L2.numF ds = n at *
    clear a0 hx h h0 h1
    have hT : (⟨hp, g, d, tk, os⟩ : Shared).TypeIs (.str x t) "str" := rfl
    have f3 := F.no_str_int
    have f4 := F.no_str_index
    have f5 := F.no_str_trunc
    repeat (any_goals (first | assumption | wp_step))
    rw [if_pos (show (List.takeWhile (fun x => x != 0) (if (x.cps.all fun x => decide (x < 128)) = true then x.cps.toList else Unicode.numberText x.cps.toList)).length ≤ 640 by rw [if_pos a1, a2]; exact a3)]
    refine wpAny_bind (wpAny_pure ?_)
    dsimp only
    rw [if_pos a1, a2]
    generalize (‹rdN› 0 10 x.cps.toList) = r at *
    cases r with
    | invalid => cases e2
    | tooLong k => cases e2
    | byTheLibrary => cases e2
    | value i =>
      have e2 : i = (n : Int) := Option.some.inj e2
      subst e2
      dsimp only
      rw [if_pos (beq_self_eq_true _)]
      refine wpAny_mkInt ?_
      repeat (any_goals (first | assumption | wp_step))
      exact ⟨_, rfl, hs⟩
section
variable {prog : Program} {w : World} {A : Around} {E : Value → Shared → Prop} {s : Shared}
theorem call_int_txt {x : Str} {ds : List Nat} (hx : x.cps.toList = ds.map (· + 48)) (h : ∀ d ∈ ds, d < 10) (h0 : ds ≠ []) (h1 : ds.length ≤ 640) {t : Tok} {Q : Value → Shared → Prop} (hq : Q (.int (L2.numF ds : Int) s.toks) { s with toks := s.toks + 1 }) : wpAny (model prog w) A (call (.type "int") [.str x t]) Q E s :=
  call_int_1 (meets_int_new_txt hx h h0 h1 t) (show (Made.int (L2.numF ds : Int)).post _ s from ⟨rfl, hq⟩)
end
end PySem
namespace L2
open PySem PySem.Spec PyProof.Rows
section
variable {X : Cx}
/-- int(text) of a text of figures -/
theorem call_intS : CallR X (.type "int") (fun xs H Q => ∃ (x : Str) (ds : List Nat), xs = [.str x] ∧ x.cps.toList = ds.map (· + 48) ∧ (∀ d ∈ ds, d < 10) ∧ ds ≠ [] ∧ ds.length ≤ 640 ∧ Q (.int (numF ds : Int)) H) := by
  intro pins s σ H xs us Q I r h
  obtain ⟨x, ds, rfl, hx, h, h0, h1, q⟩ := h
  obtain ⟨u, rfl, t, rfl⟩ := vals1 r
  exact call_int_txt hx h h0 h1 ⟨.int _, H, I.tok _, ⟨_, rfl⟩, q⟩
end
/-- a comprehension over a text, sign by sign -/
theorem comp_strF {x : Str} {H1 : Hp} {fvals : St} {te : TE} {Q : Addr → Hp → Prop} (f : Nat → V) (hz : x.cps.size ≤ sizeLine)
    (step : ∀ (i c : Nat) (H : Hp) (R : VK), x.cps[i]? = some c → Same H1 H → R (f c) H → te (some (.str ⟨#[c]⟩) :: fvals) H R)
    (q : ∀ acc, H1 acc = none → Q acc (upd H1 acc (.lst (x.cps.toList.map f)))) : compWalk (Itx x) H1 (none :: fvals) (gName 0) te Q := by
  intro acc hacc
  have hl : x.cps.toList.length = x.cps.size := Array.length_toList
  refine ⟨fun i m σ' H' => m = x.cps.size - i ∧ i ≤ x.cps.size ∧ (∃ o, σ' = o :: fvals) ∧ H' = upd H1 acc (.lst ((x.cps.toList.take i).map f)), ⟨_, rfl, Nat.zero_le _, ⟨none, rfl⟩, by simp⟩, ?_⟩
  rintro i m σ' H' ⟨rfl, hi, ⟨o, rfl⟩, rfl⟩
  by_cases hlt : i < x.cps.size
  · refine .inr ⟨hlt, ?_⟩
    rintro y H2 ⟨rfl, c, hc, rfl⟩
    have hc' : x.cps.toList[i]? = some c := by rw [Array.getElem?_toList]; exact hc
    refine step i c _ _ hc (Same.put hacc) ⟨(x.cps.toList.take i).map f, upd_same, ?_, x.cps.size - (i + 1), by omega, rfl, hlt, ⟨some (.str ⟨#[c]⟩), rfl⟩, ?_⟩
    · rw [List.length_map, List.length_take]; omega
    · rw [upd_upd, take_map_snoc f x.cps.toList i c hc']
  · have e : i = x.cps.size := by omega
    subst e
    refine .inl ⟨Nat.le_refl _, ?_⟩
    have e : x.cps.toList.take x.cps.size = x.cps.toList := List.take_of_length_le (by omega)
    rw [e]
    exact q acc hacc
end L2

set_option Elab.async false
set_option linter.all false
set_option maxRecDepth 100000
set_option maxHeartbeats 4000000
namespace K40
open PySem L2
def top (i : Nat) : Stmt := PySem.Challenge.pw_gatetown_k40_expressions_read.main.body.getD i (.Pass ⟨0, 0, 0, 0⟩)
abbrev s_are_of : Stmt := top 3
abbrev s_is_lettered : Stmt := top 4
abbrev s_number_written : Stmt := top 5
abbrev s_is_name : Stmt := top 12
abbrev s_run_of : Stmt := top 13
abbrev s_number_at : Stmt := top 14
abbrev s_within_at : Stmt := top 15
abbrev s_joined_at : Stmt := top 16
abbrev s_lettered_at : Stmt := top 17
abbrev s_expr_at : Stmt := top 18
abbrev s_expr_of : Stmt := top 19
abbrev s_law_mixed : Stmt := top 22
abbrev s_law_tap : Stmt := top 23
abbrev s_law_next : Stmt := top 24
abbrev s_law_kept : Stmt := top 25
abbrev s_law_any_name : Stmt := top 26
abbrev s_law_number : Stmt := top 27
abbrev s_law_expr : Stmt := top 28
abbrev s_law_expr_text : Stmt := top 29
abbrev s_law_same : Stmt := top 30
abbrev s_law_short : Stmt := top 31
abbrev s_law_drawn : Stmt := top 32
abbrev s_law : Stmt := top 33
/-! ### the mirror -/
structure NetD where
  ins : Int
  keeps : Int
  gates : List (Int × Int)
  nexts : List Int
  outs : List Int
def GateAt (H : Hp) (v : V) (p : Int × Int) : Prop := ∃ q, v = .ref q ∧ H q = some (.tup [.int p.1, .int p.2])
structure NetAt (H : Hp) (v : V) (N : NetD) : Prop where
  ex : ∃ (p g n o : Addr) (gs : List V), v = .ref p ∧ H p = some (.tup [.int N.ins, .int N.keeps, .ref g, .ref n, .ref o]) ∧ H g = some (.lst gs) ∧ Paired (GateAt H) gs N.gates ∧
    H n = some (.lst (N.nexts.map V.int)) ∧ H o = some (.lst (N.outs.map V.int))
  sm : N.gates.length ≤ 1000 ∧ N.nexts.length ≤ 1000 ∧ N.outs.length ≤ 1000
theorem map_int_get {ns : List Int} {i : Nat} {x : V} (h : (ns.map V.int)[i]? = some x) : ∃ n, ns[i]? = some n ∧ x = .int n := by
  rw [List.getElem?_map] at h
  cases e : ns[i]? with
  | none => rw [e] at h; cases h
  | some n => rw [e] at h; exact ⟨n, rfl, (Option.some.inj h).symm⟩

structure Fn (K : PySem.W.Frag) (mg : Str → Option Value) (x : Str) (st : Stmt) (ps : List Str) (a : Addr) (fd : FuncData) : Prop where
  F : Fun K x x st a fd
  m : mg x = some (.ref a)
  b : Binds K fd ps []
structure Bt (mg : Str → Option Value) : Prop where
  b_len : mg "len" = none
  b_range : mg "range" = none
  b_list : mg "list" = none
  b_isinstance : mg "isinstance" = none
  b_int : mg "int" = none
  b_tuple : mg "tuple" = none
  b_enumerate : mg "enumerate" = none
  b_str : mg "str" = none
  b_all : mg "all" = none
  b_bool : mg "bool" = none
structure Ct (K : PySem.W.Frag) (mg : Str → Option Value) : Prop where
  k_LETTERS : ∃ tk, mg "LETTERS" = some (.str "abcdefghijklmnopqrstuvwxyz" tk)
  k_FIGURES : ∃ tk, mg "FIGURES" = some (.str "0123456789" tk)
  k_RESERVED : ∃ a, mg "RESERVED" = some (.ref a) ∧ (∀ H : Hp, SqT K H a ((["num", "flag", "list", "part", "main", "end", "tell", "ask", "do", "if", "else", "while", "stop", "give", "way", "not", "yes", "no"] : List Str).map V.str)) ∧ ∃ o, K.lookup a = some o ∧ o.cls = .type "tuple" ∧ o.dict = none
  k_JOINS : ∃ a, mg "JOINS" = some (.ref a) ∧ (∀ H : Hp, SqT K H a ((["+", "-", "&", "<", "="] : List Str).map V.str)) ∧ ∃ o, K.lookup a = some o ∧ o.cls = .type "tuple" ∧ o.dict = none
  k_MOST_NAME : ∃ tk, mg "MOST_NAME" = some (.int 8 tk)
  k_MOST_NUMBER : ∃ tk, mg "MOST_NUMBER" = some (.int 4095 tk)
  k_MOST_BRACKETS : ∃ tk, mg "MOST_BRACKETS" = some (.int 8 tk)
theorem cmul_l {i j : Int} (h1 : -18446744073709551616 < i) (h2 : i < 18446744073709551616) : CMul i j := .inl ⟨by omega, by omega⟩
theorem cpow_of {i j : Int} (h0 : 0 ≤ j) (h1 : j ≤ 1000000) (h2 : -18446744073709551616 < i) (h3 : i < 18446744073709551616) : CPow i j := ⟨h0, h1, by omega⟩
structure Small (N : NetD) : Prop where
  g : N.gates.length ≤ 900
  n : N.nexts.length ≤ 100
  o : N.outs.length ≤ 100
  i : N.ins ≤ 100
def cutN (ns : List Int) (lo hi : Option Int) : List Int := (ns.drop (HT.sIx ns.length 0 lo)).take (HT.sIx ns.length ns.length hi - HT.sIx ns.length 0 lo)
theorem cut_ints (ns : List Int) (lo hi : Option Int) : cutV (ns.map V.int) lo hi = (cutN ns lo hi).map V.int := by
  unfold cutV cutN
  rw [List.length_map, List.map_take, List.map_drop]
section
variable {X : Cx}
end
/-- numbers, each from 0 on and below its size -/
structure Rg (ss r : List Int) : Prop where
  len : r.length = ss.length
  bd : ∀ (j : Nat) (s : Int), ss[j]? = some s → 0 ≤ r.getD j 0 ∧ r.getD j 0 < s
/-- all stays but the list at l -/
def Kl (l : Addr) (H H' : Hp) : Prop := ∀ b o, H b = some o → b ≠ l → H' b = some o
theorem Kl.one {l : Addr} {o : HO} {H : Hp} : Kl l H (upd H l o) := fun b o' e n => by rw [upd_ne n]; exact e
theorem Kl.same {l : Addr} {H0 H H' : Hp} (s : Same H0 H) (n : H0 l = none) (k : Kl l H H') : Same H0 H' := fun b o e => k b o (s b o e) (ne_of_none e n)
end K40

set_option Elab.async false
set_option linter.all false
set_option maxRecDepth 100000
set_option maxHeartbeats 4000000
namespace K40
open PySem L2
theorem itDP {c : Prop} [Decidable c] {A B : Prop} (e : c) (h : A) : if decide c = true then A else B := by rw [if_pos (decide_eq_true e)]; exact h
theorem itDN {c : Prop} [Decidable c] {A B : Prop} (e : ¬ c) (h : B) : if decide c = true then A else B := by rw [if_neg fun z => e (of_decide_eq_true z)]; exact h
/-! ### expressions -/
inductive Ex where
  | num (i : Int)
  | nam (x : Str)
  | flg (b : Bool)
  | pl (x : Str) (e : Ex)
  | nt (e : Ex)
  | bin (o : Str) (a b : Ex)
def ExAt (H : Hp) : Ex → V → Prop
  | .num i, v => ∃ a, v = .ref a ∧ H a = some (.tup [.str "num", .int i])
  | .nam x, v => ∃ a, v = .ref a ∧ H a = some (.tup [.str "name", .str x])
  | .flg b, v => ∃ a, v = .ref a ∧ H a = some (.tup [.str "flag", .bl b])
  | .pl x e, v => ∃ a u, v = .ref a ∧ H a = some (.tup [.str "at", .str x, u]) ∧ ExAt H e u
  | .nt e, v => ∃ a u, v = .ref a ∧ H a = some (.tup [.str "not", u]) ∧ ExAt H e u
  | .bin o e1 e2, v => ∃ a u1 u2, v = .ref a ∧ H a = some (.tup [.str o, u1, u2]) ∧ ExAt H e1 u1 ∧ ExAt H e2 u2
def ops5 : List Str := ["+", "-", "&", "<", "="]
def resv : List Str := ["num", "flag", "list", "part", "main", "end", "tell", "ask", "do", "if", "else", "while", "stop", "give", "way", "not", "yes", "no"]
/-- a name: one to eight letters, and no word of the language's own -/
def NmOk (x : Str) : Prop := PyData.strOk x = true ∧ 1 ≤ x.cps.toList.length ∧ x.cps.toList.length ≤ 8 ∧ (∀ c ∈ x.cps.toList, 97 ≤ c ∧ c < 123) ∧ x ∉ resv
/-- its words can be written, its signs are signs -/
def Ex.Ok : Ex → Prop
  | .num i => 0 ≤ i ∧ i ≤ 4095
  | .nam x => NmOk x
  | .pl x e => NmOk x ∧ e.Ok
  | .nt e => e.Ok
  | .bin o a b => o ∈ ops5 ∧ a.Ok ∧ b.Ok
  | _ => True
def Ex.dep : Ex → Nat
  | .pl _ e => e.dep + 1
  | .nt e => e.dep + 1
  | .bin _ a b => max a.dep b.dep + 1
  | _ => 0
theorem ExAt.keep {H H' : Hp} (k : ∀ (b : Addr) (xs : List V), H b = some (.tup xs) → H' b = some (.tup xs)) : ∀ {e : Ex} {v : V}, ExAt H e v → ExAt H' e v
  | .num i, v, ⟨a, e, h⟩ => ⟨a, e, k _ _ h⟩
  | .nam x, v, ⟨a, e, h⟩ => ⟨a, e, k _ _ h⟩
  | .flg b, v, ⟨a, e, h⟩ => ⟨a, e, k _ _ h⟩
  | .pl x e, v, ⟨a, u, e1, h, r⟩ => ⟨a, u, e1, k _ _ h, ExAt.keep k r⟩
  | .nt e, v, ⟨a, u, e1, h, r⟩ => ⟨a, u, e1, k _ _ h, ExAt.keep k r⟩
  | .bin o e1 e2, v, ⟨a, u1, u2, e3, h, r1, r2⟩ => ⟨a, u1, u2, e3, k _ _ h, ExAt.keep k r1, ExAt.keep k r2⟩
theorem ExAt.same {H H' : Hp} (s : Same H H') {e : Ex} {v : V} (h : ExAt H e v) : ExAt H' e v := h.keep fun _ _ z => s _ _ z
theorem Kl.tup {l : Addr} {H H' : Hp} {xs : List V} (el : H l = some (.lst xs)) (k : Kl l H H') : ∀ (b : Addr) (ys : List V), H b = some (.tup ys) → H' b = some (.tup ys) := fun b ys e => k b _ e (ne_of e el (by intro z; cases z))
theorem Kl.trans {l : Addr} {H H1 H2 : Hp} (a : Kl l H H1) (b : Kl l H1 H2) : Kl l H H2 := fun x o e n => b x o (a x o e n) n
theorem Kl.of {l : Addr} {H H' : Hp} (s : Same H H') : Kl l H H' := fun _ _ e _ => s _ _ e
/-! ### the tap -/
def TapAt (H : Hp) (a : Addr) (c : Nat) : Prop := ∃ x f : Int, H a = some (.lst [.int x, .int f, .int (c : Int)])
theorem TapAt.same {H H' : Hp} (s : Same H H') {a : Addr} {c : Nat} (h : TapAt H a c) : TapAt H' a c := by obtain ⟨x, f, e⟩ := h; exact ⟨x, f, s _ _ e⟩
def sp_mix : Sp := fun vs H Q _ => ∃ (c k : Int), vs = [.int c, .int k] ∧ 0 ≤ k ∧ k ≤ 1000000000 ∧ ∀ v : Int, 0 ≤ v → v < 2147483629 → Q (.int v) H
def sp_tap : Sp := fun vs H Q _ => ∃ (c : Int), vs = [.int c] ∧ ∀ (l : Addr) (H' : Hp), H l = none → Same H H' → TapAt H' l 0 → Q (.ref l) H'
def sp_next : Sp := fun vs H Q _ => ∃ (a : Addr) (c : Nat) (size : Int), vs = [.ref a, .int size] ∧ TapAt H a c ∧ c ≤ 1000000 ∧ 0 < size ∧ size < 1000000 ∧ ∀ (v : Int) (H' : Hp), 0 ≤ v → v < size → Kl a H H' → TapAt H' a (c + 1) → Q (.int v) H'
def sp_number : Sp := fun vs H Q _ => ∃ (a : Addr) (c : Nat), vs = [.ref a] ∧ TapAt H a c ∧ c ≤ 900000 ∧ ∀ (v : Int) (H' : Hp) (c' : Nat), 0 ≤ v → v ≤ 4095 → c' ≤ c + 2 → Kl a H H' → TapAt H' a c' → Q (.int v) H'
theorem next_go {H : Hp} {a : Addr} {x fl : Int} {c : Nat} {q : Hp → Prop} (h : ∀ H1, Kl a H H1 → H1 a = some (.lst [V.int x, V.int fl, V.int ((c : Int) + 1)]) → q H1) : q (upd H a (.lst ([V.int x, V.int fl, V.int (c : Int)].set 2 (V.int ((c : Int) + 1))))) := h _ Kl.one upd_same
section
variable {P : Program} {w : World} {K : PySem.W.Frag} {mg : Str → Option Value} {base : Heap}
local macro_rules | `(tactic| walk_at "sd") => `(tactic| ((try dsimp only); first | omega | decide | exact cmul_l (by omega) (by omega) | exact cmul_r (by omega) (by omega) | exact ⟨by omega, by omega⟩ | exact cpow_of (by omega) (by omega) (by omega) (by omega) | (split <;> omega)))
local macro_rules | `(tactic| walk_at "rd") => `(tactic| repeat (first | refine ⟨_, rfl, ?_⟩ | refine ⟨_, _, rfl, rfl, ?_⟩ | refine And.intro (by walk_at "sd") ?_))
theorem sc_law_mixed : FnScope ["_law_number_here", "_law_k", "_law_once", "_law_twice"] ["_law_number_here", "_law_k"] (defScope s_law_mixed) := ⟨rfl, rfl, rfl, by decide +kernel, rfl, by decide +kernel, by decide +kernel⟩
theorem ok_law_mixed {f : Addr} {fd : FuncData} (F : Fun K "_law_mixed" "_law_mixed" s_law_mixed f fd) : FnOk P w K mg base CX0 1 f fd ["_law_number_here", "_law_k"] sp_mix := by
  refine F.ok sc_law_mixed (fun vs H Q E h => ?_) (fun cdv A outer s H vs Q E hr h => ?_)
  · obtain ⟨c, k, rfl, _⟩ := h; rfl
  · obtain ⟨c, k, rfl, h0, h1, q⟩ := h
    refine ⟨_, (pss_cons (ps_set (i := 2) sc_law_mixed.nd rfl (Or.inl rfl) (pe_op op_mod (pe_op op_mul (pe_op op_add (pe_op op_add (pe_op op_mod (pv 0) pe_int) (pe_op op_mul pe_int (pv 1))) pe_int) pe_int) pe_int))
      (pss_cons (ps_set (i := 3) sc_law_mixed.nd rfl (Or.inl rfl) (pe_op op_mod (pe_op op_mul (pv 2) (pe_op op_add (pe_op op_add (pe_op op_mod (pv 2) pe_int) (pv 1)) pe_int)) pe_int))
      (pss_one (ps_ret (pe_op op_mod (pe_op op_add (pe_op op_mul (pv 3) pe_int) (pv 2)) pe_int))))), ?_⟩
    walk_at "rd"
    exact q _ (Int.emod_nonneg _ (by decide)) (Int.emod_lt_of_pos _ (by decide))
theorem sc_law_tap : FnScope ["_law_cell"] ["_law_cell"] (defScope s_law_tap) := ⟨rfl, rfl, rfl, by decide +kernel, rfl, by decide +kernel, by decide +kernel⟩
theorem ok_law_tap {f : Addr} {fd : FuncData} (F : Fun K "_law_tap" "_law_tap" s_law_tap f fd) (T : Bt mg) : FnOk P w K mg base CX0 1 f fd ["_law_cell"] sp_tap := by
  refine F.ok sc_law_tap (fun vs H Q E h => ?_) (fun cdv A outer s H vs Q E hr h => ?_)
  · obtain ⟨c, rfl, _⟩ := h; rfl
  · obtain ⟨c, rfl, q⟩ := h
    have hs : sizeLine = 16777216 := sizeLine_eq
    refine ⟨_, (pss_one (ps_ret (pe_lst (pa_consN (pe_op op_fdiv (pv 0) pe_int) (pa_consN (pe_callTy call_int1 rfl T.b_int (by decide +kernel) (pa_consN (pe_cmpR op_lt (pv 0) (pe_op op_pow pe_int pe_int) (nomark _)) pa_nil)) (pa_consN pe_int pa_nil)))))), ?_⟩
    refine ⟨_, rfl, _, _, rfl, rfl, ⟨by decide, by decide⟩, _, rfl, _, _, rfl, rfl, cpow_of (by decide) (by decide) (by decide) (by decide), _, _, rfl, rfl, .inr ⟨_, rfl, (by show 3 ≤ sizeLine; omega), fun l hl => q l _ hl (Same.put hl) ⟨_, _, upd_same⟩⟩⟩
theorem sc_law_next : FnScope ["_law_tap_here", "_law_size", "_law_found"] ["_law_tap_here", "_law_size"] (defScope s_law_next) := ⟨rfl, rfl, rfl, by decide +kernel, rfl, by decide +kernel, by decide +kernel⟩
theorem ok_law_next {f f1 : Addr} {fd d1 : FuncData} (F : Fun K "_law_next" "_law_next" s_law_next f fd) (T_law_mixed : Fn K mg "_law_mixed" s_law_mixed ["_law_number_here", "_law_k"] f1 d1) : FnOk P w K mg base CX0 2 f fd ["_law_tap_here", "_law_size"] sp_next := by
  have G_law_mixed := ok_law_mixed (P := P) (w := w) (mg := mg) (base := base) T_law_mixed.F
  refine F.ok sc_law_next (fun vs H Q E h => ?_) (fun cdv A outer s H vs Q E hr h => ?_)
  · obtain ⟨a, c, size, rfl, _⟩ := h; rfl
  · obtain ⟨a, c, size, rfl, ⟨x, fl, ea⟩, hc, h0, h1, q⟩ := h
    refine ⟨_, (pss_cons (ps_asg (pe_op op_add (pe_ix ix_list (pv 0) pe_int (fun _ _ => rfl)) pe_int) (pg_sub (pv 0) pe_int set_list))
      (pss_cons (ps_if (pt_cmpR op_eq (pe_ix ix_list (pv 0) pe_int (fun _ _ => rfl)) pe_int (nomark _))
        (pss_one (ps_ret (pe_op op_mod (pe_call G_law_mixed (hr.mono (by decide)) rfl T_law_mixed.m T_law_mixed.F.kp T_law_mixed.b .nil pass0 (pa_consN (pe_ix ix_list (pv 0) pe_int (fun _ _ => rfl)) (pa_consN (pe_op op_add pe_int (pe_ix ix_list (pv 0) pe_int (fun _ _ => rfl))) pa_nil))) (pv 1))))
        pss_nil)
      (pss_cons (ps_set (i := 2) sc_law_next.nd rfl (Or.inl rfl) (pe_op op_mod (pe_ix ix_list (pv 0) pe_int (fun _ _ => rfl)) (pv 1)))
      (pss_cons (ps_asg (pe_op op_fdivL (pe_ix ix_list (pv 0) pe_int (fun _ _ => rfl)) (pv 1)) (pg_sub (pv 0) pe_int set_list))
      (pss_one (ps_ret (pv 2))))))), ?_⟩
    refine ⟨_, rfl, a, _, _, _, rfl, rfl, SqL.of ea, rfl, _, _, rfl, rfl, _, rfl, a, _, _, _, rfl, rfl, ea, rfl, ?_⟩
    refine next_go (q := fun H1 => _) (x := x) (fl := fl) (c := c) (H := H) (a := a) ?_
    intro H1 k1 e1
    have m0 : ∀ z : Int, 0 ≤ z % size := fun z => Int.emod_nonneg _ (by omega)
    have m1 : ∀ z : Int, z % size < size := fun z => Int.emod_lt_of_pos _ h0
    refine ⟨_, rfl, a, _, _, _, rfl, rfl, SqL.of e1, rfl, rfl, _, rfl, ite2 (fun _ => ?_) (fun _ => ?_)⟩
    · refine ⟨_, rfl, a, _, _, _, rfl, rfl, SqL.of e1, rfl, _, rfl, a, _, _, _, rfl, rfl, SqL.of e1, rfl, _, _, rfl, rfl, x, _, rfl, by omega, by omega, fun v hv0 hv1 => ⟨_, rfl, _, _, rfl, rfl, h0, q _ H1 (m0 _) (m1 _) k1 ⟨x, fl, e1⟩⟩⟩
    · refine ⟨_, rfl, a, _, _, _, rfl, rfl, SqL.of e1, rfl, _, rfl, _, _, rfl, rfl, h0, ?_⟩
      refine ⟨_, rfl, a, _, _, _, rfl, rfl, SqL.of e1, rfl, _, rfl, _, _, rfl, rfl, ⟨h0, by omega⟩, _, rfl, a, _, _, _, rfl, rfl, e1, rfl, ?_⟩
      exact ⟨_, rfl, q _ _ (m0 _) (m1 _) (k1.trans Kl.one) ⟨x / size, fl, upd_same⟩⟩
theorem sc_law_number : FnScope ["_law_tap_here", "_law_way"] ["_law_tap_here"] (defScope s_law_number) := ⟨rfl, rfl, rfl, by decide +kernel, rfl, by decide +kernel, by decide +kernel⟩
theorem ok_law_number {f f1 f2 : Addr} {fd d1 d2 : FuncData} (F : Fun K "_law_number" "_law_number" s_law_number f fd) (T_law_mixed : Fn K mg "_law_mixed" s_law_mixed ["_law_number_here", "_law_k"] f1 d1) (T_law_next : Fn K mg "_law_next" s_law_next ["_law_tap_here", "_law_size"] f2 d2) : FnOk P w K mg base CX0 3 f fd ["_law_tap_here"] sp_number := by
  have G_law_next := ok_law_next (P := P) (w := w) (mg := mg) (base := base) T_law_next.F T_law_mixed
  refine F.ok sc_law_number (fun vs H Q E h => ?_) (fun cdv A outer s H vs Q E hr h => ?_)
  · obtain ⟨a, c, rfl, _⟩ := h; rfl
  · obtain ⟨a, c, rfl, ta, hc, q⟩ := h
    have hs : sizeLine = 16777216 := sizeLine_eq
    refine ⟨_, (pss_cons (ps_set (i := 1) sc_law_number.nd rfl (Or.inl rfl) (pe_call G_law_next (hr.mono (by decide)) rfl T_law_next.m T_law_next.F.kp T_law_next.b .nil pass0 (pa_consN (pv 0) (pa_consN pe_int pa_nil))))
      (pss_cons (ps_if (pt_cmpR op_eq (pv 1) pe_int (nomark _))
        (pss_one (ps_ret (pe_call G_law_next (hr.mono (by decide)) rfl T_law_next.m T_law_next.F.kp T_law_next.b .nil pass0 (pa_consN (pv 0) (pa_consN pe_int pa_nil)))))
        pss_nil)
      (pss_one (ps_ret (pe_ix ix_list (pe_lst (pa_consN pe_int (pa_consN pe_int (pa_consN pe_int (pa_consN pe_int (pa_consN pe_int pa_nil)))))) (pv 1) (fun _ _ => rfl)))))), ?_⟩
    refine ⟨_, rfl, a, c, 6, rfl, ta, by omega, by decide, by decide, fun v H1 v0 v1 k1 t1 => ?_⟩
    refine ⟨_, rfl, rfl, _, rfl, ite2 (fun _ => ?_) (fun h5 => ?_)⟩
    · exact ⟨_, rfl, a, c + 1, 4096, rfl, t1, by omega, by decide, by decide, fun v' H2 z0 z1 k2 t2 => q v' H2 (c + 1 + 1) z0 (by omega) (by omega) (k1.trans k2) t2⟩
    · have hv : v ≠ 5 := fun z => h5 (decide_eq_true (congrArg V.int z))
      refine ⟨(by show 5 ≤ sizeLine; omega), fun L hL => ?_⟩
      have hv5 : v = 0 ∨ v = 1 ∨ v = 2 ∨ v = 3 ∨ v = 4 := by omega
      obtain ⟨r, hr, r0, r1⟩ : ∃ r : Int, atI [V.int 0, V.int 1, V.int 7, V.int 4095, V.int 10] v = some (.int r) ∧ 0 ≤ r ∧ r ≤ 4095 := by
        rcases hv5 with rfl | rfl | rfl | rfl | rfl
        · exact ⟨0, rfl, by decide, by decide⟩
        · exact ⟨1, rfl, by decide, by decide⟩
        · exact ⟨7, rfl, by decide, by decide⟩
        · exact ⟨4095, rfl, by decide, by decide⟩
        · exact ⟨10, rfl, by decide, by decide⟩
      have y := Same.put (o := .lst [V.int 0, V.int 1, V.int 7, V.int 4095, V.int 10]) hL
      exact ⟨_, rfl, L, _, _, _, rfl, rfl, SqL.of upd_same, hr, q r _ (c + 1) r0 r1 (by omega) (k1.trans (Kl.of y)) (t1.same y)⟩
end
end K40

set_option Elab.async false
set_option linter.all false
set_option maxRecDepth 100000
set_option maxHeartbeats 4000000
namespace K40
open PySem L2
theorem rep_strs (K : PySem.W.Frag) (H : Hp) : ∀ ss : List Str, RepAll K H (ss.map V.str) (ss.map PyData.str)
  | [] => .nil
  | x :: r => .cons (.str x) (rep_strs K H r)
theorem lay_strs : ∀ {ss : List Str}, (∀ x ∈ ss, PyData.strOk x = true) → PyData.canLayAll0 (ss.map PyData.str) = true
  | [], _ => rfl
  | x :: r, h => by
    show (PyData.strOk x && PyData.canLayAll0 (r.map PyData.str)) = true
    rw [lay_strs fun y hy => h y (List.mem_cons_of_mem _ hy), h x List.mem_cons_self]; rfl
theorem dep_strs : ∀ ss : List Str, PyData.depthAll (ss.map PyData.str) ≤ 0
  | [] => Nat.le_refl _
  | x :: r => by
    show max 0 (PyData.depthAll (r.map PyData.str)) ≤ 0
    have := dep_strs r; omega
theorem eqv_empty {ss : List Str} (h : 0 < ss.length) : PyData.eqv (.list (ss.map PyData.str)) (.list []) = false := by
  cases ss with
  | nil => cases h
  | cons x r => rfl
theorem str_ix {ss : List Str} {i : Int} (h0 : 0 ≤ i) (h1 : i < ((ss.map V.str).length : Int)) : ∃ x, x ∈ ss ∧ atI (ss.map V.str) i = some (.str x) := by
  rw [List.length_map] at h1
  obtain ⟨j, rfl⟩ : ∃ j : Nat, i = (j : Int) := ⟨i.toNat, by omega⟩
  have hj : j < ss.length := by omega
  exact ⟨ss[j], List.getElem_mem hj, atI_nat (by rw [List.getElem?_map, List.getElem?_eq_getElem hj]; rfl)⟩
theorem op_at {i : Int} (h0 : 0 ≤ i) (h1 : i < 5) : ∃ c : Nat, ("+-&<=" : Str).cps[i.toNat]? = some c ∧ (⟨#[c]⟩ : Str) ∈ ops5 := by
  have : i = 0 ∨ i = 1 ∨ i = 2 ∨ i = 3 ∨ i = 4 := by omega
  rcases this with rfl | rfl | rfl | rfl | rfl
  · exact ⟨43, by decide +kernel, by decide +kernel⟩
  · exact ⟨45, by decide +kernel, by decide +kernel⟩
  · exact ⟨38, by decide +kernel, by decide +kernel⟩
  · exact ⟨60, by decide +kernel, by decide +kernel⟩
  · exact ⟨61, by decide +kernel, by decide +kernel⟩
theorem op_len : (("+-&<=" : Str).length : Nat) = 5 := by decide +kernel
def bd (n : Nat) : Nat := 5 * 2 ^ n
theorem bd_succ (n : Nat) : bd (n + 1) = 2 * bd n := by unfold bd; rw [Nat.pow_succ]; omega
theorem bd_pos (n : Nat) : 5 ≤ bd n := by unfold bd; have := Nat.one_le_two_pow (n := n); omega
def sp_expr (n : Nat) : Sp := fun vs H Q _ => ∃ (a nl : Addr) (names : List Str) (c : Nat), vs = [.ref a, .ref nl, .int (n : Int)] ∧ TapAt H a c ∧ c + bd n ≤ 900000 ∧ H nl = some (.lst (names.map V.str)) ∧ 0 < names.length ∧ names.length ≤ 1000 ∧ (∀ x ∈ names, NmOk x) ∧ a ≠ nl ∧
  ∀ (v : V) (e : Ex) (H' : Hp) (c' : Nat), c' + 2 ≤ c + bd n → Kl a H H' → TapAt H' a c' → ExAt H' e v → e.Ok → e.dep ≤ n → Q v H'
theorem TapAt.lst {H : Hp} {a : Addr} {c : Nat} (h : TapAt H a c) : ∃ xs, H a = some (.lst xs) := by obtain ⟨x, f, e⟩ := h; exact ⟨_, e⟩
theorem ExAt.kl {a : Addr} {H H' : Hp} {c : Nat} (t : TapAt H a c) (k : Kl a H H') {e : Ex} {v : V} (h : ExAt H e v) : ExAt H' e v := by
  obtain ⟨xs, el⟩ := t.lst
  exact h.keep (Kl.tup el k)
section
variable {P : Program} {w : World} {K : PySem.W.Frag} {mg : Str → Option Value} {base : Heap}
theorem sc_law_expr : FnScope ["_law_tap_here", "_law_names", "_law_deep", "_law_way", "_law_op", "_law_one"] ["_law_tap_here", "_law_names", "_law_deep"] (defScope s_law_expr) := ⟨rfl, rfl, rfl, by decide +kernel, rfl, by decide +kernel, by decide +kernel⟩
theorem expr_B {n : Nat} {prev : Sp} {f f1 f2 f3 : Addr} {fd d1 d2 d3 : FuncData} (T : Bt mg) (T_law_mixed : Fn K mg "_law_mixed" s_law_mixed ["_law_number_here", "_law_k"] f1 d1) (T_law_next : Fn K mg "_law_next" s_law_next ["_law_tap_here", "_law_size"] f2 d2) (T_law_number : Fn K mg "_law_number" s_law_number ["_law_tap_here"] f3 d3) (T_law_expr : Fn K mg "_law_expr" s_law_expr ["_law_tap_here", "_law_names", "_law_deep"] f fd)
    (hp : n = 0 ∨ ∃ m, n = m + 1 ∧ prev = sp_expr m) (G_law_expr : FnOk P w K mg base CX0 (n + 3) f fd ["_law_tap_here", "_law_names", "_law_deep"] prev) {cdv : Value} {A : Around} {outer : List Env} {s : Shared} {H : Hp} {E : XK} (hr : Room (n + 3) (A.deeper (PyProof.Rows.envOfC "_law_expr" (defScope s_law_expr) s.heap.objs.size f cdv))) :
    ∃ u, PSs (cxOf CX0 P w K mg base ["_law_tap_here", "_law_names", "_law_deep", "_law_way", "_law_op", "_law_one"] "_law_expr" (defScope s_law_expr) f cdv A outer s H E).nox ((defBody s_law_expr).drop 2) u ∧
      ∀ (D : Ends) (v4 v5 : Option V) (a nl : Addr) (names : List Str) (c : Nat) (wy : Int) (H : Hp), TapAt H a (c + 1) → c + bd n ≤ 900000 → H nl = some (.lst (names.map V.str)) → 0 < names.length → names.length ≤ 1000 → (∀ x ∈ names, NmOk x) → a ≠ nl → 0 ≤ wy → wy < 9 → (n = 0 → wy < 3) →
        (∀ (v : V) (e : Ex) (H' : Hp) (c' : Nat), c' + 2 ≤ c + bd n → Kl a H H' → TapAt H' a c' → ExAt H' e v → e.Ok → e.dep ≤ n → D.rt v H') →
        u D [some (.ref a), some (.ref nl), some (.int (n : Int)), some (.int wy), v4, v5] H := by
  have G_law_next := ok_law_next (P := P) (w := w) (mg := mg) (base := base) T_law_next.F T_law_mixed
  have G_law_number := ok_law_number (P := P) (w := w) (base := base) T_law_number.F T_law_mixed T_law_next
  refine ⟨_, (pss_cons (ps_if (PW.pt (pw_or (pt_cmpR op_eq (pv 3) pe_int (nomark _)) (pw_or1 (PW.pt (pw_and (pt_cmpR op_eq (pv 3) pe_int (nomark _)) (pw_and1 (pt_cmpR (op_eqD (hr.units)) (pv 1) (pe_lst pa_nil) (nomark _))))))))
        (pss_one (ps_ret (pe_tup (pa_consN pe_str (pa_consN (pe_call G_law_number (hr.mono (by omega)) rfl T_law_number.m T_law_number.F.kp T_law_number.b .nil pass0 (pa_consN (pv 0) pa_nil)) pa_nil)))))
        pss_nil)
      (pss_cons (ps_if (pt_cmpR op_eq (pv 3) pe_int (nomark _))
        (pss_one (ps_ret (pe_tup (pa_consN pe_str (pa_consN (pe_ix ix_list (pv 1) (pe_call G_law_next (hr.mono (by omega)) rfl T_law_next.m T_law_next.F.kp T_law_next.b .nil pass0 (pa_consN (pv 0) (pa_consN (pe_callB call_len_seq rfl T.b_len (by decide +kernel) (pa_consN (pv 1) pa_nil)) pa_nil))) (fun _ _ => rfl)) pa_nil)))))
        pss_nil)
      (pss_cons (ps_if (pt_cmpR op_eq (pv 3) pe_int (nomark _))
        (pss_one (ps_ret (pe_tup (pa_consN pe_str (pa_consN (pe_cmpR op_eq (pe_call G_law_next (hr.mono (by omega)) rfl T_law_next.m T_law_next.F.kp T_law_next.b .nil pass0 (pa_consN (pv 0) (pa_consN pe_int pa_nil))) pe_int (nomark _)) pa_nil)))))
        pss_nil)
      (pss_cons (ps_if (PW.pt (pw_and (pt_cmpR op_eq (pv 3) pe_int (nomark _)) (pw_and1 (pt_cmpR (op_neD (hr.units)) (pv 1) (pe_lst pa_nil) (nomark _)))))
        (pss_one (ps_ret (pe_tup (pa_consN pe_str (pa_consN (pe_ix ix_list (pv 1) (pe_call G_law_next (hr.mono (by omega)) rfl T_law_next.m T_law_next.F.kp T_law_next.b .nil pass0 (pa_consN (pv 0) (pa_consN (pe_callB call_len_seq rfl T.b_len (by decide +kernel) (pa_consN (pv 1) pa_nil)) pa_nil))) (fun _ _ => rfl)) (pa_consN (pe_call G_law_expr (hr.mono (by omega)) rfl T_law_expr.m T_law_expr.F.kp T_law_expr.b .nil pass0 (pa_consN (pv 0) (pa_consN (pv 1) (pa_consN (pe_op op_sub (pv 2) pe_int) pa_nil)))) pa_nil))))))
        pss_nil)
      (pss_cons (ps_if (pt_cmpR op_eq (pv 3) pe_int (nomark _))
        (pss_one (ps_ret (pe_tup (pa_consN pe_str (pa_consN (pe_call G_law_expr (hr.mono (by omega)) rfl T_law_expr.m T_law_expr.F.kp T_law_expr.b .nil pass0 (pa_consN (pv 0) (pa_consN (pv 1) (pa_consN (pe_op op_sub (pv 2) pe_int) pa_nil)))) pa_nil)))))
        pss_nil)
      (pss_cons (ps_set (i := 4) sc_law_expr.nd rfl (Or.inl rfl) (pe_item_str pe_str (pe_call G_law_next (hr.mono (by omega)) rfl T_law_next.m T_law_next.F.kp T_law_next.b .nil pass0 (pa_consN (pv 0) (pa_consN pe_int pa_nil))) (fun _ _ => rfl)))
      (pss_cons (ps_set (i := 5) sc_law_expr.nd rfl (Or.inl rfl) (pe_call G_law_expr (hr.mono (by omega)) rfl T_law_expr.m T_law_expr.F.kp T_law_expr.b .nil pass0 (pa_consN (pv 0) (pa_consN (pv 1) (pa_consN (pe_op op_sub (pv 2) pe_int) pa_nil)))))
      (pss_one (ps_ret (pe_tup (pa_consN (pv 4) (pa_consN (pv 5) (pa_consN (pe_call G_law_expr (hr.mono (by omega)) rfl T_law_expr.m T_law_expr.F.kp T_law_expr.b .nil pass0 (pa_consN (pv 0) (pa_consN (pv 1) (pa_consN (pe_op op_sub (pv 2) pe_int) pa_nil)))) pa_nil))))))))))))), ?_⟩
  intro D v4 v5 a nl names c wy H ta hc en hn0 hn1 hok han w0 w1 wn q
  have hs : sizeLine = 16777216 := sizeLine_eq
  have b5 := bd_pos n
  have ndn : PyData.depthAll (names.map PyData.str) + 1 ≤ 64 := by have := dep_strs names; omega
  -- a new tuple
  have tup2 : ∀ (x y : V) (t : Addr) (H1 : Hp), H1 t = none → Same H1 (upd H1 t (.tup [x, y])) ∧ upd H1 t (.tup [x, y]) t = some (.tup [x, y]) := fun x y t H1 ht => ⟨Same.put ht, upd_same⟩
  refine ⟨_, rfl, rfl, _, rfl, ite2 (fun _ => ?_) (fun h0 => ?_)⟩
  · refine iteT ⟨_, rfl, a, c + 1, rfl, ta, by omega, fun v H1 c1 v0 v1 hc1 k1 t1 => ⟨(by show 2 ≤ sizeLine; omega), fun t ht => ?_⟩⟩
    exact q _ (.num v) _ c1 (by omega) (k1.trans (Kl.of (Same.put ht))) (t1.same (Same.put ht)) ⟨t, rfl, upd_same⟩ ⟨v0, v1⟩ (Nat.zero_le _)
  have hw0 : wy ≠ 0 := fun z => h0 (decide_eq_true (congrArg V.int z))
  refine ⟨_, rfl, rfl, _, rfl, ite2 (fun h1 => ?_) (fun h1 => ?_)⟩
  · have hw1 : wy = 1 := V.int.inj (of_decide_eq_true h1)
    subst hw1
    refine ⟨_, rfl, Nat.zero_le _, fun l0 hl0 => ?_⟩
    have y0 := Same.put (o := .lst []) hl0
    refine ⟨.list (names.map PyData.str), .list [], .lst (SqL.of (y0 _ _ en)) (rep_strs K _ names), .lst (SqL.of upd_same) .nil, lay_strs (fun x hx => (hok x hx).1), rfl, ndn, _, rfl, ?_⟩
    rw [eqv_empty hn0]
    generalize upd H l0 (.lst []) = H1 at y0 ⊢
    refine iteF ⟨_, rfl, rfl, _, rfl, itDP rfl ?_⟩
    refine ⟨_, rfl, _, rfl, _, rfl, nl, _, rfl, .inl (SqL.of (y0 _ _ en)), a, c + 1, _, rfl, ta.same y0, by omega, by rw [List.length_map]; omega, by rw [List.length_map]; omega, fun v H2 v0 v1 k2 t2 => ?_⟩
    obtain ⟨x, hx, ex⟩ := str_ix v0 v1
    refine ⟨nl, _, _, _, rfl, rfl, SqL.of (k2 _ _ (y0 _ _ en) han.symm), ex, (by show 2 ≤ sizeLine; omega), fun t ht => ?_⟩
    exact q _ (.nam x) _ (c + 1 + 1) (by omega) (((Kl.of y0).trans k2).trans (Kl.of (Same.put ht))) (t2.same (Same.put ht)) ⟨t, rfl, upd_same⟩ (hok x hx) (Nat.zero_le _)
  have hw1 : wy ≠ 1 := fun z => h1 (decide_eq_true (congrArg V.int z))
  refine iteF ⟨_, rfl, rfl, _, rfl, itDN (fun z => hw1 (V.int.inj z)) ?_⟩
  refine ⟨_, rfl, rfl, _, rfl, ite2 (fun _ => ?_) (fun h2 => ?_)⟩
  · refine ⟨_, rfl, a, c + 1, 2, rfl, ta, by omega, by decide, by decide, fun v H2 v0 v1 k2 t2 => ⟨rfl, (by show 2 ≤ sizeLine; omega), fun t ht => ?_⟩⟩
    exact q _ (.flg _) _ (c + 1 + 1) (by omega) (k2.trans (Kl.of (Same.put ht))) (t2.same (Same.put ht)) ⟨t, rfl, upd_same⟩ trivial (Nat.zero_le _)
  have hw2 : wy ≠ 2 := fun z => h2 (decide_eq_true (congrArg V.int z))
  rcases hp with h | ⟨m, rfl, rfl⟩
  · have := wn h; omega
  have bs := bd_succ m
  have bm := bd_pos m
  have em : [V.ref a, V.ref nl, V.int (((m + 1 : Nat) : Int) - 1)] = [V.ref a, V.ref nl, V.int (m : Int)] := by
    rw [show ((m + 1 : Nat) : Int) - 1 = (m : Int) by omega]
  refine ⟨_, rfl, rfl, _, rfl, ite2 (fun h3 => ?_) (fun h3 => ?_)⟩
  · refine ⟨_, rfl, Nat.zero_le _, fun l0 hl0 => ?_⟩
    have y0 := Same.put (o := .lst []) hl0
    refine ⟨.list (names.map PyData.str), .list [], .lst (SqL.of (y0 _ _ en)) (rep_strs K _ names), .lst (SqL.of upd_same) .nil, lay_strs (fun x hx => (hok x hx).1), rfl, ndn, _, rfl, ?_⟩
    rw [eqv_empty hn0]
    generalize upd H l0 (.lst []) = H1 at y0 ⊢
    refine iteT ⟨_, rfl, _, rfl, _, rfl, nl, _, rfl, .inl (SqL.of (y0 _ _ en)), a, c + 1, _, rfl, ta.same y0, by omega, by rw [List.length_map]; omega, by rw [List.length_map]; omega, fun v H2 v0 v1 k2 t2 => ?_⟩
    obtain ⟨x, hx, ex⟩ := str_ix v0 v1
    have k02 := (Kl.of (l := a) y0).trans k2
    refine ⟨nl, _, _, _, rfl, rfl, SqL.of (k02 _ _ en han.symm), ex, ?_⟩
    refine ⟨_, rfl, _, rfl, _, rfl, _, _, rfl, rfl, a, nl, names, c + 1 + 1, em, t2, by omega, k02 _ _ en han.symm, hn0, hn1, hok, han, fun v' e H3 c3 hc3 k3 t3 he ho hd => ⟨(by show 3 ≤ sizeLine; omega), fun t ht => ?_⟩⟩
    exact q _ (.pl x e) _ c3 (by omega) ((k02.trans k3).trans (Kl.of (Same.put ht))) (t3.same (Same.put ht)) ⟨t, v', rfl, upd_same, he.same (Same.put ht)⟩ ⟨hok x hx, ho⟩ (by show e.dep + 1 ≤ m + 1; omega)
  refine iteF ⟨_, rfl, rfl, _, rfl, ite2 (fun _ => ?_) (fun h4 => ?_)⟩
  · refine ⟨_, rfl, _, rfl, _, rfl, _, _, rfl, rfl, a, nl, names, c + 1, em, ta, by omega, en, hn0, hn1, hok, han, fun v' e H3 c3 hc3 k3 t3 he ho hd => ⟨(by show 2 ≤ sizeLine; omega), fun t ht => ?_⟩⟩
    exact q _ (.nt e) _ c3 (by omega) (k3.trans (Kl.of (Same.put ht))) (t3.same (Same.put ht)) ⟨t, v', rfl, upd_same, he.same (Same.put ht)⟩ ho (by show e.dep + 1 ≤ m + 1; omega)
  refine ⟨_, rfl, a, c + 1, 5, rfl, ta, by omega, by decide, by decide, fun v H2 v0 v1 k2 t2 => ?_⟩
  obtain ⟨ch, hch, hop⟩ := op_at v0 v1
  refine ⟨_, v, ch, rfl, rfl, v0, by omega, by rw [op_len]; omega, hch, ?_⟩
  refine ⟨_, rfl, _, rfl, _, rfl, _, _, rfl, rfl, a, nl, names, c + 1 + 1, em, t2, by omega, k2 _ _ en han.symm, hn0, hn1, hok, han, fun va ea H3 c3 hc3 k3 t3 ha oa da => ?_⟩
  refine ⟨_, rfl, _, rfl, _, rfl, _, rfl, _, rfl, _, _, rfl, rfl, a, nl, names, c3, em, t3, by omega, k3 _ _ (k2 _ _ en han.symm) han.symm, hn0, hn1, hok, han, fun vb eb H4 c4 hc4 k4 t4 hb ob db => ⟨(by show 3 ≤ sizeLine; omega), fun t ht => ?_⟩⟩
  exact q _ (.bin ⟨#[ch]⟩ ea eb) _ c4 (by omega) (((k2.trans k3).trans k4).trans (Kl.of (Same.put ht))) (t4.same (Same.put ht)) ⟨t, va, vb, rfl, upd_same, (ha.kl t3 k4).same (Same.put ht), hb.same (Same.put ht)⟩ ⟨hop, oa, ob⟩ (by show max ea.dep eb.dep + 1 ≤ m + 1; omega)
theorem expr_step {n : Nat} {prev : Sp} {f f1 f2 f3 : Addr} {fd d1 d2 d3 : FuncData} (T : Bt mg) (T_law_mixed : Fn K mg "_law_mixed" s_law_mixed ["_law_number_here", "_law_k"] f1 d1) (T_law_next : Fn K mg "_law_next" s_law_next ["_law_tap_here", "_law_size"] f2 d2) (T_law_number : Fn K mg "_law_number" s_law_number ["_law_tap_here"] f3 d3) (T_law_expr : Fn K mg "_law_expr" s_law_expr ["_law_tap_here", "_law_names", "_law_deep"] f fd)
    (hp : n = 0 ∨ ∃ m, n = m + 1 ∧ prev = sp_expr m) (G_law_expr : FnOk P w K mg base CX0 (n + 3) f fd ["_law_tap_here", "_law_names", "_law_deep"] prev) : FnOk P w K mg base CX0 (n + 4) f fd ["_law_tap_here", "_law_names", "_law_deep"] (sp_expr n) := by
  have G_law_next := ok_law_next (P := P) (w := w) (mg := mg) (base := base) T_law_next.F T_law_mixed
  refine T_law_expr.F.ok (k := n + 3) sc_law_expr (fun vs H Q E h => ?_) (fun cdv A outer s H vs Q E hr h => ?_)
  · obtain ⟨a, nl, names, c, rfl, _⟩ := h; rfl
  · obtain ⟨a, nl, names, c, rfl, ta, hc, en, hn0, hn1, hok, han, q⟩ := h
    obtain ⟨uB, hB, kB⟩ := expr_B (P := P) (w := w) (base := base) (f := f) (cdv := cdv) (outer := outer) (H := H) (E := E) T T_law_mixed T_law_next T_law_number T_law_expr hp G_law_expr hr
    refine ⟨_, (pss_cons (ps_set (i := 3) sc_law_expr.nd rfl (Or.inl rfl) (pe_call G_law_next (hr.mono (by omega)) rfl T_law_next.m T_law_next.F.kp T_law_next.b .nil pass0 (pa_consN (pv 0) (pa_consN pe_int pa_nil))))
      (pss_cons (ps_if (PW.pt (pw_or (pt_cmpR op_eq (pv 2) pe_int (nomark _)) (pw_or1 (pt_cmpR op_gt (pe_ix ix_list (pv 0) pe_int (fun _ _ => rfl)) pe_int (nomark _)))))
        (pss_one (ps_set (i := 3) sc_law_expr.nd rfl (Or.inl rfl) (pe_op op_mod (pv 3) pe_int)))
        pss_nil)
      hB)), ?_⟩
    have b5 := bd_pos n
    refine ⟨_, rfl, a, c, 9, rfl, ta, by omega, by decide, by decide, fun wy H1 w0 w1 k1 t1 => ?_⟩
    have en1 := k1 _ _ en han.symm
    have go : ∀ wy : Int, 0 ≤ wy → wy < 9 → (n = 0 → wy < 3) → uB { nx := fun _ H' => Q .non H', rt := Q } [some (.ref a), some (.ref nl), some (.int (n : Int)), some (.int wy), none, none] H1 := fun wy h0 h9 h3 =>
      kB _ _ _ a nl names c wy H1 t1 hc en1 hn0 hn1 hok han h0 h9 h3 fun v e H' c' hc' k' t' he ho hd => q v e H' c' hc' (k1.trans k') t' he ho hd
    have m3 : 0 ≤ wy % 3 ∧ wy % 3 < 3 := ⟨Int.emod_nonneg _ (by decide), Int.emod_lt_of_pos _ (by decide)⟩
    refine ⟨_, rfl, rfl, _, rfl, ite2 (fun _ => ?_) (fun h0 => ?_)⟩
    · exact iteT ⟨_, rfl, _, _, rfl, rfl, (by show (0 : Int) < 3; decide), go _ m3.1 (by omega) (fun _ => m3.2)⟩
    · have hn : n ≠ 0 := fun z => h0 (decide_eq_true (by rw [z]; rfl))
      obtain ⟨x, fl, e1⟩ := id t1
      refine ⟨_, rfl, a, _, _, _, rfl, rfl, SqL.of e1, rfl, _, _, rfl, rfl, _, rfl, ite2 (fun _ => ?_) (fun _ => ?_)⟩
      · exact ⟨_, rfl, _, _, rfl, rfl, (by show (0 : Int) < 3; decide), go _ m3.1 (by omega) (fun _ => m3.2)⟩
      · exact go wy w0 w1 (fun z => absurd z hn)
theorem ok_law_expr {f f1 f2 f3 : Addr} {fd d1 d2 d3 : FuncData} (T : Bt mg) (T_law_mixed : Fn K mg "_law_mixed" s_law_mixed ["_law_number_here", "_law_k"] f1 d1) (T_law_next : Fn K mg "_law_next" s_law_next ["_law_tap_here", "_law_size"] f2 d2) (T_law_number : Fn K mg "_law_number" s_law_number ["_law_tap_here"] f3 d3) (T_law_expr : Fn K mg "_law_expr" s_law_expr ["_law_tap_here", "_law_names", "_law_deep"] f fd) :
    ∀ n : Nat, FnOk P w K mg base CX0 (n + 4) f fd ["_law_tap_here", "_law_names", "_law_deep"] (sp_expr n)
  | 0 => expr_step T T_law_mixed T_law_next T_law_number T_law_expr (.inl rfl) (T_law_expr.F.ok (k := 2) (sp := fun _ _ _ _ => False) sc_law_expr (fun _ _ _ _ h => h.elim) (fun _ _ _ _ _ _ _ _ _ h => h.elim))
  | n + 1 => expr_step T T_law_mixed T_law_next T_law_number T_law_expr (.inr ⟨n, rfl, rfl⟩) (ok_law_expr T T_law_mixed T_law_next T_law_number T_law_expr n)
end
end K40

set_option Elab.async false
set_option linter.all false
set_option maxRecDepth 100000
set_option maxHeartbeats 4000000
namespace K40
open PySem L2
/-! ### texts, sign by sign -/
theorem slice1 {z : Str} {i c : Nat} {r : List Nat} (h : z.cps.toList.drop i = c :: r) : PySem.Txt.slice z (some (i : Int)) (some ((i : Int) + 1)) = ⟨#[c]⟩ := by
  have hl : i < z.cps.toList.length := by
    rcases Nat.lt_or_ge i z.cps.toList.length with g | g
    · exact g
    · rw [List.drop_eq_nil_of_le g] at h; cases h
  refine (PySem.StrLaws.sliceText_plain (x := z) (i := (i : Int)) (j := (i : Int) + 1) ⟨by omega, by omega, by omega⟩).trans ?_
  rw [show ((i : Int)).toNat = i by omega, show ((i : Int) + 1 - (i : Int)).toNat = 1 by omega, h]; rfl
theorem sliceR {z : Str} {i : Nat} {run post : List Nat} (hi : i ≤ z.cps.toList.length) (h : z.cps.toList.drop i = run ++ post) : PySem.Txt.slice z (some (i : Int)) (some ((i + run.length : Nat) : Int)) = ⟨run.toArray⟩ := by
  have hl := congrArg List.length h
  rw [List.length_drop, List.length_append] at hl
  refine (PySem.StrLaws.sliceText_plain (x := z) (i := (i : Int)) (j := ((i + run.length : Nat) : Int)) ⟨by omega, by omega, by omega⟩).trans ?_
  rw [show ((i : Int)).toNat = i by omega, show (((i + run.length : Nat) : Int) - (i : Int)).toNat = run.length by omega, h, List.take_left]
theorem slice0 {z : Str} {i : Nat} (h : z.cps.toList.drop i = []) : PySem.Txt.slice z (some (i : Int)) (some ((i : Int) + 1)) = ⟨#[]⟩ := by
  have hl : z.cps.toList.length ≤ i := List.drop_eq_nil_iff.mp h
  have hz : z.length = z.cps.toList.length := by unfold Str.length; exact Array.length_toList.symm
  have e : Builtin.Str.strSliceIndices (some (i : Int)) (some ((i : Int) + 1)) 1 z.length = [] := by
    unfold Builtin.Str.strSliceIndices sliceRange
    have a1 : ¬ ((i : Int) < 0) := by omega
    have a2 : ¬ ((i : Int) + 1 < 0) := by omega
    have a3 : min (i : Int) (z.length : Int) = z.length := by omega
    have a4 : min ((i : Int) + 1) (z.length : Int) = z.length := by omega
    simp [a1, a2, a3, a4]
  unfold PySem.Txt.slice
  rw [e]
  split
  · rename_i q
    have q : z.length = 0 := by
      rw [Bool.and_eq_true] at q
      have := q.2
      rw [beq_iff_eq] at this
      exact this.symm
    rw [hz, List.length_eq_zero_iff] at q
    obtain ⟨⟨l⟩⟩ := z
    cases q
    rfl
  · rfl
def stops : List Nat := [41, 93, 43, 45, 38, 60, 61]
/-- where an expression ends -/
def Stop (post : List Nat) : Prop := post = [] ∨ ∃ c r, post = c :: r ∧ c ∈ stops
/-! ### what is written of an expression -/
def wr (s : Str) : List Nat := s.cps.toList
def exL : Ex → List Nat
  | .num i => wr (toString i : Str)
  | .nam x => wr x
  | .flg b => if b = true then wr "yes" else wr "no"
  | .pl x e => wr x ++ (91 :: exL e ++ [93])
  | .nt e => wr "not" ++ (40 :: exL e ++ [41])
  | .bin o a b => 40 :: (exL a ++ (wr o ++ (exL b ++ [41])))
theorem fig_all : ∀ a : _root_.Fin 64, ∀ b : _root_.Fin 64, wr (toString ((64 * a.val + b.val : Nat) : Int) : Str) = (if 64 * a.val + b.val < 10 then [64 * a.val + b.val] else if 64 * a.val + b.val < 100 then [(64 * a.val + b.val) / 10, (64 * a.val + b.val) % 10] else if 64 * a.val + b.val < 1000 then [(64 * a.val + b.val) / 100, (64 * a.val + b.val) / 10 % 10, (64 * a.val + b.val) % 10] else [(64 * a.val + b.val) / 1000, (64 * a.val + b.val) / 100 % 10, (64 * a.val + b.val) / 10 % 10, (64 * a.val + b.val) % 10]).map (· + 48) := by decide +kernel
theorem fig_of {i : Int} (h0 : 0 ≤ i) (h1 : i ≤ 4095) : ∃ ds : List Nat, wr (toString i : Str) = ds.map (· + 48) ∧ (∀ d ∈ ds, d < 10) ∧ ds ≠ [] ∧ ds.length ≤ 4 ∧ (numF ds : Int) = i ∧ (ds.head? = some 0 → ds = [0]) := by
  obtain ⟨n, rfl⟩ : ∃ n : Nat, i = (n : Int) := ⟨i.toNat, by omega⟩
  have e := fig_all ⟨n / 64, by omega⟩ ⟨n % 64, by omega⟩
  dsimp only at e
  rw [show 64 * (n / 64) + n % 64 = n by omega] at e
  have hn : n ≤ 4095 := by omega
  clear h0 h1
  refine ⟨_, e, ?_⟩
  clear e
  by_cases c1 : n < 10
  · rw [if_pos c1]
    refine ⟨fun d hd => ?_, by simp, by simp, ?_, fun h => ?_⟩
    · rw [List.mem_singleton] at hd; omega
    · show ((0 * 10 + n : Nat) : Int) = n; omega
    · have : n = 0 := Option.some.inj h
      rw [this]
  · rw [if_neg c1]
    by_cases c2 : n < 100
    · rw [if_pos c2]
      refine ⟨fun d hd => ?_, by simp, by simp, ?_, fun h => ?_⟩
      · simp only [List.mem_cons, List.not_mem_nil, or_false] at hd; omega
      · show (((0 * 10 + n / 10) * 10 + n % 10 : Nat) : Int) = n; omega
      · have : n / 10 = 0 := Option.some.inj h
        omega
    · rw [if_neg c2]
      by_cases c3 : n < 1000
      · rw [if_pos c3]
        refine ⟨fun d hd => ?_, by simp, by simp, ?_, fun h => ?_⟩
        · simp only [List.mem_cons, List.not_mem_nil, or_false] at hd; omega
        · show ((((0 * 10 + n / 100) * 10 + n / 10 % 10) * 10 + n % 10 : Nat) : Int) = n; omega
        · have : n / 100 = 0 := Option.some.inj h
          omega
      · rw [if_neg c3]
        refine ⟨fun d hd => ?_, by simp, by simp, ?_, fun h => ?_⟩
        · simp only [List.mem_cons, List.not_mem_nil, or_false] at hd; omega
        · show (((((0 * 10 + n / 1000) * 10 + n / 100 % 10) * 10 + n / 10 % 10) * 10 + n % 10 : Nat) : Int) = n; omega
        · have : n / 1000 = 0 := Option.some.inj h
          omega
theorem let_mem {c : Nat} : c ∈ wr "abcdefghijklmnopqrstuvwxyz" ↔ 97 ≤ c ∧ c < 123 := by
  have e : wr "abcdefghijklmnopqrstuvwxyz" = (List.range 26).map (· + 97) := by decide +kernel
  rw [e, List.mem_map]
  constructor
  · rintro ⟨d, hd, rfl⟩
    have := List.mem_range.mp hd
    omega
  · intro h
    exact ⟨c - 97, List.mem_range.mpr (by omega), by omega⟩
theorem fig_mem {c : Nat} : c ∈ wr "0123456789" ↔ 48 ≤ c ∧ c < 58 := by
  have e : wr "0123456789" = (List.range 10).map (· + 48) := by decide +kernel
  rw [e, List.mem_map]
  constructor
  · rintro ⟨d, hd, rfl⟩
    have := List.mem_range.mp hd
    omega
  · intro h
    exact ⟨c - 48, List.mem_range.mpr (by omega), by omega⟩
end K40

set_option Elab.async false
set_option linter.all false
set_option maxRecDepth 100000
set_option maxHeartbeats 4000000
namespace K40
open PySem L2
/-! ### gatetown.written and run_of -/
theorem wr_len (z : Str) : z.length = (wr z).length := by unfold wr Str.length; exact Array.length_toList.symm
theorem wr_at {z : Str} {i c : Nat} {r : List Nat} (h : (wr z).drop i = c :: r) : i < z.length ∧ z.cps[i]? = some c := by
  have hl : i < (wr z).length := by
    rcases Nat.lt_or_ge i (wr z).length with g | g
    · exact g
    · rw [List.drop_eq_nil_of_le g] at h; cases h
  refine ⟨by rw [wr_len]; exact hl, ?_⟩
  have := congrArg List.head? h
  rw [List.head?_drop] at this
  rw [← Array.getElem?_toList]
  exact this
theorem in_one (z : Str) (c : Nat) : (!(Builtin.Str.occurrences z ⟨#[c]⟩ 0 z.length 1).isEmpty) = decide (c ∈ wr z) := StrLaws.found_one z c
theorem itBF {b : Bool} {A B : Prop} (e : b = false) (h : B) : if b = true then A else B := by rw [e]; exact h
theorem itBT {b : Bool} {A B : Prop} (e : b = true) (h : A) : if b = true then A else B := by rw [e]; exact h
def sp_of : Sp := fun vs H Q _ => ∃ (z sg : Str), vs = [.str z, .str sg] ∧ z.length ≤ 1000 ∧ ∀ H', Same H H' → Q (.bl ((wr z).all fun c => decide (c ∈ wr sg))) H'
def sp_run : Sp := fun vs H Q _ => ∃ (z sg : Str) (i : Nat) (run post : List Nat), vs = [.str z, .int (i : Int), .str sg] ∧ z.length ≤ 100000 ∧ i ≤ z.length ∧ (wr z).drop i = run ++ post ∧ (∀ c ∈ run, c ∈ wr sg) ∧ (post = [] ∨ ∃ c r, post = c :: r ∧ c ∉ wr sg) ∧ Q (.str ⟨run.toArray⟩) H
def sp_nw : Sp := fun vs H Q _ => ∃ (z : Str) (ds : List Nat), vs = [.str z, .int 4095] ∧ wr z = ds.map (· + 48) ∧ (∀ d ∈ ds, d < 10) ∧ ds ≠ [] ∧ ds.length ≤ 4 ∧ (ds.head? = some 0 → ds = [0]) ∧ numF ds ≤ 4095 ∧ ∀ H', Same H H' → Q (.int (numF ds : Int)) H'
def sp_il : Sp := fun vs H Q _ => ∃ (z : Str), vs = [.str z, .int 8] ∧ 1 ≤ (wr z).length ∧ (wr z).length ≤ 8 ∧ (∀ c ∈ wr z, 97 ≤ c ∧ c < 123) ∧ ∀ H', Same H H' → Q (.bl true) H'
def sp_isn : Sp := fun vs H Q _ => ∃ (z : Str), vs = [.str z] ∧ NmOk z ∧ ∀ H', Same H H' → Q (.bl true) H'
def sp_na : Sp := fun vs H Q _ => ∃ (z : Str) (i : Nat) (n : Int) (post : List Nat), vs = [.str z, .int (i : Int)] ∧ z.length ≤ 100000 ∧ i ≤ z.length ∧ (wr z).drop i = exL (.num n) ++ post ∧ 0 ≤ n ∧ n ≤ 4095 ∧ Stop post ∧ ∀ (t : Addr) (v : V) (H' : Hp), Same H H' → ExAt H' (.num n) v → H' t = some (.tup [v, .int ((i + (exL (.num n)).length : Nat) : Int)]) → Q (.ref t) H'
section
variable {P : Program} {w : World} {K : PySem.W.Frag} {mg : Str → Option Value} {base : Heap}
theorem sc_are_of : FnScope ["text", "signs"] ["text", "signs"] (defScope s_are_of) := ⟨rfl, rfl, rfl, by decide +kernel, rfl, by decide +kernel, by decide +kernel⟩
theorem ok_are_of {f : Addr} {fd : FuncData} (F : Fun K "are_of" "are_of" s_are_of f fd) (T : Bt mg) : FnOk P w K mg base CX0 1 f fd ["text", "signs"] sp_of := by
  refine F.ok sc_are_of (fun vs H Q E h => ?_) (fun cdv A outer s H vs Q E hr h => ?_)
  · obtain ⟨z, sg, rfl, _⟩ := h; rfl
  · obtain ⟨z, sg, rfl, hz, q⟩ := h
    have hs : sizeLine = 16777216 := sizeLine_eq
    refine ⟨_, (pss_one (ps_ret (pe_callB (call_allB rfl) rfl T.b_all (by decide +kernel) (pa_consN (pe_comp rfl (blk_of (sc0 := defScope s_are_of) (N0 := ["text", "signs"]) (N' := ["sign", "signs"]) (own := 1) (fv := [1]) (by decide +kernel) rfl rfl) (pi_str (pv 0)) (fun _ _ _ _ => (pg_name (i := 0) (by show List.Nodup (["sign", "signs"] : List Str); decide +kernel) rfl (Or.inl rfl))) (fun _ _ _ _ => (pe_cmpR op_in_str (pv 0) (pv 1) (by with_unfolding_all rfl)))) pa_nil)))), ?_⟩
    refine ⟨_, rfl, z, rfl, ?_⟩
    refine comp_strF (fun c => V.bl (decide (c ∈ wr sg))) (by show z.length ≤ _; omega) (fun i c H1 R hc y1 r => ?_) (fun acc hacc => ?_)
    · refine ⟨_, rfl, _, rfl, _, _, rfl, rfl, ?_⟩
      rw [in_one]; exact r
    · refine ⟨acc, (wr z).map (fun c => decide (c ∈ wr sg)), rfl, SqL.of (by rw [upd_same, List.map_map]; rfl), ?_⟩
      have := q _ (Same.put (o := .lst (z.cps.toList.map fun c => V.bl (decide (c ∈ wr sg)))) hacc)
      rw [List.all_map]; exact this
theorem sc_run_of : FnScope ["text", "at", "signs", "behind"] ["text", "at", "signs"] (defScope s_run_of) := ⟨rfl, rfl, rfl, by decide +kernel, rfl, by decide +kernel, by decide +kernel⟩
theorem ok_run_of {f : Addr} {fd : FuncData} (F : Fun K "run_of" "run_of" s_run_of f fd) (T : Bt mg) : FnOk P w K mg base CX0 1 f fd ["text", "at", "signs"] sp_run := by
  refine F.ok sc_run_of (fun vs H Q E h => ?_) (fun cdv A outer s H vs Q E hr h => ?_)
  · obtain ⟨z, sg, i, run, post, rfl, _⟩ := h; rfl
  · obtain ⟨z, sg, i, run, post, rfl, hz, hi, hd, hr1, hp, q⟩ := h
    have hs : sizeLine = 16777216 := sizeLine_eq
    have hl := congrArg List.length hd
    rw [List.length_drop, List.length_append, ← wr_len] at hl
    refine ⟨_, (pss_cons (ps_set (i := 3) sc_run_of.nd rfl (Or.inl rfl) (pv 1))
      (pss_cons (ps_while PassesOwn.never (PW.pt (pw_and (pt_cmpR op_lt (pv 3) (pe_callB call_len_str rfl T.b_len (by decide +kernel) (pa_consN (pv 0) pa_nil)) (nomark _)) (pw_and1 (pt_cmpR op_in_str (pe_item_str (pv 0) (pv 3) (fun _ _ => rfl)) (pv 2) (by with_unfolding_all rfl)))))
        (pss_one (ps_set (i := 3) sc_run_of.nd rfl (Or.inl rfl) (pe_op op_add (pv 3) pe_int))))
      (pss_one (ps_ret (pe_slice sl_str (pv 0) (po_some (pv 1)) (po_some (pv 3))))))), ?_⟩
    refine ⟨_, rfl, ?_⟩
    refine ⟨fun m σ H2 => H2 = H ∧ ∃ k : Nat, k ≤ run.length ∧ m = run.length - k ∧ σ = [some (.str z), some (.int (i : Int)), some (.str sg), some (.int ((i + k : Nat) : Int))], ⟨_, rfl, 0, Nat.zero_le _, rfl, rfl⟩, ?_⟩
    rintro m σ H2 ⟨rfl, k, hk, rfl, rfl⟩
    have hdk : (wr z).drop (i + k) = run.drop k ++ post := by rw [← List.drop_drop, hd, List.drop_append_of_le_length hk]
    have fin : k = run.length → PySem.Txt.slice z (some (i : Int)) (some ((i + k : Nat) : Int)) = ⟨run.toArray⟩ := fun e => by
      subst e
      exact sliceR (by rw [wr_len] at hi; exact hi) hd
    refine ⟨_, rfl, _, rfl, _, rfl, (by omega), _, _, rfl, rfl, _, rfl, ?_⟩
    refine ite2 (fun h1 => ?_) (fun h1 => ?_)
    · rcases hx : run.drop k ++ post with _ | ⟨c, r⟩
      · have := congrArg List.length (hdk.trans hx)
        rw [List.length_drop, ← wr_len] at this
        have h1 := of_decide_eq_true h1
        simp only [List.length_nil] at this
        omega
      · have hc := wr_at (hdk.trans hx)
        refine ⟨_, rfl, _, rfl, z, _, c, rfl, rfl, by omega, by omega, by omega, by rw [show (((i + k : Nat) : Int)).toNat = i + k by omega]; exact hc.2, _, rfl, _, _, rfl, rfl, _, rfl, ?_⟩
        rw [in_one]
        by_cases hk1 : k < run.length
        · have hrk : run.drop k = run[k] :: run.drop (k + 1) := List.drop_eq_getElem_cons hk1
          rw [hrk] at hx
          have hcc : run[k] = c := by injection hx
          refine itDP (hr1 c (by rw [← hcc]; exact List.getElem_mem hk1)) ?_
          refine ⟨fun σ H3 => H3 = H2 ∧ σ = [some (.str z), some (.int (i : Int)), some (.str sg), some (.int ((i + (k + 1) : Nat) : Int))], fun σ H3 h => ⟨run.length - (k + 1), by omega, h.1, k + 1, hk1, rfl, h.2⟩, ?_⟩
          refine ⟨_, rfl, _, _, rfl, rfl, rfl, ?_⟩
          show [some (V.str z), some (V.int (i : Int)), some (V.str sg), some (V.int (((i + k : Nat) : Int) + 1))] = _
          rw [show ((i + k : Nat) : Int) + 1 = ((i + (k + 1) : Nat) : Int) by omega]
        · have hk2 : k = run.length := by omega
          have hx2 : post = c :: r := by rw [List.drop_eq_nil_of_le (by omega)] at hx; exact hx
          have hnc : c ∉ wr sg := by
            rcases hp with h | ⟨c', r', e, h⟩
            · rw [h] at hx2; cases hx2
            · rw [e] at hx2; injection hx2 with e1 e2; rw [← e1]; exact h
          refine itDN hnc ?_
          refine ⟨_, rfl, _, rfl, _, rfl, _, rfl, _, rfl, z, rfl, by omega, ?_⟩
          rw [fin hk2]; exact q
    · have h1 : ¬ ((i + k : Nat) : Int) < (z.length : Int) := fun g => h1 (decide_eq_true g)
      have hk2 : k = run.length := by omega
      refine ⟨_, rfl, _, rfl, _, rfl, _, rfl, _, rfl, z, rfl, by omega, ?_⟩
      rw [fin hk2]; exact q
theorem sc_number_written : FnScope ["text", "most", "number"] ["text", "most"] (defScope s_number_written) := ⟨rfl, rfl, rfl, by decide +kernel, rfl, by decide +kernel, by decide +kernel⟩
theorem ok_number_written {f f1 : Addr} {fd d1 : FuncData} (F : Fun K "number_written" "number_written" s_number_written f fd) (T : Bt mg) (C : Ct K mg) (T_are_of : Fn K mg "are_of" s_are_of ["text", "signs"] f1 d1) : FnOk P w K mg base CX0 2 f fd ["text", "most"] sp_nw := by
  have G_are_of := ok_are_of (P := P) (w := w) (base := base) T_are_of.F T
  refine F.ok sc_number_written (fun vs H Q E h => ?_) (fun cdv A outer s H vs Q E hr h => ?_)
  · obtain ⟨z, ds, rfl, _⟩ := h; rfl
  · obtain ⟨z, ds, rfl, hz, h10, h0, h4, hh, hm, q⟩ := h
    have hs : sizeLine = 16777216 := sizeLine_eq
    have hl : z.length = ds.length := by rw [wr_len, hz, List.length_map]
    have hl0 : 0 < ds.length := List.length_pos_iff.mpr h0
    refine ⟨_, (pss_cons (ps_if (PW.pt (pw_or (pt_cmpR op_eq (pv 0) pe_str (nomark _)) (pw_or (pt_cmpR op_gt (pe_callB call_len_str rfl T.b_len (by decide +kernel) (pa_consN (pv 0) pa_nil)) (pe_callB call_len_str rfl T.b_len (by decide +kernel) (pa_consN (pe_callTy call_str_int rfl T.b_str (by decide +kernel) (pa_consN (pv 1) pa_nil)) pa_nil)) (nomark _)) (pw_or1 (pt_not (pt_val (pe_call G_are_of (hr.mono (by decide)) rfl T_are_of.m T_are_of.F.kp T_are_of.b .nil pass0 (pa_consN (pv 0) (pa_consN (pe_glob (v := .str "0123456789") rfl C.k_FIGURES.choose_spec ⟨_, rfl⟩) pa_nil)))))))))
        (pss_one (ps_ret pe_non))
        pss_nil)
      (pss_cons (ps_if (PW.pt (pw_and (pt_cmpR op_eq (pe_item_str (pv 0) pe_int (fun _ _ => rfl)) pe_str (nomark _)) (pw_and1 (pt_cmpR op_ne (pv 0) pe_str (nomark _)))))
        (pss_one (ps_ret pe_non))
        pss_nil)
      (pss_cons (ps_set (i := 2) sc_number_written.nd rfl (Or.inl rfl) (pe_callTy call_intS rfl T.b_int (by decide +kernel) (pa_consN (pv 0) pa_nil)))
      (pss_one (ps_ret (pe_ifExp (pt_cmpR op_le (pv 2) (pv 1) (nomark _)) (pv 2) pe_non)))))), ?_⟩
    refine ⟨_, rfl, rfl, _, rfl, ite2 (fun h => ?_) (fun _ => ?_)⟩
    · have e : z = "" := V.str.inj (of_decide_eq_true h)
      rw [e] at hl
      have : ("" : Str).length = 0 := rfl
      omega
    have l4 : ((toString (4095 : Int) : Str)).length = 4 := by decide +kernel
    refine ⟨_, rfl, _, rfl, by omega, _, rfl, 4095, rfl, by decide +kernel, _, rfl, by omega, _, _, rfl, rfl, _, rfl, ite2 (fun h => ?_) (fun _ => ?_)⟩
    · have h : (z.length : Int) > ((toString (4095 : Int) : Str)).length := of_decide_eq_true h
      rw [l4, hl] at h
      omega
    refine ⟨_, rfl, z, _, rfl, by omega, fun H1 y1 => ?_⟩
    have ea : ((wr z).all fun c => decide (c ∈ wr "0123456789")) = true := by
      rw [List.all_eq_true]
      intro c hc
      rw [hz] at hc
      obtain ⟨d, hd, rfl⟩ := List.mem_map.mp hc
      have := h10 d hd
      exact decide_eq_true (fig_mem.mpr ⟨by omega, by omega⟩)
    rw [ea]
    refine ⟨_, rfl, iteF ?_⟩
    obtain ⟨d, r, rfl⟩ : ∃ d r, ds = d :: r := by
      cases ds with
      | nil => exact absurd rfl h0
      | cons d r => exact ⟨d, r, rfl⟩
    have hc := wr_at (z := z) (i := 0) (c := d + 48) (r := r.map (· + 48)) hz
    have go : ∀ D : Ends, D.rt = Q → tSeq (tAsg (tCB (fun xs H Q => ∃ x ds, xs = [V.str x] ∧ x.cps.toList = List.map (fun x => x + 48) ds ∧ (∀ (d : Nat), d ∈ ds → d < 10) ∧ ds ≠ [] ∧ ds.length ≤ 640 ∧ Q (V.int (numF ds : Int)) H) (tCons (tVar 0) tNil)) (gName 2)) (tRet (tIf (tTest (tOp (rI0 fun i j => V.bl (decide (i ≤ j))) (tVar 2) (tVar 1))) (tVar 2) (tC V.non))) D [some (.str z), some (.int 4095), none] H1 := fun D hD => by
      refine ⟨_, rfl, z, d :: r, rfl, hz, h10, h0, by omega, ?_⟩
      refine ⟨_, rfl, _, rfl, _, _, rfl, rfl, _, rfl, itDP (by omega) ⟨_, rfl, ?_⟩⟩
      rw [hD]
      exact q _ y1
    refine ⟨_, rfl, z, 0, d + 48, rfl, rfl, by decide, by decide, by omega, hc.2, rfl, _, rfl, ite2 (fun h => ?_) (fun _ => ?_)⟩
    · have hd0 : (⟨#[d + 48]⟩ : Str) = "0" := V.str.inj (of_decide_eq_true h)
      have hd1 : d = 0 := by
        have e : (⟨#[d + 48]⟩ : Str).cps.toList = wr "0" := congrArg wr hd0
        have e2 : wr "0" = [48] := by decide +kernel
        rw [e2] at e
        injection e with e3 e4
        omega
      have hz0 : z = "0" := by
        have e := hh (by rw [hd1]; rfl)
        rw [e] at hz
        obtain ⟨⟨l⟩⟩ := z
        have hz : l = [48] := hz
        rw [hz]; decide +kernel
      exact ⟨_, rfl, rfl, _, rfl, itBF (by rw [hz0]; simp) (go _ rfl)⟩
    · exact go _ rfl
theorem sc_is_lettered : FnScope ["text", "most"] ["text", "most"] (defScope s_is_lettered) := ⟨rfl, rfl, rfl, by decide +kernel, rfl, by decide +kernel, by decide +kernel⟩
theorem ok_is_lettered {f f1 : Addr} {fd d1 : FuncData} (F : Fun K "is_lettered" "is_lettered" s_is_lettered f fd) (T : Bt mg) (C : Ct K mg) (T_are_of : Fn K mg "are_of" s_are_of ["text", "signs"] f1 d1) : FnOk P w K mg base CX0 2 f fd ["text", "most"] sp_il := by
  have G_are_of := ok_are_of (P := P) (w := w) (base := base) T_are_of.F T
  refine F.ok sc_is_lettered (fun vs H Q E h => ?_) (fun cdv A outer s H vs Q E hr h => ?_)
  · obtain ⟨z, rfl, _⟩ := h; rfl
  · obtain ⟨z, rfl, h1, h8, hc, q⟩ := h
    have hs : sizeLine = 16777216 := sizeLine_eq
    have hl := wr_len z
    refine ⟨_, (pss_one (ps_ret (pe_and (pe_chain op_le op_le pe_int (pe_callB call_len_str rfl T.b_len (by decide +kernel) (pa_consN (pv 0) pa_nil)) (pv 1)) (pe_one (pe_call G_are_of (hr.mono (by decide)) rfl T_are_of.m T_are_of.F.kp T_are_of.b .nil pass0 (pa_consN (pv 0) (pa_consN (pe_glob (v := .str "abcdefghijklmnopqrstuvwxyz") rfl C.k_LETTERS.choose_spec ⟨_, rfl⟩) pa_nil))))))), ?_⟩
    have ea : ((wr z).all fun c => decide (c ∈ wr "abcdefghijklmnopqrstuvwxyz")) = true := by
      rw [List.all_eq_true]
      intro c hx
      exact decide_eq_true (let_mem.mpr (hc c hx))
    refine ⟨_, rfl, z, rfl, by omega, _, _, rfl, rfl, _, rfl, itDP (by omega) ⟨_, rfl, _, _, rfl, rfl, _, rfl, itDP (by omega) ?_⟩⟩
    refine ⟨_, rfl, z, _, rfl, by omega, fun H1 y1 => ?_⟩
    rw [ea]
    exact q _ y1
theorem sc_is_name : FnScope ["text"] ["text"] (defScope s_is_name) := ⟨rfl, rfl, rfl, by decide +kernel, rfl, by decide +kernel, by decide +kernel⟩
theorem ok_is_name {f f1 f2 : Addr} {fd d1 d2 : FuncData} (F : Fun K "is_name" "is_name" s_is_name f fd) (T : Bt mg) (C : Ct K mg) (T_are_of : Fn K mg "are_of" s_are_of ["text", "signs"] f1 d1) (T_is_lettered : Fn K mg "is_lettered" s_is_lettered ["text", "most"] f2 d2) : FnOk P w K mg base CX0 3 f fd ["text"] sp_isn := by
  have G_is_lettered := ok_is_lettered (P := P) (w := w) (base := base) T_is_lettered.F T C T_are_of
  refine F.ok sc_is_name (fun vs H Q E h => ?_) (fun cdv A outer s H vs Q E hr h => ?_)
  · obtain ⟨z, rfl, _⟩ := h; rfl
  · obtain ⟨z, rfl, ⟨_, h1, h8, hc, hn⟩, q⟩ := h
    refine ⟨_, (pss_one (ps_ret (pe_and (pe_call G_is_lettered (hr.mono (by decide)) rfl T_is_lettered.m T_is_lettered.F.kp T_is_lettered.b .nil pass0 (pa_consN (pv 0) (pa_consN (pe_glob (v := .int 8) rfl C.k_MOST_NAME.choose_spec ⟨_, rfl⟩) pa_nil))) (pe_one (pe_cmpR op_notIn_seq (pv 0) (pe_glob (v := .ref C.k_RESERVED.choose) rfl C.k_RESERVED.choose_spec.1 rfl) (by with_unfolding_all rfl)))))), ?_⟩
    refine ⟨_, rfl, z, rfl, h1, h8, hc, fun H1 y1 => ⟨_, rfl, iteT ?_⟩⟩
    refine ⟨_, rfl, _, _, rfl, .inr (C.k_RESERVED.choose_spec.2.1 H1), rfl, rfl, ?_⟩
    have e : inV (V.str z) (resv.map V.str) = false := by
      unfold inV
      rw [List.any_eq_false]
      intro y hy
      obtain ⟨x, hx, rfl⟩ := List.mem_map.mp hy
      intro h
      have h : (x == z) = true := h
      have h : x = z := eq_of_beq h
      exact hn (by rw [← h]; exact hx)
    show Q (.bl (!inV (V.str z) (resv.map V.str))) H1
    rw [e]
    exact q _ y1
theorem sc_number_at : FnScope ["text", "at", "figures", "number"] ["text", "at"] (defScope s_number_at) := ⟨rfl, rfl, rfl, by decide +kernel, rfl, by decide +kernel, by decide +kernel⟩
theorem ok_number_at {f f1 f2 f3 : Addr} {fd d1 d2 d3 : FuncData} (F : Fun K "number_at" "number_at" s_number_at f fd) (T : Bt mg) (C : Ct K mg) (T_are_of : Fn K mg "are_of" s_are_of ["text", "signs"] f1 d1) (T_run_of : Fn K mg "run_of" s_run_of ["text", "at", "signs"] f2 d2) (T_number_written : Fn K mg "number_written" s_number_written ["text", "most"] f3 d3) : FnOk P w K mg base CX0 3 f fd ["text", "at"] sp_na := by
  have G_run_of := ok_run_of (P := P) (w := w) (base := base) T_run_of.F T
  have G_number_written := ok_number_written (P := P) (w := w) (base := base) T_number_written.F T C T_are_of
  refine F.ok sc_number_at (fun vs H Q E h => ?_) (fun cdv A outer s H vs Q E hr h => ?_)
  · obtain ⟨z, i, n, post, rfl, _⟩ := h; rfl
  · obtain ⟨z, i, n, post, rfl, hz, hi, hd, n0, n1, hp, q⟩ := h
    have hs : sizeLine = 16777216 := sizeLine_eq
    obtain ⟨ds, e, h10, h0, h4, en, hh⟩ := fig_of n0 n1
    refine ⟨_, (pss_cons (ps_set (i := 2) sc_number_at.nd rfl (Or.inl rfl) (pe_call G_run_of (hr.mono (by decide)) rfl T_run_of.m T_run_of.F.kp T_run_of.b .nil pass0 (pa_consN (pv 0) (pa_consN (pv 1) (pa_consN (pe_glob (v := .str "0123456789") rfl C.k_FIGURES.choose_spec ⟨_, rfl⟩) pa_nil)))))
      (pss_cons (ps_set (i := 3) sc_number_at.nd rfl (Or.inl rfl) (pe_call G_number_written (hr.mono (by decide)) rfl T_number_written.m T_number_written.F.kp T_number_written.b .nil pass0 (pa_consN (pv 2) (pa_consN (pe_glob (v := .int 4095) rfl C.k_MOST_NUMBER.choose_spec ⟨_, rfl⟩) pa_nil))))
      (pss_one (ps_ret (pe_ifExp (pt_cmpR op_isN (pv 3) pe_non (nomark _)) pe_non (pe_tup (pa_consN (pe_tup (pa_consN pe_str (pa_consN (pv 3) pa_nil))) (pa_consN (pe_op op_add (pv 1) (pe_callB call_len_str rfl T.b_len (by decide +kernel) (pa_consN (pv 2) pa_nil))) pa_nil)))))))), ?_⟩
    have e' : exL (.num n) = ds.map (· + 48) := e
    have hlen : (exL (.num n)).length = ds.length := by rw [e', List.length_map]
    refine ⟨_, rfl, _, rfl, z, _, i, exL (.num n), post, rfl, hz, hi, hd, fun c hc => ?_, ?_, ?_⟩
    · rw [e'] at hc
      obtain ⟨d, hd, rfl⟩ := List.mem_map.mp hc
      have := h10 d hd
      exact fig_mem.mpr ⟨by omega, by omega⟩
    · rcases hp with h | ⟨c, r, h, hc⟩
      · exact .inl h
      · exact .inr ⟨c, r, h, fun z => by have := fig_mem.mp z; simp only [stops, List.mem_cons, List.not_mem_nil, or_false] at hc; omega⟩
    refine ⟨_, rfl, ⟨(exL (.num n)).toArray⟩, ds, rfl, e', h10, h0, h4, hh, by omega, fun H1 y1 => ?_⟩
    refine ⟨_, rfl, rfl, _, rfl, iteF ?_⟩
    refine ⟨_, rfl, (by show 2 ≤ sizeLine; omega), fun t ht => ?_⟩
    have hA : (⟨(exL (.num n)).toArray⟩ : Str).length = (exL (.num n)).length := rfl
    refine ⟨_, rfl, _, rfl, _, rfl, by omega, _, _, rfl, rfl, (by show 2 ≤ sizeLine; omega), fun p hp' => ?_⟩
    have y2 := Same.put (o := .tup [V.str "num", V.int (numF ds : Int)]) ht
    have e2 : upd H1 t (.tup [V.str "num", V.int (numF ds : Int)]) t = _ := upd_same
    rw [en] at y2 e2
    rw [en] at hp' ⊢
    refine q p (.ref t) _ ((y1.trans y2).trans (Same.put hp')) ⟨t, rfl, (Same.put hp') _ _ e2⟩ ?_
    rw [upd_same]
    show some (HO.tup [V.ref t, V.int ((i : Int) + ((⟨(exL (.num n)).toArray⟩ : Str).length : Int))]) = _
    rw [hA, show (i : Int) + ((exL (.num n)).length : Int) = ((i + (exL (.num n)).length : Nat) : Int) by omega]
end
end K40

set_option Elab.async false
set_option linter.all false
set_option maxRecDepth 100000
set_option maxHeartbeats 4000000
namespace K40
open PySem L2
/-! ### the brackets -/
theorem ne_one {x y : Str} (e : x = y) : (!decide (V.str x = V.str y)) = false := by rw [e]; simp
def sp_ex (n : Nat) : Sp := fun vs H Q _ => ∃ (z : Str) (i dp : Nat) (e : Ex) (post : List Nat), vs = [.str z, .int (i : Int), .int (dp : Int)] ∧ z.length ≤ 100000 ∧ i ≤ z.length ∧ (wr z).drop i = exL e ++ post ∧ e.Ok ∧ e.dep ≤ n ∧ dp + e.dep ≤ 8 ∧ Stop post ∧
  ∀ (t : Addr) (v : V) (H' : Hp), Same H H' → ExAt H' e v → H' t = some (.tup [v, .int ((i + (exL e).length : Nat) : Int)]) → Q (.ref t) H'
def sp_wi (n : Nat) : Sp := fun vs H Q _ => ∃ (z br : Str) (o c i dp : Nat) (e : Ex) (post : List Nat), vs = [.str z, .int (i : Int), .str br, .int (dp : Int)] ∧ wr br = [o, c] ∧ c ∈ stops ∧ z.length ≤ 100000 ∧ i ≤ z.length ∧ (wr z).drop i = o :: exL e ++ (c :: post) ∧ e.Ok ∧ e.dep ≤ n ∧ dp + e.dep + 1 ≤ 8 ∧
  ∀ (t : Addr) (v : V) (H' : Hp), Same H H' → ExAt H' e v → H' t = some (.tup [v, .int ((i + ((exL e).length + 2) : Nat) : Int)]) → Q (.ref t) H'
def sp_jo (n : Nat) : Sp := fun vs H Q _ => ∃ (z : Str) (i dp : Nat) (o : Str) (a b : Ex) (post : List Nat), vs = [.str z, .int (i : Int), .int (dp : Int)] ∧ z.length ≤ 100000 ∧ i ≤ z.length ∧ (wr z).drop i = exL (.bin o a b) ++ post ∧ (Ex.bin o a b).Ok ∧ max a.dep b.dep ≤ n ∧ dp + max a.dep b.dep + 1 ≤ 8 ∧
  ∀ (t : Addr) (v : V) (H' : Hp), Same H H' → ExAt H' (.bin o a b) v → H' t = some (.tup [v, .int ((i + (exL (.bin o a b)).length : Nat) : Int)]) → Q (.ref t) H'
theorem drop_more {l a b : List Nat} {i : Nat} (h : l.drop i = a ++ b) : l.drop (i + a.length) = b := by rw [← List.drop_drop, h, List.drop_left]
theorem drop_le {z : Str} {c i : Nat} {r : List Nat} (h : (wr z).drop i = c :: r) : i + 1 ≤ z.length ∧ (wr z).drop (i + 1) = r := by
  refine ⟨(wr_at h).1, ?_⟩
  rw [← List.drop_drop, h]; rfl
theorem op_len1 {o : Str} (h : o ∈ ops5) : ∃ c, o = ⟨#[c]⟩ ∧ wr o = [c] ∧ c ∈ stops := by
  unfold ops5 at h
  simp only [List.mem_cons, List.not_mem_nil, or_false] at h
  rcases h with rfl | rfl | rfl | rfl | rfl
  · exact ⟨43, by decide +kernel, by decide +kernel, by decide⟩
  · exact ⟨45, by decide +kernel, by decide +kernel, by decide⟩
  · exact ⟨38, by decide +kernel, by decide +kernel, by decide⟩
  · exact ⟨60, by decide +kernel, by decide +kernel, by decide⟩
  · exact ⟨61, by decide +kernel, by decide +kernel, by decide⟩
section
variable {P : Program} {w : World} {K : PySem.W.Frag} {mg : Str → Option Value} {base : Heap}
theorem sc_within_at : FnScope ["text", "at", "brackets", "depth", "inner"] ["text", "at", "brackets", "depth"] (defScope s_within_at) := ⟨rfl, rfl, rfl, by decide +kernel, rfl, by decide +kernel, by decide +kernel⟩
theorem wi_step {n k : Nat} {f f1 : Addr} {fd d1 : FuncData} (F : Fun K "within_at" "within_at" s_within_at f fd) (T : Bt mg) (C : Ct K mg) (T_expr_at : Fn K mg "expr_at" s_expr_at ["text", "at", "depth"] f1 d1) (G_expr_at : FnOk P w K mg base CX0 k f1 d1 ["text", "at", "depth"] (sp_ex n)) : FnOk P w K mg base CX0 (k + 1) f fd ["text", "at", "brackets", "depth"] (sp_wi n) := by
  refine F.ok (k := k) sc_within_at (fun vs H Q E h => ?_) (fun cdv A outer s H vs Q E hr h => ?_)
  · obtain ⟨z, br, o, c, i, dp, e, post, rfl, _⟩ := h; rfl
  · obtain ⟨z, br, o, c, i, dp, e, post, rfl, hb, hc, hz, hi, hd, ho, hn, h8, q⟩ := h
    have hs : sizeLine = 16777216 := sizeLine_eq
    refine ⟨_, (pss_cons (ps_if (PW.pt (pw_or (pt_cmpR op_ne (pe_slice sl_str (pv 0) (po_some (pv 1)) (po_some (pe_op op_add (pv 1) pe_int))) (pe_item_str (pv 2) pe_int (fun _ _ => rfl)) (nomark _)) (pw_or1 (pt_cmpR op_eq (pv 3) (pe_glob (v := .int 8) rfl C.k_MOST_BRACKETS.choose_spec ⟨_, rfl⟩) (nomark _)))))
        (pss_one (ps_ret pe_non))
        pss_nil)
      (pss_cons (ps_set (i := 4) sc_within_at.nd rfl (Or.inl rfl) (pe_call G_expr_at (hr.mono (by omega)) rfl T_expr_at.m T_expr_at.F.kp T_expr_at.b .nil pass0 (pa_consN (pv 0) (pa_consN (pe_op op_add (pv 1) pe_int) (pa_consN (pe_op op_add (pv 3) pe_int) pa_nil)))))
      (pss_cons (ps_if (PW.pt (pw_or (pt_cmpR op_isN (pv 4) pe_non (nomark _)) (pw_or1 (pt_cmpR op_ne (pe_slice sl_str (pv 0) (po_some (pe_ix ix_tup (pv 4) pe_int (fun _ _ => rfl))) (po_some (pe_op op_add (pe_ix ix_tup (pv 4) pe_int (fun _ _ => rfl)) pe_int))) (pe_item_str (pv 2) pe_int (fun _ _ => rfl)) (nomark _)))))
        (pss_one (ps_ret pe_non))
        pss_nil)
      (pss_one (ps_ret (pe_tup (pa_consN (pe_ix ix_tup (pv 4) pe_int (fun _ _ => rfl)) (pa_consN (pe_op op_add (pe_ix ix_tup (pv 4) pe_int (fun _ _ => rfl)) pe_int) pa_nil)))))))), ?_⟩
    have b0 := wr_at (z := br) (i := 0) (c := o) (r := [c]) hb
    have b1 := wr_at (z := br) (i := 1) (c := c) (r := []) (by rw [hb]; rfl)
    have hd1 := drop_le (hd : (wr z).drop i = o :: (exL e ++ (c :: post)))
    have hd2 : (wr z).drop (i + 1 + (exL e).length) = c :: post := drop_more hd1.2
    have hd3 := wr_at hd2
    refine ⟨_, rfl, _, rfl, _, rfl, _, rfl, _, _, rfl, rfl, _, rfl, z, rfl, by omega, _, rfl, br, 0, o, rfl, rfl, by decide, by decide, by omega, b0.2, rfl, _, rfl, itBF (ne_one (slice1 hd)) ?_⟩
    refine ⟨_, rfl, rfl, _, rfl, itDN (fun z => by have := V.int.inj z; omega) ?_⟩
    refine ⟨_, rfl, _, rfl, _, _, rfl, rfl, _, rfl, _, _, rfl, rfl, z, i + 1, dp + 1, e, c :: post, rfl, hz, hd1.1, hd1.2, ho, hn, by omega, .inr ⟨c, post, rfl, hc⟩, fun t v H1 y1 he et => ?_⟩
    refine ⟨_, rfl, rfl, _, rfl, iteF ?_⟩
    refine ⟨_, rfl, _, rfl, t, _, _, _, rfl, rfl, SqT.of et, rfl, _, rfl, _, rfl, t, _, _, _, rfl, rfl, SqT.of et, rfl, _, _, rfl, rfl, _, rfl, z, rfl, by omega, _, rfl, br, 1, c, rfl, rfl, by decide, by decide, by omega, b1.2, rfl, _, rfl, itBF (ne_one (slice1 hd2)) ?_⟩
    refine ⟨_, rfl, t, _, _, _, rfl, rfl, SqT.of et, rfl, _, rfl, t, _, _, _, rfl, rfl, SqT.of et, rfl, _, _, rfl, rfl, (by show 2 ≤ sizeLine; omega), fun p hp => ?_⟩
    refine q p v _ (y1.trans (Same.put hp)) (he.same (Same.put hp)) ?_
    rw [upd_same]
    show some (HO.tup [v, V.int (((i + 1 + (exL e).length : Nat) : Int) + 1)]) = _
    rw [show ((i + 1 + (exL e).length : Nat) : Int) + 1 = ((i + ((exL e).length + 2) : Nat) : Int) by omega]
end
end K40

set_option Elab.async false
set_option linter.all false
set_option maxRecDepth 100000
set_option maxHeartbeats 4000000
namespace K40
open PySem L2
section
variable {P : Program} {w : World} {K : PySem.W.Frag} {mg : Str → Option Value} {base : Heap}
theorem inV_str {o : Str} {l : List Str} (h : o ∈ l) : inV (V.str o) (l.map V.str) = true := by
  unfold inV
  rw [List.any_eq_true]
  refine ⟨V.str o, List.mem_map.mpr ⟨o, h, rfl⟩, ?_⟩
  show (o == o) = true
  exact beq_self_eq_true o
theorem inV_notstr {o : Str} {l : List Str} (h : o ∉ l) : inV (V.str o) (l.map V.str) = false := by
  unfold inV
  rw [List.any_eq_false]
  intro y hy
  obtain ⟨x, hx, rfl⟩ := List.mem_map.mp hy
  intro h'
  have h' : (x == o) = true := h'
  have h' : x = o := eq_of_beq h'
  exact h (by rw [← h']; exact hx)
theorem sc_joined_at : FnScope ["text", "at", "depth", "one", "join", "another"] ["text", "at", "depth"] (defScope s_joined_at) := ⟨rfl, rfl, rfl, by decide +kernel, rfl, by decide +kernel, by decide +kernel⟩
theorem jo_step {n k : Nat} {f f1 : Addr} {fd d1 : FuncData} (F : Fun K "joined_at" "joined_at" s_joined_at f fd) (T : Bt mg) (C : Ct K mg) (T_expr_at : Fn K mg "expr_at" s_expr_at ["text", "at", "depth"] f1 d1) (G_expr_at : FnOk P w K mg base CX0 k f1 d1 ["text", "at", "depth"] (sp_ex n)) : FnOk P w K mg base CX0 (k + 1) f fd ["text", "at", "depth"] (sp_jo n) := by
  refine F.ok (k := k) sc_joined_at (fun vs H Q E h => ?_) (fun cdv A outer s H vs Q E hr h => ?_)
  · obtain ⟨z, i, dp, o, a, b, post, rfl, _⟩ := h; rfl
  · obtain ⟨z, i, dp, o, a, b, post, rfl, hz, hi, hd, ⟨ho, oa, ob⟩, hn, h8, q⟩ := h
    have hs : sizeLine = 16777216 := sizeLine_eq
    obtain ⟨c, rfl, hwc, hcs⟩ := op_len1 ho
    refine ⟨_, (pss_cons (ps_if (pt_cmpR op_eq (pv 2) (pe_glob (v := .int 8) rfl C.k_MOST_BRACKETS.choose_spec ⟨_, rfl⟩) (nomark _))
        (pss_one (ps_ret pe_non))
        pss_nil)
      (pss_cons (ps_set (i := 3) sc_joined_at.nd rfl (Or.inl rfl) (pe_call G_expr_at (hr.mono (by omega)) rfl T_expr_at.m T_expr_at.F.kp T_expr_at.b .nil pass0 (pa_consN (pv 0) (pa_consN (pe_op op_add (pv 1) pe_int) (pa_consN (pe_op op_add (pv 2) pe_int) pa_nil)))))
      (pss_cons (ps_if (pt_cmpR op_isN (pv 3) pe_non (nomark _))
        (pss_one (ps_ret pe_non))
        pss_nil)
      (pss_cons (ps_set (i := 4) sc_joined_at.nd rfl (Or.inl rfl) (pe_slice sl_str (pv 0) (po_some (pe_ix ix_tup (pv 3) pe_int (fun _ _ => rfl))) (po_some (pe_op op_add (pe_ix ix_tup (pv 3) pe_int (fun _ _ => rfl)) pe_int))))
      (pss_cons (ps_if (pt_cmpR op_notIn_seq (pv 4) (pe_glob (v := .ref C.k_JOINS.choose) rfl C.k_JOINS.choose_spec.1 rfl) (by with_unfolding_all rfl))
        (pss_one (ps_ret pe_non))
        pss_nil)
      (pss_cons (ps_set (i := 5) sc_joined_at.nd rfl (Or.inl rfl) (pe_call G_expr_at (hr.mono (by omega)) rfl T_expr_at.m T_expr_at.F.kp T_expr_at.b .nil pass0 (pa_consN (pv 0) (pa_consN (pe_op op_add (pe_ix ix_tup (pv 3) pe_int (fun _ _ => rfl)) pe_int) (pa_consN (pe_op op_add (pv 2) pe_int) pa_nil)))))
      (pss_cons (ps_if (PW.pt (pw_or (pt_cmpR op_isN (pv 5) pe_non (nomark _)) (pw_or1 (pt_cmpR op_ne (pe_slice sl_str (pv 0) (po_some (pe_ix ix_tup (pv 5) pe_int (fun _ _ => rfl))) (po_some (pe_op op_add (pe_ix ix_tup (pv 5) pe_int (fun _ _ => rfl)) pe_int))) pe_str (nomark _)))))
        (pss_one (ps_ret pe_non))
        pss_nil)
      (pss_one (ps_ret (pe_tup (pa_consN (pe_tup (pa_consN (pv 4) (pa_consN (pe_ix ix_tup (pv 3) pe_int (fun _ _ => rfl)) (pa_consN (pe_ix ix_tup (pv 5) pe_int (fun _ _ => rfl)) pa_nil)))) (pa_consN (pe_op op_add (pe_ix ix_tup (pv 5) pe_int (fun _ _ => rfl)) pe_int) pa_nil)))))))))))), ?_⟩
    have hd : (wr z).drop i = 40 :: (exL a ++ (c :: (exL b ++ (41 :: post)))) := by
      rw [hd]; show 40 :: (exL a ++ (wr ⟨#[c]⟩ ++ (exL b ++ [41]))) ++ post = _
      rw [hwc]; simp
    have hd1 := drop_le hd
    have hd2 : (wr z).drop (i + 1 + (exL a).length) = c :: (exL b ++ (41 :: post)) := drop_more hd1.2
    have hd3 := drop_le hd2
    have hd4 : (wr z).drop (i + 1 + (exL a).length + 1 + (exL b).length) = 41 :: post := drop_more hd3.2
    have hd5 := wr_at hd4
    refine ⟨_, rfl, rfl, _, rfl, itDN (fun z => by have := V.int.inj z; omega) ?_⟩
    refine ⟨_, rfl, _, rfl, _, _, rfl, rfl, _, rfl, _, _, rfl, rfl, z, i + 1, dp + 1, a, c :: (exL b ++ (41 :: post)), rfl, hz, hd1.1, hd1.2, oa, by omega, by omega, .inr ⟨c, _, rfl, hcs⟩, fun t1 v1 H1 y1 he1 et1 => ?_⟩
    refine ⟨_, rfl, rfl, _, rfl, iteF ?_⟩
    refine ⟨_, rfl, _, rfl, t1, _, _, _, rfl, rfl, SqT.of et1, rfl, _, rfl, _, rfl, t1, _, _, _, rfl, rfl, SqT.of et1, rfl, _, _, rfl, rfl, _, rfl, z, rfl, by omega, ?_⟩
    have esl := slice1 hd2
    obtain ⟨sl, hsl⟩ : ∃ s, PySem.Txt.slice z (some ((i + 1 + (exL a).length : Nat) : Int)) (some (((i + 1 + (exL a).length : Nat) : Int) + 1)) = s := ⟨_, rfl⟩
    have es : sl = ⟨#[c]⟩ := hsl.symm.trans esl
    show _
    refine ⟨_, rfl, _, _, rfl, .inr (C.k_JOINS.choose_spec.2.1 H1), rfl, rfl, _, rfl, itBF ?_ ?_⟩
    · show (!inV (V.str (PySem.Txt.slice z (some ((i + 1 + (exL a).length : Nat) : Int)) (some (((i + 1 + (exL a).length : Nat) : Int) + 1)))) (ops5.map V.str)) = false
      rw [esl, inV_str ho]; rfl
    refine ⟨_, rfl, _, rfl, t1, _, _, _, rfl, rfl, SqT.of et1, rfl, _, _, rfl, rfl, _, rfl, _, _, rfl, rfl, z, i + 1 + (exL a).length + 1, dp + 1, b, 41 :: post, rfl, hz, hd3.1, hd3.2, ob, by omega, by omega, .inr ⟨41, _, rfl, by decide⟩, fun t2 v2 H2 y2 he2 et2 => ?_⟩
    have et1' := y2 _ _ et1
    refine ⟨_, rfl, rfl, _, rfl, iteF ?_⟩
    refine ⟨_, rfl, _, rfl, t2, _, _, _, rfl, rfl, SqT.of et2, rfl, _, rfl, _, rfl, t2, _, _, _, rfl, rfl, SqT.of et2, rfl, _, _, rfl, rfl, _, rfl, z, rfl, by omega, rfl, _, rfl, itBF (ne_one ((slice1 hd4).trans (by decide +kernel))) ?_⟩
    refine ⟨_, rfl, _, rfl, t1, _, _, _, rfl, rfl, SqT.of et1', rfl, _, rfl, t2, _, _, _, rfl, rfl, SqT.of et2, rfl, (by show 3 ≤ sizeLine; omega), fun p hp => ?_⟩
    have y3 := Same.put (o := .tup [V.str (PySem.Txt.slice z (some ((i + 1 + (exL a).length : Nat) : Int)) (some (((i + 1 + (exL a).length : Nat) : Int) + 1))), v1, v2]) hp
    refine ⟨_, rfl, t2, _, _, _, rfl, rfl, SqT.of (y3 _ _ et2), rfl, _, _, rfl, rfl, (by show 2 ≤ sizeLine; omega), fun r hr' => ?_⟩
    have y4 := Same.put (o := .tup [V.ref p, V.int (((i + 1 + (exL a).length + 1 + (exL b).length : Nat) : Int) + 1)]) hr'
    refine q r (.ref p) _ (((y1.trans y2).trans y3).trans y4) ⟨p, v1, v2, rfl, ?_, (((he1.same y2).same y3).same y4), ((he2.same y3).same y4)⟩ ?_
    · refine y4 _ _ ?_
      rw [upd_same, esl]
    · rw [upd_same]
      show some (HO.tup [V.ref p, V.int (((i + 1 + (exL a).length + 1 + (exL b).length : Nat) : Int) + 1)]) = _
      have : (exL (.bin ⟨#[c]⟩ a b)).length = (exL a).length + (exL b).length + 3 := by
        show (40 :: (exL a ++ (wr ⟨#[c]⟩ ++ (exL b ++ [41])))).length = _
        rw [hwc]; simp; omega
      rw [this, show ((i + 1 + (exL a).length + 1 + (exL b).length : Nat) : Int) + 1 = ((i + ((exL a).length + (exL b).length + 3) : Nat) : Int) by omega]
end
end K40

set_option Elab.async false
set_option linter.all false
set_option maxRecDepth 100000
set_option maxHeartbeats 4000000
namespace K40
open PySem L2
/-! ### what begins with a letter -/
def Lt (x : Str) : Ex → Prop
  | .nam y => x = y
  | .flg b => x = if b = true then "yes" else "no"
  | .pl y _ => x = y
  | .nt _ => x = "not"
  | _ => False
def sp_le (n : Nat) : Sp := fun vs H Q _ => ∃ (z x : Str) (i dp : Nat) (e : Ex) (post : List Nat), vs = [.str z, .int (i : Int), .str x, .int (dp : Int)] ∧ Lt x e ∧ z.length ≤ 100000 ∧ i ≤ z.length ∧ (wr z).drop i = exL e ++ post ∧ e.Ok ∧ e.dep ≤ n ∧ dp + e.dep ≤ 8 ∧ Stop post ∧
  ∀ (t : Addr) (v : V) (H' : Hp), Same H H' → ExAt H' e v → H' t = some (.tup [v, .int ((i + (exL e).length : Nat) : Int)]) → Q (.ref t) H'
theorem stop_slice {z : Str} {i : Nat} {post : List Nat} (h : (wr z).drop i = post) (hp : Stop post) : (!decide (V.str (PySem.Txt.slice z (some (i : Int)) (some ((i : Int) + 1))) = V.str "[")) = true := by
  have e : wr "[" = [91] := by decide +kernel
  rw [Bool.not_eq_true', decide_eq_false_iff_not]
  intro hq
  have hq := congrArg wr (V.str.inj hq)
  rw [e] at hq
  rcases hp with rfl | ⟨c, r, rfl, hc⟩
  · rw [slice0 h] at hq; cases hq
  · rw [slice1 h] at hq
    have hq : [c] = [91] := hq
    injection hq with hq _
    subst hq
    revert hc; decide
section
variable {P : Program} {w : World} {K : PySem.W.Frag} {mg : Str → Option Value} {base : Heap}
theorem sc_lettered_at : FnScope ["text", "at", "letters", "depth", "behind", "inner"] ["text", "at", "letters", "depth"] (defScope s_lettered_at) := ⟨rfl, rfl, rfl, by decide +kernel, rfl, by decide +kernel, by decide +kernel⟩
theorem le_step {n k : Nat} {pw : Sp} {f f1 f2 f3 f4 : Addr} {fd d1 d2 d3 d4 : FuncData} (hk : 3 ≤ k) (F : Fun K "lettered_at" "lettered_at" s_lettered_at f fd) (T : Bt mg) (C : Ct K mg) (T_are_of : Fn K mg "are_of" s_are_of ["text", "signs"] f1 d1) (T_is_lettered : Fn K mg "is_lettered" s_is_lettered ["text", "most"] f2 d2) (T_is_name : Fn K mg "is_name" s_is_name ["text"] f3 d3) (T_within_at : Fn K mg "within_at" s_within_at ["text", "at", "brackets", "depth"] f4 d4)
    (hp : n = 0 ∨ ∃ m, n = m + 1 ∧ pw = sp_wi m) (G_within_at : FnOk P w K mg base CX0 k f4 d4 ["text", "at", "brackets", "depth"] pw) : FnOk P w K mg base CX0 (k + 1) f fd ["text", "at", "letters", "depth"] (sp_le n) := by
  have G_is_name := ok_is_name (P := P) (w := w) (base := base) T_is_name.F T C T_are_of T_is_lettered
  refine F.ok (k := k) sc_lettered_at (fun vs H Q E h => ?_) (fun cdv A outer s H vs Q E hr h => ?_)
  · obtain ⟨z, x, i, dp, e, post, rfl, _⟩ := h; rfl
  · obtain ⟨z, x, i, dp, e, post, rfl, hx, hz, hi, hd, ho, hn, h8, hst, q⟩ := h
    have hs : sizeLine = 16777216 := sizeLine_eq
    refine ⟨_, (pss_cons (ps_set (i := 4) sc_lettered_at.nd rfl (Or.inl rfl) (pe_op op_add (pv 1) (pe_callB call_len_str rfl T.b_len (by decide +kernel) (pa_consN (pv 2) pa_nil))))
      (pss_cons (ps_if (pt_cmpR op_in_seq (pv 2) (pe_tup (pa_consN pe_str (pa_consN pe_str pa_nil))) (by with_unfolding_all rfl))
        (pss_one (ps_ret (pe_tup (pa_consN (pe_tup (pa_consN pe_str (pa_consN (pe_cmpR op_eq (pv 2) pe_str (nomark _)) pa_nil))) (pa_consN (pv 4) pa_nil)))))
        pss_nil)
      (pss_cons (ps_if (pt_cmpR op_eq (pv 2) pe_str (nomark _))
        (pss_cons (ps_set (i := 5) sc_lettered_at.nd rfl (Or.inl rfl) (pe_call G_within_at (hr.mono (by omega)) rfl T_within_at.m T_within_at.F.kp T_within_at.b .nil pass0 (pa_consN (pv 0) (pa_consN (pv 4) (pa_consN pe_str (pa_consN (pv 3) pa_nil))))))
        (pss_one (ps_ret (pe_ifExp (pt_cmpR op_isN (pv 5) pe_non (nomark _)) pe_non (pe_tup (pa_consN (pe_tup (pa_consN pe_str (pa_consN (pe_ix ix_tup (pv 5) pe_int (fun _ _ => rfl)) pa_nil))) (pa_consN (pe_ix ix_tup (pv 5) pe_int (fun _ _ => rfl)) pa_nil)))))))
        pss_nil)
      (pss_cons (ps_if (pt_not (pt_val (pe_call G_is_name (hr.mono (by omega)) rfl T_is_name.m T_is_name.F.kp T_is_name.b .nil pass0 (pa_consN (pv 2) pa_nil))))
        (pss_one (ps_ret pe_non))
        pss_nil)
      (pss_cons (ps_if (pt_cmpR op_ne (pe_slice sl_str (pv 0) (po_some (pv 4)) (po_some (pe_op op_add (pv 4) pe_int))) pe_str (nomark _))
        (pss_one (ps_ret (pe_tup (pa_consN (pe_tup (pa_consN pe_str (pa_consN (pv 2) pa_nil))) (pa_consN (pv 4) pa_nil)))))
        pss_nil)
      (pss_cons (ps_set (i := 5) sc_lettered_at.nd rfl (Or.inl rfl) (pe_call G_within_at (hr.mono (by omega)) rfl T_within_at.m T_within_at.F.kp T_within_at.b .nil pass0 (pa_consN (pv 0) (pa_consN (pv 4) (pa_consN pe_str (pa_consN (pv 3) pa_nil))))))
      (pss_one (ps_ret (pe_ifExp (pt_cmpR op_isN (pv 5) pe_non (nomark _)) pe_non (pe_tup (pa_consN (pe_tup (pa_consN pe_str (pa_consN (pv 2) (pa_consN (pe_ix ix_tup (pv 5) pe_int (fun _ _ => rfl)) pa_nil)))) (pa_consN (pe_ix ix_tup (pv 5) pe_int (fun _ _ => rfl)) pa_nil)))))))))))), ?_⟩
    have hle := congrArg List.length hd
    rw [List.length_drop, List.length_append, ← wr_len] at hle
    cases e with
    | num i => exact hx.elim
    | bin o a b => exact hx.elim
    | flg b =>
      have hl : x.length = (exL (.flg b)).length := by
        rw [show x = if b = true then "yes" else "no" from hx]; cases b <;> decide +kernel
      refine ⟨_, rfl, _, rfl, x, rfl, by omega, _, _, rfl, rfl, ?_⟩
      refine ⟨_, rfl, (by show 2 ≤ sizeLine; omega), fun tp htp => ⟨tp, _, rfl, .inr (SqT.of upd_same), rfl, rfl, _, rfl, itBT ?_ ?_⟩⟩
      · show inV (V.str x) [V.str "yes", V.str "no"] = true
        rw [show x = if b = true then "yes" else "no" from hx]; cases b <;> decide +kernel
      have y0 := Same.put (o := .tup [V.str "yes", V.str "no"]) htp
      refine ⟨_, rfl, rfl, (by show 2 ≤ sizeLine; omega), fun p hp => ⟨_, rfl, (by show 2 ≤ sizeLine; omega), fun r hr' => ?_⟩⟩
      have eb : decide (V.str x = V.str "yes") = b := by
        rw [show x = if b = true then "yes" else "no" from hx]; cases b <;> decide +kernel
      have y1 := Same.put (o := .tup [V.str "flag", V.bl (decide (V.str x = V.str "yes"))]) hp
      refine q r (.ref p) _ ((y0.trans y1).trans (Same.put hr')) ⟨p, rfl, (Same.put hr') _ _ ?_⟩ ?_
      · rw [upd_same, eb]
      · rw [upd_same, ← hl]; rfl
    | nam y =>
      have hx : x = y := hx
      subst hx
      have hnm : NmOk x := ho
      have hl : x.length = (exL (.nam x)).length := wr_len x
      refine ⟨_, rfl, _, rfl, x, rfl, by omega, _, _, rfl, rfl, ?_⟩
      refine ⟨_, rfl, (by show 2 ≤ sizeLine; omega), fun tp htp => ⟨tp, _, rfl, .inr (SqT.of upd_same), rfl, rfl, _, rfl, itBF ?_ ?_⟩⟩
      · exact inV_notstr (l := ["yes", "no"]) fun h => hnm.2.2.2.2 (by revert h; simp only [List.mem_cons, List.not_mem_nil, or_false]; rintro (rfl | rfl) <;> decide +kernel)
      have y0 := Same.put (o := .tup [V.str "yes", V.str "no"]) htp
      refine ⟨_, rfl, rfl, _, rfl, itDN (fun h => hnm.2.2.2.2 (by rw [V.str.inj h]; decide +kernel)) ?_⟩
      refine ⟨_, rfl, x, rfl, hnm, fun H2 y2 => ⟨_, rfl, iteF ?_⟩⟩
      have hd2 : (wr z).drop (i + x.length) = post := by rw [hl]; exact drop_more hd
      refine ⟨_, rfl, _, rfl, _, rfl, _, rfl, _, _, rfl, rfl, _, rfl, z, rfl, by omega, rfl, _, rfl, itBT (stop_slice hd2 hst) ?_⟩
      refine ⟨_, rfl, (by show 2 ≤ sizeLine; omega), fun p hp => ⟨_, rfl, (by show 2 ≤ sizeLine; omega), fun r hr' => ?_⟩⟩
      have y1 := Same.put (o := .tup [V.str "name", V.str x]) hp
      refine q r (.ref p) _ (((y0.trans y2).trans y1).trans (Same.put hr')) ⟨p, rfl, (Same.put hr') _ _ upd_same⟩ ?_
      rw [upd_same, ← hl]; rfl
    | nt e =>
      have hx : x = "not" := hx
      have hl : x.length = 3 := by rw [hx]; decide +kernel
      rcases hp with h | ⟨m, rfl, rfl⟩
      · have hn : e.dep + 1 ≤ n := hn
        omega
      have hn : e.dep + 1 ≤ m + 1 := hn
      have h8 : dp + (e.dep + 1) ≤ 8 := h8
      refine ⟨_, rfl, _, rfl, x, rfl, by omega, _, _, rfl, rfl, ?_⟩
      refine ⟨_, rfl, (by show 2 ≤ sizeLine; omega), fun tp htp => ⟨tp, _, rfl, .inr (SqT.of upd_same), rfl, rfl, _, rfl, itBF ?_ ?_⟩⟩
      · show inV (V.str x) [V.str "yes", V.str "no"] = false
        rw [hx]; decide +kernel
      have y0 := Same.put (o := .tup [V.str "yes", V.str "no"]) htp
      refine ⟨_, rfl, rfl, _, rfl, itDP (congrArg V.str hx) ?_⟩
      have hd2 : (wr z).drop (i + x.length) = 40 :: exL e ++ (41 :: post) := by
        rw [wr_len, hx]
        refine drop_more (a := wr "not") ?_
        rw [hd]
        show wr "not" ++ (40 :: exL e ++ [41]) ++ post = _
        simp
      refine ⟨_, rfl, _, rfl, _, rfl, z, "()", 40, 41, i + x.length, dp, e, post, rfl, by decide +kernel, by decide, hz, by have := (drop_le hd2).1; omega, hd2, ho, by omega, by omega, fun t v H2 y2 he et => ?_⟩
      refine ⟨_, rfl, rfl, _, rfl, iteF ?_⟩
      refine ⟨_, rfl, t, _, _, _, rfl, rfl, SqT.of et, rfl, (by show 2 ≤ sizeLine; omega), fun p hp => ?_⟩
      have y1 := Same.put (o := .tup [V.str "not", v]) hp
      refine ⟨_, rfl, t, _, _, _, rfl, rfl, SqT.of (y1 _ _ et), rfl, (by show 2 ≤ sizeLine; omega), fun r hr' => ?_⟩
      refine q r (.ref p) _ (((y0.trans y2).trans y1).trans (Same.put hr')) ⟨p, v, rfl, (Same.put hr') _ _ upd_same, (he.same y1).same (Same.put hr')⟩ ?_
      rw [upd_same]
      have : (exL (.nt e)).length = (exL e).length + 5 := by
        show (wr "not" ++ (40 :: exL e ++ [41])).length = _
        rw [show wr "not" = [110, 111, 116] by decide +kernel]; simp
      rw [this, hl, show i + 3 + ((exL e).length + 2) = i + ((exL e).length + 5) by omega]
    | pl y e =>
      have hx : x = y := hx
      subst hx
      have hnm : NmOk x := ho.1
      rcases hp with h | ⟨m, rfl, rfl⟩
      · have hn : e.dep + 1 ≤ n := hn
        omega
      have hn : e.dep + 1 ≤ m + 1 := hn
      have h8 : dp + (e.dep + 1) ≤ 8 := h8
      have hl8 := hnm.2.2.1
      have hxl : x.length = (wr x).length := wr_len x
      have hl8 : (wr x).length ≤ 8 := hl8
      refine ⟨_, rfl, _, rfl, x, rfl, by omega, _, _, rfl, rfl, ?_⟩
      refine ⟨_, rfl, (by show 2 ≤ sizeLine; omega), fun tp htp => ⟨tp, _, rfl, .inr (SqT.of upd_same), rfl, rfl, _, rfl, itBF ?_ ?_⟩⟩
      · exact inV_notstr (l := ["yes", "no"]) fun h => hnm.2.2.2.2 (by revert h; simp only [List.mem_cons, List.not_mem_nil, or_false]; rintro (rfl | rfl) <;> decide +kernel)
      have y0 := Same.put (o := .tup [V.str "yes", V.str "no"]) htp
      refine ⟨_, rfl, rfl, _, rfl, itDN (fun h => hnm.2.2.2.2 (by rw [V.str.inj h]; decide +kernel)) ?_⟩
      refine ⟨_, rfl, x, rfl, hnm, fun H2 y2 => ⟨_, rfl, iteF ?_⟩⟩
      have hd2 : (wr z).drop (i + x.length) = 91 :: exL e ++ (93 :: post) := by
        rw [wr_len]
        refine drop_more (a := wr x) ?_
        rw [hd]
        show wr x ++ (91 :: exL e ++ [93]) ++ post = _
        simp
      refine ⟨_, rfl, _, rfl, _, rfl, _, rfl, _, _, rfl, rfl, _, rfl, z, rfl, by omega, rfl, _, rfl, itBF (ne_one ((slice1 hd2).trans (by decide +kernel))) ?_⟩
      refine ⟨_, rfl, _, rfl, _, rfl, z, "[]", 91, 93, i + x.length, dp, e, post, rfl, by decide +kernel, by decide, hz, by have := (drop_le hd2).1; omega, hd2, ho.2, by omega, by omega, fun t v H3 y3 he et => ?_⟩
      refine ⟨_, rfl, rfl, _, rfl, iteF ?_⟩
      refine ⟨_, rfl, _, rfl, t, _, _, _, rfl, rfl, SqT.of et, rfl, (by show 3 ≤ sizeLine; omega), fun p hp => ?_⟩
      have y1 := Same.put (o := .tup [V.str "at", V.str x, v]) hp
      refine ⟨_, rfl, t, _, _, _, rfl, rfl, SqT.of (y1 _ _ et), rfl, (by show 2 ≤ sizeLine; omega), fun r hr' => ?_⟩
      refine q r (.ref p) _ ((((y0.trans y2).trans y3).trans y1).trans (Same.put hr')) ⟨p, v, rfl, (Same.put hr') _ _ upd_same, (he.same y1).same (Same.put hr')⟩ ?_
      rw [upd_same]
      have : (exL (.pl x e)).length = x.length + ((exL e).length + 2) := by
        show (wr x ++ (91 :: exL e ++ [93])).length = _
        rw [wr_len]; simp
      rw [this, show i + x.length + ((exL e).length + 2) = i + (x.length + ((exL e).length + 2)) by omega]
end
end K40

set_option Elab.async false
set_option linter.all false
set_option maxRecDepth 100000
set_option maxHeartbeats 4000000
namespace K40
open PySem L2
/-! ### an expression -/
theorem str_wr (x : Str) : (⟨(wr x).toArray⟩ : Str) = x := by obtain ⟨⟨l⟩⟩ := x; rfl
theorem not_let {c : Nat} (h : c < 97) : c ∉ wr "abcdefghijklmnopqrstuvwxyz" := fun z => by have := let_mem.mp z; omega
theorem stop_let {post : List Nat} (h : Stop post) : post = [] ∨ ∃ c r, post = c :: r ∧ c ∉ wr "abcdefghijklmnopqrstuvwxyz" := by
  rcases h with h | ⟨c, r, h, hc⟩
  · exact .inl h
  · exact .inr ⟨c, r, h, not_let (by simp only [stops, List.mem_cons, List.not_mem_nil, or_false] at hc; omega)⟩
/-- what begins with a letter: its letters, and the rest -/
theorem lt_run {e : Ex} {post : List Nat} (ho : e.Ok) (hst : Stop post) (h : ∃ x, Lt x e) : ∃ x rest, Lt x e ∧ exL e ++ post = wr x ++ rest ∧ (∀ c ∈ wr x, c ∈ wr "abcdefghijklmnopqrstuvwxyz") ∧ (rest = [] ∨ ∃ c r, rest = c :: r ∧ c ∉ wr "abcdefghijklmnopqrstuvwxyz") ∧ wr x ≠ [] := by
  have nm : ∀ {x : Str}, NmOk x → (∀ c ∈ wr x, c ∈ wr "abcdefghijklmnopqrstuvwxyz") ∧ wr x ≠ [] := by
    intro x h
    refine ⟨fun c hc => let_mem.mpr (h.2.2.2.1 c hc), fun z => ?_⟩
    have h1 : 1 ≤ (wr x).length := h.2.1
    rw [z] at h1
    exact absurd h1 (by decide)
  cases e with
  | num i => obtain ⟨x, h⟩ := h; exact h.elim
  | bin o a b => obtain ⟨x, h⟩ := h; exact h.elim
  | nam x => exact ⟨x, post, rfl, rfl, (nm ho).1, stop_let hst, (nm ho).2⟩
  | flg b =>
    refine ⟨_, post, rfl, ?_, ?_, stop_let hst, ?_⟩
    · cases b <;> rfl
    · cases b <;> decide +kernel
    · cases b <;> decide +kernel
  | pl x e =>
    refine ⟨x, 91 :: exL e ++ (93 :: post), rfl, ?_, (nm ho.1).1, .inr ⟨91, _, rfl, not_let (by decide)⟩, (nm ho.1).2⟩
    show wr x ++ (91 :: exL e ++ [93]) ++ post = _
    simp
  | nt e =>
    refine ⟨"not", 40 :: exL e ++ (41 :: post), rfl, ?_, by decide +kernel, .inr ⟨40, _, rfl, not_let (by decide)⟩, by decide +kernel⟩
    show wr "not" ++ (40 :: exL e ++ [41]) ++ post = _
    simp
section
variable {P : Program} {w : World} {K : PySem.W.Frag} {mg : Str → Option Value} {base : Heap}
theorem sc_expr_at : FnScope ["text", "at", "depth", "letters"] ["text", "at", "depth"] (defScope s_expr_at) := ⟨rfl, rfl, rfl, by decide +kernel, rfl, by decide +kernel, by decide +kernel⟩
theorem ex_step {n k kl kj : Nat} {pj : Sp} {f f1 f2 f3 f4 f5 f6 : Addr} {fd d1 d2 d3 d4 d5 d6 : FuncData} (hk : 3 ≤ k) (hkl : kl ≤ k) (hkj : kj ≤ k) (F : Fun K "expr_at" "expr_at" s_expr_at f fd) (T : Bt mg) (C : Ct K mg) (T_are_of : Fn K mg "are_of" s_are_of ["text", "signs"] f1 d1) (T_run_of : Fn K mg "run_of" s_run_of ["text", "at", "signs"] f2 d2) (T_number_written : Fn K mg "number_written" s_number_written ["text", "most"] f3 d3) (T_number_at : Fn K mg "number_at" s_number_at ["text", "at"] f4 d4) (T_lettered_at : Fn K mg "lettered_at" s_lettered_at ["text", "at", "letters", "depth"] f5 d5) (T_joined_at : Fn K mg "joined_at" s_joined_at ["text", "at", "depth"] f6 d6)
    (hp : n = 0 ∨ ∃ m, n = m + 1 ∧ pj = sp_jo m) (G_lettered_at : FnOk P w K mg base CX0 kl f5 d5 ["text", "at", "letters", "depth"] (sp_le n)) (G_joined_at : FnOk P w K mg base CX0 kj f6 d6 ["text", "at", "depth"] pj) : FnOk P w K mg base CX0 (k + 1) f fd ["text", "at", "depth"] (sp_ex n) := by
  have G_run_of := ok_run_of (P := P) (w := w) (base := base) T_run_of.F T
  have G_number_at := ok_number_at (P := P) (w := w) (base := base) T_number_at.F T C T_are_of T_run_of T_number_written
  refine F.ok (k := k) sc_expr_at (fun vs H Q E h => ?_) (fun cdv A outer s H vs Q E hr h => ?_)
  · obtain ⟨z, i, dp, e, post, rfl, _⟩ := h; rfl
  · obtain ⟨z, i, dp, e, post, rfl, hz, hi, hd, ho, hn, h8, hst, q⟩ := h
    have hs : sizeLine = 16777216 := sizeLine_eq
    refine ⟨_, (pss_cons (ps_set (i := 3) sc_expr_at.nd rfl (Or.inl rfl) (pe_call G_run_of (hr.mono (by omega)) rfl T_run_of.m T_run_of.F.kp T_run_of.b .nil pass0 (pa_consN (pv 0) (pa_consN (pv 1) (pa_consN (pe_glob (v := .str "abcdefghijklmnopqrstuvwxyz") rfl C.k_LETTERS.choose_spec ⟨_, rfl⟩) pa_nil)))))
      (pss_cons (ps_if (pt_cmpR op_ne (pv 3) pe_str (nomark _))
        (pss_one (ps_ret (pe_call G_lettered_at (hr.mono (by omega)) rfl T_lettered_at.m T_lettered_at.F.kp T_lettered_at.b .nil pass0 (pa_consN (pv 0) (pa_consN (pv 1) (pa_consN (pv 3) (pa_consN (pv 2) pa_nil)))))))
        pss_nil)
      (pss_cons (ps_if (pt_cmpR op_eq (pe_slice sl_str (pv 0) (po_some (pv 1)) (po_some (pe_op op_add (pv 1) pe_int))) pe_str (nomark _))
        (pss_one (ps_ret (pe_call G_joined_at (hr.mono (by omega)) rfl T_joined_at.m T_joined_at.F.kp T_joined_at.b .nil pass0 (pa_consN (pv 0) (pa_consN (pv 1) (pa_consN (pv 2) pa_nil))))))
        pss_nil)
      (pss_one (ps_ret (pe_call G_number_at (hr.mono (by omega)) rfl T_number_at.m T_number_at.F.kp T_number_at.b .nil pass0 (pa_consN (pv 0) (pa_consN (pv 1) pa_nil)))))))), ?_⟩
    have eE : wr "" = [] := by decide +kernel
    by_cases hL : ∃ x, Lt x e
    · obtain ⟨x, rest, hx, hdx, hl, hr1, hne⟩ := lt_run ho hst hL
      refine ⟨_, rfl, _, rfl, z, _, i, wr x, rest, rfl, hz, hi, hd.trans hdx, hl, hr1, ?_⟩
      rw [str_wr]
      refine ⟨_, rfl, rfl, _, rfl, itBT ?_ ?_⟩
      · rw [Bool.not_eq_true', decide_eq_false_iff_not]
        intro h
        apply hne
        rw [V.str.inj h, eE]
      exact ⟨_, rfl, _, rfl, _, rfl, _, rfl, z, x, i, dp, e, post, rfl, hx, hz, hi, hd, ho, hn, h8, hst, q⟩
    · have main : ∀ (c : Nat) (r : List Nat), exL e ++ post = c :: r → c < 97 → ∃ c' r', exL e ++ post = c' :: r' ∧ c' ∉ wr "abcdefghijklmnopqrstuvwxyz" := fun c r h hc => ⟨c, r, h, not_let hc⟩
      cases e with
      | nam x => exact absurd ⟨x, rfl⟩ hL
      | flg b => exact absurd ⟨_, rfl⟩ hL
      | pl x e => exact absurd ⟨x, rfl⟩ hL
      | nt e => exact absurd ⟨_, rfl⟩ hL
      | num v =>
        obtain ⟨ds, ed, h10, h0, h4, en, hh⟩ := fig_of ho.1 ho.2
        obtain ⟨d, r, rfl⟩ : ∃ d r, ds = d :: r := by
          cases ds with
          | nil => exact absurd rfl h0
          | cons d r => exact ⟨d, r, rfl⟩
        have hd10 := h10 d List.mem_cons_self
        have hc : exL (.num v) ++ post = (d + 48) :: (r.map (· + 48) ++ post) := by
          show wr _ ++ post = _
          rw [ed]; rfl
        refine ⟨_, rfl, _, rfl, z, _, i, [], exL (.num v) ++ post, rfl, hz, hi, hd, (fun c hc => by cases hc), .inr ⟨_, _, hc, not_let (by omega)⟩, ?_⟩
        refine ⟨_, rfl, rfl, _, rfl, itBF (ne_one (by decide +kernel)) ?_⟩
        refine ⟨_, rfl, _, rfl, _, rfl, _, rfl, _, _, rfl, rfl, _, rfl, z, rfl, by omega, rfl, _, rfl, itDN ?_ ?_⟩
        · intro h
          have h := V.str.inj h
          have e1 := slice1 (hd.trans hc)
          have h2 : (⟨#[d + 48]⟩ : Str) = "(" := e1.symm.trans h
          have h3 : wr ⟨#[d + 48]⟩ = [40] := by rw [h2]; decide +kernel
          have h3 : [d + 48] = [40] := h3
          injection h3 with h3 _
          omega
        exact ⟨_, rfl, _, rfl, z, i, v, post, rfl, hz, hi, hd, ho.1, ho.2, hst, q⟩
      | bin o a b =>
        rcases hp with h | ⟨m, rfl, rfl⟩
        · have hn : max a.dep b.dep + 1 ≤ n := hn
          omega
        have hn : max a.dep b.dep + 1 ≤ m + 1 := hn
        have h8 : dp + (max a.dep b.dep + 1) ≤ 8 := h8
        have hc : exL (.bin o a b) ++ post = 40 :: ((exL a ++ (wr o ++ (exL b ++ [41]))) ++ post) := rfl
        refine ⟨_, rfl, _, rfl, z, _, i, [], exL (.bin o a b) ++ post, rfl, hz, hi, hd, (fun c hc => by cases hc), .inr ⟨_, _, hc, not_let (by decide)⟩, ?_⟩
        refine ⟨_, rfl, rfl, _, rfl, itBF (ne_one (by decide +kernel)) ?_⟩
        refine ⟨_, rfl, _, rfl, _, rfl, _, rfl, _, _, rfl, rfl, _, rfl, z, rfl, by omega, rfl, _, rfl, itDP (congrArg V.str ((slice1 (hd.trans hc)).trans (by decide +kernel))) ?_⟩
        exact ⟨_, rfl, _, rfl, _, rfl, z, i, dp, o, a, b, post, rfl, hz, hi, hd, ho, by omega, by omega, q⟩
end
end K40

set_option Elab.async false
set_option linter.all false
set_option maxRecDepth 100000
set_option maxHeartbeats 4000000
namespace K40
open PySem L2
def sp_eo : Sp := fun vs H Q _ => ∃ (z : Str) (e : Ex), vs = [.str z] ∧ wr z = exL e ∧ e.Ok ∧ e.dep ≤ 8 ∧ z.length ≤ 100000 ∧ ∀ (v : V) (H' : Hp), Same H H' → ExAt H' e v → Q v H'
section
variable {P : Program} {w : World} {K : PySem.W.Frag} {mg : Str → Option Value} {base : Heap}
theorem ok_expr_at {f f1 f2 f3 f4 f5 f6 f7 f8 f9 : Addr} {fd d1 d2 d3 d4 d5 d6 d7 d8 d9 : FuncData} (T : Bt mg) (C : Ct K mg) (T_are_of : Fn K mg "are_of" s_are_of ["text", "signs"] f1 d1) (T_run_of : Fn K mg "run_of" s_run_of ["text", "at", "signs"] f2 d2) (T_number_written : Fn K mg "number_written" s_number_written ["text", "most"] f3 d3) (T_number_at : Fn K mg "number_at" s_number_at ["text", "at"] f4 d4) (T_lettered_at : Fn K mg "lettered_at" s_lettered_at ["text", "at", "letters", "depth"] f5 d5) (T_joined_at : Fn K mg "joined_at" s_joined_at ["text", "at", "depth"] f6 d6) (T_within_at : Fn K mg "within_at" s_within_at ["text", "at", "brackets", "depth"] f7 d7) (T_is_lettered : Fn K mg "is_lettered" s_is_lettered ["text", "most"] f8 d8) (T_is_name : Fn K mg "is_name" s_is_name ["text"] f9 d9) (T_expr_at : Fn K mg "expr_at" s_expr_at ["text", "at", "depth"] f fd) :
    ∀ n : Nat, FnOk P w K mg base CX0 (3 * n + 5) f fd ["text", "at", "depth"] (sp_ex n)
  | 0 => ex_step (k := 4) (kl := 4) (kj := 3) (by decide) (by decide) (by decide) T_expr_at.F T C T_are_of T_run_of T_number_written T_number_at T_lettered_at T_joined_at (.inl rfl)
      (le_step (k := 3) (by decide) T_lettered_at.F T C T_are_of T_is_lettered T_is_name T_within_at (.inl rfl) (T_within_at.F.ok (k := 2) (sp := fun _ _ _ _ => False) sc_within_at (fun _ _ _ _ h => h.elim) (fun _ _ _ _ _ _ _ _ _ h => h.elim)))
      (T_joined_at.F.ok (k := 2) (sp := fun _ _ _ _ => False) sc_joined_at (fun _ _ _ _ h => h.elim) (fun _ _ _ _ _ _ _ _ _ h => h.elim))
  | n + 1 => by
    have G := ok_expr_at T C T_are_of T_run_of T_number_written T_number_at T_lettered_at T_joined_at T_within_at T_is_lettered T_is_name T_expr_at n
    have W := wi_step T_within_at.F T C T_expr_at G
    have J := jo_step T_joined_at.F T C T_expr_at G
    have L := le_step (n := n + 1) (by omega) T_lettered_at.F T C T_are_of T_is_lettered T_is_name T_within_at (.inr ⟨n, rfl, rfl⟩) W
    exact ex_step (n := n + 1) (k := 3 * n + 7) (by omega) (by omega) (by omega) T_expr_at.F T C T_are_of T_run_of T_number_written T_number_at T_lettered_at T_joined_at (.inr ⟨n, rfl, rfl⟩) L J
theorem sc_expr_of : FnScope ["text", "found"] ["text"] (defScope s_expr_of) := ⟨rfl, rfl, rfl, by decide +kernel, rfl, by decide +kernel, by decide +kernel⟩
theorem ok_expr_of {f f1 : Addr} {fd d1 : FuncData} (F : Fun K "expr_of" "expr_of" s_expr_of f fd) (T : Bt mg) (T_expr_at : Fn K mg "expr_at" s_expr_at ["text", "at", "depth"] f1 d1) (G_expr_at : FnOk P w K mg base CX0 29 f1 d1 ["text", "at", "depth"] (sp_ex 8)) : FnOk P w K mg base CX0 30 f fd ["text"] sp_eo := by
  refine F.ok (k := 29) sc_expr_of (fun vs H Q E h => ?_) (fun cdv A outer s H vs Q E hr h => ?_)
  · obtain ⟨z, e, rfl, _⟩ := h; rfl
  · obtain ⟨z, e, rfl, hw, ho, h8, hz, q⟩ := h
    have hs : sizeLine = 16777216 := sizeLine_eq
    have hl : (exL e).length = z.length := by rw [← hw, ← wr_len]
    refine ⟨_, (pss_cons (ps_set (i := 1) sc_expr_of.nd rfl (Or.inl rfl) (pe_call G_expr_at (hr.mono (by decide)) rfl T_expr_at.m T_expr_at.F.kp T_expr_at.b .nil pass0 (pa_consN (pv 0) (pa_consN pe_int (pa_consN pe_int pa_nil)))))
      (pss_cons (ps_if (PW.pt (pw_or (pt_cmpR op_isN (pv 1) pe_non (nomark _)) (pw_or1 (pt_cmpR op_ne (pe_ix ix_tup (pv 1) pe_int (fun _ _ => rfl)) (pe_callB call_len_str rfl T.b_len (by decide +kernel) (pa_consN (pv 0) pa_nil)) (nomark _)))))
        (pss_one (ps_ret pe_non))
        pss_nil)
      (pss_one (ps_ret (pe_ix ix_tup (pv 1) pe_int (fun _ _ => rfl)))))), ?_⟩
    refine ⟨_, rfl, z, 0, 0, e, [], rfl, hz, Nat.zero_le _, by rw [hw]; simp, ho, h8, by omega, .inl rfl, fun t v H1 y1 he et => ?_⟩
    refine ⟨_, rfl, rfl, _, rfl, iteF ?_⟩
    rw [Nat.zero_add, hl] at et
    refine ⟨_, rfl, t, _, _, _, rfl, rfl, SqT.of et, rfl, _, rfl, z, rfl, by omega, rfl, _, rfl, itBF (by simp) ?_⟩
    exact ⟨_, rfl, t, _, _, _, rfl, rfl, SqT.of et, rfl, q v H1 y1 he⟩
end
end K40

set_option Elab.async false
set_option linter.all false
set_option maxRecDepth 100000
set_option maxHeartbeats 4000000
namespace K40
open PySem L2
/-! ### what the law writes of an expression -/
theorem wr_app (a b : Str) : wr (a ++ b) = wr a ++ wr b := by
  obtain ⟨⟨a⟩⟩ := a; obtain ⟨⟨b⟩⟩ := b
  show (Array.mk a ++ Array.mk b).toList = a ++ b
  simp
theorem ex_len : ∀ {e : Ex}, e.Ok → (exL e).length + 4 ≤ 16 * 2 ^ e.dep
  | .num i, h => by
    obtain ⟨ds, ed, _, _, h4, _, _⟩ := fig_of h.1 h.2
    show (wr _).length + 4 ≤ 16 * 2 ^ 0
    rw [ed, List.length_map]; omega
  | .nam x, h => by
    have h8 : (wr x).length ≤ 8 := h.2.2.1
    show (wr x).length + 4 ≤ 16 * 2 ^ 0
    omega
  | .flg b, _ => by cases b <;> decide +kernel
  | .pl x e, h => by
    have h8 : (wr x).length ≤ 8 := h.1.2.2.1
    have ih := ex_len h.2
    have p := Nat.one_le_two_pow (n := e.dep)
    show (wr x ++ (91 :: exL e ++ [93])).length + 4 ≤ 16 * 2 ^ (e.dep + 1)
    rw [Nat.pow_succ]; simp; omega
  | .nt e, h => by
    have ih := ex_len (e := e) h
    have p := Nat.one_le_two_pow (n := e.dep)
    show (wr "not" ++ (40 :: exL e ++ [41])).length + 4 ≤ 16 * 2 ^ (e.dep + 1)
    rw [Nat.pow_succ, show wr "not" = [110, 111, 116] by decide +kernel]; simp; omega
  | .bin o a b, h => by
    have iha := ex_len h.2.1
    have ihb := ex_len h.2.2
    obtain ⟨c, rfl, hwc, _⟩ := op_len1 h.1
    have pa : 2 ^ a.dep ≤ 2 ^ max a.dep b.dep := Nat.pow_le_pow_right (by decide) (Nat.le_max_left _ _)
    have pb : 2 ^ b.dep ≤ 2 ^ max a.dep b.dep := Nat.pow_le_pow_right (by decide) (Nat.le_max_right _ _)
    show (40 :: (exL a ++ (wr ⟨#[c]⟩ ++ (exL b ++ [41])))).length + 4 ≤ 16 * 2 ^ (max a.dep b.dep + 1)
    rw [Nat.pow_succ, hwc]; simp; omega
theorem ex_len8 {e : Ex} (h : e.Ok) (h8 : e.dep ≤ 8) : (exL e).length ≤ 4092 := by
  have := ex_len h
  have p : 2 ^ e.dep ≤ 2 ^ 8 := Nat.pow_le_pow_right (by decide) h8
  have : 2 ^ 8 = 256 := by decide
  omega
def sp_tx (n : Nat) : Sp := fun vs H Q _ => ∃ (v : V) (e : Ex), vs = [v] ∧ ExAt H e v ∧ e.Ok ∧ e.dep ≤ n ∧ e.dep ≤ 8 ∧ ∀ (x : Str) (H' : Hp), Same H H' → wr x = exL e → Q (.str x) H'
theorem op_not : ∀ o ∈ ops5, ∀ x ∈ (["num", "flag", "name", "at", "not"] : List Str), o ≠ x := by decide +kernel
section
variable {P : Program} {w : World} {K : PySem.W.Frag} {mg : Str → Option Value} {base : Heap}
theorem sc_law_expr_text : FnScope ["_law_expr_here"] ["_law_expr_here"] (defScope s_law_expr_text) := ⟨rfl, rfl, rfl, by decide +kernel, rfl, by decide +kernel, by decide +kernel⟩
theorem tx_step {n k : Nat} {prev : Sp} {f : Addr} {fd : FuncData} (T : Bt mg) (T_law_expr_text : Fn K mg "_law_expr_text" s_law_expr_text ["_law_expr_here"] f fd) (hp : n = 0 ∨ ∃ m, n = m + 1 ∧ prev = sp_tx m) (G_law_expr_text : FnOk P w K mg base CX0 k f fd ["_law_expr_here"] prev) : FnOk P w K mg base CX0 (k + 1) f fd ["_law_expr_here"] (sp_tx n) := by
  refine T_law_expr_text.F.ok (k := k) sc_law_expr_text (fun vs H Q E h => ?_) (fun cdv A outer s H vs Q E hr h => ?_)
  · obtain ⟨v, e, rfl, _⟩ := h; rfl
  · obtain ⟨v, e, rfl, he, ho, hn, h8, q⟩ := h
    have hs : sizeLine = 16777216 := sizeLine_eq
    have hlen := ex_len8 ho h8
    refine ⟨_, (pss_cons (ps_if (pt_cmpR op_eq (pe_ix ix_tup (pv 0) pe_int (fun _ _ => rfl)) pe_str (nomark _))
        (pss_one (ps_ret (pe_callTy call_str_int rfl T.b_str (by decide +kernel) (pa_consN (pe_ix ix_tup (pv 0) pe_int (fun _ _ => rfl)) pa_nil))))
        pss_nil)
      (pss_cons (ps_if (pt_cmpR op_eq (pe_ix ix_tup (pv 0) pe_int (fun _ _ => rfl)) pe_str (nomark _))
        (pss_one (ps_ret (pe_ix ix_list (pe_lst (pa_consN pe_str (pa_consN pe_str pa_nil))) (pe_callTy call_int1 rfl T.b_int (by decide +kernel) (pa_consN (pe_ix ix_tup (pv 0) pe_int (fun _ _ => rfl)) pa_nil)) (fun _ _ => rfl))))
        pss_nil)
      (pss_cons (ps_if (pt_cmpR op_eq (pe_ix ix_tup (pv 0) pe_int (fun _ _ => rfl)) pe_str (nomark _))
        (pss_one (ps_ret (pe_ix ix_tup (pv 0) pe_int (fun _ _ => rfl))))
        pss_nil)
      (pss_cons (ps_if (pt_cmpR op_eq (pe_ix ix_tup (pv 0) pe_int (fun _ _ => rfl)) pe_str (nomark _))
        (pss_one (ps_ret (pe_op op_add_str (pe_op op_add_str (pe_op op_add_str (pe_ix ix_tup (pv 0) pe_int (fun _ _ => rfl)) pe_str) (pe_call G_law_expr_text (hr.mono (by omega)) rfl T_law_expr_text.m T_law_expr_text.F.kp T_law_expr_text.b .nil pass0 (pa_consN (pe_ix ix_tup (pv 0) pe_int (fun _ _ => rfl)) pa_nil))) pe_str)))
        pss_nil)
      (pss_cons (ps_if (pt_cmpR op_eq (pe_ix ix_tup (pv 0) pe_int (fun _ _ => rfl)) pe_str (nomark _))
        (pss_one (ps_ret (pe_op op_add_str (pe_op op_add_str pe_str (pe_call G_law_expr_text (hr.mono (by omega)) rfl T_law_expr_text.m T_law_expr_text.F.kp T_law_expr_text.b .nil pass0 (pa_consN (pe_ix ix_tup (pv 0) pe_int (fun _ _ => rfl)) pa_nil))) pe_str)))
        pss_nil)
      (pss_one (ps_ret (pe_op op_add_str (pe_op op_add_str (pe_op op_add_str (pe_op op_add_str pe_str (pe_call G_law_expr_text (hr.mono (by omega)) rfl T_law_expr_text.m T_law_expr_text.F.kp T_law_expr_text.b .nil pass0 (pa_consN (pe_ix ix_tup (pv 0) pe_int (fun _ _ => rfl)) pa_nil))) (pe_ix ix_tup (pv 0) pe_int (fun _ _ => rfl))) (pe_call G_law_expr_text (hr.mono (by omega)) rfl T_law_expr_text.m T_law_expr_text.F.kp T_law_expr_text.b .nil pass0 (pa_consN (pe_ix ix_tup (pv 0) pe_int (fun _ _ => rfl)) pa_nil))) pe_str)))))))), ?_⟩
    cases e with
    | num i =>
      obtain ⟨t, rfl, et⟩ := he
      have h0 := ho.1
      have h1 := ho.2
      refine ⟨_, rfl, t, _, _, _, rfl, rfl, SqT.of et, rfl, rfl, _, rfl, itDP rfl ?_⟩
      refine ⟨_, rfl, t, _, _, _, rfl, rfl, SqT.of et, rfl, i, rfl, ?_, q _ _ (Same.refl _) rfl⟩
      rcases Nat.eq_zero_or_pos i.natAbs with z | z
      · rw [z]; decide
      · have : i.natAbs.log2 < 12 := (Nat.log2_lt (by omega)).mpr (by have : 2 ^ 12 = 4096 := by decide
                                                                      omega)
        omega
    | flg b =>
      obtain ⟨t, rfl, et⟩ := he
      refine ⟨_, rfl, t, _, _, _, rfl, rfl, SqT.of et, rfl, rfl, _, rfl, itDN (by decide +kernel) ?_⟩
      refine ⟨_, rfl, t, _, _, _, rfl, rfl, SqT.of et, rfl, rfl, _, rfl, itDP rfl ?_⟩
      refine ⟨(by show 2 ≤ sizeLine; omega), fun l hl => ?_⟩
      have y := Same.put (o := .lst [V.str "no", V.str "yes"]) hl
      refine ⟨_, rfl, t, _, _, _, rfl, rfl, SqT.of (y _ _ et), rfl, .inr ⟨b, rfl, ?_⟩⟩
      cases b
      · exact ⟨l, _, _, _, rfl, rfl, SqL.of upd_same, rfl, q _ _ y rfl⟩
      · exact ⟨l, _, _, _, rfl, rfl, SqL.of upd_same, rfl, q _ _ y rfl⟩
    | nam x =>
      obtain ⟨t, rfl, et⟩ := he
      refine ⟨_, rfl, t, _, _, _, rfl, rfl, SqT.of et, rfl, rfl, _, rfl, itDN (by decide +kernel) ?_⟩
      refine ⟨_, rfl, t, _, _, _, rfl, rfl, SqT.of et, rfl, rfl, _, rfl, itDN (by decide +kernel) ?_⟩
      refine ⟨_, rfl, t, _, _, _, rfl, rfl, SqT.of et, rfl, rfl, _, rfl, itDP rfl ?_⟩
      exact ⟨_, rfl, t, _, _, _, rfl, rfl, SqT.of et, rfl, q _ _ (Same.refl _) rfl⟩
    | pl x e =>
      obtain ⟨t, u, rfl, et, hu⟩ := he
      rcases hp with h | ⟨m, rfl, rfl⟩
      · have hn : e.dep + 1 ≤ n := hn
        omega
      have hn : e.dep + 1 ≤ m + 1 := hn
      have h8 : e.dep + 1 ≤ 8 := h8
      refine ⟨_, rfl, t, _, _, _, rfl, rfl, SqT.of et, rfl, rfl, _, rfl, itDN (by decide +kernel) ?_⟩
      refine ⟨_, rfl, t, _, _, _, rfl, rfl, SqT.of et, rfl, rfl, _, rfl, itDN (by decide +kernel) ?_⟩
      refine ⟨_, rfl, t, _, _, _, rfl, rfl, SqT.of et, rfl, rfl, _, rfl, itDN (by decide +kernel) ?_⟩
      refine ⟨_, rfl, t, _, _, _, rfl, rfl, SqT.of et, rfl, rfl, _, rfl, itDP rfl ?_⟩
      have hx8 : (wr x).length ≤ 8 := ho.1.2.2.1
      have l1 : ("[" : Str).length = 1 := by decide +kernel
      have l2 : ("]" : Str).length = 1 := by decide +kernel
      have le := ex_len8 ho.2 (by omega)
      have lx := wr_len x
      refine ⟨_, rfl, t, _, _, _, rfl, rfl, SqT.of et, rfl, x, _, rfl, rfl, by omega, ?_⟩
      refine ⟨_, rfl, t, _, _, _, rfl, rfl, SqT.of et, rfl, u, e, rfl, hu, ho.2, by omega, by omega, fun y H1 y1 hy => ?_⟩
      have ly : y.length = (exL e).length := by rw [wr_len, hy]
      have la : (x ++ ("[" : Str)).length = x.length + 1 := by rw [wr_len, wr_app, List.length_append, ← wr_len, ← wr_len, l1]
      have lb : (x ++ ("[" : Str) ++ y).length = x.length + 1 + y.length := by rw [wr_len, wr_app, List.length_append, ← wr_len, ← wr_len, la]
      refine ⟨_, _, rfl, rfl, by omega, _, _, rfl, rfl, by omega, q _ _ y1 ?_⟩
      rw [wr_app, wr_app, wr_app, hy, show wr "[" = [91] by decide +kernel, show wr "]" = [93] by decide +kernel]
      show _ = wr x ++ (91 :: exL e ++ [93])
      simp
    | nt e =>
      obtain ⟨t, u, rfl, et, hu⟩ := he
      rcases hp with h | ⟨m, rfl, rfl⟩
      · have hn : e.dep + 1 ≤ n := hn
        omega
      have hn : e.dep + 1 ≤ m + 1 := hn
      have h8 : e.dep + 1 ≤ 8 := h8
      have ho : e.Ok := ho
      refine ⟨_, rfl, t, _, _, _, rfl, rfl, SqT.of et, rfl, rfl, _, rfl, itDN (by decide +kernel) ?_⟩
      refine ⟨_, rfl, t, _, _, _, rfl, rfl, SqT.of et, rfl, rfl, _, rfl, itDN (by decide +kernel) ?_⟩
      refine ⟨_, rfl, t, _, _, _, rfl, rfl, SqT.of et, rfl, rfl, _, rfl, itDN (by decide +kernel) ?_⟩
      refine ⟨_, rfl, t, _, _, _, rfl, rfl, SqT.of et, rfl, rfl, _, rfl, itDN (by decide +kernel) ?_⟩
      refine ⟨_, rfl, t, _, _, _, rfl, rfl, SqT.of et, rfl, rfl, _, rfl, itDP rfl ?_⟩
      have l1 : ("not(" : Str).length = 4 := by decide +kernel
      have l2 : (")" : Str).length = 1 := by decide +kernel
      have le := ex_len8 ho (by omega)
      refine ⟨_, rfl, t, _, _, _, rfl, rfl, SqT.of et, rfl, u, e, rfl, hu, ho, by omega, by omega, fun y H1 y1 hy => ?_⟩
      have ly : y.length = (exL e).length := by rw [wr_len, hy]
      have la : (("not(" : Str) ++ y).length = 4 + y.length := by rw [wr_len, wr_app, List.length_append, ← wr_len, ← wr_len, l1]
      refine ⟨_, _, rfl, rfl, by omega, _, _, rfl, rfl, by omega, q _ _ y1 ?_⟩
      rw [wr_app, wr_app, hy, show wr "not(" = [110, 111, 116, 40] by decide +kernel, show wr ")" = [41] by decide +kernel]
      show _ = wr "not" ++ (40 :: exL e ++ [41])
      rw [show wr "not" = [110, 111, 116] by decide +kernel]
      simp
    | bin o a b =>
      obtain ⟨t, u1, u2, rfl, et, ha, hb⟩ := he
      rcases hp with h | ⟨m, rfl, rfl⟩
      · have hn : max a.dep b.dep + 1 ≤ n := hn
        omega
      have hn : max a.dep b.dep + 1 ≤ m + 1 := hn
      have h8 : max a.dep b.dep + 1 ≤ 8 := h8
      have on := op_not o ho.1
      obtain ⟨c, hoc, hwc, _⟩ := op_len1 ho.1
      refine ⟨_, rfl, t, _, _, _, rfl, rfl, SqT.of et, rfl, rfl, _, rfl, itDN (fun z => on _ (by decide +kernel) (V.str.inj z)) ?_⟩
      refine ⟨_, rfl, t, _, _, _, rfl, rfl, SqT.of et, rfl, rfl, _, rfl, itDN (fun z => on _ (by decide +kernel) (V.str.inj z)) ?_⟩
      refine ⟨_, rfl, t, _, _, _, rfl, rfl, SqT.of et, rfl, rfl, _, rfl, itDN (fun z => on _ (by decide +kernel) (V.str.inj z)) ?_⟩
      refine ⟨_, rfl, t, _, _, _, rfl, rfl, SqT.of et, rfl, rfl, _, rfl, itDN (fun z => on _ (by decide +kernel) (V.str.inj z)) ?_⟩
      refine ⟨_, rfl, t, _, _, _, rfl, rfl, SqT.of et, rfl, rfl, _, rfl, itDN (fun z => on _ (by decide +kernel) (V.str.inj z)) ?_⟩
      have l1 : ("(" : Str).length = 1 := by decide +kernel
      have l2 : (")" : Str).length = 1 := by decide +kernel
      have lo : o.length = 1 := by rw [wr_len, hwc]; rfl
      have lea := ex_len8 ho.2.1 (by omega)
      have leb := ex_len8 ho.2.2 (by omega)
      refine ⟨_, rfl, t, _, _, _, rfl, rfl, SqT.of et, rfl, u1, a, rfl, ha, ho.2.1, by omega, by omega, fun x H1 y1 hx => ?_⟩
      have lx : x.length = (exL a).length := by rw [wr_len, hx]
      have k1 : (("(" : Str) ++ x).length = 1 + x.length := by rw [wr_len, wr_app, List.length_append, ← wr_len, ← wr_len, l1]
      refine ⟨_, _, rfl, rfl, by omega, _, rfl, t, _, _, _, rfl, rfl, SqT.of (y1 _ _ et), rfl, _, _, rfl, rfl, by omega, ?_⟩
      have k2 : (("(" : Str) ++ x ++ o).length = 1 + x.length + 1 := by rw [wr_len, wr_app, List.length_append, ← wr_len, ← wr_len, k1, lo]
      refine ⟨_, rfl, t, _, _, _, rfl, rfl, SqT.of (y1 _ _ et), rfl, u2, b, rfl, hb.same y1, ho.2.2, by omega, by omega, fun y H2 y2 hy => ?_⟩
      have ly : y.length = (exL b).length := by rw [wr_len, hy]
      have k3 : (("(" : Str) ++ x ++ o ++ y).length = 1 + x.length + 1 + y.length := by rw [wr_len, wr_app, List.length_append, ← wr_len, ← wr_len, k2]
      refine ⟨_, _, rfl, rfl, by omega, _, _, rfl, rfl, by omega, q _ _ (y1.trans y2) ?_⟩
      rw [wr_app, wr_app, wr_app, wr_app, hx, hy, show wr "(" = [40] by decide +kernel, show wr ")" = [41] by decide +kernel]
      show _ = 40 :: (exL a ++ (wr o ++ (exL b ++ [41])))
      simp
theorem ok_law_expr_text {f : Addr} {fd : FuncData} (T : Bt mg) (T_law_expr_text : Fn K mg "_law_expr_text" s_law_expr_text ["_law_expr_here"] f fd) : ∀ n : Nat, FnOk P w K mg base CX0 (n + 2) f fd ["_law_expr_here"] (sp_tx n)
  | 0 => tx_step T T_law_expr_text (.inl rfl) (T_law_expr_text.F.ok (k := 0) (sp := fun _ _ _ _ => False) sc_law_expr_text (fun _ _ _ _ h => h.elim) (fun _ _ _ _ _ _ _ _ _ h => h.elim))
  | n + 1 => tx_step T T_law_expr_text (.inr ⟨n, rfl, rfl⟩) (ok_law_expr_text T T_law_expr_text n)
end
end K40

set_option Elab.async false
set_option linter.all false
set_option maxRecDepth 100000
set_option maxHeartbeats 4000000
namespace K40
open PySem L2
/-! ### alike, part by part -/
theorem kb_int_bool (K : PySem.W.Frag) : PySem.W.kitOne K (.type "int") (.type "bool") = some false := by rfl
theorem kb_int_int (K : PySem.W.Frag) : PySem.W.kitOne K (.type "int") (.type "int") = some true := by rfl
theorem kb_int_str (K : PySem.W.Frag) : PySem.W.kitOne K (.type "int") (.type "str") = some false := by rfl
theorem kb_str_bool (K : PySem.W.Frag) : PySem.W.kitOne K (.type "str") (.type "bool") = some false := by rfl
theorem kb_str_str (K : PySem.W.Frag) : PySem.W.kitOne K (.type "str") (.type "str") = some true := by rfl
theorem kb_bl_bool (K : PySem.W.Frag) : PySem.W.kitOne K (.type "bool") (.type "bool") = some true := by rfl
theorem kb_tup_bool (K : PySem.W.Frag) : PySem.W.kitOne K (.type "tuple") (.type "bool") = some false := by rfl
theorem kb_tup_str (K : PySem.W.Frag) : PySem.W.kitOne K (.type "tuple") (.type "str") = some false := by rfl
theorem kb_tup_list (K : PySem.W.Frag) : PySem.W.kitOne K (.type "tuple") (.type "list") = some false := by rfl
theorem kb_tup_tup (K : PySem.W.Frag) : PySem.W.kitOne K (.type "tuple") (.type "tuple") = some true := by rfl
theorem kb_int_lt (K : PySem.W.Frag) : PySem.W.kitAny K (.type "int") (["list", "tuple"].map Value.type) = some false := by rfl
theorem kb_tup_lt (K : PySem.W.Frag) : PySem.W.kitAny K (.type "tuple") (["list", "tuple"].map Value.type) = some true := by rfl
def Sc (v : V) : Prop := (∃ i, v = .int i) ∨ (∃ x, v = .str x) ∨ ∃ b, v = .bl b
def Alk (H : Hp) : Nat → V → V → Prop
  | 0, u, v => u = v ∧ Sc v
  | n + 1, u, v => (u = v ∧ Sc v) ∨ ∃ a b us ws, u = .ref a ∧ v = .ref b ∧ H a = some (.tup us) ∧ H b = some (.tup ws) ∧ us.length = ws.length ∧ us.length ≤ 10 ∧ ∀ (i : Nat) (x y : V), us[i]? = some x → ws[i]? = some y → Alk H n x y
theorem Alk.sc {H : Hp} {v : V} (h : Sc v) : ∀ n, Alk H n v v
  | 0 => ⟨rfl, h⟩
  | n + 1 => .inl ⟨rfl, h⟩
theorem Alk.same {H H' : Hp} (s : Same H H') : ∀ {n : Nat} {u v : V}, Alk H n u v → Alk H' n u v
  | 0, _, _, h => h
  | n + 1, _, _, .inl h => .inl h
  | n + 1, _, _, .inr ⟨a, b, us, ws, e1, e2, ha, hb, hl, h10, h⟩ => .inr ⟨a, b, us, ws, e1, e2, s _ _ ha, s _ _ hb, hl, h10, fun i x y hx hy => Alk.same s (h i x y hx hy)⟩
theorem alk2 {H : Hp} {n : Nat} {a1 a2 b1 b2 : V} (h1 : Alk H n a1 b1) (h2 : Alk H n a2 b2) : ∀ (i : Nat) (x y : V), [a1, a2][i]? = some x → [b1, b2][i]? = some y → Alk H n x y
  | 0, _, _, hx, hy => by cases hx; cases hy; exact h1
  | 1, _, _, hx, hy => by cases hx; cases hy; exact h2
  | i + 2, _, _, hx, _ => by cases hx
theorem alk3 {H : Hp} {n : Nat} {a1 a2 a3 b1 b2 b3 : V} (h1 : Alk H n a1 b1) (h2 : Alk H n a2 b2) (h3 : Alk H n a3 b3) : ∀ (i : Nat) (x y : V), [a1, a2, a3][i]? = some x → [b1, b2, b3][i]? = some y → Alk H n x y
  | 0, _, _, hx, hy => by cases hx; cases hy; exact h1
  | 1, _, _, hx, hy => by cases hx; cases hy; exact h2
  | 2, _, _, hx, hy => by cases hx; cases hy; exact h3
  | i + 3, _, _, hx, _ => by cases hx
theorem ex_alk {H : Hp} (e : Ex) : ∀ {u v : V} (n : Nat), ExAt H e u → ExAt H e v → e.dep + 1 ≤ n → Alk H n u v := by
  have sS : ∀ (x : Str) (n : Nat), Alk H n (.str x) (.str x) := fun x n => Alk.sc (.inr (.inl ⟨x, rfl⟩)) n
  induction e with
  | num i =>
    rintro u v n ⟨a, e1, h1⟩ ⟨b, e2, h2⟩ hn
    obtain ⟨m, rfl⟩ : ∃ m, n = m + 1 := ⟨n - 1, by omega⟩
    exact .inr ⟨a, b, [.str "num", .int i], [.str "num", .int i], e1, e2, h1, h2, rfl, (by show 2 ≤ 10; decide), alk2 (sS _ _) (Alk.sc (.inl ⟨i, rfl⟩) _)⟩
  | nam x =>
    rintro u v n ⟨a, e1, h1⟩ ⟨b, e2, h2⟩ hn
    obtain ⟨m, rfl⟩ : ∃ m, n = m + 1 := ⟨n - 1, by omega⟩
    exact .inr ⟨a, b, [.str "name", .str x], [.str "name", .str x], e1, e2, h1, h2, rfl, (by show 2 ≤ 10; decide), alk2 (sS _ _) (sS _ _)⟩
  | flg c =>
    rintro u v n ⟨a, e1, h1⟩ ⟨b, e2, h2⟩ hn
    obtain ⟨m, rfl⟩ : ∃ m, n = m + 1 := ⟨n - 1, by omega⟩
    exact .inr ⟨a, b, [.str "flag", .bl c], [.str "flag", .bl c], e1, e2, h1, h2, rfl, (by show 2 ≤ 10; decide), alk2 (sS _ _) (Alk.sc (.inr (.inr ⟨c, rfl⟩)) _)⟩
  | pl x e ih =>
    rintro u v n ⟨a, u', e1, h1, r1⟩ ⟨b, v', e2, h2, r2⟩ hn
    have hn : e.dep + 1 + 1 ≤ n := hn
    obtain ⟨m, rfl⟩ : ∃ m, n = m + 1 := ⟨n - 1, by omega⟩
    exact .inr ⟨a, b, [.str "at", .str x, u'], [.str "at", .str x, v'], e1, e2, h1, h2, rfl, (by show 3 ≤ 10; decide), alk3 (sS _ _) (sS _ _) (ih m r1 r2 (by omega))⟩
  | nt e ih =>
    rintro u v n ⟨a, u', e1, h1, r1⟩ ⟨b, v', e2, h2, r2⟩ hn
    have hn : e.dep + 1 + 1 ≤ n := hn
    obtain ⟨m, rfl⟩ : ∃ m, n = m + 1 := ⟨n - 1, by omega⟩
    exact .inr ⟨a, b, [.str "not", u'], [.str "not", v'], e1, e2, h1, h2, rfl, (by show 2 ≤ 10; decide), alk2 (sS _ _) (ih m r1 r2 (by omega))⟩
  | bin o p q ih1 ih2 =>
    rintro u v n ⟨a, u1, u2, e1, h1, r1, s1⟩ ⟨b, v1, v2, e2, h2, r2, s2⟩ hn
    have hn : max p.dep q.dep + 1 + 1 ≤ n := hn
    obtain ⟨m, rfl⟩ : ∃ m, n = m + 1 := ⟨n - 1, by omega⟩
    exact .inr ⟨a, b, [.str o, u1, u2], [.str o, v1, v2], e1, e2, h1, h2, rfl, (by show 3 ≤ 10; decide), alk3 (sS _ _) (ih1 m r1 r2 (by omega)) (ih2 m s1 s2 (by omega))⟩
end K40

set_option Elab.async false
set_option linter.all false
set_option maxRecDepth 100000
set_option maxHeartbeats 4000000
namespace K40
open PySem L2
def sp_sm (n : Nat) : Sp := fun vs H Q _ => ∃ (u v : V), vs = [u, v] ∧ Alk H n u v ∧ ∀ H', Same H H' → Q (.bl true) H'
section
variable {P : Program} {w : World} {K : PySem.W.Frag} {mg : Str → Option Value} {base : Heap}
theorem sc_law_same : FnScope ["_law_found", "_law_due"] ["_law_found", "_law_due"] (defScope s_law_same) := ⟨rfl, rfl, rfl, by decide +kernel, rfl, by decide +kernel, by decide +kernel⟩
theorem sm_step {n k : Nat} {prev : Sp} {f : Addr} {fd : FuncData} (T : Bt mg) (T_law_same : Fn K mg "_law_same" s_law_same ["_law_found", "_law_due"] f fd) (hp : n = 0 ∨ ∃ m, n = m + 1 ∧ prev = sp_sm m) (G_law_same : FnOk P w K mg base CX0 k f fd ["_law_found", "_law_due"] prev) : FnOk P w K mg base CX0 (k + 1) f fd ["_law_found", "_law_due"] (sp_sm n) := by
  refine T_law_same.F.ok (k := k) sc_law_same (fun vs H Q E h => ?_) (fun cdv A outer s H vs Q E hr h => ?_)
  · obtain ⟨u, v, rfl, _⟩ := h; rfl
  · obtain ⟨u, v, rfl, hal, q⟩ := h
    have hs : sizeLine = 16777216 := sizeLine_eq
    have two : 2 ≤ sizeLine := by omega
    refine ⟨_, (pss_cons (ps_if (pt_cmpR op_isN (pv 1) pe_non (nomark _))
        (pss_one (ps_ret (pe_cmpR op_isN (pv 0) pe_non (nomark _))))
        pss_nil)
      (pss_cons (ps_if (pt_val (pe_callB (call_isi (T := "bool")) rfl T.b_isinstance (by decide +kernel) (pa_consN (pv 1) (pa_consN (pe_bltn (v := .ty "bool") (u := .type "bool") rfl T.b_bool (by decide +kernel) rfl) pa_nil))))
        (pss_one (ps_ret (pe_and (pe_callB (call_isi (T := "bool")) rfl T.b_isinstance (by decide +kernel) (pa_consN (pv 0) (pa_consN (pe_bltn (v := .ty "bool") (u := .type "bool") rfl T.b_bool (by decide +kernel) rfl) pa_nil))) (pe_one (pe_cmpR op_eq (pv 0) (pv 1) (nomark _))))))
        pss_nil)
      (pss_cons (ps_if (pt_val (pe_callB (call_isi (T := "str")) rfl T.b_isinstance (by decide +kernel) (pa_consN (pv 1) (pa_consN (pe_bltn (v := .ty "str") (u := .type "str") rfl T.b_str (by decide +kernel) rfl) pa_nil))))
        (pss_one (ps_ret (pe_and (pe_callB (call_isi (T := "str")) rfl T.b_isinstance (by decide +kernel) (pa_consN (pv 0) (pa_consN (pe_bltn (v := .ty "str") (u := .type "str") rfl T.b_str (by decide +kernel) rfl) pa_nil))) (pe_one (pe_cmpR op_eq (pv 0) (pv 1) (nomark _))))))
        pss_nil)
      (pss_cons (ps_if (pt_val (pe_callB call_isiT rfl T.b_isinstance (by decide +kernel) (pa_consN (pv 1) (pa_consN (pe_tup (pa_consN (pe_bltn (v := .ty "list") (u := .type "list") rfl T.b_list (by decide +kernel) rfl) (pa_consN (pe_bltn (v := .ty "tuple") (u := .type "tuple") rfl T.b_tuple (by decide +kernel) rfl) pa_nil))) pa_nil))))
        (pss_cons (ps_if (PW.pt (pw_or (pt_cmpR op_ne (pe_callB (call_isi (T := "list")) rfl T.b_isinstance (by decide +kernel) (pa_consN (pv 1) (pa_consN (pe_bltn (v := .ty "list") (u := .type "list") rfl T.b_list (by decide +kernel) rfl) pa_nil))) (pe_callB (call_isi (T := "list")) rfl T.b_isinstance (by decide +kernel) (pa_consN (pv 0) (pa_consN (pe_bltn (v := .ty "list") (u := .type "list") rfl T.b_list (by decide +kernel) rfl) pa_nil))) (nomark _)) (pw_or1 (pt_cmpR op_ne (pe_callB (call_isi (T := "tuple")) rfl T.b_isinstance (by decide +kernel) (pa_consN (pv 1) (pa_consN (pe_bltn (v := .ty "tuple") (u := .type "tuple") rfl T.b_tuple (by decide +kernel) rfl) pa_nil))) (pe_callB (call_isi (T := "tuple")) rfl T.b_isinstance (by decide +kernel) (pa_consN (pv 0) (pa_consN (pe_bltn (v := .ty "tuple") (u := .type "tuple") rfl T.b_tuple (by decide +kernel) rfl) pa_nil))) (nomark _)))))
          (pss_one (ps_ret pe_bl))
          pss_nil)
        (pss_cons (ps_if (pt_cmpR op_ne (pe_callB call_len_seq rfl T.b_len (by decide +kernel) (pa_consN (pv 0) pa_nil)) (pe_callB call_len_seq rfl T.b_len (by decide +kernel) (pa_consN (pv 1) pa_nil)) (nomark _))
          (pss_one (ps_ret pe_bl))
          pss_nil)
        (pss_one (ps_ret (pe_callB (call_allB rfl) rfl T.b_all (by decide +kernel) (pa_consN (pe_comp rfl (blk_of (sc0 := defScope s_law_same) (N0 := ["_law_found", "_law_due"]) (N' := ["_law_k", "_law_found", "_law_due"]) (own := 1) (fv := [0, 1]) (by decide +kernel) rfl rfl) (pi_range1 rfl T.b_range (pa_consN (pe_callB call_len_seq rfl T.b_len (by decide +kernel) (pa_consN (pv 1) pa_nil)) pa_nil)) (fun _ _ _ _ => (pg_name (i := 0) (by show List.Nodup (["_law_k", "_law_found", "_law_due"] : List Str); decide +kernel) rfl (Or.inl rfl))) (fun _ _ _ _ => (pe_call G_law_same (hr.mono (by omega)) rfl T_law_same.m T_law_same.F.kp T_law_same.b .nil pass0 (pa_consN (pe_ix (ix_tupK (K := K)) (pv 1) (pv 0) (fun _ _ => rfl)) (pa_consN (pe_ix (ix_tupK (K := K)) (pv 2) (pv 0) (fun _ _ => rfl)) pa_nil))))) pa_nil))))))
        pss_nil)
      (pss_one (ps_ret (pe_and (pe_callB (call_isi (T := "int")) rfl T.b_isinstance (by decide +kernel) (pa_consN (pv 0) (pa_consN (pe_bltn (v := .ty "int") (u := .type "int") rfl T.b_int (by decide +kernel) rfl) pa_nil))) (pe_and (pe_not (pe_callB (call_isi (T := "bool")) rfl T.b_isinstance (by decide +kernel) (pa_consN (pv 0) (pa_consN (pe_bltn (v := .ty "bool") (u := .type "bool") rfl T.b_bool (by decide +kernel) rfl) pa_nil)))) (pe_one (pe_cmpR op_eq (pv 0) (pv 1) (nomark _))))))))))), ?_⟩
    have scal : ∀ D : Prop, (u = v ∧ Sc v → D) → (∀ a b us ws, n ≠ 0 → u = .ref a → v = .ref b → H a = some (.tup us) → H b = some (.tup ws) → us.length = ws.length → us.length ≤ 10 → (∀ (i : Nat) (x y : V), us[i]? = some x → ws[i]? = some y → Alk H (n - 1) x y) → D) → D := fun D d1 d2 => by
      cases n with
      | zero => exact d1 hal
      | succ n =>
        rcases hal with h | ⟨a, b, us, ws, e1, e2, ha, hb, hl, h10, h⟩
        · exact d1 h
        · exact d2 a b us ws (by omega) e1 e2 ha hb hl h10 h
    refine scal _ (fun h => ?_) (fun a b us ws n0 e1 e2 ha hb hl h10 h => ?_)
    · obtain ⟨rfl, ⟨i, rfl⟩ | ⟨x, rfl⟩ | ⟨b, rfl⟩⟩ := h
      · refine ⟨_, rfl, rfl, _, rfl, iteF ?_⟩
        refine ⟨_, rfl, _, _, false, rfl, .int _, kb_int_bool K, _, rfl, iteF ?_⟩
        refine ⟨_, rfl, _, _, false, rfl, .int _, kb_int_str K, _, rfl, iteF ?_⟩
        refine ⟨_, rfl, two, fun p hp => ?_⟩
        have y := Same.put (o := .tup [V.ty "list", V.ty "tuple"]) hp
        refine ⟨.int i, "int", false, p, ["list", "tuple"], rfl, .int i, upd_same, kb_int_lt K, _, rfl, iteF ?_⟩
        refine ⟨_, rfl, _, _, true, rfl, .int _, kb_int_int K, _, rfl, iteT ⟨_, rfl, _, _, false, rfl, .int _, kb_int_bool K, _, rfl, _, rfl, iteT ⟨_, rfl, _, rfl, rfl, ?_⟩⟩⟩
        rw [decide_eq_true rfl]
        exact q _ y
      · refine ⟨_, rfl, rfl, _, rfl, iteF ?_⟩
        refine ⟨_, rfl, _, _, false, rfl, .str _, kb_str_bool K, _, rfl, iteF ?_⟩
        refine ⟨_, rfl, _, _, true, rfl, .str _, kb_str_str K, _, rfl, iteT ?_⟩
        refine ⟨_, rfl, _, _, true, rfl, .str _, kb_str_str K, _, rfl, iteT ⟨_, rfl, _, rfl, rfl, ?_⟩⟩
        rw [decide_eq_true rfl]
        exact q _ (Same.refl _)
      · refine ⟨_, rfl, rfl, _, rfl, iteF ?_⟩
        refine ⟨_, rfl, _, _, true, rfl, .bl _, kb_bl_bool K, _, rfl, iteT ?_⟩
        refine ⟨_, rfl, _, _, true, rfl, .bl _, kb_bl_bool K, _, rfl, iteT ⟨_, rfl, _, rfl, rfl, ?_⟩⟩
        rw [decide_eq_true rfl]
        exact q _ (Same.refl _)
    · subst e1 e2
      rcases hp with h0 | ⟨m, rfl, rfl⟩
      · exact absurd h0 n0
      refine ⟨_, rfl, rfl, _, rfl, iteF ?_⟩
      refine ⟨_, rfl, _, _, false, rfl, .tup hb, kb_tup_bool K, _, rfl, iteF ?_⟩
      refine ⟨_, rfl, _, _, false, rfl, .tup hb, kb_tup_str K, _, rfl, iteF ?_⟩
      refine ⟨_, rfl, two, fun p hp => ?_⟩
      have y := Same.put (o := .tup [V.ty "list", V.ty "tuple"]) hp
      refine ⟨.ref b, "tuple", true, p, ["list", "tuple"], rfl, .tup (y _ _ hb), upd_same, kb_tup_lt K, _, rfl, iteT ?_⟩
      refine ⟨_, rfl, _, _, false, rfl, .tup (y _ _ hb), kb_tup_list K, _, rfl, _, _, false, rfl, .tup (y _ _ ha), kb_tup_list K, rfl, _, rfl, iteF ?_⟩
      refine ⟨_, rfl, _, _, true, rfl, .tup (y _ _ hb), kb_tup_tup K, _, rfl, _, _, true, rfl, .tup (y _ _ ha), kb_tup_tup K, rfl, _, rfl, iteF ?_⟩
      refine ⟨_, rfl, a, _, rfl, .inr (SqT.of (y _ _ ha)), _, rfl, b, _, rfl, .inr (SqT.of (y _ _ hb)), rfl, _, rfl, itBF (by rw [hl]; simp) ?_⟩
      have hn : ((ws.length : Int) - 0).toNat = ws.length := by omega
      have a0 : ∀ (us : List V) (i : Nat) (x : V), us[i]? = some x → atI us (0 + (i : Int)) = some x := fun us i x h => by rw [Int.zero_add]; exact atI_nat h
      have hrep : ∀ i : Nat, (List.replicate i true).map V.bl ++ [V.bl true] = (List.replicate (i + 1) true).map V.bl := fun i => by rw [List.replicate_succ', List.map_append]; rfl
      generalize upd H p (.tup [V.ty "list", V.ty "tuple"]) = H1 at y ⊢
      refine ⟨_, rfl, b, _, rfl, .inr (SqT.of (y _ _ hb)), _, rfl, by omega, by omega, comp_rngInv (lo := 0) (n := ((ws.length : Nat) : Int).toNat) (fvals := [some (.ref a), some (.ref b)]) (fun acc i H2 => H1 acc = none ∧ i ≤ ws.length ∧ Same H1 H2 ∧ H2 acc = some (.lst ((List.replicate i true).map V.bl))) (fun acc hacc => ⟨hacc, Nat.zero_le _, Same.put hacc, upd_same⟩) ?_ ?_⟩
      · rintro acc i H2 R hi ⟨hacc, _, s2, e2⟩ hR
        have hi : i < ws.length := by omega
        have hxi : us[i]? = some us[i] := List.getElem?_eq_getElem (by omega)
        have hyi : ws[i]? = some ws[i] := List.getElem?_eq_getElem hi
        have s12 := y.trans s2
        refine ⟨_, rfl, _, rfl, a, _, _, _, rfl, rfl, SqT.of (s12 _ _ ha), a0 _ _ _ hxi, _, rfl, _, rfl, b, _, _, _, rfl, rfl, SqT.of (s12 _ _ hb), a0 _ _ _ hyi, us[i], ws[i], rfl, (h i _ _ hxi hyi).same s12, fun H3 s3 => ?_⟩
        refine hR _ _ ⟨_, s3 _ _ e2, by rw [List.length_map, List.length_replicate]; omega, hacc, hi, Kl.same (s2.trans s3) hacc Kl.one, ?_⟩
        rw [upd_same, hrep]
      · rintro acc H2 hacc ⟨_, _, s2, e2⟩
        refine ⟨acc, List.replicate _ true, rfl, SqL.of e2, ?_⟩
        have : (List.replicate ((ws.length : Nat) : Int).toNat true).all id = true := by
          rw [List.all_eq_true]
          intro x hx
          exact (List.mem_replicate.mp hx).2
        rw [this]
        exact q _ (y.trans s2)
theorem ok_law_same {f : Addr} {fd : FuncData} (T : Bt mg) (T_law_same : Fn K mg "_law_same" s_law_same ["_law_found", "_law_due"] f fd) : ∀ n : Nat, FnOk P w K mg base CX0 (n + 2) f fd ["_law_found", "_law_due"] (sp_sm n)
  | 0 => sm_step T T_law_same (.inl rfl) (T_law_same.F.ok (k := 0) (sp := fun _ _ _ _ => False) sc_law_same (fun _ _ _ _ h => h.elim) (fun _ _ _ _ _ _ _ _ _ h => h.elim))
  | n + 1 => sm_step T T_law_same (.inr ⟨n, rfl, rfl⟩) (ok_law_same T T_law_same n)
end
end K40

set_option Elab.async false
set_option linter.all false
set_option maxRecDepth 100000
set_option maxHeartbeats 4000000
namespace K40
open PySem L2
/-! ### the language's own words -/
def kp1 : Str := "num flag list part main end tell ask do"
def kp2 : Str := "if else while stop give way not yes no"
theorem kp1_split : PySem.Txt.split kp1 " " = (["num", "flag", "list", "part", "main", "end", "tell", "ask", "do"] : List Str) := by decide +kernel
theorem kp2_split : PySem.Txt.split kp2 " " = (["if", "else", "while", "stop", "give", "way", "not", "yes", "no"] : List Str) := by decide +kernel
theorem kp1_parts : (Builtin.Str.partsBetween kp1 (Builtin.Str.occurrences kp1 " " 0 kp1.length (kp1.length + 1)) (" " : Str).length).length ≤ 100 := by decide +kernel
theorem kp2_parts : (Builtin.Str.partsBetween kp2 (Builtin.Str.occurrences kp2 " " 0 kp2.length (kp2.length + 1)) (" " : Str).length).length ≤ 100 := by decide +kernel
def sp_kept : Sp := fun vs H Q _ => vs = [] ∧ ∀ (l : Addr) (H' : Hp), Same H H' → H' l = some (.lst (resv.map V.str)) → Q (.ref l) H'
section
variable {P : Program} {w : World} {K : PySem.W.Frag} {mg : Str → Option Value} {base : Heap}
theorem sc_law_kept : FnScope ["_law_first"] [] (defScope s_law_kept) := ⟨rfl, rfl, rfl, by decide +kernel, rfl, by decide +kernel, by decide +kernel⟩
theorem ok_law_kept {f : Addr} {fd : FuncData} (F : Fun K "_law_kept" "_law_kept" s_law_kept f fd) : FnOk P w K mg base CX0 1 f fd [] sp_kept := by
  refine F.ok sc_law_kept (fun vs H Q E h => ?_) (fun cdv A outer s H vs Q E hr h => ?_)
  · obtain ⟨rfl, _⟩ := h; rfl
  · obtain ⟨rfl, q⟩ := h
    have hs : sizeLine = 16777216 := sizeLine_eq
    have p1 := kp1_parts
    have p2 := kp2_parts
    have l1 : kp1.length ≤ 100 := by decide +kernel
    have l2 : kp2.length ≤ 100 := by decide +kernel
    refine ⟨_, (pss_cons (ps_set (i := 0) sc_law_kept.nd rfl (Or.inl rfl) (pe_bm PySem.F.plainAttrs_str PySem.F.slot_str_split PySem.F.type_str_split mt_split pe_str (pa_consN pe_str pa_nil)))
      (pss_one (ps_ret (pe_op op_cat (pv 0) (pe_bm PySem.F.plainAttrs_str PySem.F.slot_str_split PySem.F.type_str_split mt_split pe_str (pa_consN pe_str pa_nil)))))), ?_⟩
    refine ⟨rfl, kp1, " ", rfl, rfl, by decide +kernel, by omega, by omega, by rw [kp1_split]; show 9 ≤ sizeLine; omega, fun a ha => ?_⟩
    have y1 := Same.put (o := .lst ((PySem.Txt.split kp1 " ").map V.str)) ha
    refine ⟨_, rfl, rfl, kp2, " ", rfl, rfl, by decide +kernel, by omega, by omega, by rw [kp2_split]; show 9 ≤ sizeLine; omega, fun b hb => ?_⟩
    have y2 := Same.put (o := .lst ((PySem.Txt.split kp2 " ").map V.str)) hb
    refine ⟨a, b, _, _, rfl, rfl, y2 _ _ upd_same, upd_same, by rw [kp1_split, kp2_split]; show 9 + 9 ≤ sizeLine; omega, fun p hp => ?_⟩
    refine q p _ ((y1.trans y2).trans (Same.put hp)) ?_
    rw [upd_same, kp1_split, kp2_split]; rfl
end
end K40

set_option Elab.async false
set_option linter.all false
set_option maxRecDepth 100000
set_option maxHeartbeats 4000000
namespace K40
open PySem L2
/-! ### names drawn -/
def LW (x : Str) : Prop := ∀ c ∈ wr x, 97 ≤ c ∧ c < 123
theorem lw_app {x y : Str} (hx : LW x) (hy : LW y) : LW (x ++ y) := by
  intro c hc
  rw [wr_app, List.mem_append] at hc
  exact hc.elim (hx c) (hy c)
theorem lw_nil : LW "" := by unfold LW; decide +kernel
theorem lw_one {c : Nat} (h0 : 97 ≤ c) (h1 : c < 123) : LW ⟨#[c]⟩ := by
  intro d hd
  have hd : d ∈ [c] := hd
  rw [List.mem_singleton] at hd
  subst hd
  exact ⟨h0, h1⟩
theorem lw_slice {x : Str} (h : LW x) (l u : Option Int) : LW (PySem.Txt.slice x l u) := by
  unfold PySem.Txt.slice
  split
  · exact h
  · intro c hc
    have hc' : c ∈ List.filterMap (fun i => x.cps[i]?) (Builtin.Str.strSliceIndices l u 1 x.length) := by simpa [wr] using hc
    obtain ⟨i, _, e⟩ := List.mem_filterMap.mp hc'
    exact h c (Array.mem_toList_iff.mpr (Array.mem_of_getElem? e))
theorem lw_ok {x : Str} (h : LW x) : PyData.strOk x = true := by
  unfold PyData.strOk
  rw [Array.all_eq_true']
  intro c hc
  have := h c (Array.mem_toList_iff.mpr hc)
  exact decide_eq_true (by omega)
theorem app_len (x y : Str) : (x ++ y).length = x.length + y.length := by rw [wr_len, wr_app, List.length_append, ← wr_len, ← wr_len]
theorem resv_lw : ∀ x ∈ resv, (∀ c ∈ wr x, 97 ≤ c ∧ c < 123) ∧ 1 ≤ x.length ∧ x.length ≤ 5 := by decide +kernel
theorem resv_x : ∀ x ∈ resv, x ++ ("x" : Str) ∉ resv := by decide +kernel
theorem abc_at : ∀ i : _root_.Fin 26, ∃ c, ("abcdefghijklmnopqrstuvwxyz" : Str).cps[i.val]? = some c ∧ 97 ≤ c ∧ c < 123 := fun i => by
  have h : ∀ i : _root_.Fin 26, ("abcdefghijklmnopqrstuvwxyz" : Str).cps[i.val]? = some (97 + i.val) := by decide +kernel
  exact ⟨_, h i, by omega, by omega⟩
def sp_any : Sp := fun vs H Q _ => ∃ (a : Addr) (c : Nat), vs = [.ref a] ∧ TapAt H a c ∧ c ≤ 800000 ∧ ∀ (x : Str) (H' : Hp) (c' : Nat), c' ≤ c + 20 → Kl a H H' → TapAt H' a c' → NmOk x → Q (.str x) H'
section
variable {P : Program} {w : World} {K : PySem.W.Frag} {mg : Str → Option Value} {base : Heap}
theorem sc_law_any_name : FnScope ["_law_tap_here", "_law_word", "_law_k"] ["_law_tap_here"] (defScope s_law_any_name) := ⟨rfl, rfl, rfl, by decide +kernel, rfl, by decide +kernel, by decide +kernel⟩
theorem nm_B {f f3 : Addr} {d3 : FuncData} (T : Bt mg) (T_law_kept : Fn K mg "_law_kept" s_law_kept [] f3 d3) {cdv : Value} {A : Around} {outer : List Env} {s : Shared} {H : Hp} {E : XK} (hr : Room 2 (A.deeper (PyProof.Rows.envOfC "_law_any_name" (defScope s_law_any_name) s.heap.objs.size f cdv))) :
    ∃ u, PSs (cxOf CX0 P w K mg base ["_law_tap_here", "_law_word", "_law_k"] "_law_any_name" (defScope s_law_any_name) f cdv A outer s H E).nox ((defBody s_law_any_name).drop 3) u ∧
      ∀ (D : Ends) (v2 : Option V) (a : Addr) (x : Str) (H : Hp), LW x → 1 ≤ x.length → x.length ≤ 8 → (∀ (y : Str) (H' : Hp), Same H H' → NmOk y → D.rt (.str y) H') → u D [some (.ref a), some (.str x), v2] H := by
  have G_law_kept := ok_law_kept (P := P) (w := w) (mg := mg) (base := base) T_law_kept.F
  refine ⟨_, (pss_cons (ps_if (pt_cmpR op_in_seq (pv 1) (pe_call0 G_law_kept (hr.mono (by decide)) rfl T_law_kept.m T_law_kept.F.kp T_law_kept.b .nil pass0) (by with_unfolding_all rfl))
        (pss_one (ps_set (i := 1) sc_law_any_name.nd rfl (Or.inl rfl) (pe_op op_add_str (pv 1) pe_str)))
        pss_nil)
      (pss_one (ps_ret (pv 1)))), ?_⟩
  intro D v2 a x H hx h1 h8 q
  have hs : sizeLine = 16777216 := sizeLine_eq
  refine ⟨_, rfl, rfl, fun l H1 y1 el => ⟨l, _, rfl, .inl (SqL.of el), rfl, by decide +kernel, _, rfl, ?_⟩⟩
  by_cases hin : x ∈ resv
  · refine itBT (inV_str hin) ?_
    have h5 := resv_lw x hin
    have lx : ("x" : Str).length = 1 := by decide +kernel
    have hl : (x ++ ("x" : Str)).length = x.length + 1 := by rw [app_len, lx]
    have hw : LW (x ++ ("x" : Str)) := lw_app hx (by unfold LW; decide +kernel)
    refine ⟨_, rfl, _, _, rfl, rfl, by omega, ?_⟩
    exact ⟨_, rfl, q _ _ y1 ⟨lw_ok hw, by have := wr_len (x ++ ("x" : Str)); show 1 ≤ (wr _).length; omega, by have := wr_len (x ++ ("x" : Str)); show (wr _).length ≤ 8; omega, hw, resv_x x hin⟩⟩
  · refine itBF (inV_notstr hin) ?_
    exact ⟨_, rfl, q _ _ y1 ⟨lw_ok hx, by have := wr_len x; show 1 ≤ (wr _).length; omega, by have := wr_len x; show (wr _).length ≤ 8; omega, hx, hin⟩⟩
theorem ok_law_any_name {f f1 f2 f3 : Addr} {fd d1 d2 d3 : FuncData} (F : Fun K "_law_any_name" "_law_any_name" s_law_any_name f fd) (T : Bt mg) (T_law_mixed : Fn K mg "_law_mixed" s_law_mixed ["_law_number_here", "_law_k"] f1 d1) (T_law_next : Fn K mg "_law_next" s_law_next ["_law_tap_here", "_law_size"] f2 d2) (T_law_kept : Fn K mg "_law_kept" s_law_kept [] f3 d3) : FnOk P w K mg base CX0 3 f fd ["_law_tap_here"] sp_any := by
  have G_law_next := ok_law_next (P := P) (w := w) (mg := mg) (base := base) T_law_next.F T_law_mixed
  have G_law_kept := ok_law_kept (P := P) (w := w) (mg := mg) (base := base) T_law_kept.F
  refine F.ok (k := 2) sc_law_any_name (fun vs H Q E h => ?_) (fun cdv A outer s H vs Q E hr h => ?_)
  · obtain ⟨a, c, rfl, _⟩ := h; rfl
  · obtain ⟨a, c, rfl, ta, hc, q⟩ := h
    have hs : sizeLine = 16777216 := sizeLine_eq
    obtain ⟨uB, hB, kB⟩ := nm_B (P := P) (w := w) (base := base) (f := f) (cdv := cdv) (outer := outer) (H := H) (E := E) T T_law_kept hr
    refine ⟨_, (pss_cons (ps_set (i := 1) sc_law_any_name.nd rfl (Or.inl rfl) pe_str)
      (pss_cons (ps_for PassesOwn.never rfl (pi_range1 rfl T.b_range (pa_consN (pe_op op_add pe_int (pe_call G_law_next (hr.mono (by decide)) rfl T_law_next.m T_law_next.F.kp T_law_next.b .nil pass0 (pa_consN (pv 0) (pa_consN pe_int pa_nil)))) pa_nil)) (pg_name (i := 2) sc_law_any_name.nd rfl (Or.inl rfl))
        (pss_one (ps_set (i := 1) sc_law_any_name.nd rfl (Or.inl rfl) (pe_op op_add_str (pv 1) (pe_item_str pe_str (pe_call G_law_next (hr.mono (by decide)) rfl T_law_next.m T_law_next.F.kp T_law_next.b .nil pass0 (pa_consN (pv 0) (pa_consN pe_int pa_nil))) (fun _ _ => rfl))))))
      (pss_cons (ps_if (pt_cmpR op_eq (pe_call G_law_next (hr.mono (by decide)) rfl T_law_next.m T_law_next.F.kp T_law_next.b .nil pass0 (pa_consN (pv 0) (pa_consN pe_int pa_nil))) pe_int (nomark _))
        (pss_one (ps_set (i := 1) sc_law_any_name.nd rfl (Or.inl rfl) (pe_slice sl_str (pe_op op_add_str (pe_ix ix_list (pe_call0 G_law_kept (hr.mono (by decide)) rfl T_law_kept.m T_law_kept.F.kp T_law_kept.b .nil pass0) (pe_call G_law_next (hr.mono (by decide)) rfl T_law_next.m T_law_next.F.kp T_law_next.b .nil pass0 (pa_consN (pv 0) (pa_consN pe_int pa_nil))) (fun _ _ => rfl)) (pv 1)) po_none (po_some pe_int))))
        pss_nil)
      hB))), ?_⟩
    refine ⟨_, rfl, a, c, 8, rfl, ta, by omega, by decide, by decide, fun v H1 v0 v1 k1 t1 => ?_⟩
    refine ⟨_, _, rfl, rfl, _, rfl, by omega, by omega, for_range (lo := 0) (n := (1 + v).toNat) (fun i σ H2 => ∃ (x : Str) (c2 : Nat) (v2 : Option V), σ = [some (.ref a), some (.str x), v2] ∧ Kl a H1 H2 ∧ TapAt H2 a c2 ∧ c2 ≤ c + 1 + i ∧ x.length = i ∧ LW x) ⟨"", c + 1, none, rfl, fun _ _ e _ => e, t1, by omega, rfl, lw_nil⟩ ?_ ?_⟩
    · rintro i σ H2 hi ⟨x, c2, v2, rfl, k2, t2, hc2, hl, hx⟩
      refine ⟨_, rfl, _, rfl, a, c2, 26, rfl, t2, by omega, by decide, by decide, fun r H3 r0 r1 k3 t3 => ?_⟩
      obtain ⟨ch, hch, g0, g1⟩ := abc_at ⟨r.toNat, by omega⟩
      have l26 : ("abcdefghijklmnopqrstuvwxyz" : Str).length = 26 := by decide +kernel
      have lo1 : (⟨#[ch]⟩ : Str).length = 1 := rfl
      refine ⟨_, r, ch, rfl, rfl, r0, by omega, by rw [l26]; omega, hch, _, _, rfl, rfl, by omega, ?_⟩
      exact ⟨_, c2 + 1, _, rfl, k2.trans k3, t3, by omega, by rw [app_len]; omega, lw_app hx (lw_one g0 g1)⟩
    · rintro σ H2 ⟨x, c2, v2, rfl, k2, t2, hc2, hl, hx⟩
      have hl1 : 1 ≤ x.length := by omega
      have hl8 : x.length ≤ 8 := by omega
      have k02 := k1.trans k2
      refine ⟨_, rfl, a, c2, 4, rfl, t2, by omega, by decide, by decide, fun r H3 r0 r1 k3 t3 => ⟨rfl, _, rfl, ite2 (fun _ => ?_) (fun _ => ?_)⟩⟩
      · refine ⟨rfl, fun l H4 y4 el => ?_⟩
        refine ⟨_, rfl, a, c2 + 1, 18, rfl, t3.same y4, by omega, by decide, by decide, fun j H5 j0 j1 k5 t5 => ?_⟩
        obtain ⟨z, hz, ez⟩ := str_ix (ss := resv) j0 (by rw [List.length_map]; show j < 18; omega)
        have hzz := resv_lw z hz
        have hal : a ≠ l := by
          intro e
          obtain ⟨p1, p2, p3⟩ := t3.same y4
          rw [e, el] at p3
          injection p3 with p3
          injection p3 with p3
          have := congrArg List.length p3
          exact absurd this (by show ¬ (18 = 3); decide)
        refine ⟨l, _, _, _, rfl, rfl, SqL.of (k5 _ _ el hal.symm), ez, _, rfl, _, _, rfl, rfl, by omega, _, rfl, _, rfl, by rw [app_len]; omega, ?_⟩
        have hw : LW (z ++ x) := lw_app hzz.1 hx
        have hlen : (z ++ x).length = z.length + x.length := app_len _ _
        have hsl := PyProof.Rows.slice_ns_cases (z ++ x) 8 (by decide)
        refine kB _ _ a _ H5 (lw_slice hw _ _) (by omega) (by omega) fun y H6 y6 hy => ?_
        exact q y H6 (c2 + 1 + 1) (by omega) (((k02.trans k3).trans (Kl.of y4)).trans (k5.trans (Kl.of y6))) (t5.same y6) hy
      · refine kB _ _ a x H3 hx hl1 hl8 fun y H6 y6 hy => ?_
        exact q y H6 (c2 + 1) (by omega) ((k02.trans k3).trans (Kl.of y6)) (t3.same y6) hy
end
end K40

set_option Elab.async false
set_option linter.all false
set_option maxRecDepth 100000
set_option maxHeartbeats 4000000
namespace K40
open PySem L2
/-! ### a shorter one -/
theorem call_isiK {X : Cx} {K : PySem.W.Frag} {T : String} (h : X.K = K := by rfl) : CallR X (.builtin "isinstance") (fun xs H Q => ∃ x t k, xs = [x, .ty T] ∧ TyOf K H x t ∧ PySem.W.kitOne K t (.type T) = some k ∧ Q (.bl k) H) := by subst h; exact call_isi
theorem kb_str_tup (K : PySem.W.Frag) : PySem.W.kitOne K (.type "str") (.type "tuple") = some false := by rfl
def isR : V → Bool
  | .ref _ => true
  | _ => false
theorem ex_ref {H : Hp} : ∀ {e : Ex} {v : V}, ExAt H e v → ∃ p zs, v = .ref p ∧ H p = some (.tup zs)
  | .num _, _, ⟨a, e, h⟩ => ⟨a, _, e, h⟩
  | .nam _, _, ⟨a, e, h⟩ => ⟨a, _, e, h⟩
  | .flg _, _, ⟨a, e, h⟩ => ⟨a, _, e, h⟩
  | .pl _ _, _, ⟨a, _, e, h, _⟩ => ⟨a, _, e, h⟩
  | .nt _, _, ⟨a, _, e, h, _⟩ => ⟨a, _, e, h⟩
  | .bin _ _ _, _, ⟨a, _, _, e, h, _⟩ => ⟨a, _, e, h⟩
def sp_sh : Sp := fun vs H Q _ => ∃ (v : V) (e : Ex), vs = [v] ∧ ExAt H e v ∧ e.Ok ∧ e.dep ≤ 8 ∧ ∀ (v' : V) (e' : Ex) (H' : Hp), Same H H' → ExAt H' e' v' → e'.Ok → e'.dep ≤ 8 → Q v' H'
section
variable {P : Program} {w : World} {K : PySem.W.Frag} {mg : Str → Option Value} {base : Heap}
theorem sc_law_short : FnScope ["_law_expr_here"] ["_law_expr_here"] (defScope s_law_short) := ⟨rfl, rfl, rfl, by decide +kernel, rfl, by decide +kernel, by decide +kernel⟩
theorem ok_law_short {f f1 : Addr} {fd d1 : FuncData} (F : Fun K "_law_short" "_law_short" s_law_short f fd) (T : Bt mg) (T_law_expr_text : Fn K mg "_law_expr_text" s_law_expr_text ["_law_expr_here"] f1 d1) : FnOk P w K mg base CX0 11 f fd ["_law_expr_here"] sp_sh := by
  have G_law_expr_text := ok_law_expr_text (P := P) (w := w) (base := base) T T_law_expr_text 8
  refine F.ok (k := 10) sc_law_short (fun vs H Q E h => ?_) (fun cdv A outer s H vs Q E hr h => ?_)
  · obtain ⟨v, e, rfl, _⟩ := h; rfl
  · obtain ⟨v, e, rfl, he, ho, h8, q⟩ := h
    have hs : sizeLine = 16777216 := sizeLine_eq
    refine ⟨_, (pss_cons (ps_while PassesOwn.never (pt_cmpR op_gt (pe_callB call_len_str rfl T.b_len (by decide +kernel) (pa_consN (pe_call G_law_expr_text (hr.mono (by decide)) rfl T_law_expr_text.m T_law_expr_text.F.kp T_law_expr_text.b .nil pass0 (pa_consN (pv 0) pa_nil)) pa_nil)) pe_int (nomark _))
        (pss_one (ps_set (i := 0) sc_law_short.nd rfl (Or.inl rfl) (pe_ix ix_list (pe_compIf rfl (blk_of (sc0 := defScope s_law_short) (N0 := ["_law_expr_here"]) (N' := ["_law_part"]) (own := 1) (fv := []) (by decide +kernel) rfl rfl) (pi_tup (pe_slice sl_tup (pv 0) (po_some pe_int) po_none)) (fun _ _ _ _ => (pg_name (i := 0) (by show List.Nodup (["_law_part"] : List Str); decide +kernel) rfl (Or.inl rfl))) (fun _ _ _ _ => (pt_val (pe_callB (call_isiK (K := K) (T := "tuple")) rfl T.b_isinstance (by decide +kernel) (pa_consN (pv 0) (pa_consN (pe_bltn (v := .ty "tuple") (u := .type "tuple") rfl T.b_tuple (by decide +kernel) rfl) pa_nil))))) (fun _ _ _ _ => (pv 0))) (pe_un un_neg pe_int) (fun _ _ => rfl)))))
      (pss_one (ps_ret (pv 0)))), ?_⟩
    refine ⟨fun m σ H2 => ∃ (v : V) (e : Ex), m = e.dep ∧ σ = [some v] ∧ Same H H2 ∧ ExAt H2 e v ∧ e.Ok ∧ e.dep ≤ 8, ⟨_, v, e, rfl, rfl, Same.refl _, he, ho, h8⟩, ?_⟩
    rintro m σ H2 ⟨v, e, rfl, rfl, s2, he, ho, h8⟩
    have hlen := ex_len8 ho h8
    refine ⟨_, rfl, v, e, rfl, he, ho, h8, h8, fun x H3 y3 hx => ?_⟩
    have hlx : x.length = (exL e).length := by rw [wr_len, hx]
    refine ⟨x, rfl, by omega, _, _, rfl, rfl, _, rfl, ite2 (fun h => ?_) (fun _ => ?_)⟩
    · have hbig : 200 < (exL e).length := by
        have h : (200 : Int) < (x.length : Int) := of_decide_eq_true h
        omega
      refine ⟨fun σ H4 => ∃ (u : V) (e' : Ex), σ = [some u] ∧ Same H H4 ∧ ExAt H4 e' u ∧ e'.Ok ∧ e'.dep < e.dep, ?_, ?_⟩
      · rintro σ H4 ⟨u, e', rfl, s4, he4, ho4, hd4⟩
        exact ⟨e'.dep, hd4, u, e', rfl, rfl, s4, he4, ho4, by omega⟩
      -- the parts: what stands behind the first
      obtain ⟨t, o, us, u, e', et, rfl, hcut, hsI, hl2, hus, hat, hfl, heu, hou, hdu⟩ : ∃ (t : Addr) (o : V) (us : List V) (u : V) (e' : Ex), H3 t = some (.tup (o :: us)) ∧ v = .ref t ∧ cutV (o :: us) (some 1) none = us ∧ (¬ HT.sIx (o :: us).length 0 (some 1) = 0) ∧ us.length ≤ 2 ∧ (∀ y ∈ us, (∃ z, y = .str z) ∨ ∃ p zs, y = .ref p ∧ H3 p = some (.tup zs)) ∧ atI (us.filter isR) (-1) = some u ∧ (us.filter isR).length ≤ 2 ∧ ExAt H3 e' u ∧ e'.Ok ∧ e'.dep < e.dep := by
        have he3 := he.same y3
        cases e with
        | num i =>
          have := ex_len ho
          have : (exL (.num i)).length + 4 ≤ 16 * 2 ^ 0 := this
          omega
        | nam x =>
          have := ex_len ho
          have : (exL (.nam x)).length + 4 ≤ 16 * 2 ^ 0 := this
          omega
        | flg b =>
          have := ex_len ho
          have : (exL (.flg b)).length + 4 ≤ 16 * 2 ^ 0 := this
          omega
        | pl x e =>
          obtain ⟨t, u, rfl, et, hu⟩ := he3
          obtain ⟨p, zs, rfl, ep⟩ := ex_ref hu
          exact ⟨t, _, [.str x, .ref p], .ref p, e, et, rfl, rfl, (by show ¬ HT.sIx 3 0 (some 1) = 0; decide), (by show 2 ≤ 2; decide), (fun y hy => by
            simp only [List.mem_cons, List.not_mem_nil, or_false] at hy
            rcases hy with rfl | rfl
            · exact .inl ⟨_, rfl⟩
            · exact .inr ⟨p, zs, rfl, ep⟩), rfl, (by show 1 ≤ 2; decide), hu, ho.2, Nat.lt_succ_self _⟩
        | nt e =>
          obtain ⟨t, u, rfl, et, hu⟩ := he3
          obtain ⟨p, zs, rfl, ep⟩ := ex_ref hu
          exact ⟨t, _, [.ref p], .ref p, e, et, rfl, rfl, (by show ¬ HT.sIx 2 0 (some 1) = 0; decide), (by show 1 ≤ 2; decide), (fun y hy => by
            simp only [List.mem_cons, List.not_mem_nil, or_false] at hy
            subst hy
            exact .inr ⟨p, zs, rfl, ep⟩), rfl, (by show 1 ≤ 2; decide), hu, ho, Nat.lt_succ_self _⟩
        | bin o a b =>
          obtain ⟨t, u1, u2, rfl, et, h1, h2⟩ := he3
          obtain ⟨p, zs, rfl, ep⟩ := ex_ref h1
          obtain ⟨p2, zs2, rfl, ep2⟩ := ex_ref h2
          exact ⟨t, _, [.ref p, .ref p2], .ref p2, b, et, rfl, rfl, (by show ¬ HT.sIx 3 0 (some 1) = 0; decide), (by show 2 ≤ 2; decide), (fun y hy => by
            simp only [List.mem_cons, List.not_mem_nil, or_false] at hy
            rcases hy with rfl | rfl
            · exact .inr ⟨p, zs, rfl, ep⟩
            · exact .inr ⟨p2, zs2, rfl, ep2⟩), rfl, (by show 2 ≤ 2; decide), h2, ho.2.2, Nat.lt_succ_of_le (Nat.le_max_right _ _)⟩
      refine ⟨_, rfl, _, rfl, t, _, rfl, SqT.of et, (by intro z; exact absurd z.1 hsI), fun sl hsl => ?_⟩
      rw [hcut]
      have y4 := Same.put (o := .tup us) hsl
      have esl : upd H3 sl (.tup us) sl = some (.tup us) := upd_same
      generalize upd H3 sl (.tup us) = H4 at y4 esl ⊢
      refine ⟨sl, rfl, ⟨_, SqT.of esl⟩, compIf_ttp (xs := us) (fvals := []) (fun acc i H5 => H4 acc = none ∧ Same H4 H5 ∧ H5 acc = some (.lst ((us.take i).filter isR))) ?_ ?_ ?_ ?_⟩
      · rintro acc i H5 ⟨_, s5, _⟩
        exact SqT.of (s5 _ _ esl)
      · intro acc hacc
        exact ⟨hacc, Same.put hacc, by rw [List.take_zero]; exact upd_same⟩
      · rintro acc i y H5 mm W hxi ⟨hacc, s5, ea⟩ hW
        have hi : i < us.length := (List.getElem?_eq_some_iff.mp hxi).1
        have htk : us.take (i + 1) = us.take i ++ [y] := by rw [List.take_add_one, hxi]; rfl
        rcases hus y (List.mem_of_getElem? hxi) with ⟨z, rfl⟩ | ⟨p, zs, rfl, ep⟩
        · refine ⟨_, rfl, _, _, false, rfl, .str _, kb_str_tup K, _, rfl, iteF (hW _ ⟨hacc, s5, ?_⟩)⟩
          rw [htk, List.filter_append, show [V.str z].filter isR = [] from rfl, List.append_nil]; exact ea
        · refine ⟨_, rfl, _, _, true, rfl, .tup ((y4.trans s5) _ _ ep), kb_tup_tup K, _, rfl, iteT ⟨_, rfl, _, ea, ?_, hW _ ⟨hacc, Kl.same s5 hacc Kl.one, ?_⟩⟩⟩
          · have := List.length_filter_le isR (us.take i)
            rw [List.length_take] at this
            omega
          · rw [upd_same, htk, List.filter_append]; rfl
      · rintro acc H5 hacc ⟨_, s5, ea⟩
        rw [List.take_length] at ea
        refine ⟨_, rfl, acc, _, _, _, rfl, rfl, SqL.of ea, hat, ?_⟩
        exact ⟨u, e', rfl, ((s2.trans y3).trans y4).trans s5, (heu.same y4).same s5, hou, hdu⟩
    · exact ⟨_, rfl, q v e H3 (s2.trans y3) (he.same y3) ho h8⟩
end
end K40

set_option Elab.async false
set_option linter.all false
set_option maxRecDepth 100000
set_option maxHeartbeats 4000000
namespace K40
open PySem L2
theorem FnOk.any8 {P : Program} {w : World} {K : PySem.W.Frag} {mg : Str → Option Value} {base : Heap} {CX : CXT} {k : Nat} {f : Addr} {fd : FuncData} {ps : List Str} {sp : Nat → Sp} (F : ∀ n, n ≤ 8 → FnOk P w K mg base CX k f fd ps (sp n)) : FnOk P w K mg base CX k f fd ps (fun vs H Q E => ∃ n, n ≤ 8 ∧ sp n vs H Q E) where
  len := fun vs H Q E ⟨n, hn, h⟩ => (F n hn).len vs H Q E h
  run := fun A outer s H args us vs Q E hr hb hi hv ⟨n, hn, h⟩ => (F n hn).run A outer s H args us vs Q E hr hb hi hv h
theorem set_go {H : Hp} {a : Addr} {x fl : Int} {c : Nat} {q : Hp → Prop} (h : ∀ H1, Kl a H H1 → H1 a = some (.lst [V.int x, V.int fl, V.int ((0 : Nat) : Int)]) → q H1) : q (upd H a (.lst ([V.int x, V.int fl, V.int (c : Int)].set 2 (V.int 0)))) := h _ Kl.one upd_same
theorem bd_le {n : Nat} (h : n ≤ 8) : bd n ≤ 1280 := by
  unfold bd
  have : 2 ^ n ≤ 2 ^ 8 := Nat.pow_le_pow_right (by decide) h
  have : 2 ^ 8 = 256 := by decide
  omega
def sp_dr : Sp := fun vs H Q _ => ∃ (c : Int) (n : Nat), vs = [.int c, .int (n : Int)] ∧ n ≤ 8 ∧ ∀ (v : V) (e : Ex) (H' : Hp), Same H H' → ExAt H' e v → e.Ok → e.dep ≤ 8 → Q v H'
section
variable {P : Program} {w : World} {K : PySem.W.Frag} {mg : Str → Option Value} {base : Heap}
theorem sc_law_drawn : FnScope ["_law_cell", "_law_deep", "_law_tap_here", "_law_names"] ["_law_cell", "_law_deep"] (defScope s_law_drawn) := ⟨rfl, rfl, rfl, by decide +kernel, rfl, by decide +kernel, by decide +kernel⟩
theorem ok_law_drawn {f f1 f2 f3 f4 f5 f6 f7 f8 f9 : Addr} {fd d1 d2 d3 d4 d5 d6 d7 d8 d9 : FuncData} (F : Fun K "_law_drawn" "_law_drawn" s_law_drawn f fd) (T : Bt mg) (T_law_mixed : Fn K mg "_law_mixed" s_law_mixed ["_law_number_here", "_law_k"] f1 d1) (T_law_next : Fn K mg "_law_next" s_law_next ["_law_tap_here", "_law_size"] f2 d2) (T_law_kept : Fn K mg "_law_kept" s_law_kept [] f3 d3) (T_law_tap : Fn K mg "_law_tap" s_law_tap ["_law_cell"] f4 d4) (T_law_any_name : Fn K mg "_law_any_name" s_law_any_name ["_law_tap_here"] f5 d5) (T_law_number : Fn K mg "_law_number" s_law_number ["_law_tap_here"] f6 d6) (T_law_expr : Fn K mg "_law_expr" s_law_expr ["_law_tap_here", "_law_names", "_law_deep"] f7 d7) (T_law_expr_text : Fn K mg "_law_expr_text" s_law_expr_text ["_law_expr_here"] f8 d8) (T_law_short : Fn K mg "_law_short" s_law_short ["_law_expr_here"] f9 d9) : FnOk P w K mg base CX0 13 f fd ["_law_cell", "_law_deep"] sp_dr := by
  have G_law_next := ok_law_next (P := P) (w := w) (mg := mg) (base := base) T_law_next.F T_law_mixed
  have G_law_tap := ok_law_tap (P := P) (w := w) (base := base) T_law_tap.F T
  have G_law_any_name := ok_law_any_name (P := P) (w := w) (base := base) T_law_any_name.F T T_law_mixed T_law_next T_law_kept
  have G_law_expr : FnOk P w K mg base CX0 12 _ _ ["_law_tap_here", "_law_names", "_law_deep"] (fun vs H Q E => ∃ n, n ≤ 8 ∧ sp_expr n vs H Q E) := FnOk.any8 (sp := sp_expr) fun n hn => (ok_law_expr (P := P) (w := w) (base := base) T T_law_mixed T_law_next T_law_number T_law_expr n).mono (by omega)
  have G_law_short := ok_law_short (P := P) (w := w) (base := base) T_law_short.F T T_law_expr_text
  refine F.ok (k := 12) sc_law_drawn (fun vs H Q E h => ?_) (fun cdv A outer s H vs Q E hr h => ?_)
  · obtain ⟨c, n, rfl, _⟩ := h; rfl
  · obtain ⟨c, n, rfl, hn, q⟩ := h
    have hs : sizeLine = 16777216 := sizeLine_eq
    have hb := bd_le hn
    refine ⟨_, (pss_cons (ps_set (i := 2) sc_law_drawn.nd rfl (Or.inr rfl) (pe_call G_law_tap (hr.mono (by decide)) rfl T_law_tap.m T_law_tap.F.kp T_law_tap.b .nil pass0 (pa_consN (pv 0) pa_nil)))
      (pss_cons (ps_setComp (i := 3) rfl (blk_of (sc0 := defScope s_law_drawn) (N0 := ["_law_cell", "_law_deep", "_law_tap_here", "_law_names"]) (N' := ["_law_k", "_law_tap_here"]) (own := 1) (fv := [2]) (by decide +kernel) rfl rfl) sc_law_drawn.nd rfl (Or.inl rfl) (pi_range1 rfl T.b_range (pa_consN (pe_op op_add pe_int (pe_call G_law_next (hr.mono (by decide)) rfl T_law_next.m T_law_next.F.kp T_law_next.b .nil pass0 (pa_consN (pv 2) (pa_consN pe_int pa_nil)))) pa_nil)) (fun _ _ _ _ => (pg_name (i := 0) (by show List.Nodup (["_law_k", "_law_tap_here"] : List Str); decide +kernel) rfl (Or.inl rfl))) (fun _ _ _ _ => (pe_call G_law_any_name (hr.mono (by decide)) rfl T_law_any_name.m T_law_any_name.F.kp T_law_any_name.b .nil pass0 (pa_consN (pv 1) pa_nil))))
      (pss_cons (ps_asg pe_int (pg_sub (pv 2) pe_int set_list))
      (pss_one (ps_ret (pe_call G_law_short (hr.mono (by decide)) rfl T_law_short.m T_law_short.F.kp T_law_short.b .nil pass0 (pa_consN (pe_call G_law_expr (hr.mono (by decide)) rfl T_law_expr.m T_law_expr.F.kp T_law_expr.b .nil pass0 (pa_consN (pv 2) (pa_consN (pv 3) (pa_consN (pv 1) pa_nil)))) pa_nil))))))), ?_⟩
    refine ⟨_, rfl, c, rfl, fun a H1 ha y1 t1 => ?_⟩
    refine ⟨_, rfl, a, 0, 3, rfl, t1, by omega, by decide, by decide, fun v H2 v0 v1 k2 t2 => ?_⟩
    refine ⟨_, _, rfl, rfl, _, rfl, by omega, by omega, comp_rngInv (lo := 0) (n := (1 + v).toNat) (fvals := [some (.ref a)]) (fun acc i H3 => H2 acc = none ∧ acc ≠ a ∧ i ≤ 3 ∧ (∀ b o, H2 b = some o → b ≠ a → H3 b = some o) ∧ (∃ c2 : Nat, TapAt H3 a c2 ∧ c2 ≤ 1 + 20 * i) ∧ ∃ names : List Str, names.length = i ∧ (∀ x ∈ names, NmOk x) ∧ H3 acc = some (.lst (names.map V.str))) ?_ ?_ ?_⟩
    · intro acc hacc
      have hne : acc ≠ a := by
        rintro rfl
        obtain ⟨p1, p2, p3⟩ := t2
        rw [hacc] at p3; cases p3
      exact ⟨hacc, hne, Nat.zero_le _, fun b o hb _ => (Same.put hacc) _ _ hb, ⟨1, t2.same (Same.put hacc), by omega⟩, [], rfl, (fun x hx => by cases hx), upd_same⟩
    · rintro acc i H3 R hi ⟨hacc, hne, hi3, hk, ⟨c2, t3, hc2⟩, names, hl, hnm, ea⟩ hR
      refine ⟨_, rfl, a, c2, rfl, t3, by omega, fun x H4 c4 hc4 k4 t4 hx => ?_⟩
      have ea4 := k4 _ _ ea hne
      refine hR _ _ ⟨_, ea4, by rw [List.length_map]; omega, hacc, hne, by omega, fun b o hb hba => ?_, ⟨c4, ?_, by omega⟩, names ++ [x], by rw [List.length_append, hl]; rfl, fun y hy => ?_, ?_⟩
      · have hbacc : b ≠ acc := by
          rintro rfl
          rw [hacc] at hb; cases hb
        rw [upd_ne hbacc]
        exact k4 _ _ (hk b o hb hba) hba
      · obtain ⟨p1, p2, p3⟩ := t4
        exact ⟨p1, p2, by rw [upd_ne hne.symm]; exact p3⟩
      · rcases List.mem_append.mp hy with hy | hy
        · exact hnm y hy
        · rw [List.mem_singleton] at hy; rw [hy]; exact hx
      · rw [upd_same, List.map_append]; rfl
    · rintro acc H3 hacc ⟨_, hne, hi3, hk, ⟨c2, t3, hc2⟩, names, hl, hnm, ea⟩
      obtain ⟨x5, fl5, e5⟩ := id t3
      refine ⟨_, rfl, a, _, _, _, rfl, rfl, e5, rfl, ?_⟩
      refine set_go (q := fun H6 => _) (x := x5) (fl := fl5) (c := c2) (H := H3) (a := a) ?_
      intro H6 k6 e6
      have t6 : TapAt H6 a 0 := ⟨x5, fl5, e6⟩
      refine ⟨_, rfl, _, rfl, _, rfl, n, hn, a, acc, names, 0, rfl, t6, by omega, k6 _ _ ea hne, by omega, by omega, hnm, hne.symm, fun v1 e1 H7 c7 hc7 k7 t7 hE oE dE => ?_⟩
      refine ⟨v1, e1, rfl, hE, oE, by omega, fun v2 e2 H8 y8 hE2 oE2 dE2 => ?_⟩
      have hk' : Kl a H2 H3 := hk
      exact q v2 e2 H8 (Kl.same y1 ha ((((k2.trans hk').trans k6).trans k7).trans (Kl.of y8))) hE2 oE2 dE2
end
end K40

set_option Elab.async false
set_option linter.all false
set_option maxRecDepth 100000
set_option maxHeartbeats 4000000
namespace K40
open PySem L2
def sp_law (K : PySem.W.Frag) : Sp := fun vs H Q _ => ∃ (a : Addr) (ns : List Int), vs = [.ref a] ∧ SqL K H a (ns.map V.int) ∧ ns.length ≤ 63 ∧ ∀ H', Q (.bl true) H'
section
variable {P : Program} {w : World} {K : PySem.W.Frag} {mg : Str → Option Value} {base : Heap}
theorem sc_law : FnScope ["_law_script", "_law_k", "_law_cell", "_law_deep", "_law_due", "_law_text"] ["_law_script"] (defScope s_law) := ⟨rfl, rfl, rfl, by decide +kernel, rfl, by decide +kernel, by decide +kernel⟩
theorem ok_law {x0 x1 x2 x3 x4 x5 x6 x7 x8 x9 x10 x11 x12 x13 x14 x15 x16 x17 x18 x19 x20 x21 f : Addr} {e0 e1 e2 e3 e4 e5 e6 e7 e8 e9 e10 e11 e12 e13 e14 e15 e16 e17 e18 e19 e20 e21 fd : FuncData} (F : Fun K "law" "law" s_law f fd) (T : Bt mg) (C : Ct K mg)
    (T_are_of : Fn K mg "are_of" s_are_of ["text", "signs"] x0 e0) (T_is_lettered : Fn K mg "is_lettered" s_is_lettered ["text", "most"] x1 e1) (T_number_written : Fn K mg "number_written" s_number_written ["text", "most"] x2 e2) (T_is_name : Fn K mg "is_name" s_is_name ["text"] x3 e3) (T_run_of : Fn K mg "run_of" s_run_of ["text", "at", "signs"] x4 e4) (T_number_at : Fn K mg "number_at" s_number_at ["text", "at"] x5 e5) (T_within_at : Fn K mg "within_at" s_within_at ["text", "at", "brackets", "depth"] x6 e6) (T_joined_at : Fn K mg "joined_at" s_joined_at ["text", "at", "depth"] x7 e7) (T_lettered_at : Fn K mg "lettered_at" s_lettered_at ["text", "at", "letters", "depth"] x8 e8) (T_expr_at : Fn K mg "expr_at" s_expr_at ["text", "at", "depth"] x9 e9) (T_expr_of : Fn K mg "expr_of" s_expr_of ["text"] x10 e10) (T_law_mixed : Fn K mg "_law_mixed" s_law_mixed ["_law_number_here", "_law_k"] x11 e11) (T_law_tap : Fn K mg "_law_tap" s_law_tap ["_law_cell"] x12 e12) (T_law_next : Fn K mg "_law_next" s_law_next ["_law_tap_here", "_law_size"] x13 e13) (T_law_kept : Fn K mg "_law_kept" s_law_kept [] x14 e14) (T_law_any_name : Fn K mg "_law_any_name" s_law_any_name ["_law_tap_here"] x15 e15) (T_law_number : Fn K mg "_law_number" s_law_number ["_law_tap_here"] x16 e16) (T_law_expr : Fn K mg "_law_expr" s_law_expr ["_law_tap_here", "_law_names", "_law_deep"] x17 e17) (T_law_expr_text : Fn K mg "_law_expr_text" s_law_expr_text ["_law_expr_here"] x18 e18) (T_law_same : Fn K mg "_law_same" s_law_same ["_law_found", "_law_due"] x19 e19) (T_law_short : Fn K mg "_law_short" s_law_short ["_law_expr_here"] x20 e20) (T_law_drawn : Fn K mg "_law_drawn" s_law_drawn ["_law_cell", "_law_deep"] x21 e21) : FnOk P w K mg base CX0 31 f fd ["_law_script"] (sp_law K) := by
  have G_law_drawn := ok_law_drawn (P := P) (w := w) (base := base) T_law_drawn.F T T_law_mixed T_law_next T_law_kept T_law_tap T_law_any_name T_law_number T_law_expr T_law_expr_text T_law_short
  have G_law_expr_text : FnOk P w K mg base CX0 10 _ _ ["_law_expr_here"] (sp_tx 8) := ok_law_expr_text (P := P) (w := w) (base := base) T T_law_expr_text 8
  have G_law_same : FnOk P w K mg base CX0 11 _ _ ["_law_found", "_law_due"] (sp_sm 9) := ok_law_same (P := P) (w := w) (base := base) T T_law_same 9
  have G_expr_at : FnOk P w K mg base CX0 29 _ _ ["text", "at", "depth"] (sp_ex 8) := ok_expr_at (P := P) (w := w) (base := base) T C T_are_of T_run_of T_number_written T_number_at T_lettered_at T_joined_at T_within_at T_is_lettered T_is_name T_expr_at 8
  have G_expr_of := ok_expr_of (P := P) (w := w) (base := base) T_expr_of.F T T_expr_at G_expr_at
  refine F.ok (k := 30) sc_law (fun vs H Q E h => ?_) (fun cdv A outer s H vs Q E hr h => ?_)
  · obtain ⟨a, ns, rfl, _⟩ := h; rfl
  · obtain ⟨a, ns, rfl, hq, hn63, q⟩ := h
    have hs : sizeLine = 16777216 := sizeLine_eq
    refine ⟨_, (pss_cons (ps_for PassesOwn.never rfl (pi_enum (K := K) rfl T.b_enumerate (pa_consN (pe_op op_cat (pe_slice sl_list (pv 0) po_none (po_some pe_int)) (pe_lst (pa_consN (pe_callB call_len_seq rfl T.b_len (by decide +kernel) (pa_consN (pv 0) pa_nil)) pa_nil))) pa_nil)) (pg_tup rfl (pgs_cons (pg_name (i := 1) sc_law.nd rfl (Or.inl rfl)) (pgs_cons (pg_name (i := 2) sc_law.nd rfl (Or.inl rfl)) pgs_nil)))
        (pss_one (ps_for PassesOwn.never rfl (pi_tup (pe_tup (pa_consN pe_int (pa_consN pe_int pa_nil)))) (pg_name (i := 3) sc_law.nd rfl (Or.inl rfl))
          (pss_cons (ps_set (i := 4) sc_law.nd rfl (Or.inl rfl) (pe_call G_law_drawn (hr.mono (by decide)) rfl T_law_drawn.m T_law_drawn.F.kp T_law_drawn.b .nil pass0 (pa_consN (pe_op op_add (pv 2) (pe_op op_mul (pv 1) (pe_op op_sub pe_int (pv 3)))) (pa_consN (pv 3) pa_nil))))
          (pss_cons (ps_set (i := 5) sc_law.nd rfl (Or.inl rfl) (pe_call G_law_expr_text (hr.mono (by decide)) rfl T_law_expr_text.m T_law_expr_text.F.kp T_law_expr_text.b .nil pass0 (pa_consN (pv 4) pa_nil)))
          (pss_one (ps_if (PW.pt (pw_or (pt_not (pt_val (pe_call G_law_same (hr.mono (by decide)) rfl T_law_same.m T_law_same.F.kp T_law_same.b .nil pass0 (pa_consN (pe_call G_expr_of (hr.mono (by decide)) rfl T_expr_of.m T_expr_of.F.kp T_expr_of.b .nil pass0 (pa_consN (pv 5) pa_nil)) (pa_consN (pv 4) pa_nil))))) (pw_or1 (pt_not (pt_val (pe_call G_law_same (hr.mono (by decide)) rfl T_law_same.m T_law_same.F.kp T_law_same.b .nil pass0 (pa_consN (pe_call G_expr_of (hr.mono (by decide)) rfl T_expr_of.m T_expr_of.F.kp T_expr_of.b .nil pass0 (pa_consN (pv 5) pa_nil)) (pa_consN (pv 4) pa_nil))))))))
            (pss_one (ps_ret pe_bl))
            pss_nil)))))))
      (pss_one (ps_ret pe_bl))), ?_⟩
    refine ⟨_, rfl, _, rfl, a, _, rfl, hq, fun sl hsl => ?_⟩
    have hcl := cutV_length (ns.map V.int) none (some 12)
    rw [cut_ints] at hcl ⊢
    obtain ⟨cs, hcs⟩ : ∃ z, cutN ns none (some 12) = z := ⟨_, rfl⟩
    rw [hcs] at hcl ⊢
    rw [List.length_map, List.length_map] at hcl
    have y1 := Same.put (o := .lst (cs.map V.int)) hsl
    have esl : upd H sl (.lst (cs.map V.int)) sl = some (.lst (cs.map V.int)) := upd_same
    generalize upd H sl (.lst (cs.map V.int)) = Ha at y1 esl ⊢
    refine ⟨_, rfl, a, _, rfl, .inl (y1.seq hq), (by show 1 ≤ sizeLine; omega), fun l1 hl1 => ?_⟩
    have y2 := Same.put (o := .lst [V.int (((ns.map V.int).length : Nat) : Int)]) hl1
    have el1 : upd Ha l1 (.lst [V.int (((ns.map V.int).length : Nat) : Int)]) l1 = some (.lst (([(((ns.map V.int).length : Nat) : Int)] : List Int).map V.int)) := upd_same
    generalize upd Ha l1 (.lst [V.int (((ns.map V.int).length : Nat) : Int)]) = Hb at y2 el1 ⊢
    refine ⟨sl, l1, _, _, rfl, rfl, y2 _ _ esl, el1, (by rw [List.length_map, List.length_map]; show cs.length + 1 ≤ sizeLine; omega), fun L0 hL0 => ?_⟩
    rw [← List.map_append]
    obtain ⟨ms, hms⟩ : ∃ z, cs ++ [(((ns.map V.int).length : Nat) : Int)] = z := ⟨_, rfl⟩
    rw [hms]
    have lm : ms.length ≤ 64 := by rw [← hms, List.length_append]; show cs.length + 1 ≤ 64; omega
    have eL0 : upd Hb L0 (.lst (ms.map V.int)) L0 = some (.lst (ms.map V.int)) := upd_same
    generalize upd Hb L0 (.lst (ms.map V.int)) = H0 at eL0 ⊢
    refine ⟨L0, _, rfl, eL0, for_enum (K := K) (a := L0) (xs := ms.map V.int) (fun i σ H2 => ∃ (v1 v2 v3 v4 v5 : Option V), σ = [some (.ref a), v1, v2, v3, v4, v5] ∧ Same H0 H2) ⟨_, _, _, _, _, rfl, Same.refl _⟩ ?_ ?_ ?_⟩
    · rintro i σ H2 _ ⟨v1, v2, v3, v4, v5, rfl, s2⟩
      exact SqL.of (s2 _ _ eL0)
    · rintro i x σ H2 Tt hxi ⟨v1, v2, v3, v4, v5, rfl, s2⟩ hT
      obtain ⟨c, hc, rfl⟩ := map_int_get hxi
      have hi : i < ms.length := (List.getElem?_eq_some_iff.mp hc).1
      have yT := Same.put (o := .tup [V.int (i : Int), V.int c]) hT
      refine ⟨Tt, _, rfl, SqT.of upd_same, rfl, _, _, rfl, _, _, rfl, rfl, ?_⟩
      generalize upd H2 Tt (.tup [V.int (i : Int), V.int c]) = H3 at yT ⊢
      have s3 := s2.trans yT
      refine ⟨(by show 2 ≤ sizeLine; omega), fun dl hdl => ?_⟩
      have y4 := Same.put (o := .tup [V.int 8, V.int 3]) hdl
      have edl : upd H3 dl (.tup [V.int 8, V.int 3]) dl = some (.tup [V.int 8, V.int 3]) := upd_same
      generalize upd H3 dl (.tup [V.int 8, V.int 3]) = H4 at y4 edl ⊢
      refine ⟨dl, rfl, ⟨_, SqT.of edl⟩, for_tup (K := K) (a := dl) (xs := [V.int 8, V.int 3]) (fun j σ H5 => ∃ (v3 v4 v5 : Option V), σ = [some (.ref a), some (.int (i : Int)), some (.int c), v3, v4, v5] ∧ Same H4 H5) ⟨_, _, _, rfl, Same.refl _⟩ ?_ ?_ ?_⟩
      · rintro j σ H5 _ ⟨v3, v4, v5, rfl, s5⟩
        exact SqT.of (s5 _ _ edl)
      · rintro j x σ H5 hxj ⟨v3, v4, v5, rfl, s5⟩
        obtain ⟨n, hn, rfl⟩ : ∃ n : Nat, n ≤ 8 ∧ x = V.int (n : Int) := by
          match j, hxj with
          | 0, h => cases h; exact ⟨8, by decide, rfl⟩
          | 1, h => cases h; exact ⟨3, by decide, rfl⟩
          | j + 2, h => cases h
        refine ⟨_, rfl, _, rfl, _, rfl, _, _, rfl, rfl, _, _, rfl, rfl, cmul_l (by omega) (by omega), _, _, rfl, rfl, _, rfl, _, n, rfl, hn, fun v e H6 y6 hE oE dE => ?_⟩
        refine ⟨_, rfl, v, e, rfl, hE, oE, dE, dE, fun z H7 y7 hz => ?_⟩
        have lz : z.length ≤ 100000 := by rw [wr_len, hz]; have := ex_len8 oE dE; omega
        refine ⟨_, rfl, z, e, rfl, hz, oE, dE, lz, fun u1 H8 y8 hE1 => ?_⟩
        refine ⟨_, rfl, u1, v, rfl, ex_alk e 9 hE1 ((hE.same y7).same y8) (by omega), fun H9 y9 => ?_⟩
        refine ⟨_, rfl, iteF ?_⟩
        refine ⟨_, rfl, z, e, rfl, hz, oE, dE, lz, fun u2 H10 y10 hE2 => ?_⟩
        refine ⟨_, rfl, u2, v, rfl, ex_alk e 9 hE2 ((((hE.same y7).same y8).same y9).same y10) (by omega), fun H11 y11 => ?_⟩
        refine ⟨_, rfl, iteF ?_⟩
        exact ⟨_, _, _, rfl, s5.trans (y6.trans (y7.trans (y8.trans (y9.trans (y10.trans y11)))))⟩
      · rintro σ H5 ⟨v3, v4, v5, rfl, s5⟩
        exact ⟨_, _, _, _, _, rfl, s3.trans (y4.trans s5)⟩
    · rintro σ H2 ⟨v1, v2, v3, v4, v5, rfl, s2⟩
      exact q _
end
end K40

set_option Elab.async false
set_option linter.all false
set_option maxRecDepth 100000
set_option maxHeartbeats 4000000
namespace K40
open PySem L2
theorem all_mk {l : PySem.W.OpenLaw} {w : World} {K : PySem.W.Frag} {h : Heap} {mg : Str → Option Value} {fz : Addr} {tk : Tok} (X : K.In h) (G : h.Ns mainGlobals mg) (hfa : mg "law" = some (.ref fz))
    {f0 : Addr} {od0 an0 : Option Addr} {sl0 : Array (Option Value)} {oc0 kV0 dc0 pm0 cd0 ct0 : Value}
    {f1 : Addr} {od1 an1 : Option Addr} {sl1 : Array (Option Value)} {oc1 kV1 dc1 pm1 cd1 ct1 : Value}
    {f2 : Addr} {od2 an2 : Option Addr} {sl2 : Array (Option Value)} {oc2 kV2 dc2 pm2 cd2 ct2 : Value}
    {f3 : Addr} {od3 an3 : Option Addr} {sl3 : Array (Option Value)} {oc3 kV3 dc3 pm3 cd3 ct3 : Value}
    {f4 : Addr} {od4 an4 : Option Addr} {sl4 : Array (Option Value)} {oc4 kV4 dc4 pm4 cd4 ct4 : Value}
    {f5 : Addr} {od5 an5 : Option Addr} {sl5 : Array (Option Value)} {oc5 kV5 dc5 pm5 cd5 ct5 : Value}
    {f6 : Addr} {od6 an6 : Option Addr} {sl6 : Array (Option Value)} {oc6 kV6 dc6 pm6 cd6 ct6 : Value}
    {f7 : Addr} {od7 an7 : Option Addr} {sl7 : Array (Option Value)} {oc7 kV7 dc7 pm7 cd7 ct7 : Value}
    {f8 : Addr} {od8 an8 : Option Addr} {sl8 : Array (Option Value)} {oc8 kV8 dc8 pm8 cd8 ct8 : Value}
    {f9 : Addr} {od9 an9 : Option Addr} {sl9 : Array (Option Value)} {oc9 kV9 dc9 pm9 cd9 ct9 : Value}
    {f10 : Addr} {od10 an10 : Option Addr} {sl10 : Array (Option Value)} {oc10 kV10 dc10 pm10 cd10 ct10 : Value}
    {f11 : Addr} {od11 an11 : Option Addr} {sl11 : Array (Option Value)} {oc11 kV11 dc11 pm11 cd11 ct11 : Value}
    {f12 : Addr} {od12 an12 : Option Addr} {sl12 : Array (Option Value)} {oc12 kV12 dc12 pm12 cd12 ct12 : Value}
    {f13 : Addr} {od13 an13 : Option Addr} {sl13 : Array (Option Value)} {oc13 kV13 dc13 pm13 cd13 ct13 : Value}
    {f14 : Addr} {od14 an14 : Option Addr} {sl14 : Array (Option Value)} {oc14 kV14 dc14 pm14 cd14 ct14 : Value}
    {f15 : Addr} {od15 an15 : Option Addr} {sl15 : Array (Option Value)} {oc15 kV15 dc15 pm15 cd15 ct15 : Value}
    {f16 : Addr} {od16 an16 : Option Addr} {sl16 : Array (Option Value)} {oc16 kV16 dc16 pm16 cd16 ct16 : Value}
    {f17 : Addr} {od17 an17 : Option Addr} {sl17 : Array (Option Value)} {oc17 kV17 dc17 pm17 cd17 ct17 : Value}
    {f18 : Addr} {od18 an18 : Option Addr} {sl18 : Array (Option Value)} {oc18 kV18 dc18 pm18 cd18 ct18 : Value}
    {f19 : Addr} {od19 an19 : Option Addr} {sl19 : Array (Option Value)} {oc19 kV19 dc19 pm19 cd19 ct19 : Value}
    {f20 : Addr} {od20 an20 : Option Addr} {sl20 : Array (Option Value)} {oc20 kV20 dc20 pm20 cd20 ct20 : Value}
    {f21 : Addr} {od21 an21 : Option Addr} {sl21 : Array (Option Value)} {oc21 kV21 dc21 pm21 cd21 ct21 : Value}
    {f22 : Addr} {od22 an22 : Option Addr} {sl22 : Array (Option Value)} {oc22 kV22 dc22 pm22 cd22 ct22 : Value}
    (a0 : PySem.W.nsIn K mainGlobals "are_of" = some (some (.ref f0))) (l0 : K.lookup f0 = some ⟨oc0, od0, .func (PySem.W.fnOf "are_of" "are_of" (defArgs s_are_of) (defBody s_are_of) (defScope s_are_of) .none kV0 dc0 pm0 an0 cd0 ct0), sl0⟩) (c0 : PySem.W.codeIn K cd0 "are_of" = true) (k0 : PySem.W.keepIn K (.ref f0) = true)
    (a1 : PySem.W.nsIn K mainGlobals "is_lettered" = some (some (.ref f1))) (l1 : K.lookup f1 = some ⟨oc1, od1, .func (PySem.W.fnOf "is_lettered" "is_lettered" (defArgs s_is_lettered) (defBody s_is_lettered) (defScope s_is_lettered) .none kV1 dc1 pm1 an1 cd1 ct1), sl1⟩) (c1 : PySem.W.codeIn K cd1 "is_lettered" = true) (k1 : PySem.W.keepIn K (.ref f1) = true)
    (a2 : PySem.W.nsIn K mainGlobals "number_written" = some (some (.ref f2))) (l2 : K.lookup f2 = some ⟨oc2, od2, .func (PySem.W.fnOf "number_written" "number_written" (defArgs s_number_written) (defBody s_number_written) (defScope s_number_written) .none kV2 dc2 pm2 an2 cd2 ct2), sl2⟩) (c2 : PySem.W.codeIn K cd2 "number_written" = true) (k2 : PySem.W.keepIn K (.ref f2) = true)
    (a3 : PySem.W.nsIn K mainGlobals "is_name" = some (some (.ref f3))) (l3 : K.lookup f3 = some ⟨oc3, od3, .func (PySem.W.fnOf "is_name" "is_name" (defArgs s_is_name) (defBody s_is_name) (defScope s_is_name) .none kV3 dc3 pm3 an3 cd3 ct3), sl3⟩) (c3 : PySem.W.codeIn K cd3 "is_name" = true) (k3 : PySem.W.keepIn K (.ref f3) = true)
    (a4 : PySem.W.nsIn K mainGlobals "run_of" = some (some (.ref f4))) (l4 : K.lookup f4 = some ⟨oc4, od4, .func (PySem.W.fnOf "run_of" "run_of" (defArgs s_run_of) (defBody s_run_of) (defScope s_run_of) .none kV4 dc4 pm4 an4 cd4 ct4), sl4⟩) (c4 : PySem.W.codeIn K cd4 "run_of" = true) (k4 : PySem.W.keepIn K (.ref f4) = true)
    (a5 : PySem.W.nsIn K mainGlobals "number_at" = some (some (.ref f5))) (l5 : K.lookup f5 = some ⟨oc5, od5, .func (PySem.W.fnOf "number_at" "number_at" (defArgs s_number_at) (defBody s_number_at) (defScope s_number_at) .none kV5 dc5 pm5 an5 cd5 ct5), sl5⟩) (c5 : PySem.W.codeIn K cd5 "number_at" = true) (k5 : PySem.W.keepIn K (.ref f5) = true)
    (a6 : PySem.W.nsIn K mainGlobals "within_at" = some (some (.ref f6))) (l6 : K.lookup f6 = some ⟨oc6, od6, .func (PySem.W.fnOf "within_at" "within_at" (defArgs s_within_at) (defBody s_within_at) (defScope s_within_at) .none kV6 dc6 pm6 an6 cd6 ct6), sl6⟩) (c6 : PySem.W.codeIn K cd6 "within_at" = true) (k6 : PySem.W.keepIn K (.ref f6) = true)
    (a7 : PySem.W.nsIn K mainGlobals "joined_at" = some (some (.ref f7))) (l7 : K.lookup f7 = some ⟨oc7, od7, .func (PySem.W.fnOf "joined_at" "joined_at" (defArgs s_joined_at) (defBody s_joined_at) (defScope s_joined_at) .none kV7 dc7 pm7 an7 cd7 ct7), sl7⟩) (c7 : PySem.W.codeIn K cd7 "joined_at" = true) (k7 : PySem.W.keepIn K (.ref f7) = true)
    (a8 : PySem.W.nsIn K mainGlobals "lettered_at" = some (some (.ref f8))) (l8 : K.lookup f8 = some ⟨oc8, od8, .func (PySem.W.fnOf "lettered_at" "lettered_at" (defArgs s_lettered_at) (defBody s_lettered_at) (defScope s_lettered_at) .none kV8 dc8 pm8 an8 cd8 ct8), sl8⟩) (c8 : PySem.W.codeIn K cd8 "lettered_at" = true) (k8 : PySem.W.keepIn K (.ref f8) = true)
    (a9 : PySem.W.nsIn K mainGlobals "expr_at" = some (some (.ref f9))) (l9 : K.lookup f9 = some ⟨oc9, od9, .func (PySem.W.fnOf "expr_at" "expr_at" (defArgs s_expr_at) (defBody s_expr_at) (defScope s_expr_at) .none kV9 dc9 pm9 an9 cd9 ct9), sl9⟩) (c9 : PySem.W.codeIn K cd9 "expr_at" = true) (k9 : PySem.W.keepIn K (.ref f9) = true)
    (a10 : PySem.W.nsIn K mainGlobals "expr_of" = some (some (.ref f10))) (l10 : K.lookup f10 = some ⟨oc10, od10, .func (PySem.W.fnOf "expr_of" "expr_of" (defArgs s_expr_of) (defBody s_expr_of) (defScope s_expr_of) .none kV10 dc10 pm10 an10 cd10 ct10), sl10⟩) (c10 : PySem.W.codeIn K cd10 "expr_of" = true) (k10 : PySem.W.keepIn K (.ref f10) = true)
    (a11 : PySem.W.nsIn K mainGlobals "_law_mixed" = some (some (.ref f11))) (l11 : K.lookup f11 = some ⟨oc11, od11, .func (PySem.W.fnOf "_law_mixed" "_law_mixed" (defArgs s_law_mixed) (defBody s_law_mixed) (defScope s_law_mixed) .none kV11 dc11 pm11 an11 cd11 ct11), sl11⟩) (c11 : PySem.W.codeIn K cd11 "_law_mixed" = true) (k11 : PySem.W.keepIn K (.ref f11) = true)
    (a12 : PySem.W.nsIn K mainGlobals "_law_tap" = some (some (.ref f12))) (l12 : K.lookup f12 = some ⟨oc12, od12, .func (PySem.W.fnOf "_law_tap" "_law_tap" (defArgs s_law_tap) (defBody s_law_tap) (defScope s_law_tap) .none kV12 dc12 pm12 an12 cd12 ct12), sl12⟩) (c12 : PySem.W.codeIn K cd12 "_law_tap" = true) (k12 : PySem.W.keepIn K (.ref f12) = true)
    (a13 : PySem.W.nsIn K mainGlobals "_law_next" = some (some (.ref f13))) (l13 : K.lookup f13 = some ⟨oc13, od13, .func (PySem.W.fnOf "_law_next" "_law_next" (defArgs s_law_next) (defBody s_law_next) (defScope s_law_next) .none kV13 dc13 pm13 an13 cd13 ct13), sl13⟩) (c13 : PySem.W.codeIn K cd13 "_law_next" = true) (k13 : PySem.W.keepIn K (.ref f13) = true)
    (a14 : PySem.W.nsIn K mainGlobals "_law_kept" = some (some (.ref f14))) (l14 : K.lookup f14 = some ⟨oc14, od14, .func (PySem.W.fnOf "_law_kept" "_law_kept" (defArgs s_law_kept) (defBody s_law_kept) (defScope s_law_kept) .none kV14 dc14 pm14 an14 cd14 ct14), sl14⟩) (c14 : PySem.W.codeIn K cd14 "_law_kept" = true) (k14 : PySem.W.keepIn K (.ref f14) = true)
    (a15 : PySem.W.nsIn K mainGlobals "_law_any_name" = some (some (.ref f15))) (l15 : K.lookup f15 = some ⟨oc15, od15, .func (PySem.W.fnOf "_law_any_name" "_law_any_name" (defArgs s_law_any_name) (defBody s_law_any_name) (defScope s_law_any_name) .none kV15 dc15 pm15 an15 cd15 ct15), sl15⟩) (c15 : PySem.W.codeIn K cd15 "_law_any_name" = true) (k15 : PySem.W.keepIn K (.ref f15) = true)
    (a16 : PySem.W.nsIn K mainGlobals "_law_number" = some (some (.ref f16))) (l16 : K.lookup f16 = some ⟨oc16, od16, .func (PySem.W.fnOf "_law_number" "_law_number" (defArgs s_law_number) (defBody s_law_number) (defScope s_law_number) .none kV16 dc16 pm16 an16 cd16 ct16), sl16⟩) (c16 : PySem.W.codeIn K cd16 "_law_number" = true) (k16 : PySem.W.keepIn K (.ref f16) = true)
    (a17 : PySem.W.nsIn K mainGlobals "_law_expr" = some (some (.ref f17))) (l17 : K.lookup f17 = some ⟨oc17, od17, .func (PySem.W.fnOf "_law_expr" "_law_expr" (defArgs s_law_expr) (defBody s_law_expr) (defScope s_law_expr) .none kV17 dc17 pm17 an17 cd17 ct17), sl17⟩) (c17 : PySem.W.codeIn K cd17 "_law_expr" = true) (k17 : PySem.W.keepIn K (.ref f17) = true)
    (a18 : PySem.W.nsIn K mainGlobals "_law_expr_text" = some (some (.ref f18))) (l18 : K.lookup f18 = some ⟨oc18, od18, .func (PySem.W.fnOf "_law_expr_text" "_law_expr_text" (defArgs s_law_expr_text) (defBody s_law_expr_text) (defScope s_law_expr_text) .none kV18 dc18 pm18 an18 cd18 ct18), sl18⟩) (c18 : PySem.W.codeIn K cd18 "_law_expr_text" = true) (k18 : PySem.W.keepIn K (.ref f18) = true)
    (a19 : PySem.W.nsIn K mainGlobals "_law_same" = some (some (.ref f19))) (l19 : K.lookup f19 = some ⟨oc19, od19, .func (PySem.W.fnOf "_law_same" "_law_same" (defArgs s_law_same) (defBody s_law_same) (defScope s_law_same) .none kV19 dc19 pm19 an19 cd19 ct19), sl19⟩) (c19 : PySem.W.codeIn K cd19 "_law_same" = true) (k19 : PySem.W.keepIn K (.ref f19) = true)
    (a20 : PySem.W.nsIn K mainGlobals "_law_short" = some (some (.ref f20))) (l20 : K.lookup f20 = some ⟨oc20, od20, .func (PySem.W.fnOf "_law_short" "_law_short" (defArgs s_law_short) (defBody s_law_short) (defScope s_law_short) .none kV20 dc20 pm20 an20 cd20 ct20), sl20⟩) (c20 : PySem.W.codeIn K cd20 "_law_short" = true) (k20 : PySem.W.keepIn K (.ref f20) = true)
    (a21 : PySem.W.nsIn K mainGlobals "_law_drawn" = some (some (.ref f21))) (l21 : K.lookup f21 = some ⟨oc21, od21, .func (PySem.W.fnOf "_law_drawn" "_law_drawn" (defArgs s_law_drawn) (defBody s_law_drawn) (defScope s_law_drawn) .none kV21 dc21 pm21 an21 cd21 ct21), sl21⟩) (c21 : PySem.W.codeIn K cd21 "_law_drawn" = true) (k21 : PySem.W.keepIn K (.ref f21) = true)
    (a22 : PySem.W.nsIn K mainGlobals "law" = some (some (.ref f22))) (l22 : K.lookup f22 = some ⟨oc22, od22, .func (PySem.W.fnOf "law" "law" (defArgs s_law) (defBody s_law) (defScope s_law) .none kV22 dc22 pm22 an22 cd22 ct22), sl22⟩) (c22 : PySem.W.codeIn K cd22 "law" = true) (k22 : PySem.W.keepIn K (.ref f22) = true)
    {tk_LETTERS : Tok} (fw_LETTERS : PySem.W.nsIn K mainGlobals "LETTERS" = some (some (.str "abcdefghijklmnopqrstuvwxyz" tk_LETTERS)))
    {tk_FIGURES : Tok} (fw_FIGURES : PySem.W.nsIn K mainGlobals "FIGURES" = some (some (.str "0123456789" tk_FIGURES)))
    {aW_RESERVED : Addr} {slW_RESERVED : Array (Option Value)} {nW_RESERVED : Nat} {tW_RESERVED_0 tW_RESERVED_1 tW_RESERVED_2 tW_RESERVED_3 tW_RESERVED_4 tW_RESERVED_5 tW_RESERVED_6 tW_RESERVED_7 tW_RESERVED_8 tW_RESERVED_9 tW_RESERVED_10 tW_RESERVED_11 tW_RESERVED_12 tW_RESERVED_13 tW_RESERVED_14 tW_RESERVED_15 tW_RESERVED_16 tW_RESERVED_17 : Tok} (fw_RESERVED : PySem.W.nsIn K mainGlobals "RESERVED" = some (some (.ref aW_RESERVED))) (lw_RESERVED : K.lookup aW_RESERVED = some ⟨.type "tuple", none, .seq #[.str "num" tW_RESERVED_0, .str "flag" tW_RESERVED_1, .str "list" tW_RESERVED_2, .str "part" tW_RESERVED_3, .str "main" tW_RESERVED_4, .str "end" tW_RESERVED_5, .str "tell" tW_RESERVED_6, .str "ask" tW_RESERVED_7, .str "do" tW_RESERVED_8, .str "if" tW_RESERVED_9, .str "else" tW_RESERVED_10, .str "while" tW_RESERVED_11, .str "stop" tW_RESERVED_12, .str "give" tW_RESERVED_13, .str "way" tW_RESERVED_14, .str "not" tW_RESERVED_15, .str "yes" tW_RESERVED_16, .str "no" tW_RESERVED_17] nW_RESERVED, slW_RESERVED⟩)
    {aW_JOINS : Addr} {slW_JOINS : Array (Option Value)} {nW_JOINS : Nat} {tW_JOINS_0 tW_JOINS_1 tW_JOINS_2 tW_JOINS_3 tW_JOINS_4 : Tok} (fw_JOINS : PySem.W.nsIn K mainGlobals "JOINS" = some (some (.ref aW_JOINS))) (lw_JOINS : K.lookup aW_JOINS = some ⟨.type "tuple", none, .seq #[.str "+" tW_JOINS_0, .str "-" tW_JOINS_1, .str "&" tW_JOINS_2, .str "<" tW_JOINS_3, .str "=" tW_JOINS_4] nW_JOINS, slW_JOINS⟩)
    {tk_MOST_NAME : Tok} (fw_MOST_NAME : PySem.W.nsIn K mainGlobals "MOST_NAME" = some (some (.int 8 tk_MOST_NAME)))
    {tk_MOST_NUMBER : Tok} (fw_MOST_NUMBER : PySem.W.nsIn K mainGlobals "MOST_NUMBER" = some (some (.int 4095 tk_MOST_NUMBER)))
    {tk_MOST_BRACKETS : Tok} (fw_MOST_BRACKETS : PySem.W.nsIn K mainGlobals "MOST_BRACKETS" = some (some (.int 8 tk_MOST_BRACKETS)))
    (z_len : PySem.W.nsIn K mainGlobals "len" = some none)
    (z_range : PySem.W.nsIn K mainGlobals "range" = some none)
    (z_list : PySem.W.nsIn K mainGlobals "list" = some none)
    (z_isinstance : PySem.W.nsIn K mainGlobals "isinstance" = some none)
    (z_int : PySem.W.nsIn K mainGlobals "int" = some none)
    (z_tuple : PySem.W.nsIn K mainGlobals "tuple" = some none)
    (z_enumerate : PySem.W.nsIn K mainGlobals "enumerate" = some none)
    (z_str : PySem.W.nsIn K mainGlobals "str" = some none)
    (z_all : PySem.W.nsIn K mainGlobals "all" = some none)
    (z_bool : PySem.W.nsIn K mainGlobals "bool" = some none)
    : ∃ fd : FuncData, (∀ (s : Shared) (v : Value), BindsTo s fd ⟨[v], []⟩ [("_law_script", v)]) ∧ ∀ base : Heap, K.In base → base.Ns mainGlobals mg → FnOk l.prog w K mg base CX0 31 fz fd ["_law_script"] (sp_law K) := by
  have e := hfa.symm.trans (PySem.W.mg_of X G a22)
  cases e
  have T : Bt mg := ⟨PySem.W.mg_none_of X G z_len, PySem.W.mg_none_of X G z_range, PySem.W.mg_none_of X G z_list, PySem.W.mg_none_of X G z_isinstance, PySem.W.mg_none_of X G z_int, PySem.W.mg_none_of X G z_tuple, PySem.W.mg_none_of X G z_enumerate, PySem.W.mg_none_of X G z_str, PySem.W.mg_none_of X G z_all, PySem.W.mg_none_of X G z_bool⟩
  have C : Ct K mg := ⟨⟨_, PySem.W.mg_of X G fw_LETTERS⟩, ⟨_, PySem.W.mg_of X G fw_FIGURES⟩, ⟨_, PySem.W.mg_of X G fw_RESERVED, fun H => .inr ⟨_, _, _, lw_RESERVED, rfl, rfl, by show 18 ≤ sizeLine; rw [sizeLine_eq]; decide, .cons ⟨_, rfl⟩ (.cons ⟨_, rfl⟩ (.cons ⟨_, rfl⟩ (.cons ⟨_, rfl⟩ (.cons ⟨_, rfl⟩ (.cons ⟨_, rfl⟩ (.cons ⟨_, rfl⟩ (.cons ⟨_, rfl⟩ (.cons ⟨_, rfl⟩ (.cons ⟨_, rfl⟩ (.cons ⟨_, rfl⟩ (.cons ⟨_, rfl⟩ (.cons ⟨_, rfl⟩ (.cons ⟨_, rfl⟩ (.cons ⟨_, rfl⟩ (.cons ⟨_, rfl⟩ (.cons ⟨_, rfl⟩ (.cons ⟨_, rfl⟩ (.nil))))))))))))))))))⟩, _, lw_RESERVED, rfl, rfl⟩, ⟨_, PySem.W.mg_of X G fw_JOINS, fun H => .inr ⟨_, _, _, lw_JOINS, rfl, rfl, by show 5 ≤ sizeLine; rw [sizeLine_eq]; decide, .cons ⟨_, rfl⟩ (.cons ⟨_, rfl⟩ (.cons ⟨_, rfl⟩ (.cons ⟨_, rfl⟩ (.cons ⟨_, rfl⟩ (.nil)))))⟩, _, lw_JOINS, rfl, rfl⟩, ⟨_, PySem.W.mg_of X G fw_MOST_NAME⟩, ⟨_, PySem.W.mg_of X G fw_MOST_NUMBER⟩, ⟨_, PySem.W.mg_of X G fw_MOST_BRACKETS⟩⟩
  have F0 := fun_mk (st := s_are_of) l0 c0 k0
  have b0 := F0.binds (ps := ["text", "signs"]) fun _ _ _ _ _ _ us hl => match us, hl with | [_, _], _ => rfl
  have F1 := fun_mk (st := s_is_lettered) l1 c1 k1
  have b1 := F1.binds (ps := ["text", "most"]) fun _ _ _ _ _ _ us hl => match us, hl with | [_, _], _ => rfl
  have F2 := fun_mk (st := s_number_written) l2 c2 k2
  have b2 := F2.binds (ps := ["text", "most"]) fun _ _ _ _ _ _ us hl => match us, hl with | [_, _], _ => rfl
  have F3 := fun_mk (st := s_is_name) l3 c3 k3
  have b3 := F3.binds (ps := ["text"]) fun _ _ _ _ _ _ us hl => match us, hl with | [_], _ => rfl
  have F4 := fun_mk (st := s_run_of) l4 c4 k4
  have b4 := F4.binds (ps := ["text", "at", "signs"]) fun _ _ _ _ _ _ us hl => match us, hl with | [_, _, _], _ => rfl
  have F5 := fun_mk (st := s_number_at) l5 c5 k5
  have b5 := F5.binds (ps := ["text", "at"]) fun _ _ _ _ _ _ us hl => match us, hl with | [_, _], _ => rfl
  have F6 := fun_mk (st := s_within_at) l6 c6 k6
  have b6 := F6.binds (ps := ["text", "at", "brackets", "depth"]) fun _ _ _ _ _ _ us hl => match us, hl with | [_, _, _, _], _ => rfl
  have F7 := fun_mk (st := s_joined_at) l7 c7 k7
  have b7 := F7.binds (ps := ["text", "at", "depth"]) fun _ _ _ _ _ _ us hl => match us, hl with | [_, _, _], _ => rfl
  have F8 := fun_mk (st := s_lettered_at) l8 c8 k8
  have b8 := F8.binds (ps := ["text", "at", "letters", "depth"]) fun _ _ _ _ _ _ us hl => match us, hl with | [_, _, _, _], _ => rfl
  have F9 := fun_mk (st := s_expr_at) l9 c9 k9
  have b9 := F9.binds (ps := ["text", "at", "depth"]) fun _ _ _ _ _ _ us hl => match us, hl with | [_, _, _], _ => rfl
  have F10 := fun_mk (st := s_expr_of) l10 c10 k10
  have b10 := F10.binds (ps := ["text"]) fun _ _ _ _ _ _ us hl => match us, hl with | [_], _ => rfl
  have F11 := fun_mk (st := s_law_mixed) l11 c11 k11
  have b11 := F11.binds (ps := ["_law_number_here", "_law_k"]) fun _ _ _ _ _ _ us hl => match us, hl with | [_, _], _ => rfl
  have F12 := fun_mk (st := s_law_tap) l12 c12 k12
  have b12 := F12.binds (ps := ["_law_cell"]) fun _ _ _ _ _ _ us hl => match us, hl with | [_], _ => rfl
  have F13 := fun_mk (st := s_law_next) l13 c13 k13
  have b13 := F13.binds (ps := ["_law_tap_here", "_law_size"]) fun _ _ _ _ _ _ us hl => match us, hl with | [_, _], _ => rfl
  have F14 := fun_mk (st := s_law_kept) l14 c14 k14
  have b14 := F14.binds (ps := []) fun _ _ _ _ _ _ us hl => match us, hl with | [], _ => rfl
  have F15 := fun_mk (st := s_law_any_name) l15 c15 k15
  have b15 := F15.binds (ps := ["_law_tap_here"]) fun _ _ _ _ _ _ us hl => match us, hl with | [_], _ => rfl
  have F16 := fun_mk (st := s_law_number) l16 c16 k16
  have b16 := F16.binds (ps := ["_law_tap_here"]) fun _ _ _ _ _ _ us hl => match us, hl with | [_], _ => rfl
  have F17 := fun_mk (st := s_law_expr) l17 c17 k17
  have b17 := F17.binds (ps := ["_law_tap_here", "_law_names", "_law_deep"]) fun _ _ _ _ _ _ us hl => match us, hl with | [_, _, _], _ => rfl
  have F18 := fun_mk (st := s_law_expr_text) l18 c18 k18
  have b18 := F18.binds (ps := ["_law_expr_here"]) fun _ _ _ _ _ _ us hl => match us, hl with | [_], _ => rfl
  have F19 := fun_mk (st := s_law_same) l19 c19 k19
  have b19 := F19.binds (ps := ["_law_found", "_law_due"]) fun _ _ _ _ _ _ us hl => match us, hl with | [_, _], _ => rfl
  have F20 := fun_mk (st := s_law_short) l20 c20 k20
  have b20 := F20.binds (ps := ["_law_expr_here"]) fun _ _ _ _ _ _ us hl => match us, hl with | [_], _ => rfl
  have F21 := fun_mk (st := s_law_drawn) l21 c21 k21
  have b21 := F21.binds (ps := ["_law_cell", "_law_deep"]) fun _ _ _ _ _ _ us hl => match us, hl with | [_, _], _ => rfl
  have F22 := fun_mk (st := s_law) l22 c22 k22
  exact ⟨PySem.W.fnOf "law" "law" (defArgs s_law) (defBody s_law) (defScope s_law) .none kV22 dc22 pm22 an22 cd22 ct22, fun s v => .of_eq rfl, fun base _ _ => ok_law F22 T C ⟨F0, PySem.W.mg_of X G a0, b0⟩ ⟨F1, PySem.W.mg_of X G a1, b1⟩ ⟨F2, PySem.W.mg_of X G a2, b2⟩ ⟨F3, PySem.W.mg_of X G a3, b3⟩ ⟨F4, PySem.W.mg_of X G a4, b4⟩ ⟨F5, PySem.W.mg_of X G a5, b5⟩ ⟨F6, PySem.W.mg_of X G a6, b6⟩ ⟨F7, PySem.W.mg_of X G a7, b7⟩ ⟨F8, PySem.W.mg_of X G a8, b8⟩ ⟨F9, PySem.W.mg_of X G a9, b9⟩ ⟨F10, PySem.W.mg_of X G a10, b10⟩ ⟨F11, PySem.W.mg_of X G a11, b11⟩ ⟨F12, PySem.W.mg_of X G a12, b12⟩ ⟨F13, PySem.W.mg_of X G a13, b13⟩ ⟨F14, PySem.W.mg_of X G a14, b14⟩ ⟨F15, PySem.W.mg_of X G a15, b15⟩ ⟨F16, PySem.W.mg_of X G a16, b16⟩ ⟨F17, PySem.W.mg_of X G a17, b17⟩ ⟨F18, PySem.W.mg_of X G a18, b18⟩ ⟨F19, PySem.W.mg_of X G a19, b19⟩ ⟨F20, PySem.W.mg_of X G a20, b20⟩ ⟨F21, PySem.W.mg_of X G a21, b21⟩⟩
theorem walk {l : PySem.W.OpenLaw} {q : Program} {loose : List Str} {XP : (Str → Option Value) → Heap → Prop} {YP : World → Heap → Prop} {d : DefRec} {K : Params → PySem.W.Frag} (hn : l.most = some 63) (hdf : d.params.defaults = [])
    (hY : ∀ (w : World) (h : Heap), YP w h → (K w.params).In h)
    (F : ∀ (w : World) (mg : Str → Option Value) (fa : Addr) (h : Heap), (K w.params).In h → h.Ns mainGlobals mg → mg d.name = some (.ref fa) →
      ∃ fd : FuncData, (∀ (s : Shared) (u : Value), BindsTo s fd ⟨[u], []⟩ [("_law_script", u)]) ∧ ∀ base : Heap, (K w.params).In base → base.Ns mainGlobals mg → FnOk l.prog w (K w.params) mg base CX0 31 fa fd ["_law_script"] (sp_law (K w.params))) :
    PySem.W.WalkO q loose XP YP l.row.toRowW d [] (fun f vs => PySem.call f vs) :=
  L2.walk_of (n := 63) (k := 31) (x := "_law_script") (CX := fun _ => CX0) (sp := fun w => sp_law (K w.params)) hn (by decide) hdf ⟨rfl, by decide, by decide⟩ hY F (fun _ _ a ns hl _ hS => ⟨a, ns, rfl, hS, hl, fun _ => rfl⟩) fun _ _ _ _ _ z => z
end K40
open PySem PySem.W PyProof.Rows
set_option maxRecDepth 100000 in
set_option maxHeartbeats 0 in
theorem PySem.Challenge.cw_gatetown_k40_expressions_read_holds : PySem.Challenge.rw_gatetown_k40_expressions_read.Holds := by
  w_on; o_law; k_head; (case hw => w_witness2)
  k_fill
  refine K40.walk (l := PySem.Challenge.rw_gatetown_k40_expressions_read) rfl rfl (fun w h Y => PySem.W.kIn_of Y) ?F
  case F =>
    intro w mg fa h KX G hmg
    refine' K40.all_mk (tk := 0) KX G hmg ?a0 ?l0 ?c0 ?k0 ?a1 ?l1 ?c1 ?k1 ?a2 ?l2 ?c2 ?k2 ?a3 ?l3 ?c3 ?k3 ?a4 ?l4 ?c4 ?k4 ?a5 ?l5 ?c5 ?k5 ?a6 ?l6 ?c6 ?k6 ?a7 ?l7 ?c7 ?k7 ?a8 ?l8 ?c8 ?k8 ?a9 ?l9 ?c9 ?k9 ?a10 ?l10 ?c10 ?k10 ?a11 ?l11 ?c11 ?k11 ?a12 ?l12 ?c12 ?k12 ?a13 ?l13 ?c13 ?k13 ?a14 ?l14 ?c14 ?k14 ?a15 ?l15 ?c15 ?k15 ?a16 ?l16 ?c16 ?k16 ?a17 ?l17 ?c17 ?k17 ?a18 ?l18 ?c18 ?k18 ?a19 ?l19 ?c19 ?k19 ?a20 ?l20 ?c20 ?k20 ?a21 ?l21 ?c21 ?k21 ?a22 ?l22 ?c22 ?k22 ?fw_LETTERS ?fw_FIGURES ?fw_RESERVED ?lw_RESERVED ?fw_JOINS ?lw_JOINS ?fw_MOST_NAME ?fw_MOST_NUMBER ?fw_MOST_BRACKETS ?z_len ?z_range ?z_list ?z_isinstance ?z_int ?z_tuple ?z_enumerate ?z_str ?z_all ?z_bool
    (case a0 => k_is)
    (case l0 => k_is)
    (case c0 => k_is)
    (case k0 => k_is)
    (case a1 => k_is)
    (case l1 => k_is)
    (case c1 => k_is)
    (case k1 => k_is)
    (case a2 => k_is)
    (case l2 => k_is)
    (case c2 => k_is)
    (case k2 => k_is)
    (case a3 => k_is)
    (case l3 => k_is)
    (case c3 => k_is)
    (case k3 => k_is)
    (case a4 => k_is)
    (case l4 => k_is)
    (case c4 => k_is)
    (case k4 => k_is)
    (case a5 => k_is)
    (case l5 => k_is)
    (case c5 => k_is)
    (case k5 => k_is)
    (case a6 => k_is)
    (case l6 => k_is)
    (case c6 => k_is)
    (case k6 => k_is)
    (case a7 => k_is)
    (case l7 => k_is)
    (case c7 => k_is)
    (case k7 => k_is)
    (case a8 => k_is)
    (case l8 => k_is)
    (case c8 => k_is)
    (case k8 => k_is)
    (case a9 => k_is)
    (case l9 => k_is)
    (case c9 => k_is)
    (case k9 => k_is)
    (case a10 => k_is)
    (case l10 => k_is)
    (case c10 => k_is)
    (case k10 => k_is)
    (case a11 => k_is)
    (case l11 => k_is)
    (case c11 => k_is)
    (case k11 => k_is)
    (case a12 => k_is)
    (case l12 => k_is)
    (case c12 => k_is)
    (case k12 => k_is)
    (case a13 => k_is)
    (case l13 => k_is)
    (case c13 => k_is)
    (case k13 => k_is)
    (case a14 => k_is)
    (case l14 => k_is)
    (case c14 => k_is)
    (case k14 => k_is)
    (case a15 => k_is)
    (case l15 => k_is)
    (case c15 => k_is)
    (case k15 => k_is)
    (case a16 => k_is)
    (case l16 => k_is)
    (case c16 => k_is)
    (case k16 => k_is)
    (case a17 => k_is)
    (case l17 => k_is)
    (case c17 => k_is)
    (case k17 => k_is)
    (case a18 => k_is)
    (case l18 => k_is)
    (case c18 => k_is)
    (case k18 => k_is)
    (case a19 => k_is)
    (case l19 => k_is)
    (case c19 => k_is)
    (case k19 => k_is)
    (case a20 => k_is)
    (case l20 => k_is)
    (case c20 => k_is)
    (case k20 => k_is)
    (case a21 => k_is)
    (case l21 => k_is)
    (case c21 => k_is)
    (case k21 => k_is)
    (case a22 => k_is)
    (case l22 => k_is)
    (case c22 => k_is)
    (case k22 => k_is)
    (case fw_LETTERS => k_is)
    (case fw_FIGURES => k_is)
    (case fw_RESERVED => k_is)
    (case lw_RESERVED => k_is)
    (case fw_JOINS => k_is)
    (case lw_JOINS => k_is)
    (case fw_MOST_NAME => k_is)
    (case fw_MOST_NUMBER => k_is)
    (case fw_MOST_BRACKETS => k_is)
    (case z_len => k_is)
    (case z_range => k_is)
    (case z_list => k_is)
    (case z_isinstance => k_is)
    (case z_int => k_is)
    (case z_tuple => k_is)
    (case z_enumerate => k_is)
    (case z_str => k_is)
    (case z_all => k_is)
    (case z_bool => k_is)
