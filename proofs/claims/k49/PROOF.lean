import PyProof.Rows.All
import Wide.All
import OpenK.AllK
import Wide.FinOn
import Lean
import PyProof.EqAt
import PyProof.EqKinds
import PyProof.TupleCall
import PyProof.NeData
import PyProof.StrWalks
import PyProof.MeetsStr
import PyProof.Draws
import PyProof.EnumMake
import PyProof.Rows.Range3
import PyProof.AttrMissHeap
import PyProof.CollectWalk
import PyProof.TupleIter
import KE.KDictOf
import KE.KEqDict
import OpenK.KOwn
import KE.KTryOn
import PyProof.NsDelKeeps
import PyProof.ExcClass3
import PyProof.DictWalks
import PyProof.ListMulRoad
import PyProof.StrOps2
import PyProof.StrBlockG
import PyProof.ListStr
import PyProof.Rows.SortStr
import PyProof.ExcArgsOwn
import KE.KIsAll
import PyProof.ExcAttrAll.ValueError
import PyProof.Rows.SortShell
import PyProof.DictItems
import PyProof.InstStoreFacts
import PyProof.ExcInit
import PySem.Challenge.RW_gatetown_k49_places_of_lists
-- CHANGE: your row's module here, as the last of these rows
set_option Elab.async false
set_option linter.all false
set_option maxRecDepth 100000
/-! THE HAND LAYER, for ints, bools, texts, own classes, LISTS and tuples (index, slices, in, append, pop ..), calls, loops. Paste it whole ahead of your own text; what your proof does not reach may be deleted. -/
namespace L2
open PySem PySem.Spec PyProof.Rows

/-- a key: an int or a str -/
abbrev Key := Sum Int Str
def keyIs : Key → Value → Bool
  | .inl k, v => Value.isInt k v
  | .inr x, v => Value.isStrOf x v
def keyH (w : World) : Key → Int
  | .inl k => hashInt k
  | .inr x => hashStr w x
theorem keyIs_shape : ∀ {k : Key} {v : Value}, keyIs k v = true → (∃ i t, k = Sum.inl i ∧ v = Value.int i t) ∨ (∃ x t, k = Sum.inr x ∧ v = Value.str x t)
  | .inl i, v, h => by
    obtain ⟨t, e⟩ := Value.isInt_shape (k := i) (v := v) h
    exact .inl ⟨i, t, rfl, e⟩
  | .inr x, v, h => by
    obtain ⟨t, e⟩ := Value.isStrOf_shape (x := x) (v := v) h
    exact .inr ⟨x, t, rfl, e⟩
theorem keyIs_int (i : Int) (t : Tok) : keyIs (.inl i) (.int i t) = true := by simp [keyIs, Value.isInt]
theorem keyIs_str (x : Str) (t : Tok) : keyIs (.inr x) (.str x t) = true := by simp [keyIs, Value.isStrOf]
theorem key_ll (a b : Int) : decide ((Sum.inl a : Key) = Sum.inl b) = (a == b) := by
  by_cases e : a = b
  · subst e; simp
  · have h : ¬ (Sum.inl a : Key) = Sum.inl b := fun q => e (Sum.inl.inj q)
    rw [decide_eq_false h]
    exact (beq_eq_false_iff_ne.mpr e).symm
theorem key_rr (a b : Str) : decide ((Sum.inr a : Key) = Sum.inr b) = decide (a = b) := by
  by_cases e : a = b
  · subst e; simp
  · have h : ¬ (Sum.inr a : Key) = Sum.inr b := fun q => e (Sum.inr.inj q)
    rw [decide_eq_false h, decide_eq_false e]
theorem key_lr (a : Int) (b : Str) : decide ((Sum.inl a : Key) = Sum.inr b) = false := decide_eq_false (fun q => nomatch q)
theorem key_rl (a : Str) (b : Int) : decide ((Sum.inr a : Key) = Sum.inl b) = false := decide_eq_false (fun q => nomatch q)

def mixKind (prog : Program) (w : World) : PySem.KeyKind prog w Key where
  is := keyIs
  hash := keyH w
  inj := fun v a b ha hb => by
    rcases keyIs_shape ha with ⟨i, t, rfl, rfl⟩ | ⟨x, t, rfl, rfl⟩
    · rcases keyIs_shape hb with ⟨j, u, rfl, e⟩ | ⟨y, u, rfl, e⟩
      · injection e with e1 _; rw [e1]
      · exact nomatch e
    · rcases keyIs_shape hb with ⟨j, u, rfl, e⟩ | ⟨y, u, rfl, e⟩
      · exact nomatch e
      · injection e with e1 _; rw [e1]
  byValue := fun k v h => by
    rcases keyIs_shape h with ⟨i, t, rfl, rfl⟩ | ⟨x, t, rfl, rfl⟩ <;> rfl
  pyHash := fun hv h => by
    rcases keyIs_shape hv with ⟨i, t, rfl, rfl⟩ | ⟨x, t, rfl, rfl⟩
    · exact wpAny_pyHash_int h
    · exact wpAny_pyHash_str h
  eqBool := fun hu hv h => by
    rcases keyIs_shape hu with ⟨i, t, rfl, rfl⟩ | ⟨x, t, rfl, rfl⟩
    · rcases keyIs_shape hv with ⟨j, u, rfl, rfl⟩ | ⟨y, u, rfl, rfl⟩
      · rw [key_ll] at h; exact wpAny_eqBool_int h
      · rw [key_lr] at h; exact SeqAt.EqAt.int_str i t y u _ _ _ _ h
    · rcases keyIs_shape hv with ⟨j, u, rfl, rfl⟩ | ⟨y, u, rfl, rfl⟩
      · rw [key_rl] at h; exact SeqAt.EqAt.str_int x t j u _ _ _ _ h
      · rw [key_rr] at h; exact wpAny_eqBool_str h
  «strs» := fun k x t v h => by
    rcases keyIs_shape h with ⟨i, u, rfl, e⟩ | ⟨y, u, rfl, e⟩
    · exact nomatch e
    · injection e with e1 _
      subst e1
      cases v <;> rfl

theorem mixKind_is (prog : Program) (w : World) (k : Key) (v : Value) : (mixKind prog w).is k v = keyIs k v := rfl
theorem mixKind_int (prog : Program) (w : World) (i : Int) (t : Tok) : (mixKind prog w).is (.inl i) (.int i t) = true := keyIs_int i t
theorem mixKind_str (prog : Program) (w : World) (x : Str) (t : Tok) : (mixKind prog w).is (.inr x) (.str x t) = true := keyIs_str x t
end L2

namespace L2
open PySem PySem.Spec PyProof.Rows

/-- a value, without the heap -/
inductive V where
  | non | bl (b : Bool) | int (i : Int) | str (x : Str) | byt (b : Array UInt8) | flt (b : UInt64) | ref (a : Addr) | ty (n : String)
  deriving DecidableEq

def RelV : V → Value → Prop
  | .non, u => u = Value.none
  | .bl b, u => u = Value.bool b
  | .int i, u => ∃ t, u = Value.int i t
  | .str x, u => ∃ t, u = Value.str x t
  | .byt b, u => ∃ t, u = Value.bytes b t
  | .flt b, u => ∃ t, u = Value.float b t
  | .ref a, u => u = Value.ref a
  | .ty n, u => u = Value.type n

abbrev Vals : List V → List Value → Prop := Paired RelV
theorem Vals.length {xs : List V} {us : List Value} (r : Vals xs us) : xs.length = us.length := Paired.length r
theorem Vals.get : ∀ {xs : List V} {us : List Value} {i : Nat} {x : V}, Vals xs us → xs[i]? = some x → ∃ u, us[i]? = some u ∧ RelV x u
  | _, _, _, _, .nil, e => by simp at e
  | _, _, 0, _, .cons r _, e => by simp at e; subst e; exact ⟨_, rfl, r⟩
  | _, _, i + 1, x, .cons _ t, e => by
    obtain ⟨u, h1, h2⟩ := Vals.get (i := i) (x := x) t (by simpa using e)
    exact ⟨u, by simpa using h1, h2⟩
theorem Vals.set {x : V} {u : Value} (r : RelV x u) : ∀ {xs : List V} {us : List Value} (i : Nat), Vals xs us → Vals (xs.set i x) (us.set i u)
  | _, _, _, .nil => .nil
  | _, _, 0, .cons _ t => .cons r t
  | _, _, i + 1, .cons q t => .cons q (Vals.set r i t)
theorem Vals.append : ∀ {xs ys : List V} {us ws : List Value}, Vals xs us → Vals ys ws → Vals (xs ++ ys) (us ++ ws)
  | _, _, _, _, .nil, s => s
  | _, _, _, _, .cons r t, s => .cons r (Vals.append t s)
theorem Vals.take : ∀ {xs : List V} {us : List Value} (n : Nat), Vals xs us → Vals (xs.take n) (us.take n)
  | _, _, 0, _ => .nil
  | _, _, _ + 1, .nil => .nil
  | _, _, n + 1, .cons r t => .cons r (Vals.take n t)
theorem Vals.drop : ∀ {xs : List V} {us : List Value} (n : Nat), Vals xs us → Vals (xs.drop n) (us.drop n)
  | _, _, 0, r => r
  | _, _, _ + 1, .nil => .nil
  | _, _, n + 1, .cons _ t => Vals.drop n t

def RelO : Option V → Option Value → Prop
  | some v, some u => RelV v u
  | none, none => True
  | _, _ => False
def KV {κ : Type} : List (κ × V) → List (κ × Value) → Prop := Paired fun (p : κ × V) (q : κ × Value) => p.1 = q.1 ∧ RelV p.2 q.2

/-- a key of a dict (00_mix): an int or a text -/
def kV : Key → V
  | .inl i => .int i
  | .inr x => .str x

/-- what stands at a tracked address -/
inductive HO where
  /-- a list -/
  | lst (xs : List V)
  /-- a tuple (never changes) -/
  | tup (xs : List V)
  /-- a dict whose keys are ints and texts; one whose keys are tuples of ints and texts (the empty one is both) -/
  | dK (kvs : List (Key × V)) | dT (kvs : List (List Key × V))
  /-- a set of ints: its members, its size -/
  | set (S : Int → Bool) (n : Nat)
  /-- an instance of the class at C, its dict at dx, its attributes -/
  | ins (C dx : Addr) (fs : List (Str × V))
  /-- the dict of the instance at x -/
  | own (x : Addr)
  /-- the dict of an exception -/
  | xd (fs : List (Str × V))
  /-- a bound method, f of x -/
  | met (f x : Addr)
  /-- a range object lo, lo + 1, .. below hi -/
  | rng (lo hi : Int)
  /-- a thing that is known to the object (the script; a dict while a loop walks it): read, never written while it is so -/
  | frz (o : Obj) (u : HO)
  /-- a code object's table -/
  | tbl (ps : Array Value)
  /-- any other thing, by what is true of its one object (a def of one's own: SetO a S n := HO.ext fun h => ..) -/
  | ext (φ : Heap → Prop)

abbrev Hp := Addr → Option HO
def upd (H : Hp) (a : Addr) (o : HO) : Hp := fun b => if b = a then some o else H b
theorem upd_same {H : Hp} {a : Addr} {o : HO} : upd H a o a = some o := by unfold upd; rw [if_pos rfl]
theorem upd_ne {H : Hp} {a b : Addr} {o : HO} (h : b ≠ a) : upd H a o b = H b := by unfold upd; rw [if_neg h]
/-- two objects of different content stand apart -/
theorem ne_of {H : Hp} {a b : Addr} {o u : HO} (h : H a = some o) (h' : H b = some u) (d : o ≠ u) : a ≠ b := by
  intro e; subst e; rw [h] at h'; exact d (Option.some.inj h')
theorem ne_of_none {H : Hp} {a b : Addr} {o : HO} (h : H a = some o) (h' : H b = none) : a ≠ b := by
  intro e; subst e; rw [h] at h'; cases h'

section
variable (P : Program) (w : World)
def ObjOk (H : Hp) (h : Heap) (a : Addr) : HO → Prop
  | .lst xs => xs.length ≤ sizeLine ∧ ∃ (its : List Value) (n : Nat), Vals xs its ∧ h.get? a = some { cls := .type "list", data := .seq its.toArray n }
  | .tup xs => xs.length ≤ sizeLine ∧ ∃ its : List Value, Vals xs its ∧ IsTup h a its.toArray
  | .dK kvs => kvs.length ≤ sizeLine ∧ (a == sysModules) = false ∧ ∃ vs, KV kvs vs ∧ h.DictOf (mixKind P w) a vs
  | .dT kvs => kvs.length ≤ sizeLine ∧ (a == sysModules) = false ∧ ∃ xs : List (List Key × Addr × Value),
      Paired (fun (p : List Key × V) (q : List Key × Addr × Value) => p.1 = q.1 ∧ H q.2.1 = some (.tup (p.1.map kV)) ∧ RelV p.2 q.2.2) kvs xs ∧
      ∃ o es ep, h.get? a = some o ∧ o.ExactDict ∧ o.data = .dict es ep ∧ es.toList = xs.map (entryOfKey (tupleKind (mixKind P w))) ∧ (xs.map (·.1)).Nodup
  | .set S n => h.SetOf (intKind P w) a S n
  | .ins C dx fs => H dx = some (.own a) ∧ fs.length ≤ 1000 ∧ dx ≠ a ∧ h.get? a = some (PySem.W.instObj C dx) ∧
      ∃ mA, h.Ns1 dx mA ∧ (∀ f, RelO (fs.lookup f) (mA f)) ∧ PySem.Within mA (fs.map (·.1))
  | .own _ => ∃ o, h.get? a = some o
  | .xd fs => ∃ mA, h.Ns1 a mA ∧ ∀ f, RelO (fs.lookup f) (mA f)
  | .rng lo hi => ∃ t u v, h.get? a = some { cls := .type "range", data := .fields #[.int lo t, .int hi u, .int 1 v] }
  | .frz o u => h.get? a = some o ∧ ObjOk H h a u
  | .tbl ps => h.get? a = some { cls := .none, data := .fields ps }
  | .met f x => h.get? a = some (PySem.W.methodObj (.ref f) (.ref x))
  | .ext φ => φ h ∧ (∃ o, h.get? a = some o) ∧ ∀ h1 h2 : Heap, φ h1 → (∀ o, h1.get? a = some o → h2.get? a = some o) → φ h2
/-- the abstract heap is held -/
def HOk (H : Hp) (h : Heap) : Prop := ∀ a o, H a = some o → ObjOk P w H h a o
end

section
variable {P : Program} {w : World} {H H' : Hp} {h h' : Heap} {a : Addr} {o : HO}
theorem ObjOk.lt (x : ObjOk P w H h a o) : a < h.objs.size := by
  cases o with
  | lst xs => obtain ⟨_, _, _, _, e⟩ := x; exact Heap.lt_size e
  | tup xs => obtain ⟨_, _, _, p⟩ := x; exact p.lt
  | dK kvs => obtain ⟨_, _, _, _, o, _, _, e, _⟩ := x; exact Heap.lt_size e
  | dT kvs => obtain ⟨_, _, _, _, o, _, _, e, _⟩ := x; exact Heap.lt_size e
  | set S n => obtain ⟨o, _, _, _, e, _⟩ := x; exact Heap.lt_size e
  | ins C dx fs => obtain ⟨_, _, _, e, _⟩ := x; exact Heap.lt_size e
  | own y => obtain ⟨_, e⟩ := x; exact Heap.lt_size e
  | xd fs => obtain ⟨_, ⟨_, _, _, e, _⟩, _⟩ := x; exact Heap.lt_size e
  | rng lo hi => obtain ⟨_, _, _, e⟩ := x; exact Heap.lt_size e
  | frz ob u => obtain ⟨e, _⟩ := x; exact Heap.lt_size e
  | tbl ps => exact Heap.lt_size (show h.get? a = some _ from x)
  | met f y => exact Heap.lt_size (show h.get? a = some _ from x)
  | ext φ => obtain ⟨_, ⟨_, e⟩, _⟩ := x; exact Heap.lt_size e
theorem Paired.mapP {α β : Type} {F G : α → β → Prop} : ∀ {l₁ : List α} {l₂ : List β}, Paired F l₁ l₂ → (∀ a b, F a b → G a b) → Paired G l₁ l₂
  | _, _, .nil, _ => .nil
  | _, _, .cons r t, f => .cons (f _ _ r) (Paired.mapP t f)
/-- what an object's description leans on: its own object, its own dict, the tuples -/
theorem ObjOk.stay (x : ObjOk P w H h a o) (k : ∀ b u, (b = a ∨ H b = some (.own a)) → h.get? b = some u → h'.get? b = some u)
    (ho : ∀ b, H b = some (.own a) → H' b = some (.own a)) (ht : ∀ b xs, H b = some (.tup xs) → H' b = some (.tup xs)) : ObjOk P w H' h' a o := by
  induction o with
  | lst xs => obtain ⟨z, its, n, r, e⟩ := x; exact ⟨z, its, n, r, k _ _ (.inl rfl) e⟩
  | tup xs => obtain ⟨z, its, r, ob, e, c⟩ := x; exact ⟨z, its, r, ob, k _ _ (.inl rfl) e, c⟩
  | dK kvs => obtain ⟨z, y, vs, r, ob, es, ep, e, c⟩ := x; exact ⟨z, y, vs, r, ob, es, ep, k _ _ (.inl rfl) e, c⟩
  | dT kvs =>
    obtain ⟨z, y, xs, r, ob, es, ep, e, c⟩ := x
    exact ⟨z, y, xs, Paired.mapP r fun p q z => ⟨z.1, ht _ _ z.2.1, z.2.2⟩, ob, es, ep, k _ _ (.inl rfl) e, c⟩
  | set S n => obtain ⟨ob, es, ep, t, e, c⟩ := x; exact ⟨ob, es, ep, t, k _ _ (.inl rfl) e, c⟩
  | ins C dx fs =>
    obtain ⟨d, z, ne, e, mA, ⟨od, es, ep, e2, c⟩, r⟩ := x
    exact ⟨ho _ d, z, ne, k _ _ (.inl rfl) e, mA, ⟨od, es, ep, k _ _ (.inr d) e2, c⟩, r⟩
  | own y => obtain ⟨ob, e⟩ := x; exact ⟨ob, k _ _ (.inl rfl) e⟩
  | xd fs => obtain ⟨mA, ⟨od, es, ep, e, c⟩, r⟩ := x; exact ⟨mA, ⟨od, es, ep, k _ _ (.inl rfl) e, c⟩, r⟩
  | rng lo hi => obtain ⟨t, u, v, e⟩ := x; exact ⟨t, u, v, k _ _ (.inl rfl) e⟩
  | frz ob u ih => obtain ⟨e, q⟩ := x; exact ⟨k _ _ (.inl rfl) e, ih q⟩
  | tbl ps =>
    have e : h.get? a = some { cls := .none, data := .fields ps } := x
    show h'.get? a = some { cls := .none, data := .fields ps }
    exact k a _ (.inl rfl) e
  | met f y =>
    have e : h.get? a = some (PySem.W.methodObj (.ref f) (.ref y)) := x
    show h'.get? a = some (PySem.W.methodObj (.ref f) (.ref y))
    exact k a _ (.inl rfl) e
  | ext φ => obtain ⟨p, ⟨o, e⟩, st⟩ := x; exact ⟨st _ _ p fun o q => k _ _ (.inl rfl) q, ⟨o, k _ _ (.inl rfl) e⟩, st⟩
theorem HOk.lt (x : HOk P w H h) (e : H a = some o) : a < h.objs.size := (x a o e).lt
theorem HOk.fresh (x : HOk P w H h) (e : h.objs.size ≤ a) : H a = none := by
  cases q : H a with
  | none => rfl
  | some u => exact absurd (Nat.lt_of_lt_of_le (x.lt q) e) (Nat.lt_irrefl _)
/-- every object of the heap is kept -/
theorem HOk.kept (x : HOk P w H h) (k : ∀ b u, h.get? b = some u → h'.get? b = some u) : HOk P w H h' := fun a o e =>
  (x a o e).stay (fun b u _ q => k b u q) (fun _ q => q) fun _ _ q => q
/-- a new object is laid and tracked -/
theorem HOk.laid (x : HOk P w H h) (k : ∀ b u, h.get? b = some u → h'.get? b = some u) (hp : h.objs.size ≤ a) (new : ObjOk P w (upd H a o) h' a o) : HOk P w (upd H a o) h' := fun b u e => by
  have hn := x.fresh hp
  by_cases hb : b = a
  · subst hb; rw [upd_same] at e; cases e; exact new
  · rw [upd_ne hb] at e
    exact (x b u e).stay (fun c v _ q => k c v q) (fun c q => by rw [upd_ne (ne_of_none q hn)]; exact q) fun c xs q => by rw [upd_ne (ne_of_none q hn)]; exact q
end

/-- what may be read as u: it is u, or a known u -/
def Rd (H : Hp) (a : Addr) (u : HO) : Prop := H a = some u ∨ ∃ o, H a = some (.frz o u)
theorem Rd.ok {P : Program} {w : World} {H : Hp} {h : Heap} {a : Addr} {u : HO} (r : Rd H a u) (x : HOk P w H h) : ObjOk P w H h a u := by
  rcases r with r | ⟨o, r⟩
  · exact x a u r
  · obtain ⟨_, q⟩ := x a _ r
    exact q
/-- what may be written -/
def Mut : Option HO → Prop
  | some (.lst _) => True
  | some (.dK _) => True
  | some (.dT _) => True
  | some (.set _ _) => True
  | some (.ins _ _ _) => True
  | some (.ext _) => True
  | _ => False
section
variable {P : Program} {w : World} {H : Hp} {h h' : Heap} {x e : Addr} {o' : HO}
/-- the object at e is changed: x itself, or the dict of the instance x -/
theorem HOk.write (ok : HOk P w H h) (mu : Mut (H x)) (he : e = x ∨ H e = some (.own x)) (k : ∀ b u, b ≠ e → h.get? b = some u → h'.get? b = some u) (heo : ∃ u, h'.get? e = some u)
    (new : ObjOk P w (upd H x o') h' x o') : HOk P w (upd H x o') h' := fun b u q => by
  have nown : ∀ c y, H c = some (.own y) → c ≠ x := fun c y r z => by subst z; rw [r] at mu; exact mu
  have ntup : ∀ c xs, H c = some (.tup xs) → c ≠ x := fun c xs r z => by subst z; rw [r] at mu; exact mu
  by_cases hb : b = x
  · subst hb; rw [upd_same] at q; cases q; exact new
  · rw [upd_ne hb] at q
    by_cases hbe : b = e
    · have q' : H b = some (.own x) := by
        rcases he with z | z
        · exact absurd (hbe.trans z) hb
        · rw [hbe]; exact z
      rw [q] at q'; cases q'
      obtain ⟨v, hv⟩ := heo
      exact ⟨v, by rw [hbe]; exact hv⟩
    · refine (ok b u q).stay (fun c v hc r => k c v ?_ r) (fun c r => by rw [upd_ne (nown c b r)]; exact r) fun c xs r => by rw [upd_ne (ntup c xs r)]; exact r
      rcases hc with rfl | hc
      · exact hbe
      · rintro rfl
        rcases he with z | z
        · exact nown c b hc z
        · rw [hc] at z; cases z; exact hb rfl
end

/-! ### kept unless tracked; of the frames at fs (the callers') the slots may change (an exception that passes writes there); of the records at ex (iterators) nothing is said -/
structure Un (fs ex : List Addr) (H H' : Hp) (h h' : Heap) : Prop where
  keep : ∀ b o, h.get? b = some o → H b = none → b ∉ fs → b ∉ ex → h'.get? b = some o
  slot : ∀ b o, h.get? b = some o → H b = none → b ∈ fs → b ∉ ex → ∃ sl, h'.get? b = some { o with slots := sl }
  free : ∀ b o, h.get? b = some o → H b = none → b ∉ ex → H' b = none
  there : ∀ b o, h.get? b = some o → b ∉ ex → ∃ o', h'.get? b = some o'
  tups : ∀ b xs, H b = some (.tup xs) → H' b = some (.tup xs)
  frzs : ∀ b o u, H b = some (.frz o u) → H' b = some (.frz o u)
  tbls : ∀ b ps, H b = some (.tbl ps) → ∃ more, H' b = some (.tbl (ps ++ more))
section
variable {fs fs' ex ex' : List Addr} {H H1 H2 : Hp} {h h1 h2 h' : Heap} {a x e : Addr} {o : HO}
theorem Un.any (u : Un fs ex H H1 h h1) {b : Addr} {ob : Obj} (q : h.get? b = some ob) (n : H b = none) (hx : b ∉ ex) : ∃ sl, h1.get? b = some { ob with slots := sl } := by
  by_cases hb : b ∈ fs
  · exact u.slot b ob q n hb hx
  · exact ⟨ob.slots, u.keep b ob q n hb hx⟩
theorem Un.kept (k : ∀ b u, h.get? b = some u → h'.get? b = some u) : Un fs ex H H h h' :=
  ⟨fun b ob q _ _ _ => k b ob q, fun b ob q _ _ _ => ⟨ob.slots, k b ob q⟩, fun _ _ _ n _ => n, fun b ob q _ => ⟨ob, k b ob q⟩, fun _ _ q => q, fun _ _ _ q => q, fun _ ps q => ⟨#[], by rw [q]; simp⟩⟩
theorem Un.refl : Un fs ex H H h h := Un.kept fun _ _ q => q
theorem Un.laid (k : ∀ b u, h.get? b = some u → h'.get? b = some u) (hp : h.objs.size ≤ a) (hn : H a = none) : Un fs ex H (upd H a o) h h' where
  keep := fun b u q _ _ _ => k b u q
  slot := fun b u q _ _ _ => ⟨u.slots, k b u q⟩
  free := fun b u q n _ => by rw [upd_ne (Nat.ne_of_lt (Nat.lt_of_lt_of_le (Heap.lt_size q) hp))]; exact n
  there := fun b u q _ => ⟨u, k b u q⟩
  tups := fun b xs q => by rw [upd_ne (ne_of_none q hn)]; exact q
  frzs := fun b u xs q => by rw [upd_ne (ne_of_none q hn)]; exact q
  tbls := fun b ps q => ⟨#[], by rw [upd_ne (ne_of_none q hn), q]; simp⟩
theorem Un.write (mu : Mut (H x)) (he : e = x ∨ H e = some (.own x)) (k : ∀ b u, b ≠ e → h.get? b = some u → h'.get? b = some u) (heo : ∃ u, h'.get? e = some u) : Un fs ex H (upd H x o) h h' := by
  have hx : ∀ b, H b = none → b ≠ x := fun b n z => by subst z; rw [n] at mu; exact mu
  have hb : ∀ b, H b = none → b ≠ e := fun b n z => by
    subst z
    rcases he with r | r
    · exact hx b n r
    · rw [n] at r; cases r
  have hm : ∀ b u, H b = some u → ¬ Mut (some u) → b ≠ x := fun b u q nm z => by subst z; rw [q] at mu; exact nm mu
  refine ⟨fun b u q n _ _ => k b u (hb b n) q, fun b u q n _ _ => ⟨u.slots, k b u (hb b n) q⟩, fun b u q n _ => by rw [upd_ne (hx b n)]; exact n, fun b u q _ => ?_,
    fun b xs q => by rw [upd_ne (hm b _ q fun z => z)]; exact q, fun b u xs q => by rw [upd_ne (hm b _ q fun z => z)]; exact q, fun b ps q => ⟨#[], by rw [upd_ne (hm b _ q fun z => z), q]; simp⟩⟩
  by_cases hbe : b = e
  · subst hbe; exact heo
  · exact ⟨u, k b u hbe q⟩
end

/-! ### the heap without what is tracked -/
def trk (h : Heap) (H : Hp) : List Addr := (List.range h.objs.size).filter fun a => (H a).isSome
def hidT (h : Heap) (H : Hp) : Heap := PySem.W.hideAll h (trk h H)
theorem hidT_size (h : Heap) (H : Hp) : (hidT h H).objs.size = h.objs.size := PySem.W.hideAll_size _ _
theorem hidT_get {h : Heap} {H : Hp} {b : Addr} {o : Obj} (e : h.get? b = some o) (n : H b = none) : (hidT h H).get? b = some o :=
  PySem.W.hideAll_get _ e fun hm => by
    have q : (H b).isSome = true := (List.mem_filter.mp hm).2
    rw [n] at q; simp at q
theorem of_hidT {h : Heap} {H : Hp} {b : Addr} {o : Obj} (e : (hidT h H).get? b = some o) : h.get? b = some o ∧ H b = none := by
  have e' : h.get? b = some o := PySem.W.of_hideAll (trk h H) e
  refine ⟨e', ?_⟩
  cases q : H b with
  | none => rfl
  | some x =>
    have hm : b ∈ trk h H := List.mem_filter.mpr ⟨List.mem_range.mpr (Heap.lt_size e'), by simp [q]⟩
    have z : (hidT h H).get? b = none := PySem.W.hideAll_none (trk h H) hm
    rw [z] at e; cases e

/-! ### OpenK's ledger, filled with every new object but one -/
end L2

namespace L2
open PySem PySem.Spec PyProof.Rows

/-- the module's facts, over the base: the heap at the law's entry without what is tracked there -/
structure Mod (K : PySem.W.Frag) (mg : Str → Option Value) (base : Heap) : Prop where
  kin : K.In base
  glob : base.Ns mainGlobals mg
  blt : ∃ mb, base.Ns builtinsNs mb ∧ ∀ x : Str, x ≠ "__name__" → mb x = bootBuiltins x
  nolimit : base.NoLimit

/-- the context: a def's body (or a comprehension's block) running. base: fixed through the whole law; s₀, H₀: the entry; outer: the frames whose slots others may change (a def's callers); stack: all frames that run;
   ex: iterators that were made ahead of the entry and are walked here (a comprehension's); fn: the names whose cells were made at the entry (a def: all; a comprehension's block: its own); calm: not within an except suite; pn: pins that every state bears; xe: what is wanted of an exception that leaves the code -/
structure Cx where
  prog : Program
  w : World
  K : PySem.W.Frag
  mg : Str → Option Value
  base : Heap
  A : Around
  N : List Str
  s₀ : Shared
  H₀ : Hp
  env : Env
  outer : List Env
  stack : List Env
  ex : List Addr
  fn : Str → Bool
  calm : Bool
  pn : List (Addr × Obj)
  xe : Value → Shared → Prop
/-- the callers' frames -/
def frs (l : List Env) : List Addr := l.filterMap (·.frame)
abbrev Cx.fs (X : Cx) : List Addr := frs X.outer

def Vis (sc : Scope) (x : Str) : Prop := sc.names.lookup x = some .local ∨ sc.names.lookup x = some .cell ∨ sc.names.lookup x = some .free
def Loc (sc : Scope) (x : Str) : Prop := sc.names.lookup x = some .local ∨ sc.names.lookup x = some .cell
def Look (env : Env) (h : Heap) (m : Str → Option Value) (x : Str) (u : Value) : Prop :=
  (env.kindOf x = some .local ∧ m x = some u) ∨ ((env.kindOf x = some .cell ∨ env.kindOf x = some .free) ∧ ∃ c, env.cells.lookup x = some c ∧ h.IsCell c (some u))

structure Cx.Ok (X : Cx) : Prop where
  mod : Mod X.K X.mg X.base
  kind : X.env.scope.kind = .function
  glob : X.env.globals = mainGlobals
  blt : X.env.builtins = builtinsNs
  above : X.s₀.heap.objs.size ≤ X.env.locals
  inj : ∀ x y c, X.env.cells.lookup x = some c → X.env.cells.lookup y = some c → x = y
  has : ∀ x, (X.env.kindOf x = some .cell ∨ X.env.kindOf x = some .free) → ∃ c, X.env.cells.lookup x = some c
  cab : ∀ x c, X.fn x = true → X.env.cells.lookup x = some c → X.s₀.heap.objs.size ≤ c
  hd : X.calm = true → X.A.handled = none
  frames : X.A.frames = some X.stack
  stk : X.stack = X.outer ∨ (X.stack = X.env :: X.outer ∧ X.env.frame = some X.env.locals)
  exf : ∀ b ∈ X.ex, b ≠ X.env.locals ∧ ∀ x c, X.env.cells.lookup x = some c → c ≠ b
  bs : ∀ b o, X.base.get? b = some o → X.s₀.heap.get? b = some o ∧ X.H₀ b = none
  bsz : X.base.objs.size ≤ X.s₀.heap.objs.size
  noex : ∀ b o, X.base.get? b = some o → b ∉ X.ex
  exfs : ∀ b ∈ X.ex, b ∉ X.fs
  funs : X.s₀.heap.FunFrames X.base X.outer
  frf : ∀ b ∈ X.fs, X.H₀ b = none

structure Inv (X : Cx) (pins : List (Addr × Obj)) (σ : List (Option V)) (H : Hp) (s : Shared) : Prop where
  ok : X.Ok
  os : s.os = X.s₀.os
  bare : AllBare s.gens
  base : Un X.fs X.ex X.H₀ H X.s₀.heap s.heap
  loc : ∃ m, s.heap.Ns X.env.locals m ∧ ∀ (i : Nat) (x : Str) (v : V), X.N[i]? = some x → σ[i]? = some (some v) → Vis X.env.scope x → ∃ u, RelV v u ∧ Look X.env s.heap m x u
  cell : ∀ x c, X.env.cells.lookup x = some c → ∃ v, s.heap.IsCell c v
  free : H X.env.locals = none
  freeC : ∀ x c, X.env.cells.lookup x = some c → H c = none
  pin : ∀ p ∈ X.pn ++ pins, s.heap.get? p.1 = some p.2 ∧ H p.1 = none ∧ p.1 ≠ X.env.locals ∧ p.1 ∉ X.fs ∧ ∀ v, p.2.data ≠ .cell v
  hok : HOk X.prog X.w H s.heap
  len : σ.length = X.N.length

section
variable {X : Cx} {pins : List (Addr × Obj)} {σ : List (Option V)} {H H' : Hp} {s : Shared} {h' : Heap}

theorem Cx.Ok.nofr (ok : X.Ok) {b : Addr} {o : Obj} (e : X.base.get? b = some o) : b ∉ X.fs := fun hb => by
  have := (ok.funs.mem hb).1
  rw [e] at this; cases this
theorem Inv.bs (I : Inv X pins σ H s) : ∀ b o, X.base.get? b = some o → s.heap.get? b = some o ∧ H b = none := fun b o e =>
  ⟨I.base.keep b o (I.ok.bs b o e).1 (I.ok.bs b o e).2 (I.ok.nofr e) (I.ok.noex b o e), I.base.free b o (I.ok.bs b o e).1 (I.ok.bs b o e).2 (I.ok.noex b o e)⟩
theorem Inv.bk (I : Inv X pins σ H s) : ∀ b o, X.base.get? b = some o → s.heap.get? b = some o := fun b o e => (I.bs b o e).1
theorem Inv.mod (I : Inv X pins σ H s) : Mod X.K X.mg X.base := I.ok.mod
theorem Inv.kIn (I : Inv X pins σ H s) : X.K.In s.heap := I.ok.mod.kin.keeps I.bk
theorem Inv.lt (I : Inv X pins σ H s) : X.env.locals < s.heap.objs.size := let ⟨_, hn, _⟩ := I.loc; hn.lt
theorem Inv.sz (I : Inv X pins σ H s) : X.s₀.heap.objs.size ≤ s.heap.objs.size := Nat.le_trans I.ok.above (Nat.le_of_lt I.lt)
theorem Inv.nofs (I : Inv X pins σ H s) {a : Addr} (h : s.heap.objs.size ≤ a) : a ∉ X.fs := fun hb => by
  obtain ⟨_, o, ho, _⟩ := I.ok.funs.mem hb
  exact absurd (Nat.lt_of_lt_of_le (Heap.lt_size ho) (Nat.le_trans I.sz h)) (Nat.lt_irrefl _)
theorem Inv.cne (I : Inv X pins σ H s) : ∀ x c, X.env.cells.lookup x = some c → c ≠ X.env.locals := fun x c e z => by
  obtain ⟨v, o, ho, hd⟩ := I.cell x c e
  obtain ⟨m, ⟨o', es, ep, ho', hd', _⟩, _⟩ := I.loc
  rw [z, ho'] at ho; cases ho; rw [hd'] at hd; cases hd
theorem Inv.funs (I : Inv X pins σ H s) : s.heap.FunFrames X.base X.outer := by
  have all : ∀ (l : List Env), (∀ b ∈ frs l, b ∈ X.fs) → X.s₀.heap.FunFrames X.base l → s.heap.FunFrames X.base l := by
    intro l
    induction l with
    | nil => intro _ _; trivial
    | cons env r ih =>
      intro hs hl
      obtain ⟨hk, ⟨L, o, hf, hn, ho, hd⟩, hr⟩ := hl
      have hL : L ∈ X.fs := hs L (by unfold frs; rw [List.filterMap_cons, hf]; exact List.mem_cons_self)
      obtain ⟨sl, e⟩ := I.base.slot L o ho (I.ok.frf L hL) hL fun z => I.ok.exfs L z hL
      exact ⟨hk, ⟨L, _, hf, hn, e, hd⟩, ih (fun b hb => hs b (by unfold frs; rw [List.filterMap_cons, hf]; exact List.mem_cons_of_mem _ hb)) hr⟩
  exact all X.outer (fun _ hb => hb) I.ok.funs

/-- the frames that run, for a call -/
theorem Inv.stack (I : Inv X pins σ H s) : s.heap.FunFrames X.base X.stack := by
  rcases I.ok.stk with e | ⟨e, hf⟩
  · rw [e]; exact I.funs
  · rw [e]
    obtain ⟨m, hn, _⟩ := I.loc
    refine .cons (by rw [I.ok.kind]; decide) hf hn ?_ I.funs
    exact Heap.get?_none_of_le (Nat.le_trans I.ok.bsz I.ok.above)
theorem Inv.stkSub (I : Inv X pins σ H s) : ∀ b ∈ frs X.stack, b ∈ X.env.locals :: X.fs := fun b hb => by
  rcases I.ok.stk with e | ⟨e, hf⟩
  · rw [e] at hb; exact List.mem_cons_of_mem _ hb
  · rw [e] at hb
    unfold frs at hb
    rw [List.filterMap_cons, hf] at hb
    exact hb
theorem Inv.stkFree (I : Inv X pins σ H s) : ∀ b ∈ frs X.stack, H b = none := fun b hb => by
  rcases List.mem_cons.mp (I.stkSub b hb) with e | hb
  · rw [e]; exact I.free
  · obtain ⟨_, o, ho, _⟩ := I.ok.funs.mem hb
    exact I.base.free b o ho (I.ok.frf b hb) fun z => I.ok.exfs b z hb

/-- THE STEP: the untracked objects but the frame and the records at ch are kept (the callers' frames up to slots), the frame's map is kept, the new abstract heap is held -/
theorem Inv.step {g' : Array GenState} {t' : Nat} {d' : Drawn} {ch : List Addr} (I : Inv X pins σ H s)
    (hch : ∀ b ∈ ch, (b ∈ X.ex ∨ X.s₀.heap.objs.size ≤ b) ∧ b ≠ X.env.locals ∧ (∀ x c, X.env.cells.lookup x = some c → c ≠ b) ∧ ∀ p ∈ X.pn ++ pins, p.1 ≠ b)
    (keep : ∀ b o, b ≠ X.env.locals → b ∉ X.fs → b ∉ ch → s.heap.get? b = some o → H b = none → h'.get? b = some o)
    (slot : ∀ b o, b ≠ X.env.locals → b ∈ X.fs → b ∉ ch → s.heap.get? b = some o → H b = none → ∃ sl, h'.get? b = some { o with slots := sl }) (free : ∀ b o, b ∉ ch → s.heap.get? b = some o → H b = none → H' b = none)
    (there : ∀ b o, b ∉ ch → s.heap.get? b = some o → ∃ o', h'.get? b = some o')
    (tups : ∀ b xs, H b = some (.tup xs) → H' b = some (.tup xs)) (frzs : ∀ b o u, H b = some (.frz o u) → H' b = some (.frz o u)) (tbls : ∀ b ps, H b = some (.tbl ps) → ∃ more, H' b = some (.tbl (ps ++ more)))
    (ns : ∀ m, s.heap.Ns X.env.locals m → h'.Ns X.env.locals m) (hok : HOk X.prog X.w H' h') (hg : AllBare g') :
    Inv X pins σ H' { s with heap := h', gens := g', drawn := d', toks := t' } := by
  have neL : ∀ b o, X.s₀.heap.get? b = some o → b ≠ X.env.locals := fun b o e => Nat.ne_of_lt (Nat.lt_of_lt_of_le (Heap.lt_size e) I.ok.above)
  have neC : ∀ b o, X.s₀.heap.get? b = some o → b ∉ X.ex → b ∉ ch := fun b o e hx hb => by
    rcases (hch b hb).1 with z | z
    · exact hx z
    · exact absurd (Nat.lt_of_lt_of_le (Heap.lt_size e) z) (Nat.lt_irrefl _)
  have cellK : ∀ x c, X.env.cells.lookup x = some c → ∀ v, s.heap.IsCell c v → h'.IsCell c v := fun x c e v ⟨o, ho, hd⟩ => by
    have nch : c ∉ ch := fun z => (hch c z).2.2.1 x c e rfl
    by_cases hc : c ∈ X.fs
    · obtain ⟨sl, q⟩ := slot c o (I.cne x c e) hc nch ho (I.freeC x c e)
      exact ⟨_, q, hd⟩
    · exact ⟨o, keep c o (I.cne x c e) hc nch ho (I.freeC x c e), hd⟩
  refine ⟨I.ok, I.os, hg, ⟨fun b o e n hb hx => ?_, fun b o e n hb hx => ?_, fun b o e n hx => ?_, fun b o e hx => ?_, fun b xs e => tups b xs (I.base.tups b xs e), fun b o xs e => frzs b o xs (I.base.frzs b o xs e), fun b ps e => ?_⟩, ?_, fun x c e => ?_, ?_, fun x c e => ?_, fun p hp => ?_, hok, I.len⟩
  · exact keep b o (neL b o e) hb (neC b o e hx) (I.base.keep b o e n hb hx) (I.base.free b o e n hx)
  · obtain ⟨sl, e1⟩ := I.base.slot b o e n hb hx
    obtain ⟨sl', e2⟩ := slot b _ (neL b o e) hb (neC b o e hx) e1 (I.base.free b o e n hx)
    exact ⟨sl', e2⟩
  · obtain ⟨o', e1⟩ := I.base.there b o e hx
    exact free b o' (neC b o e hx) e1 (I.base.free b o e n hx)
  · obtain ⟨o', e1⟩ := I.base.there b o e hx
    exact there b o' (neC b o e hx) e1
  · obtain ⟨m1, e1⟩ := I.base.tbls b ps e
    obtain ⟨m2, e2⟩ := tbls b _ e1
    exact ⟨m1 ++ m2, by rw [e2, Array.append_assoc]⟩
  · obtain ⟨m, hn, hl⟩ := I.loc
    refine ⟨m, ns m hn, fun i x v e1 e2 e3 => ?_⟩
    obtain ⟨u, r, l⟩ := hl i x v e1 e2 e3
    refine ⟨u, r, ?_⟩
    rcases l with l | ⟨k, c, e, z⟩
    · exact .inl l
    · exact .inr ⟨k, c, e, cellK x c e _ z⟩
  · obtain ⟨v, z⟩ := I.cell x c e
    exact ⟨v, cellK x c e v z⟩
  · obtain ⟨m, ⟨o, _, _, ho, _⟩, _⟩ := I.loc
    exact free _ o (fun z => (hch _ z).2.1 rfl) ho I.free
  · obtain ⟨v, o, ho, hd⟩ := I.cell x c e
    exact free c o (fun z => (hch c z).2.2.1 x c e rfl) ho (I.freeC x c e)
  · obtain ⟨e, n, ne, nf, d⟩ := I.pin p hp
    have nch : p.1 ∉ ch := fun z => (hch p.1 z).2.2.2 p hp rfl
    exact ⟨keep p.1 p.2 ne nf nch e n, free p.1 p.2 nch e n, ne, nf, d⟩
/-- .. where the frame's own object is kept too -/
theorem Inv.un {t' : Nat} (I : Inv X pins σ H s) (u : Un X.fs [] H H' s.heap h') (hok : HOk X.prog X.w H' h') : Inv X pins σ H' { s with heap := h', toks := t' } := by
  obtain ⟨m, ⟨o, es, ep, ho, r⟩, _⟩ := id I.loc
  obtain ⟨sl, hL⟩ := u.any ho I.free (by simp)
  exact I.step (g' := s.gens) (d' := s.drawn) (ch := []) (fun _ z => nomatch z) (fun b o _ hb _ e n => u.keep b o e n hb (by simp)) (fun b o _ hb _ e n => u.slot b o e n hb (by simp)) (fun b o _ e n => u.free b o e n (by simp)) (fun b o _ e => u.there b o e (by simp)) u.tups u.frzs u.tbls (fun m' hm => by
    obtain ⟨o', es', ep', ho', r'⟩ := hm
    rw [ho] at ho'; cases ho'
    exact ⟨_, es', ep', hL, r'⟩) hok I.bare
/-- behind a call (or a comprehension's block): the slots of this frame may have changed too, the records at ch may have turned -/
theorem Inv.call {g' : Array GenState} {t' : Nat} {d' : Drawn} {ch : List Addr} (I : Inv X pins σ H s) (u : Un (frs X.stack) ch H H' s.heap h') (hok : HOk X.prog X.w H' h') (hg : AllBare g')
    (hch : ∀ b ∈ ch, (b ∈ X.ex ∨ X.s₀.heap.objs.size ≤ b) ∧ b ≠ X.env.locals ∧ (∀ x c, X.env.cells.lookup x = some c → c ≠ b) ∧ ∀ p ∈ X.pn ++ pins, p.1 ≠ b) :
    Inv X pins σ H' { s with heap := h', gens := g', drawn := d', toks := t' } := by
  obtain ⟨m, ⟨o, es, ep, ho, r⟩, _⟩ := id I.loc
  obtain ⟨sl, hL⟩ := u.any ho I.free fun z => (hch _ z).2.1 rfl
  exact I.step (ch := ch) hch (fun b o hL hb hc e n => u.keep b o e n (fun z => (List.mem_cons.mp (I.stkSub b z)).elim hL hb) hc) (fun b o _ _ hc e n => u.any e n hc) (fun b o hc e n => u.free b o e n hc) (fun b o hc e => u.there b o e hc) u.tups u.frzs u.tbls (fun m' hm => by
    obtain ⟨o', es', ep', ho', r'⟩ := hm
    rw [ho] at ho'; cases ho'
    exact ⟨_, es', ep', hL, r'⟩) hok hg
/-- an untracked record of ours (an iterator) has turned -/
theorem Inv.turned {t' : Nat} {it : Addr} (I : Inv X pins σ H s) (k : ∀ b o, b ≠ it → s.heap.get? b = some o → h'.get? b = some o) (hn : H it = none) (hL : it ≠ X.env.locals)
    (h1 : it ∈ X.ex ∨ X.s₀.heap.objs.size ≤ it) (h2 : ∀ x c, X.env.cells.lookup x = some c → c ≠ it) (h3 : ∀ p ∈ X.pn ++ pins, p.1 ≠ it) : Inv X pins σ H { s with heap := h', toks := t' } := by
  have nit : ∀ b u, H b = some u → b ≠ it := fun b u e z => by rw [z, hn] at e; cases e
  refine I.step (g' := s.gens) (d' := s.drawn) (ch := [it]) (fun b hb => ?_) (fun b o _ _ hc e _ => k b o (fun z => hc (by simp [z])) e) (fun b o _ _ hc e _ => ⟨o.slots, k b o (fun z => hc (by simp [z])) e⟩) (fun _ _ _ _ n => n)
    (fun b o hc e => ⟨o, k b o (fun z => hc (by simp [z])) e⟩) (fun _ _ e => e) (fun _ _ _ e => e) (fun b ps e => ⟨#[], by rw [e]; simp⟩) (fun m hm => ?_) (fun b u e => ?_) I.bare
  · have e : b = it := by simpa using hb
    subst e
    exact ⟨h1, hL, h2, h3⟩
  · obtain ⟨o, es, ep, ho, r⟩ := hm
    exact ⟨o, es, ep, k _ o (Ne.symm hL) ho, r⟩
  · refine (I.hok b u e).stay (fun c v hc q => k c v ?_ q) (fun _ q => q) fun _ _ q => q
    rcases hc with z | z
    · rw [z]; exact nit b u e
    · exact nit c _ z
theorem Inv.tok (I : Inv X pins σ H s) (t : Nat) : Inv X pins σ H { s with toks := t } := I.un (h' := s.heap) (t' := t) Un.refl I.hok
/-- all objects kept -/
theorem Inv.kept {t' : Nat} (I : Inv X pins σ H s) (k : ∀ b u, s.heap.get? b = some u → h'.get? b = some u) : Inv X pins σ H { s with heap := h', toks := t' } := I.un (Un.kept k) (I.hok.kept k)
/-- a new object laid and tracked -/
theorem Inv.laid {a : Addr} {o : HO} {t' : Nat} (I : Inv X pins σ H s) (k : ∀ b u, s.heap.get? b = some u → h'.get? b = some u) (hp : s.heap.objs.size ≤ a) (new : ObjOk X.prog X.w (upd H a o) h' a o) :
    Inv X pins σ (upd H a o) { s with heap := h', toks := t' } := I.un (Un.laid k hp (I.hok.fresh hp)) (I.hok.laid k hp new)
/-- an object written -/
theorem Inv.write {x e : Addr} {o : HO} {t' : Nat} (I : Inv X pins σ H s) (mu : Mut (H x)) (he : e = x ∨ H e = some (.own x)) (k : ∀ b u, b ≠ e → s.heap.get? b = some u → h'.get? b = some u) (heo : ∃ u, h'.get? e = some u)
    (new : ObjOk X.prog X.w (upd H x o) h' x o) : Inv X pins σ (upd H x o) { s with heap := h', toks := t' } := I.un (Un.write mu he k heo) (I.hok.write mu he k heo new)
theorem Inv.pins_of {pins' : List (Addr × Obj)} (I : Inv X pins σ H s) (h : ∀ p ∈ pins', s.heap.get? p.1 = some p.2 ∧ H p.1 = none ∧ p.1 ≠ X.env.locals ∧ p.1 ∉ X.fs ∧ ∀ v, p.2.data ≠ .cell v) : Inv X pins' σ H s :=
  ⟨I.ok, I.os, I.bare, I.base, I.loc, I.cell, I.free, I.freeC, fun p hp => (List.mem_append.mp hp).elim (fun z => I.pin p (List.mem_append_left _ z)) (h p), I.hok, I.len⟩

theorem nodup_ix {N : List Str} (hN : N.Nodup) {i j : Nat} {x : Str} (a : N[i]? = some x) (b : N[j]? = some x) : i = j := by
  obtain ⟨h1, e1⟩ := List.getElem?_eq_some_iff.mp a
  obtain ⟨h2, e2⟩ := List.getElem?_eq_some_iff.mp b
  exact (List.getElem_inj hN).mp (e1.trans e2.symm)

/-- a name is stored; what changed -/
theorem store_ok2 {M : Model} {A : Around} {E : Value → Shared → Prop} {i : Nat} {x : Str} {v : V} {u : Value} {Q : Unit → Shared → Prop} (I : Inv X pins σ H s) (hN : X.N.Nodup) (hi : X.N[i]? = some x) (hx : Loc X.env.scope x) (r : RelV v u)
    (h : ∀ s', Inv X pins (σ.set i (some v)) H s' → (∃ a, Heap.SameBut a s.heap s'.heap ∧ (a = X.env.locals ∨ X.env.cells.lookup x = some a)) → Q () s') (hf : X.fn x = true ∨ X.env.scope.names.lookup x = some .local := by first | exact .inl rfl | exact .inr rfl | assumption) : wpAny M A (storeName X.env x u) Q E s := by
  obtain ⟨m, hn, hl⟩ := id I.loc
  have hcls : (X.env.scope.kind == .class || (X.env.scope.kind == .module && X.env.locals != X.env.globals)) = false := by rw [I.ok.kind]; rfl
  have hiσ : i < σ.length := by rw [I.len]; exact (List.getElem?_eq_some_iff.mp hi).1
  have cne := I.cne
  have tracked : ∀ {a : Addr} {h' : Heap}, (∃ o, s.heap.get? a = some o ∧ H a = none) → Heap.SameBut a s.heap h' → HOk X.prog X.w H h' := fun {a h'} ha hs b ob e => by
    obtain ⟨_, _, hfree⟩ := ha
    refine (I.hok b ob e).stay (fun c w' hc q => (hs.2 c ?_).trans q) (fun _ q => q) fun _ _ q => q
    rintro rfl
    rcases hc with rfl | hc
    · rw [hfree] at e; cases e
    · rw [hfree] at hc; cases hc
  rcases hx with hk | hk
  · refine wpAny_storeName_local hk hn (fun h' hn' hs => ?_) hcls
    obtain ⟨oL, _, _, hoL, _⟩ := id hn
    refine h _ ⟨I.ok, I.os, I.bare, ⟨fun b o e n hb hx => ?_, fun b o e n hb hx => ?_, I.base.free, fun b o e hx => ?_, I.base.tups, I.base.frzs, I.base.tbls⟩, ⟨_, hn', fun j y v' e1 e2 e3 => ?_⟩, fun y c e => ?_, I.free, I.freeC, fun p hp => ?_, tracked ⟨oL, hoL, I.free⟩ hs, by simpa using I.len⟩ ⟨_, hs, .inl rfl⟩
    · exact (hs.2 b (Nat.ne_of_lt (Nat.lt_of_lt_of_le (Heap.lt_size e) I.ok.above))).trans (I.base.keep b o e n hb hx)
    · obtain ⟨sl, e1⟩ := I.base.slot b o e n hb hx
      exact ⟨sl, (hs.2 b (Nat.ne_of_lt (Nat.lt_of_lt_of_le (Heap.lt_size e) I.ok.above))).trans e1⟩
    · obtain ⟨o', e1⟩ := I.base.there b o e hx
      exact ⟨o', (hs.2 b (Nat.ne_of_lt (Nat.lt_of_lt_of_le (Heap.lt_size e) I.ok.above))).trans e1⟩
    · by_cases hj : j = i
      · subst hj
        rw [hi] at e1; cases e1
        rw [List.getElem?_set_self hiσ] at e2
        cases e2
        exact ⟨u, r, .inl ⟨hk, by simp⟩⟩
      · rw [List.getElem?_set_ne (Ne.symm hj)] at e2
        obtain ⟨u', r', q⟩ := hl j y v' e1 e2 e3
        refine ⟨u', r', ?_⟩
        rcases q with ⟨k, e⟩ | ⟨k, c, e, z⟩
        · refine .inl ⟨k, ?_⟩
          have : y ≠ x := fun e => hj (nodup_ix hN e1 (e ▸ hi))
          simp [this, e]
        · exact .inr ⟨k, c, e, z.sameBut hs (cne y c e)⟩
    · obtain ⟨w', z⟩ := I.cell y c e
      exact ⟨w', z.sameBut hs (cne y c e)⟩
    · obtain ⟨e, n, ne, nf, d⟩ := I.pin p hp
      exact ⟨(hs.2 p.1 ne).trans e, n, ne, nf, d⟩
  · have hfn : X.fn x = true := by
      rcases hf with z | z
      · exact z
      · rw [z] at hk; cases hk
    obtain ⟨c, hc⟩ := I.ok.has x (.inl hk)
    obtain ⟨w', z⟩ := I.cell x c hc
    refine wpAny_storeName_cell I.ok.kind hk hc z (fun h' hc' hs => ?_)
    obtain ⟨oc, hoc, hocd⟩ := id z
    refine h { s with heap := h' } ⟨I.ok, I.os, I.bare, ⟨fun b o e n hb hx => ?_, fun b o e n hb hx => ?_, I.base.free, fun b o e hx => ?_, I.base.tups, I.base.frzs, I.base.tbls⟩, ⟨m, hn.sameBut hs (Ne.symm (cne x c hc)), fun j y v' e1 e2 e3 => ?_⟩, fun y c' e => ?_, I.free, I.freeC, fun p hp => ?_, tracked ⟨oc, hoc, I.freeC x c hc⟩ hs, by simpa using I.len⟩ ⟨c, hs, .inr hc⟩
    · exact (hs.2 b (Nat.ne_of_lt (Nat.lt_of_lt_of_le (Heap.lt_size e) (I.ok.cab x c hfn hc)))).trans (I.base.keep b o e n hb hx)
    · obtain ⟨sl, e1⟩ := I.base.slot b o e n hb hx
      exact ⟨sl, (hs.2 b (Nat.ne_of_lt (Nat.lt_of_lt_of_le (Heap.lt_size e) (I.ok.cab x c hfn hc)))).trans e1⟩
    · obtain ⟨o', e1⟩ := I.base.there b o e hx
      exact ⟨o', (hs.2 b (Nat.ne_of_lt (Nat.lt_of_lt_of_le (Heap.lt_size e) (I.ok.cab x c hfn hc)))).trans e1⟩
    · by_cases hj : j = i
      · subst hj
        rw [hi] at e1; cases e1
        rw [List.getElem?_set_self hiσ] at e2
        cases e2
        exact ⟨u, r, .inr ⟨.inl hk, c, hc, hc'⟩⟩
      · rw [List.getElem?_set_ne (Ne.symm hj)] at e2
        obtain ⟨u', r', q⟩ := hl j y v' e1 e2 e3
        refine ⟨u', r', ?_⟩
        rcases q with q | ⟨k, c', e, z'⟩
        · exact .inl q
        · refine .inr ⟨k, c', e, z'.sameBut hs ?_⟩
          rintro rfl
          exact hj (nodup_ix hN e1 (I.ok.inj _ _ _ e hc ▸ hi))
    · by_cases hcc : c' = c
      · subst hcc; exact ⟨_, hc'⟩
      · obtain ⟨w2, z2⟩ := I.cell y c' e
        exact ⟨w2, z2.sameBut hs hcc⟩
    · obtain ⟨e, n, ne, nf, d⟩ := I.pin p hp
      refine ⟨(hs.2 p.1 ?_).trans e, n, ne, nf, d⟩
      intro q
      rw [q, hoc] at e
      have q' : oc = p.2 := Option.some.inj e
      exact d w' (by rw [← q']; exact hocd)
theorem store_ok {M : Model} {A : Around} {E : Value → Shared → Prop} {i : Nat} {x : Str} {v : V} {u : Value} {Q : Unit → Shared → Prop} (I : Inv X pins σ H s) (hN : X.N.Nodup) (hi : X.N[i]? = some x) (hx : Loc X.env.scope x) (r : RelV v u)
    (h : ∀ s', Inv X pins (σ.set i (some v)) H s' → Q () s') (hf : X.fn x = true ∨ X.env.scope.names.lookup x = some .local := by first | exact .inl rfl | exact .inr rfl | assumption) : wpAny M A (storeName X.env x u) Q E s :=
  store_ok2 I hN hi hx r (fun s' I' _ => h s' I') hf
/-- behind a call or a block, the state as it is -/
theorem Inv.call' {s' : Shared} {ch : List Addr} (I : Inv X pins σ H s) (ho : s'.os = s.os) (u : Un (frs X.stack) ch H H' s.heap s'.heap) (hok : HOk X.prog X.w H' s'.heap) (hg : AllBare s'.gens)
    (hch : ∀ b ∈ ch, (b ∈ X.ex ∨ X.s₀.heap.objs.size ≤ b) ∧ b ≠ X.env.locals ∧ (∀ x c, X.env.cells.lookup x = some c → c ≠ b) ∧ ∀ p ∈ X.pn ++ pins, p.1 ≠ b) : Inv X pins σ H' s' := by
  obtain ⟨h', g', d', t', o'⟩ := s'
  have e : o' = s.os := ho
  subst e
  exact I.call (g' := g') (t' := t') (d' := d') u hok hg hch
end

/-! ### the judgements -/
/-- an exception: its class, its own dict's address (where it has one), the abstract heap behind it -/
abbrev XK := Value → Option Addr → Hp → Prop
abbrev St := List (Option V)
abbrev VK := V → Hp → Prop
/-- an expression's reading; a test's; an argument list's -/
abbrev TE := St → Hp → VK → Prop
abbrev TT := St → Hp → (Bool → Hp → Prop) → Prop
abbrev TA := St → Hp → (List V → Hp → Prop) → Prop
/-- what is wanted behind a statement -/
structure Ends where
  nx : St → Hp → Prop
  rt : VK
  bk : St → Hp → Prop := fun _ _ => False
  ct : St → Hp → Prop := fun _ _ => False
abbrev TS := Ends → St → Hp → Prop

def EP (X : Cx) (pins : List (Addr × Obj)) (σ : St) (Q : VK) (u : Value) (s' : Shared) : Prop := ∃ v H', Inv X pins σ H' s' ∧ RelV v u ∧ Q v H'
def TP (X : Cx) (pins : List (Addr × Obj)) (σ : St) (Q : Bool → Hp → Prop) (b : Bool) (s' : Shared) : Prop := ∃ H', Inv X pins σ H' s' ∧ Q b H'
def AP (X : Cx) (pins : List (Addr × Obj)) (σ : St) (Q : List V → Hp → Prop) (us : List Value) (s' : Shared) : Prop := ∃ vs H', Inv X pins σ H' s' ∧ Vals vs us ∧ Q vs H'
def SP (X : Cx) (pins : List (Addr × Obj)) (D : Ends) (f : Flow) (s' : Shared) : Prop :=
  match f with
  | .next => ∃ σ' H', Inv X pins σ' H' s' ∧ D.nx σ' H'
  | .brk => ∃ σ' H', Inv X pins σ' H' s' ∧ D.bk σ' H'
  | .cont => ∃ σ' H', Inv X pins σ' H' s' ∧ D.ct σ' H'
  | .ret u => ∃ v σ' H', Inv X pins σ' H' s' ∧ RelV v u ∧ D.rt v H'

def PE (X : Cx) (e : Expr) (t : TE) : Prop :=
  ∀ (pins : List (Addr × Obj)) (s : Shared) (σ : St) (H : Hp) (Q : VK), Inv X pins σ H s → t σ H Q → wpAny (model X.prog X.w) X.A (eval e X.env) (EP X pins σ Q) X.xe s
def PT (X : Cx) (e : Expr) (t : TT) : Prop :=
  ∀ (pins : List (Addr × Obj)) (s : Shared) (σ : St) (H : Hp) (Q : Bool → Hp → Prop), Inv X pins σ H s → t σ H Q → wpAny (model X.prog X.w) X.A (isTrue e X.env (eval e X.env)) (TP X pins σ Q) X.xe s
/-- a test whatever its 'whole' is (and, or) -/
def PW (X : Cx) (e : Expr) (t : TT) : Prop :=
  ∀ (whole : Sem Value) (pins : List (Addr × Obj)) (s : Shared) (σ : St) (H : Hp) (Q : Bool → Hp → Prop), Inv X pins σ H s → t σ H Q → wpAny (model X.prog X.w) X.A (isTrue e X.env whole) (TP X pins σ Q) X.xe s
theorem PW.pt {X : Cx} {e : Expr} {t : TT} (h : PW X e t) : PT X e t := h _
/-- an argument list (no star), from the left -/
def PA (X : Cx) (es : List Expr) (t : TA) : Prop :=
  ∀ (pos : Pos) (pins : List (Addr × Obj)) (s : Shared) (σ : St) (H : Hp) (Q : List V → Hp → Prop), Inv X pins σ H s → t σ H Q → wpAny (model X.prog X.w) X.A (spliced (backTo pos (starEach es X.env))) (AP X pins σ Q) X.xe s
def PS (X : Cx) (st : Stmt) (t : TS) : Prop :=
  ∀ (pins : List (Addr × Obj)) (s : Shared) (σ : St) (H : Hp) (D : Ends), Inv X pins σ H s → t D σ H → wpAny (model X.prog X.w) X.A (exec st X.env) (SP X pins D) X.xe s
def PSs (X : Cx) (st : List Stmt) (t : TS) : Prop :=
  ∀ (pins : List (Addr × Obj)) (s : Shared) (σ : St) (H : Hp) (D : Ends), Inv X pins σ H s → t D σ H → wpAny (model X.prog X.w) X.A (execs st X.env) (SP X pins D) X.xe s
/-- weaken the end -/
theorem thn {α : Type} {t : Sem α} {Q Q' : α → Shared → Prop} {M : Model} {A : Around} {E : Value → Shared → Prop} {s : Shared} (h : wpAny M A t Q E s) (hQ : ∀ a s, Q a s → Q' a s) : wpAny M A t Q' E s := wpAny_mono h hQ fun _ _ x => x
end L2

namespace L2
open PySem PySem.Spec PyProof.Rows
section
variable {X : Cx}

/-- two expressions in a row -/
theorem bin {a b : Expr} {ta tb : TE} (ha : PE X a ta) (hb : PE X b tb) {pins : List (Addr × Obj)} {s : Shared} {σ : St} {H : Hp} {R : V → V → Hp → Prop} (I : Inv X pins σ H s) (h : ta σ H fun x H1 => tb σ H1 fun y H2 => R x y H2)
    {α : Type} {Q : α → Shared → Prop} {f : Value → Value → Sem α}
    (hf : ∀ v u s2 x y H2, Inv X pins σ H2 s2 → RelV x v → RelV y u → R x y H2 → wpAny (model X.prog X.w) X.A (f v u) Q X.xe s2) :
    wpAny (model X.prog X.w) X.A (eval a X.env) (fun v s₁ => wpAny (model X.prog X.w) X.A (eval b X.env) (fun u s₂ => wpAny (model X.prog X.w) X.A (f v u) Q X.xe s₂) X.xe s₁) X.xe s := by
  refine thn (ha pins s σ H _ I h) fun v s1 ⟨x, H1, I1, r1, q1⟩ => ?_
  refine thn (hb pins s1 σ H1 _ I1 q1) fun u s2 ⟨y, H2, I2, r2, q2⟩ => ?_
  exact hf v u s2 x y H2 I2 r1 r2 q2

/-! ### names and constants -/
def tVar (i : Nat) : TE := fun σ H Q => ∃ v, σ[i]? = some (some v) ∧ Q v H
def tC (v : V) : TE := fun _ H Q => Q v H
theorem pe_var {i : Nat} {x : Str} {pos : Pos} (hN : X.N[i]? = some x) (hv : Vis X.env.scope x) (hd : (x == ("__debug__" : Str)) = false := by decide) (hcd : (x == ("__classdict__" : Str)) = false := by decide) : PE X (.Name x pos) (tVar i) := by
  intro pins s σ H Q I h
  obtain ⟨v, e, h⟩ := h
  obtain ⟨m, hn, hl⟩ := I.loc
  obtain ⟨u, r, l⟩ := hl i x v hN e hv
  have fin : EP X pins σ Q u s := ⟨v, H, I, r, h⟩
  rcases l with ⟨hk, hm⟩ | ⟨hk, c, hc, hcell⟩
  · exact wpAny_Name (wpAny_loadName_local I.ok.kind hk hn hm fin) hd
  · rcases hk with hk | hk
    · exact wpAny_Name (wpAny_loadName_cell I.ok.kind hk hc hcell fin) hd
    · exact wpAny_Name (wpAny_loadName_free I.ok.kind hk hc hcell fin hcd) hd
theorem pe_int {i j pos} : PE X (.Constant (.int i) j pos) (tC (.int i)) := fun _ _ _ H _ I h => wpAny_Constant_int ⟨.int i, H, I.tok _, ⟨_, rfl⟩, h⟩
theorem pe_bl {b j pos} : PE X (.Constant (.bool b) j pos) (tC (.bl b)) := fun _ _ _ H _ I h => Constant_bool ⟨.bl b, H, I, rfl, h⟩
theorem pe_non {j pos} : PE X (.Constant .none j pos) (tC .non) := fun _ _ _ H _ I h => Constant_none ⟨.non, H, I, rfl, h⟩
theorem pe_str {x j pos} : PE X (.Constant (.str x) j pos) (tC (.str x)) := fun _ _ _ H _ I h => Calls.Constant_str ⟨.str x, H, I.tok _, ⟨_, rfl⟩, h⟩

/-- a global name of the def -/
def Gl (X : Cx) (x : Str) : Prop := X.env.kindOf x = some .globalImplicit
theorem ld_glob {E : Value → Shared → Prop} {pins : List (Addr × Obj)} {s : Shared} {σ : St} {H : Hp} {x : Str} {u : Value} {pos : Pos} {Q : Value → Shared → Prop} (I : Inv X pins σ H s) (hg : Gl X x) (hm : X.mg x = some u) (h : Q u s)
    (hd : (x == ("__debug__" : Str)) = false := by decide) : wpAny (model X.prog X.w) X.A (eval (.Name x pos) X.env) Q E s :=
  Calls.Name_function_global I.ok.kind hg (Calls.loadGlobal_global (by rw [I.ok.glob]; exact I.mod.glob.keeps I.bk) hm h) hd
theorem ld_blt {E : Value → Shared → Prop} {pins : List (Addr × Obj)} {s : Shared} {σ : St} {H : Hp} {x : Str} {u : Value} {pos : Pos} {Q : Value → Shared → Prop} (I : Inv X pins σ H s) (hg : Gl X x) (hm : X.mg x = none) (hv : bootBuiltins x = some u) (h : Q u s)
    (hn : x ≠ "__name__" := by decide) (hd : (x == ("__debug__" : Str)) = false := by decide) : wpAny (model X.prog X.w) X.A (eval (.Name x pos) X.env) Q E s := by
  obtain ⟨mb, h1, h2⟩ := I.mod.blt
  exact Calls.Name_function_global I.ok.kind hg (Calls.loadGlobal_builtin (by rw [I.ok.glob]; exact I.mod.glob.keeps I.bk) hm (by rw [I.ok.blt]; exact h1.keeps I.bk) ((h2 x hn).trans hv) h) hd
/-- a module's constant, a class, a function, as a value -/
theorem pe_glob {x : Str} {v : V} {u : Value} {pos : Pos} (hg : Gl X x) (hm : X.mg x = some u) (r : RelV v u) (hd : (x == ("__debug__" : Str)) = false := by decide) : PE X (.Name x pos) (tC v) :=
  fun _ _ _ H _ I h => ld_glob I hg hm ⟨v, H, I, r, h⟩ hd
theorem pe_bltn {x : Str} {v : V} {u : Value} {pos : Pos} (hg : Gl X x) (hm : X.mg x = none) (hv : bootBuiltins x = some u) (r : RelV v u) (hn : x ≠ "__name__" := by decide) (hd : (x == ("__debug__" : Str)) = false := by decide) : PE X (.Name x pos) (tC v) :=
  fun _ _ _ H _ I h => ld_blt I hg hm hv ⟨v, H, I, r, h⟩ hn hd

/-! ### arithmetic -/
variable {a b : Expr} {ta tb : TE} {pos : Pos}

/-! ### comparisons -/
def PC (X : Cx) (op : CmpOp) (a b : Expr) (t : TE) : Prop :=
  ∀ (pins : List (Addr × Obj)) (s : Shared) (σ : St) (H : Hp) (Q : VK), Inv X pins σ H s → t σ H Q →
    wpAny (model X.prog X.w) X.A (eval a X.env) (fun v s₁ => wpAny (model X.prog X.w) X.A (eval b X.env) (fun u s₂ => wpAny (model X.prog X.w) X.A (compareOp op v u) (EP X pins σ Q) X.xe s₂) X.xe s₁) X.xe s
/-- a comparison as a value, as a test -/
def tB (t : TE) : TT := fun σ H Q => t σ H fun x H1 => ∃ c, x = .bl c ∧ Q c H1
theorem pt_cmp {op : CmpOp} {t : TE} (h : PC X op a b t) (h1 : behindInMarks op b = false := by first | exact nobehind _ (by decide) (by decide) | rfl) : PT X (.Compare a [op] [b] pos) (tB t) := by
  intro pins s σ H Q I hw
  refine wpAny_isTrue_Compare1 (thn (h pins s σ H _ I hw) fun v s1 h1 => thn h1 fun u s2 h2 => thn h2 fun c s3 ⟨x, H1, I1, r1, q1⟩ => ?_) h1
  obtain ⟨d, rfl, q⟩ := q1
  cases r1
  exact wpAny_truthy_bool ⟨H1, I1, q⟩
/-- an expression whose value is a bool, as a test -/
theorem pt_val {e : Expr} {t : TE} (h : PE X e t) (he : ∀ whole, isTrue e X.env whole = (do let v ← whole; standAt e.pos; holding [v] (truthy v)) := by intro _; rfl) : PT X e (tB t) := by
  intro pins s σ H Q I hw
  refine isTrue_plain (thn (h pins s σ H _ I hw) fun v s1 ⟨x, H1, I1, r1, q1⟩ => ?_) (he _)
  obtain ⟨d, rfl, q⟩ := q1
  cases r1
  exact wpAny_truthy_bool ⟨H1, I1, q⟩

/-! ### and, or, not -/
variable {tA tB' : TT} {rest : List Expr}
def tAnd (t u : TT) : TT := fun σ H Q => t σ H fun c H1 => if c = true then u σ H1 Q else Q false H1
def tOr (t u : TT) : TT := fun σ H Q => t σ H fun c H1 => if c = true then Q true H1 else u σ H1 Q
def tNot (t : TT) : TT := fun σ H Q => t σ H fun c H1 => Q (!c) H1
theorem pw_and1 (ha : PT X a tA) : PW X (.BoolOp .And [a] pos) tA := by
  intro wh pins s σ H Q I h
  refine isTrue_and (thn (ha pins s σ H Q I h) fun c s1 e => ?_)
  cases c with
  | true => exact isTrue_and_nil e
  | false => exact e
theorem pw_or1 (ha : PT X a tA) : PW X (.BoolOp .Or [a] pos) tA := by
  intro wh pins s σ H Q I h
  refine isTrue_or (thn (ha pins s σ H Q I h) fun c s1 e => ?_)
  cases c with
  | false => exact isTrue_or_nil e
  | true => exact e
theorem pw_and (ha : PT X a tA) (hb : PW X (.BoolOp .And (b :: rest) pos) tB') : PW X (.BoolOp .And (a :: b :: rest) pos) (tAnd tA tB') := by
  intro wh pins s σ H Q I h
  refine isTrue_and (thn (ha pins s σ H _ I h) fun c s1 ⟨H1, I1, q1⟩ => ?_)
  cases c with
  | true => exact hb wh pins s1 σ H1 Q I1 q1
  | false => exact ⟨H1, I1, q1⟩
theorem pw_or (ha : PT X a tA) (hb : PW X (.BoolOp .Or (b :: rest) pos) tB') : PW X (.BoolOp .Or (a :: b :: rest) pos) (tOr tA tB') := by
  intro wh pins s σ H Q I h
  refine isTrue_or (thn (ha pins s σ H _ I h) fun c s1 ⟨H1, I1, q1⟩ => ?_)
  cases c with
  | true => exact ⟨H1, I1, q1⟩
  | false => exact hb wh pins s1 σ H1 Q I1 q1
theorem pt_not (ha : PT X a tA) : PT X (.UnaryOp .Not a pos) (tNot tA) := by
  intro pins s σ H Q I h
  exact isTrue_not (ha pins s σ H (fun c H1 => Q (!c) H1) I h)
/-- .. as values (bools) -/
def tAndV (ta tb : TE) : TE := fun σ H Q => ta σ H fun x H1 => ∃ c, x = .bl c ∧ if c = true then tb σ H1 Q else Q (.bl false) H1
def tNotV (ta : TE) : TE := fun σ H Q => ta σ H fun x H1 => ∃ c, x = .bl c ∧ Q (.bl (!c)) H1
theorem pe_one {op} {t : TE} (h : PE X a t) : PE X (.BoolOp op [a] pos) t := fun pins s σ H Q I hw => BoolOp_one (h pins s σ H Q I hw)
theorem pe_and (ha : PE X a ta) (hb : PE X (.BoolOp .And (b :: rest) pos) tb) : PE X (.BoolOp .And (a :: b :: rest) pos) (tAndV ta tb) := by
  intro pins s σ H Q I h
  refine BoolOp_and (thn (ha pins s σ H _ I h) fun v s1 ⟨x, H1, I1, r1, q1⟩ => ?_)
  obtain ⟨c, rfl, q1⟩ := q1
  cases r1
  refine wpAny_truthy_bool ?_
  cases c with
  | true => exact hb pins s1 σ H1 Q I1 q1
  | false => exact ⟨.bl false, H1, I1, rfl, q1⟩
theorem pe_not (ha : PE X a ta) : PE X (.UnaryOp .Not a pos) (tNotV ta) := by
  intro pins s σ H Q I h
  refine UnaryOp_ (thn (ha pins s σ H _ I h) fun v s1 ⟨x, H1, I1, r1, q1⟩ => ?_)
  obtain ⟨c, rfl, q1⟩ := q1
  cases r1
  exact not_of (wpAny_truthy_bool ⟨.bl (!c), H1, I1, rfl, q1⟩)
/-- a if t else b -/
def tIf (t : TT) (ta tb : TE) : TE := fun σ H Q => t σ H fun c H1 => if c = true then ta σ H1 Q else tb σ H1 Q
theorem pe_ifExp {c : Expr} (hc : PT X c tA) (ha : PE X a ta) (hb : PE X b tb) : PE X (.IfExp c a b pos) (tIf tA ta tb) := by
  intro pins s σ H Q I h
  refine wpAny_IfExp (thn (hc pins s σ H _ I h) fun d s1 ⟨H1, I1, q1⟩ => ?_)
  cases d with
  | true => exact ha pins s1 σ H1 Q I1 q1
  | false => exact hb pins s1 σ H1 Q I1 q1
end
end L2

namespace L2
open PySem PySem.Spec PyProof.Rows

/-! ### a list, a tuple that is read: tracked, frozen, or an object of the module -/
def SqL (K : PySem.W.Frag) (H : Hp) (a : Addr) (xs : List V) : Prop :=
  Rd H a (.lst xs) ∨
    ∃ (o : Obj) (its : Array Value) (n : Nat), K.lookup a = some o ∧ o.cls = .type "list" ∧ o.dict = none ∧ o.data = .seq its n ∧ its.size ≤ sizeLine ∧ Vals xs its.toList
def SqT (K : PySem.W.Frag) (H : Hp) (a : Addr) (xs : List V) : Prop :=
  Rd H a (.tup xs) ∨
    ∃ (o : Obj) (its : Array Value) (n : Nat), K.lookup a = some o ∧ o.cls = .type "tuple" ∧ o.data = .seq its n ∧ its.size ≤ sizeLine ∧ Vals xs its.toList
def absV : Value → Option V
  | .none => some .non
  | .bool b => some (.bl b)
  | .int i _ => some (.int i)
  | .str x _ => some (.str x)
  | .bytes b _ => some (.byt b)
  | .float b _ => some (.flt b)
  | .ref a => some (.ref a)
  | .type n => some (.ty n)
  | _ => none
theorem RelV.abs {x : V} {u : Value} (r : RelV x u) : absV u = some x := by
  cases x with
  | non => cases r; rfl
  | bl _ => cases r; rfl
  | int _ => obtain ⟨t, rfl⟩ := r; rfl
  | str _ => obtain ⟨t, rfl⟩ := r; rfl
  | byt _ => obtain ⟨t, rfl⟩ := r; rfl
  | flt _ => obtain ⟨t, rfl⟩ := r; rfl
  | ref _ => cases r; rfl
  | ty _ => cases r; rfl
theorem RelV.inj {x y : V} {u : Value} (r : RelV x u) (q : RelV y u) : x = y := Option.some.inj (r.abs.symm.trans q.abs)
theorem Vals.inj : ∀ {xs ys : List V} {us : List Value}, Vals xs us → Vals ys us → xs = ys
  | _, _, _, .nil, .nil => rfl
  | _, _, _, .cons r t, .cons r' t' => by rw [r.inj r', Vals.inj t t']
section
variable {X : Cx} {pins : List (Addr × Obj)} {σ : St} {H : Hp} {s : Shared} {a : Addr} {xs ys : List V}
theorem SqL.of {K : PySem.W.Frag} (h : H a = some (.lst xs)) : SqL K H a xs := .inl (.inl h)
theorem SqT.of {K : PySem.W.Frag} (h : H a = some (.tup xs)) : SqT K H a xs := .inl (.inl h)
theorem Inv.list (I : Inv X pins σ H s) (h : SqL X.K H a xs) : ∃ its : List Value, Vals xs its ∧ PlainL s.heap a its.toArray ∧ xs.length ≤ sizeLine := by
  rcases h with h | ⟨o, its, n, hk, hc, hd, hs, hz, r⟩
  · obtain ⟨z, its, n, r, e⟩ := h.ok I.hok
    exact ⟨its, r, ⟨_, n, e, rfl, rfl, rfl⟩, z⟩
  · refine ⟨its.toList, r, ⟨o, n, I.kIn a o hk, hc, hd, by simpa using hs⟩, ?_⟩
    have e := r.length
    simp only [Array.length_toList] at e
    omega
theorem Inv.tuple (I : Inv X pins σ H s) (h : SqT X.K H a xs) : ∃ its : List Value, Vals xs its ∧ IsTup s.heap a its.toArray ∧ xs.length ≤ sizeLine := by
  rcases h with h | ⟨o, its, n, hk, hc, hs, hz, r⟩
  · obtain ⟨z, its, r, p⟩ := h.ok I.hok
    exact ⟨its, r, p, z⟩
  · refine ⟨its.toList, r, ⟨o, I.kIn a o hk, hc, n, by simpa using hs⟩, ?_⟩
    have e := r.length
    simp only [Array.length_toList] at e
    omega
theorem Inv.list_inj (I : Inv X pins σ H s) (h : SqL X.K H a xs) (h' : SqL X.K H a ys) : xs = ys := by
  obtain ⟨its, r, ⟨o, n, e, _, _, d⟩, _⟩ := I.list h
  obtain ⟨its', r', ⟨o', n', e', _, _, d'⟩, _⟩ := I.list h'
  rw [e] at e'; cases e'
  rw [d] at d'
  injection d' with d1 _
  have : its = its' := by simpa using congrArg Array.toList d1
  subst this
  exact r.inj r'
theorem Inv.tuple_inj (I : Inv X pins σ H s) (h : SqT X.K H a xs) (h' : SqT X.K H a ys) : xs = ys := by
  obtain ⟨its, r, ⟨o, e, _, n, d⟩, _⟩ := I.tuple h
  obtain ⟨its', r', ⟨o', e', _, n', d'⟩, _⟩ := I.tuple h'
  rw [e] at e'; cases e'
  rw [d] at d'
  injection d' with d1 _
  have : its = its' := by simpa using congrArg Array.toList d1
  subst this
  exact r.inj r'
end

/-! ### another wish about exceptions -/
abbrev Cx.wish (X : Cx) (E : Value → Shared → Prop) : Cx := { X with xe := E }
/-- no exception leaves -/
abbrev Cx.nox (X : Cx) : Cx := X.wish fun _ _ => False
theorem Cx.Ok.wish {X : Cx} (ok : X.Ok) (E : Value → Shared → Prop) : (X.wish E).Ok :=
  ⟨ok.mod, ok.kind, ok.glob, ok.blt, ok.above, ok.inj, ok.has, ok.cab, ok.hd, ok.frames, ok.stk, ok.exf, ok.bs, ok.bsz, ok.noex, ok.exfs, ok.funs, ok.frf⟩
theorem Cx.Ok.unwish {X : Cx} {E : Value → Shared → Prop} (ok : (X.wish E).Ok) : X.Ok :=
  ⟨ok.mod, ok.kind, ok.glob, ok.blt, ok.above, ok.inj, ok.has, ok.cab, ok.hd, ok.frames, ok.stk, ok.exf, ok.bs, ok.bsz, ok.noex, ok.exfs, ok.funs, ok.frf⟩
section
variable {X : Cx} {pins : List (Addr × Obj)} {σ : St} {H : Hp} {s : Shared} {E : Value → Shared → Prop}
theorem Inv.wish (I : Inv X pins σ H s) (E : Value → Shared → Prop) : Inv (X.wish E) pins σ H s := ⟨I.ok.wish E, I.os, I.bare, I.base, I.loc, I.cell, I.free, I.freeC, I.pin, I.hok, I.len⟩
theorem Inv.unwish (I : Inv (X.wish E) pins σ H s) : Inv X pins σ H s := ⟨I.ok.unwish, I.os, I.bare, I.base, I.loc, I.cell, I.free, I.freeC, I.pin, I.hok, I.len⟩
theorem SP.unwish {D : Ends} {f : Flow} {s' : Shared} (h : SP (X.wish E) pins D f s') : SP X pins D f s' := by
  cases f with
  | next => obtain ⟨σ', H', I, q⟩ := h; exact ⟨σ', H', I.unwish, q⟩
  | brk => obtain ⟨σ', H', I, q⟩ := h; exact ⟨σ', H', I.unwish, q⟩
  | cont => obtain ⟨σ', H', I, q⟩ := h; exact ⟨σ', H', I.unwish, q⟩
  | ret u => obtain ⟨v, σ', H', I, r, q⟩ := h; exact ⟨v, σ', H', I.unwish, r, q⟩
theorem PSs.nox {st : List Stmt} {t : TS} (h : PSs X.nox st t) : PSs X st t := fun pins s σ H D I hw =>
  wpAny_mono (h pins s σ H D (I.wish _) hw) (fun _ _ q => q.unwish) fun _ _ z => False.elim z
end

/-! ### blocks and small statements -/
section
variable {X : Cx} {st : Stmt} {rest : List Stmt} {t u : TS} {e : Expr} {te : TE} {pos : Pos}
def tNext : TS := fun D σ H => D.nx σ H
def tSeq (t u : TS) : TS := fun D σ H => t { D with nx := u D } σ H
theorem pss_nil : PSs X [] tNext := fun _ _ σ H _ I h => wpAny_execs_nil ⟨σ, H, I, h⟩
theorem pss_cons (h1 : PS X st t) (h2 : PSs X rest u) : PSs X (st :: rest) (tSeq t u) := by
  intro pins s σ H D I h
  refine wpAny_execs_cons (thn (h1 pins s σ H { D with nx := u D } I h) fun f s1 q => ?_)
  cases f with
  | next =>
    obtain ⟨σ', H', I', q⟩ := q
    exact h2 pins s1 σ' H' D I' q
  | ret v => exact q
  | brk => exact q
  | cont => exact q
theorem pss_one (h1 : PS X st t) : PSs X [st] t := by
  intro pins s σ H D I h
  refine wpAny_execs_cons (thn (h1 pins s σ H D I h) fun f s1 q => ?_)
  cases f with
  | next => exact wpAny_execs_nil q
  | ret v => exact q
  | brk => exact q
  | cont => exact q
/-- in a def's body nothing is shown -/
theorem Inv.quiet {pins : List (Addr × Obj)} {σ : St} {H : Hp} {s : Shared} (I : Inv X pins σ H s) : interactive X.env = false := by simp [interactive, I.ok.kind]
/-- an expression whose value is dropped -/
def tDrop (te : TE) : TS := fun D σ H => te σ H fun _ H1 => D.nx σ H1
theorem ps_expr (he : PE X e te) (hs : swapsWith e none pos.line X.env = pure false := by rfl) : PS X (.Expr e pos) (tDrop te) := by
  intro pins s σ H D I h
  exact wpAny_Expr_any (thn (he pins s σ H _ I h) fun v s1 ⟨x, H1, I1, r1, q1⟩ => ⟨σ, H1, I1, q1⟩) I.quiet hs
def tRet (te : TE) : TS := fun D σ H => te σ H D.rt
theorem ps_ret (he : PE X e te) : PS X (.Return (some e) pos) (tRet te) := by
  intro pins s σ H D I h
  exact wpAny_Return_some (thn (he pins s σ H _ I h) fun v s1 ⟨x, H1, I1, r1, q1⟩ => ⟨x, σ, H1, I1, r1, q1⟩)
def tIfS (c : TT) (t u : TS) : TS := fun D σ H => c σ H fun b H1 => if b = true then t D σ H1 else u D σ H1
theorem ps_if {c : Expr} {a b : List Stmt} {tc : TT} (hc : PT X c tc) (ha : PSs X a t) (hb : PSs X b u) : PS X (.If c a b pos) (tIfS tc t u) := by
  intro pins s σ H D I h
  refine wpAny_If (thn (hc pins s σ H _ I h) fun d s1 ⟨H1, I1, q1⟩ => ?_)
  cases d with
  | true => exact ha pins s1 σ H1 D I1 q1
  | false => exact hb pins s1 σ H1 D I1 q1
end

/-! ### targets -/
abbrev TG := V → St → Hp → (St → Hp → Prop) → Prop
abbrev TGs := List V → St → Hp → (St → Hp → Prop) → Prop
def PG (X : Cx) (target : Expr) (t : TG) : Prop :=
  ∀ (pins : List (Addr × Obj)) (s : Shared) (σ : St) (H : Hp) (v : V) (u : Value) (Q : St → Hp → Prop), Inv X pins σ H s → RelV v u → t v σ H Q →
    wpAny (model X.prog X.w) X.A (assign target X.env u) (fun _ s' => ∃ σ' H', Inv X pins σ' H' s' ∧ Q σ' H') X.xe s
/-- several targets, one after another -/
def PGs (X : Cx) (ts : List Expr) (t : TGs) : Prop :=
  ∀ (pins : List (Addr × Obj)) (s : Shared) (σ : St) (H : Hp) (vs : List V) (us : List Value) (Q : St → Hp → Prop), Inv X pins σ H s → Vals vs us → t vs σ H Q →
    wpAny (model X.prog X.w) X.A (assignInOrder ((assignEach ts X.env).map (·.2)) us) (fun _ s' => ∃ σ' H', Inv X pins σ' H' s' ∧ Q σ' H') X.xe s
/-- o[i] = v, by values -/
abbrev TSet := V → V → V → Hp → (Hp → Prop) → Prop
def PSet (X : Cx) (t : TSet) : Prop :=
  ∀ (pins : List (Addr × Obj)) (s : Shared) (σ : St) (H : Hp) (o i v : V) (ov iv u : Value) (Q : Hp → Prop), Inv X pins σ H s → RelV o ov → RelV i iv → RelV v u → t o i v H Q →
    wpAny (model X.prog X.w) X.A (setItem ov iv u) (fun _ s' => ∃ H', Inv X pins σ H' s' ∧ Q H') X.xe s
section
variable {X : Cx} {pos : Pos}
def gName (i : Nat) : TG := fun v σ H Q => Q (σ.set i (some v)) H
theorem pg_name {i : Nat} {x : Str} (hN : X.N.Nodup) (hi : X.N[i]? = some x) (hx : Loc X.env.scope x) (hf : X.fn x = true ∨ X.env.scope.names.lookup x = some .local := by first | exact .inl rfl | exact .inr rfl | assumption) : PG X (.Name x pos) (gName i) := by
  intro pins s σ H v u Q I r h
  exact wpAny_assign_Name (store_ok I hN hi hx r (fun s' I' => ⟨_, H, I', h⟩) hf)
def gNil : TGs := fun vs σ H Q => vs = [] ∧ Q σ H
def gCons (t : TG) (u : TGs) : TGs := fun vs σ H Q => ∃ v r, vs = v :: r ∧ t v σ H fun σ' H' => u r σ' H' Q
theorem pgs_nil : PGs X [] gNil := by
  intro pins s σ H vs us Q I r h
  obtain ⟨e, h⟩ := h
  subst e
  cases r
  exact assignInOrder_nil ⟨σ, H, I, h⟩
theorem pgs_cons {e : Expr} {es : List Expr} {t : TG} {u : TGs} (h1 : PG X e t) (h2 : PGs X es u)
    (hs : (assignEach (e :: es) X.env).map (·.2) = assign e X.env :: (assignEach es X.env).map (·.2) := by rfl) : PGs X (e :: es) (gCons t u) := by
  intro pins s σ H vs us Q I r h
  obtain ⟨v, vr, e1, h⟩ := h
  subst e1
  cases r with
  | cons r rr =>
    rw [hs]
    refine assignInOrder_cons (thn (h1 pins s σ H _ _ _ I r h) fun _ s1 ⟨σ1, H1, I1, q1⟩ => ?_)
    exact h2 pins s1 σ1 H1 _ _ Q I1 rr q1
/-- (a, b, ..) = a tuple of that length -/
def gTup (K : PySem.W.Frag) (n : Nat) (t : TGs) : TG := fun v σ H Q => ∃ a xs, v = .ref a ∧ SqT K H a xs ∧ xs.length = n ∧ t xs σ H Q
theorem pg_tup {es : List Expr} {k : Nat} {t : TGs} {n : Nat} (hc : X.calm = true) (h : PGs X es t)
    (hn : (assignEach es X.env).length = n := by rfl) (hst : (assignEach es X.env).findIdx? (·.1) = none := by rfl) : PG X (.Tuple es k pos) (gTup X.K n t) := by
  intro pins s σ H v u Q I r hw
  obtain ⟨a, xs, e1, hq, hl, hw⟩ := hw
  subst e1
  cases r
  obtain ⟨its, rv, ht, hz⟩ := I.tuple hq
  refine assign_Tuple_tuple (I.ok.hd hc) ht (by simp [hn, ← hl, rv.length]) hst fun h' hx => ?_
  have I1 : Inv X pins σ H { s with heap := h' } := I.kept (t' := s.toks) fun b o e => hx b o (Nat.ne_of_lt (Heap.lt_size e)) e
  exact h pins _ σ H xs _ Q I1 (by simpa using rv) hw
/-- o[i] = .. -/
def gSub (to ti : TE) (t : TSet) : TG := fun v σ H Q => to σ H fun o H1 => ti σ H1 fun i H2 => t o i v H2 fun H3 => Q σ H3
theorem pg_sub {o i : Expr} {to ti : TE} {t : TSet} (ho : PE X o to) (hi : PE X i ti) (hs : PSet X t)
    (ha : ∀ v, assign (.Subscript o i pos) X.env v = (do
      let ov ← holding [v] (eval o X.env)
      let iv ← holding [v, ov] (eval i X.env)
      standAt pos
      holding [v, ov, iv] (setItem ov iv v)
      release [v, ov, iv] []) := by intro _; rfl) : PG X (.Subscript o i pos) (gSub to ti t) := by
  intro pins s σ H v u Q I r h
  rw [ha]
  refine wpAny_bind (wpAny_holding (thn (ho pins s σ H _ I h) fun ov s1 ⟨x, H1, I1, r1, q1⟩ => ?_))
  refine wpAny_bind (wpAny_holding (thn (hi pins s1 σ H1 _ I1 q1) fun iv s2 ⟨y, H2, I2, r2, q2⟩ => ?_))
  refine wpAny_bind (wpAny_standAt (wpAny_bind (wpAny_holding (thn (hs pins s2 σ H2 x y v ov iv u _ I2 r1 r2 r q2) fun _ s3 ⟨H3, I3, q3⟩ => ?_))))
  exact wpAny_release ⟨σ, H3, I3, q3⟩
/-- target = value -/
def tAsg (te : TE) (g : TG) : TS := fun D σ H => te σ H fun x H1 => g x σ H1 D.nx
theorem ps_asg {tg e : Expr} {te : TE} {g : TG} (he : PE X e te) (hg : PG X tg g) (hs : swapsWithSole [tg] e pos.line X.env = pure false := by rfl) (hw : swappedStores [tg] e X.env = pure none := by rfl)
    (h1 : (assignEach [tg] X.env).map (·.2) = [assign tg X.env] := by rfl) : PS X (.Assign [tg] e pos) (tAsg te g) := by
  intro pins s σ H D I h
  refine wpAny_Assign_stores (thn (he pins s σ H _ I h) fun v s1 ⟨x, H1, I1, r1, q1⟩ => ?_) hs hw
  rw [h1]
  exact thn (hg pins s1 σ H1 x v _ I1 r1 q1) fun _ s2 q => q
/-- name = value -/
theorem ps_set {i : Nat} {x : Str} {e : Expr} {te : TE} {pos' : Pos} (hN : X.N.Nodup) (hi : X.N[i]? = some x) (hx : Loc X.env.scope x) (he : PE X e te) (hs : swapsWith e (some (.Name x pos')) pos.line X.env = pure false := by rfl) (hf : X.fn x = true ∨ X.env.scope.names.lookup x = some .local := by first | exact .inl rfl | exact .inr rfl | assumption) :
    PS X (.Assign [.Name x pos'] e pos) (tAsg te (gName i)) := by
  intro pins s σ H D I h
  refine wpAny_Assign_Name (thn (he pins s σ H _ I h) fun v s1 ⟨y, H1, I1, r1, q1⟩ => ?_) hs
  exact store_ok I1 hN hi hx r1 (fun s2 I2 => ⟨_, H1, I2, q1⟩) hf
end

/-! ### while -/
section
variable {X : Cx} {pos : Pos}
/-- the invariant W with its measure -/
def tWhile (c : TT) (tb : TS) : TS := fun D σ H => ∃ W : Nat → St → Hp → Prop, (∃ m, W m σ H) ∧ ∀ m σ H, W m σ H →
  c σ H fun b H1 => if b = true then ∃ N : St → Hp → Prop, (∀ σ' H', N σ' H' → ∃ m', m' < m ∧ W m' σ' H') ∧ tb { D with nx := N, ct := N, bk := D.nx } σ H1 else D.nx σ H1
theorem ps_while {c : Expr} {body : List Stmt} {tc : TT} {tb : TS} (hp : PassesOwn (model X.prog X.w) X.A X.env X.xe) (hc : PT X c tc) (hb : PSs X body tb) : PS X (.While c body [] pos) (tWhile tc tb) := by
  intro pins s σ H D I h
  obtain ⟨W, ⟨m0, w0⟩, turn⟩ := h
  refine wpAny_While (codeAny_whileLoop (fun n s' => ∃ σ' H', Inv X pins σ' H' s' ∧ W n σ' H') ?_ m0 ⟨σ, H, I, w0⟩)
  rintro n s1 ⟨σ1, H1, I1, w1⟩
  refine wpAny_passesOwn hp (thn (hc pins s1 σ1 H1 _ I1 (turn n σ1 H1 w1)) fun b s2 ⟨H2, I2, q2⟩ => ?_)
  cases b with
  | true =>
    obtain ⟨N, hN, q2⟩ := q2
    rw [if_pos rfl]
    refine wpAny_passesOwn hp (thn (hb pins s2 σ1 H2 _ I2 q2) fun f s3 q3 => ?_)
    cases f with
    | next =>
      obtain ⟨σ3, H3, I3, n3⟩ := q3
      obtain ⟨m', hm, w3⟩ := hN σ3 H3 n3
      exact ⟨m', hm, σ3, H3, I3, w3⟩
    | cont =>
      obtain ⟨σ3, H3, I3, n3⟩ := q3
      obtain ⟨m', hm, w3⟩ := hN σ3 H3 n3
      exact ⟨m', hm, σ3, H3, I3, w3⟩
    | brk => exact q3
    | ret v => exact q3
  | false =>
    rw [if_neg Bool.false_ne_true]
    exact wpAny_execs_nil ⟨σ1, H2, I2, q2⟩
end

/-! ### what a loop or a comprehension walks -/
/-- at turn i: it yields x (the heap may grow), or it stops -/
structure It where
  go : Nat → Hp → Prop
  yld : Nat → Hp → V → Hp → Prop
  stop : Nat → Hp → Prop
/-- the iterator's own objects may turn: they are not the frame's, not pinned, younger than the entry (or a comprehension's own) -/
def FpOk (X : Cx) (pins : List (Addr × Obj)) (H : Hp) (b : Addr) : Prop :=
  H b = none ∧ b ≠ X.env.locals ∧ b ∉ X.fs ∧ (b ∈ X.ex ∨ X.s₀.heap.objs.size ≤ b) ∧ (∀ x c, X.env.cells.lookup x = some c → c ≠ b) ∧ ∀ p ∈ X.pn ++ pins, p.1 ≠ b
theorem Inv.fpOk {X : Cx} {pins : List (Addr × Obj)} {σ : St} {H H' : Hp} {s : Shared} {b : Addr} (I : Inv X pins σ H s) (hb : s.heap.objs.size ≤ b) (hn : H' b = none) : FpOk X pins H' b := by
  refine ⟨hn, Nat.ne_of_gt (Nat.lt_of_lt_of_le I.lt hb), I.nofs hb, .inr (Nat.le_trans I.sz hb), fun x c e z => ?_, fun p hp z => ?_⟩
  · obtain ⟨v, q⟩ := I.cell x c e
    exact absurd (Nat.lt_of_lt_of_le q.lt (by rw [z]; exact hb)) (Nat.lt_irrefl _)
  · exact absurd (Nat.lt_of_lt_of_le (Heap.lt_size (I.pin p hp).1) (by rw [z]; exact hb)) (Nat.lt_irrefl _)
structure Turn (P : Program) (w : World) (K : PySem.W.Frag) (tg : Expr) (J : It) (fp : List Addr) (it : Addr) (tn : Nat → Heap → Prop) : Prop where
  mem : it ∈ fp
  obj : ∀ i h, tn i h → ∀ b ∈ fp, ∃ o, h.get? b = some o ∧ ∀ v, o.data ≠ .cell v
  keep : ∀ i h h', tn i h → (∀ b ∈ fp, ∀ o, h.get? b = some o → h'.get? b = some o) → tn i h'
  item : ∀ (X : Cx), X.prog = P → X.w = w → X.K = K → X.calm = true → ∀ (i : Nat) (pins : List (Addr × Obj)) (s : Shared) (σ : St) (H : Hp) (E : Value → Shared → Prop), Inv X pins σ H s → (∀ b ∈ fp, FpOk X pins H b) → tn i s.heap → J.go i H →
    wpAny (model P w) X.A (pyNext (.ref it)) (fun r s1 => ∃ u, r = some u ∧
      wpAny (model P w) X.A (letOwnedTupleGo tg (.ref it) u) (fun _ s2 => ∃ x H', Inv X pins σ H' s2 ∧ RelV x u ∧ J.yld i H x H' ∧ tn (i + 1) s2.heap ∧ ∀ b ∈ fp, H' b = none) E s1) E s
  done : ∀ (X : Cx), X.prog = P → X.w = w → X.K = K → X.calm = true → ∀ (i : Nat) (pins : List (Addr × Obj)) (s : Shared) (σ : St) (H : Hp) (E : Value → Shared → Prop), Inv X pins σ H s → (∀ b ∈ fp, FpOk X pins H b) → tn i s.heap → J.stop i H →
    wpAny (model P w) X.A (pyNext (.ref it)) (fun r s1 => r = none ∧ Inv X pins σ H s1) E s
  self : ∀ (A : Around) (i : Nat) (s : Shared) (Q : Value → Shared → Prop) (E : Value → Shared → Prop), tn i s.heap → Q (.ref it) s → wpAny (model P w) A (pyIter (.ref it)) Q E s
abbrev TI := St → Hp → (It → Hp → Prop) → Prop
/-- an iterator has come -/
def PIE (X : Cx) (pins : List (Addr × Obj)) (σ : St) (tg : Expr) (R : It → Hp → Prop) (itv : Value) (s2 : Shared) : Prop :=
  ∃ (it : Addr) (fp : List Addr) (tn : Nat → Heap → Prop) (J : It) (H' : Hp), itv = .ref it ∧ Inv X pins σ H' s2 ∧ Turn X.prog X.w X.K tg J fp it tn ∧ tn 0 s2.heap ∧ (∀ b ∈ fp, FpOk X pins H' b) ∧ R J H'
def PI (X : Cx) (tg iter : Expr) (wi : TI) : Prop :=
  ∀ (pins : List (Addr × Obj)) (s : Shared) (σ : St) (H : Hp) (R : It → Hp → Prop), Inv X pins σ H s → wi σ H R →
    wpAny (model X.prog X.w) X.A (eval iter X.env) (fun v s1 => wpAny (model X.prog X.w) X.A (pyIter v) (PIE X pins σ tg R) X.xe s1) X.xe s

/-- the step ahead of the store is nothing for an iterator that keeps no tuple -/
theorem go_of {M : Model} {A : Around} {E : Value → Shared → Prop} {s : Shared} {tg : Expr} {it : Addr} {u : Value} {o : Obj} {n : String} {vs : Array Value} {Q : Unit → Shared → Prop} (ho : s.heap.get? it = some o) (hc : o.cls = .type n) (hd : o.data = .fields vs)
    (hn : ["enumerate", "zip", "dict_itemiterator", "dict_reverseitemiterator", "odict_iterator", "itertools.zip_longest", "itertools.pairwise"].contains n = false) (hQ : Q () s) : wpAny M A (letOwnedTupleGo tg (.ref it) u) Q E s := by
  unfold letOwnedTupleGo
  cases tg <;> first
    | exact wpAny_pure hQ
    | (cases u <;> first
        | exact wpAny_pure hQ
        | (refine wpAny_bind (wpAny_load ho ?_)
           rw [hc, hd]
           show wpAny M A (if (["enumerate", "zip", "dict_itemiterator", "dict_reverseitemiterator", "odict_iterator", "itertools.zip_longest", "itertools.pairwise"].contains n && vs[0]? == some (rawInt _)) = true then _ else _) Q E s
           rw [if_neg (by intro h; rw [hn, Bool.false_and] at h; cases h)]
           exact wpAny_pure hQ))

/-- the list at a, as it stands at each turn (a loop may append to it) -/
def Itl (K : PySem.W.Frag) (a : Addr) : It :=
  ⟨fun i H => ∃ xs x, SqL K H a xs ∧ xs[i]? = some x, fun i H x H' => H' = H ∧ ∀ xs, SqL K H a xs → xs[i]? = some x, fun i H => ∃ xs, SqL K H a xs ∧ xs.length ≤ i⟩
def Itt (K : PySem.W.Frag) (a : Addr) : It :=
  ⟨fun i H => ∃ xs x, SqT K H a xs ∧ xs[i]? = some x, fun i H x H' => H' = H ∧ ∀ xs, SqT K H a xs → xs[i]? = some x, fun i H => ∃ xs, SqT K H a xs ∧ xs.length ≤ i⟩
theorem turn_list {P : Program} {w : World} {K : PySem.W.Frag} {tg : Expr} (a it : Addr) : Turn P w K tg (Itl K a) [it] it (fun i h => h.IsListIter it a i) where
  mem := by simp
  obj := fun i h st b hb => by
    have e : b = it := by simpa using hb
    subst e
    obtain ⟨o, e, c, d⟩ := st
    exact ⟨o, e, fun v z => by rw [d] at z; cases z⟩
  keep := fun i h h' st k => st.at fun o e => k it (by simp) o e
  item := by
    intro X hP hw hK hc i pins s σ H E I hf st hg
    subst hP hw hK
    obtain ⟨xs, x, hq, hx⟩ := hg
    obtain ⟨its, rv, p, hz⟩ := I.list hq
    obtain ⟨u, hu, ru⟩ := rv.get hx
    obtain ⟨f0, f1, f2, f3, f4, f5⟩ := hf it (by simp)
    refine wpAny_pyNext_list_item st p.isList (x := u) (by simpa using hu) fun h' st' sb => ?_
    have I1 : Inv X pins σ H { s with heap := h' } := I.turned (t' := s.toks) (fun b o hb e => (sb.2 b hb).trans e) f0 f1 f3 f4 f5
    obtain ⟨o, e, c, d⟩ := id st'
    exact ⟨u, rfl, go_of (s := { s with heap := h' }) e c d (by decide) ⟨x, H, I1, ru, ⟨rfl, fun ys hy => by rw [I.list_inj hy hq]; exact hx⟩, st', fun b hb => (hf b hb).1⟩⟩
  done := by
    intro X hP hw hK hc i pins s σ H E I hf st hg
    subst hP hw hK
    obtain ⟨xs, hq, hx⟩ := hg
    obtain ⟨its, rv, p, hz⟩ := I.list hq
    obtain ⟨f0, f1, f2, f3, f4, f5⟩ := hf it (by simp)
    have hl := rv.length
    exact wpAny_pyNext_list_end (I.ok.hd hc) st p.isList (by simp; omega) fun h' eb => ⟨rfl, I.turned (t' := s.toks) (fun b o hb e => eb b o hb e) f0 f1 f3 f4 f5⟩
  self := fun _ _ _ _ _ st h => wpAny_pyIter_listiter st h
theorem turn_tuple {P : Program} {w : World} {K : PySem.W.Frag} {tg : Expr} (a it : Addr) : Turn P w K tg (Itt K a) [it] it (fun i h => h.IsTupleIter it a i) where
  mem := by simp
  obj := fun i h st b hb => by
    have e : b = it := by simpa using hb
    subst e
    obtain ⟨o, e, c, d⟩ := st
    exact ⟨o, e, fun v z => by rw [d] at z; cases z⟩
  keep := fun i h h' st k => st.at fun o e => k it (by simp) o e
  item := by
    intro X hP hw hK hc i pins s σ H E I hf st hg
    subst hP hw hK
    obtain ⟨xs, x, hq, hx⟩ := hg
    obtain ⟨its, rv, p, hz⟩ := I.tuple hq
    obtain ⟨u, hu, ru⟩ := rv.get hx
    obtain ⟨f0, f1, f2, f3, f4, f5⟩ := hf it (by simp)
    refine wpAny_pyNext_tuple_item st (show s.heap.IsTuple a its.toArray from p) (x := u) (by simpa using hu) fun h' st' sb => ?_
    have I1 : Inv X pins σ H { s with heap := h' } := I.turned (t' := s.toks) (fun b o hb e => (sb.2 b hb).trans e) f0 f1 f3 f4 f5
    obtain ⟨o, e, c, d⟩ := id st'
    exact ⟨u, rfl, go_of (s := { s with heap := h' }) e c d (by decide) ⟨x, H, I1, ru, ⟨rfl, fun ys hy => by rw [I.tuple_inj hy hq]; exact hx⟩, st', fun b hb => (hf b hb).1⟩⟩
  done := by
    intro X hP hw hK hc i pins s σ H E I hf st hg
    subst hP hw hK
    obtain ⟨xs, hq, hx⟩ := hg
    obtain ⟨its, rv, p, hz⟩ := I.tuple hq
    obtain ⟨f0, f1, f2, f3, f4, f5⟩ := hf it (by simp)
    have hl := rv.length
    exact wpAny_pyNext_tuple_end (I.ok.hd hc) st (show s.heap.IsTuple a its.toArray from p) (by simp; omega) fun h' eb => ⟨rfl, I.turned (t' := s.toks) (fun b o hb e => eb b o hb e) f0 f1 f3 f4 f5⟩
  self := fun _ _ _ _ _ st h => wpAny_pyIter_tupleiter st h
end L2

namespace L2
open PySem PySem.Spec PyProof.Rows
section
variable {X : Cx} {tg : Expr}
def iList (K : PySem.W.Frag) (tl : TE) : TI := fun σ H R => tl σ H fun x H1 => ∃ a, x = .ref a ∧ (∃ xs, SqL K H1 a xs) ∧ R (Itl K a) H1
def iTup (K : PySem.W.Frag) (tl : TE) : TI := fun σ H R => tl σ H fun x H1 => ∃ a, x = .ref a ∧ (∃ xs, SqT K H1 a xs) ∧ R (Itt K a) H1
theorem pi_list {l : Expr} {tl : TE} (hl : PE X l tl) : PI X tg l (iList X.K tl) := by
  intro pins s σ H R I h
  refine thn (hl pins s σ H _ I h) fun v s1 ⟨x, H1, I1, r1, q1⟩ => ?_
  obtain ⟨a, e, ⟨xs, hq⟩, q⟩ := q1
  subst e
  cases r1
  obtain ⟨its, rv, p, hz⟩ := I1.list hq
  refine wpAny_pyIter_list p.isList ?_
  refine ⟨s1.heap.objs.size, [s1.heap.objs.size], _, _, H1, rfl, I1.kept (t' := s1.toks) fun b o e => Heap.get?_push_of_some _ e, turn_list a _, ⟨_, Heap.get?_push_size _ rfl, rfl, rfl⟩, fun b hb => ?_, q⟩
  have e : b = s1.heap.objs.size := by simpa using hb
  subst e
  exact I1.fpOk (Nat.le_refl _) (I1.hok.fresh (Nat.le_refl _))
theorem pi_tup {l : Expr} {tl : TE} (hl : PE X l tl) : PI X tg l (iTup X.K tl) := by
  intro pins s σ H R I h
  refine thn (hl pins s σ H _ I h) fun v s1 ⟨x, H1, I1, r1, q1⟩ => ?_
  obtain ⟨a, e, ⟨xs, hq⟩, q⟩ := q1
  subst e
  cases r1
  obtain ⟨its, rv, p, hz⟩ := I1.tuple hq
  refine wpAny_pyIter_tuple (show s1.heap.IsTuple a its.toArray from p) ?_
  refine ⟨s1.heap.objs.size, [s1.heap.objs.size], _, _, H1, rfl, I1.kept (t' := s1.toks) fun b o e => Heap.get?_push_of_some _ e, turn_tuple a _, ⟨_, Heap.get?_push_size _ rfl, rfl, rfl⟩, fun b hb => ?_, q⟩
  have e : b = s1.heap.objs.size := by simpa using hb
  subst e
  exact I1.fpOk (Nat.le_refl _) (I1.hok.fresh (Nat.le_refl _))

/-! ### for -/
/-- W: the invariant by the turn and a measure; N: what the body is to reach -/
def tFor (wi : TI) (g : TG) (tb : TS) : TS := fun D σ H => wi σ H fun J H1 => ∃ W : Nat → Nat → St → Hp → Prop, (∃ m, W 0 m σ H1) ∧ ∀ i m σ H, W i m σ H →
  (J.stop i H ∧ D.nx σ H) ∨ (J.go i H ∧ ∃ N : St → Hp → Prop, (∀ σ' H', N σ' H' → ∃ m', m' < m ∧ W (i + 1) m' σ' H') ∧ ∀ x H', J.yld i H x H' → g x σ H' fun σ2 H2 => tb { D with nx := N, ct := N, bk := D.nx } σ2 H2)
/-- the records at fp as they stand -/
def pinsAt (fp : List Addr) (h : Heap) : List (Addr × Obj) := fp.filterMap fun b => (h.get? b).map fun o => (b, o)
theorem mem_pinsAt {fp : List Addr} {h : Heap} {b : Addr} {o : Obj} (hb : b ∈ fp) (e : h.get? b = some o) : (b, o) ∈ pinsAt fp h := List.mem_filterMap.mpr ⟨b, hb, by rw [e]; rfl⟩
theorem of_pinsAt {fp : List Addr} {h : Heap} {p : Addr × Obj} (hp : p ∈ pinsAt fp h) : p.1 ∈ fp ∧ h.get? p.1 = some p.2 := by
  obtain ⟨b, hb, e⟩ := List.mem_filterMap.mp hp
  cases q : h.get? b with
  | none => rw [q] at e; cases e
  | some o =>
    rw [q] at e
    have e' : (b, o) = p := Option.some.inj e
    subst e'
    exact ⟨hb, q⟩
theorem Inv.pinned {pins : List (Addr × Obj)} {σ : St} {H : Hp} {s : Shared} {fp : List Addr} (I : Inv X pins σ H s) (hf : ∀ b ∈ fp, FpOk X pins H b) (ho : ∀ b ∈ fp, ∃ o, s.heap.get? b = some o ∧ ∀ v, o.data ≠ .cell v) : Inv X (pins ++ pinsAt fp s.heap) σ H s :=
  I.pins_of fun p hp => (List.mem_append.mp hp).elim (fun z => I.pin p (List.mem_append_right _ z)) fun z => by
    obtain ⟨hb, e⟩ := of_pinsAt z
    obtain ⟨f0, f1, f2, _⟩ := hf p.1 hb
    obtain ⟨o, e', d⟩ := ho p.1 hb
    rw [e] at e'; cases e'
    exact ⟨e, f0, f1, f2, d⟩
theorem Inv.unpinned {pins pl : List (Addr × Obj)} {σ : St} {H : Hp} {s : Shared} (I : Inv X (pins ++ pl) σ H s) : Inv X pins σ H s := I.pins_of fun p hp => I.pin p (List.mem_append_right _ (List.mem_append_left _ hp))
theorem ps_for {iter : Expr} {body : List Stmt} {wi : TI} {g : TG} {tb : TS} {pos : Pos} (hp : PassesOwn (model X.prog X.w) X.A X.env X.xe) (hc : X.calm = true) (hi : PI X tg iter wi) (hg : PG X tg g) (hb : PSs X body tb)
    (hs : ∀ x, foldedSetIterable iter X.env x = pure x := by intro _; rfl) : PS X (.For tg iter body [] pos) (tFor wi g tb) := by
  intro pins s σ H D I h
  refine wpAny_For (thn (hi pins s σ H _ I h) fun v s1 h1 => thn h1 fun itv s2 h2 => ?_) hs
  obtain ⟨it, fp, tn, J, H2, e, I2, T, st2, f2, W, ⟨m0, w0⟩, turn⟩ := h2
  subst e
  -- what stays true of the iterator's objects through the loop
  have stat : ∀ {H' : Hp}, (∀ b ∈ fp, H' b = none) → ∀ b ∈ fp, FpOk X pins H' b := fun hn b hb => ⟨hn b hb, (f2 b hb).2⟩
  refine codeAny_forLoop_any (fun n s' => ∃ i σ' H', Inv X pins σ' H' s' ∧ tn i s'.heap ∧ (∀ b ∈ fp, H' b = none) ∧ W i n σ' H') ?_ m0 ⟨0, σ, H2, I2, st2, fun b hb => (f2 b hb).1, w0⟩
  rintro n s3 ⟨i, σ3, H3, I3, st3, fr3, w3⟩
  rcases turn i n σ3 H3 w3 with ⟨stop, qn⟩ | ⟨go, N, hN, step⟩
  · refine wpAny_passesOwn hp (thn (T.done X rfl rfl rfl hc i pins s3 σ3 H3 X.xe I3 (stat fr3) st3 stop) fun r s4 ⟨hr, I4⟩ => ?_)
    subst hr
    exact wpAny_execs_nil ⟨σ3, H3, I4, qn⟩
  · refine wpAny_passesOwn hp (thn (T.item X rfl rfl rfl hc i pins s3 σ3 H3 X.xe I3 (stat fr3) st3 go) fun r s4 ⟨u, hr, h4⟩ => ?_)
    subst hr
    refine wpAny_passesOwn hp (thn h4 fun _ s5 ⟨x, H5, I5, r5, y5, st5, fr5⟩ => ?_)
    have I5' := I5.pinned (stat fr5) (T.obj _ _ st5)
    refine wpAny_passesOwn hp (thn (hg _ s5 σ3 H5 x u _ I5' r5 (step x H5 y5)) fun _ s6 ⟨σ6, H6, I6, q6⟩ => ?_)
    refine wpAny_passesOwn hp (thn (hb _ s6 σ6 H6 _ I6 q6) fun f s7 q7 => ?_)
    have again : ∀ {σ7 : St} {H7 : Hp}, Inv X (pins ++ pinsAt fp s5.heap) σ7 H7 s7 → N σ7 H7 → ∃ m, m < n ∧ ∃ i σ' H', Inv X pins σ' H' s7 ∧ tn i s7.heap ∧ (∀ b ∈ fp, H' b = none) ∧ W i m σ' H' := fun {σ7 H7} I7 n7 => by
      obtain ⟨m', hm, w7⟩ := hN σ7 H7 n7
      refine ⟨m', hm, i + 1, σ7, H7, I7.unpinned, T.keep _ _ _ st5 fun b hb o e => (I7.pin (b, o) (List.mem_append_right _ (List.mem_append_right _ (mem_pinsAt hb e)))).1, fun b hb => ?_, w7⟩
      obtain ⟨o, e, d⟩ := T.obj _ _ st5 b hb
      exact (I7.pin (b, o) (List.mem_append_right _ (List.mem_append_right _ (mem_pinsAt hb e)))).2.1
    cases f with
    | next => obtain ⟨σ7, H7, I7, n7⟩ := q7; exact again I7 n7
    | cont => obtain ⟨σ7, H7, I7, n7⟩ := q7; exact again I7 n7
    | brk => obtain ⟨σ7, H7, I7, q7⟩ := q7; exact ⟨σ7, H7, I7.unpinned, q7⟩
    | ret v => obtain ⟨x7, σ7, H7, I7, r7, q7⟩ := q7; exact ⟨x7, σ7, H7, I7.unpinned, r7, q7⟩
end

/-! ### the forms one uses -/
/-- over a list that the body leaves as it is -/
theorem for_list {K : PySem.W.Frag} {a : Addr} {xs : List V} {g : TG} {tb : TS} {D : Ends} {σ : St} {H : Hp} (Pv : Nat → St → Hp → Prop) (h0 : Pv 0 σ H) (hl : ∀ i σ H, i ≤ xs.length → Pv i σ H → SqL K H a xs)
    (hs : ∀ i x σ H, xs[i]? = some x → Pv i σ H → g x σ H fun σ2 H2 => tb { D with nx := Pv (i + 1), ct := Pv (i + 1), bk := D.nx } σ2 H2) (hd : ∀ σ H, Pv xs.length σ H → D.nx σ H) :
    ∃ W : Nat → Nat → St → Hp → Prop, (∃ m, W 0 m σ H) ∧ ∀ i m σ H, W i m σ H →
      ((Itl K a).stop i H ∧ D.nx σ H) ∨ ((Itl K a).go i H ∧ ∃ N : St → Hp → Prop, (∀ σ' H', N σ' H' → ∃ m', m' < m ∧ W (i + 1) m' σ' H') ∧ ∀ x H', (Itl K a).yld i H x H' → g x σ H' fun σ2 H2 => tb { D with nx := N, ct := N, bk := D.nx } σ2 H2) := by
  refine ⟨fun i m σ H => m = xs.length - i ∧ i ≤ xs.length ∧ Pv i σ H, ⟨xs.length, by simp, Nat.zero_le _, h0⟩, ?_⟩
  rintro i m σ H ⟨rfl, hi, p⟩
  have q := hl i σ H hi p
  by_cases hlt : i < xs.length
  · refine .inr ⟨⟨xs, xs[i], q, by simp [hlt]⟩, Pv (i + 1), fun σ' H' p' => ⟨xs.length - (i + 1), by omega, rfl, hlt, p'⟩, fun x H' y => ?_⟩
    obtain ⟨e, y⟩ := y
    subst e
    exact hs i x σ _ (y xs q) p
  · have e : i = xs.length := by omega
    subst e
    exact .inl ⟨⟨xs, q, Nat.le_refl _⟩, hd σ H p⟩
end L2

namespace L2
open PySem PySem.Spec PyProof.Rows

abbrev R2 := V → V → Hp → VK → Prop
/-- a two-place operation on values: f is binaryOp op, inplaceOp op or compareOp op -/
def OpR (X : Cx) (f : Value → Value → Sem Value) (r : R2) : Prop :=
  ∀ (pins : List (Addr × Obj)) (s : Shared) (σ : St) (H : Hp) (x y : V) (v u : Value) (Q : VK), Inv X pins σ H s → RelV x v → RelV y u → r x y H Q →
    wpAny (model X.prog X.w) X.A (f v u) (EP X pins σ Q) X.xe s
/-- a one-place operation -/
def UnR (X : Cx) (f : Value → Sem Value) (r : V → Hp → VK → Prop) : Prop :=
  ∀ (pins : List (Addr × Obj)) (s : Shared) (σ : St) (H : Hp) (x : V) (v : Value) (Q : VK), Inv X pins σ H s → RelV x v → r x H Q →
    wpAny (model X.prog X.w) X.A (f v) (EP X pins σ Q) X.xe s
/-- a call of a value that is known (a builtin, a type) with values -/
def CallR (X : Cx) (f : Value) (r : List V → Hp → VK → Prop) : Prop :=
  ∀ (pins : List (Addr × Obj)) (s : Shared) (σ : St) (H : Hp) (xs : List V) (us : List Value) (Q : VK), Inv X pins σ H s → Vals xs us → r xs H Q →
    wpAny (model X.prog X.w) X.A (call f us) (EP X pins σ Q) X.xe s
/-- a value's truth -/
def TruR (X : Cx) (r : V → Hp → (Bool → Hp → Prop) → Prop) : Prop :=
  ∀ (pins : List (Addr × Obj)) (s : Shared) (σ : St) (H : Hp) (x : V) (v : Value) (Q : Bool → Hp → Prop), Inv X pins σ H s → RelV x v → r x H Q →
    wpAny (model X.prog X.w) X.A (truthy v) (TP X pins σ Q) X.xe s

def tOp (r : R2) (ta tb : TE) : TE := fun σ H Q => ta σ H fun x H1 => tb σ H1 fun y H2 => r x y H2 Q
def tUn (r : V → Hp → VK → Prop) (ta : TE) : TE := fun σ H Q => ta σ H fun x H1 => r x H1 Q
/-- ints in, under C, and a value out -/
def rI (C : Int → Int → Prop) (g : Int → Int → V) : R2 := fun x y H Q => ∃ i j, x = .int i ∧ y = .int j ∧ C i j ∧ Q (g i j) H
def rI0 (g : Int → Int → V) : R2 := fun x y H Q => ∃ i j, x = .int i ∧ y = .int j ∧ Q (g i j) H
def rU (g : Int → V) : V → Hp → VK → Prop := fun x H Q => ∃ i, x = .int i ∧ Q (g i) H

section
variable {X : Cx} {a b c : Expr} {ta tb tc : TE} {pos : Pos}

theorem binT (ha : PE X a ta) (hb : PE X b tb) {pins : List (Addr × Obj)} {s : Shared} {σ : St} {H : Hp} {R : V → V → Hp → Prop} (I : Inv X pins σ H s)
    (h : ta σ H fun x H1 => tb σ H1 fun y H2 => R x y H2) {Q : Value → Shared → Prop} {f : Value → Value → Sem Value}
    (hf : ∀ v u s2 x y H2, Inv X pins σ H2 s2 → RelV x v → RelV y u → R x y H2 → wpAny (model X.prog X.w) X.A (f v u) Q X.xe s2) :
    wpAny (model X.prog X.w) X.A (eval a X.env) (fun v s₁ => wpAny (model X.prog X.w) X.A (eval b X.env) (fun u s₂ => wpAny (model X.prog X.w) X.A (f v u) Q X.xe s₂) X.xe s₁) X.xe s := by
  refine thn (ha pins s σ H _ I h) fun v s1 ⟨x, H1, I1, r1, q1⟩ => ?_
  refine thn (hb pins s1 σ H1 _ I1 q1) fun u s2 ⟨y, H2, I2, r2, q2⟩ => ?_
  exact hf v u s2 x y H2 I2 r1 r2 q2

theorem pe_op {op : Operator} {r : R2} (ho : OpR X (binaryOp op) r) (ha : PE X a ta) (hb : PE X b tb) : PE X (.BinOp a op b pos) (tOp r ta tb) := by
  intro pins s σ H Q I h
  exact wpAny_BinOp (binT ha hb I h fun v u s2 x y H2 I2 rx ry q => ho pins s2 σ H2 x y v u Q I2 rx ry q)
theorem pe_un {op : UnaryOp} {r : V → Hp → VK → Prop} (ho : UnR X (unaryOp op) r) (ha : PE X a ta) : PE X (.UnaryOp op a pos) (tUn r ta) := by
  intro pins s σ H Q I h
  exact UnaryOp_ (thn (ha pins s σ H _ I h) fun v s1 ⟨x, H1, I1, r1, q1⟩ => ho pins s1 σ H1 x v Q I1 r1 q1)

/-! ### ints -/
theorem opI {f : Value → Value → Sem Value} {C : Int → Int → Prop} {g : Int → Int → Int}
    (rule : ∀ (i j : Int) (t u : Tok) (s : Shared) (Q : Value → Shared → Prop) (E : Value → Shared → Prop), C i j → Q (.int (g i j) s.toks) { s with toks := s.toks + 1 } → wpAny (model X.prog X.w) X.A (f (.int i t) (.int j u)) Q E s) :
    OpR X f (rI C fun i j => .int (g i j)) := by
  intro pins s σ H x y v u Q I rx ry h
  obtain ⟨i, j, rfl, rfl, hc, q⟩ := h
  obtain ⟨t, rfl⟩ := rx
  obtain ⟨t', rfl⟩ := ry
  exact rule i j t t' s _ _ hc ⟨.int (g i j), H, I.tok _, ⟨_, rfl⟩, q⟩
theorem opI0 {f : Value → Value → Sem Value} {g : Int → Int → Int}
    (rule : ∀ (i j : Int) (t u : Tok) (s : Shared) (Q : Value → Shared → Prop) (E : Value → Shared → Prop), Q (.int (g i j) s.toks) { s with toks := s.toks + 1 } → wpAny (model X.prog X.w) X.A (f (.int i t) (.int j u)) Q E s) :
    OpR X f (rI0 fun i j => .int (g i j)) := by
  intro pins s σ H x y v u Q I rx ry h
  obtain ⟨i, j, rfl, rfl, q⟩ := h
  obtain ⟨t, rfl⟩ := rx
  obtain ⟨t', rfl⟩ := ry
  exact rule i j t t' s _ _ ⟨.int (g i j), H, I.tok _, ⟨_, rfl⟩, q⟩
theorem opB0 {f : Value → Value → Sem Value} {g : Int → Int → Bool}
    (rule : ∀ (i j : Int) (t u : Tok) (s : Shared) (Q : Value → Shared → Prop) (E : Value → Shared → Prop), Q (.bool (g i j)) s → wpAny (model X.prog X.w) X.A (f (.int i t) (.int j u)) Q E s) :
    OpR X f (rI0 fun i j => .bl (g i j)) := by
  intro pins s σ H x y v u Q I rx ry h
  obtain ⟨i, j, rfl, rfl, q⟩ := h
  obtain ⟨t, rfl⟩ := rx
  obtain ⟨t', rfl⟩ := ry
  exact rule i j t t' s _ _ ⟨.bl (g i j), H, I, rfl, q⟩

def CDiv (i j : Int) : Prop := 0 < j ∧ j < 1073741824
def CPow (i j : Int) : Prop := 0 ≤ j ∧ j ≤ 1000000 ∧ i.natAbs < 2 ^ 64
def CMul (i j : Int) : Prop := (-(2 ^ 64) < i ∧ i < 2 ^ 64) ∨ (-(2 ^ 64) < j ∧ j < 2 ^ 64)
theorem CMul.ok {i j : Int} (h : CMul i j) : IntMulOk i j := by
  rcases h with ⟨h1, h2⟩ | ⟨h1, h2⟩
  · exact .of_left (intBits_le_64 h1 h2)
  · exact .of_right (intBits_le_64 h1 h2)

theorem op_add : OpR X (binaryOp .Add) (rI0 fun i j => .int (i + j)) := opI0 fun _ _ _ _ _ _ _ q => add_int q
theorem op_sub : OpR X (binaryOp .Sub) (rI0 fun i j => .int (i - j)) := opI0 fun _ _ _ _ _ _ _ q => sub_int q
theorem op_mul : OpR X (binaryOp .Mult) (rI CMul fun i j => .int (i * j)) := opI fun _ _ _ _ _ _ _ hc q => mul_int q hc.ok
/-- // by a positive divisor -/
theorem op_fdiv : OpR X (binaryOp .FloorDiv) (rI CDiv fun i j => .int (i / j)) := opI fun i j _ _ _ _ _ hc q => by
  have h1 : (0 : Int) < j := hc.1
  have h2 : j < 1073741824 := hc.2
  exact floordiv_int (by omega) (by rw [Int.fdiv_eq_ediv_of_nonneg i (by omega)]; exact q) (.inl (PyProof.noPylong_small (by omega)))
/-- % by a positive divisor of any size -/
theorem op_mod : OpR X (binaryOp .Mod) (rI (fun _ j => 0 < j) fun i j => .int (i % j)) := opI fun i j _ _ _ _ _ hc q => by
  have h1 : (0 : Int) < j := hc
  exact mod_int' (by omega) (by rw [Int.fmod_eq_emod_of_nonneg i (by omega)]; exact q)
theorem op_pow : OpR X (binaryOp .Pow) (rI CPow fun i j => .int (i ^ j.toNat)) := opI fun _ _ _ _ _ _ _ hc q => pow_int_small hc.1 hc.2.1 hc.2.2 q


theorem unI {f : Value → Sem Value} {g : Int → Int}
    (rule : ∀ (i : Int) (t : Tok) (s : Shared) (Q : Value → Shared → Prop) (E : Value → Shared → Prop), Q (.int (g i) s.toks) { s with toks := s.toks + 1 } → wpAny (model X.prog X.w) X.A (f (.int i t)) Q E s) :
    UnR X f (rU fun i => .int (g i)) := by
  intro pins s σ H x v Q I rx h
  obtain ⟨i, rfl, q⟩ := h
  obtain ⟨t, rfl⟩ := rx
  exact rule i t s _ _ ⟨.int (g i), H, I.tok _, ⟨_, rfl⟩, q⟩
theorem un_neg : UnR X (unaryOp .USub) (rU fun i => .int (-i)) := unI fun _ _ _ _ _ q => neg_int q

/-! ### bools among ints: n += (a < b) -/
end

/-! ### comparisons -/
/-- the scalars that == tells apart as data does -/
def scal : V → V → Bool
  | .non, .non => true | .non, .int _ => true | .int _, .non => true | .non, .bl _ => true | .bl _, .non => true | .non, .str _ => true | .str _, .non => true
  | .int _, .int _ => true | .bl _, .bl _ => true | .str _, .str _ => true | .byt _, .byt _ => true
  | .int _, .str _ => true | .str _, .int _ => true | .bl _, .str _ => true | .str _, .bl _ => true
  | _, _ => false
def rEq : R2 := fun x y H Q => scal x y = true ∧ Q (.bl (decide (x = y))) H
def rNe : R2 := fun x y H Q => scal x y = true ∧ Q (.bl (!decide (x = y))) H

theorem dec_int {i j : Int} : decide (V.int i = V.int j) = (i == j) := by
  rw [Bool.eq_iff_iff]
  simp
theorem dec_bl {i j : Bool} : decide (V.bl i = V.bl j) = (i == j) := by
  rw [Bool.eq_iff_iff]
  simp
theorem dec_str {i j : Str} : decide (V.str i = V.str j) = (i == j) := by
  rw [Bool.eq_iff_iff]
  simp
theorem dec_byt {i j : Array UInt8} : decide (V.byt i = V.byt j) = (i.toList == j.toList) := by
  rw [Bool.eq_iff_iff]
  cases i
  cases j
  simp

section
variable {X : Cx} {a b c : Expr} {ta tb tc : TE} {pos : Pos}
theorem fin_bl {pins : List (Addr × Obj)} {σ : St} {H : Hp} {s : Shared} {Q : VK} {k k' : Bool} (I : Inv X pins σ H s) (q : Q (.bl k) H) (e : k = k') : EP X pins σ Q (.bool k') s := by
  subst e
  exact ⟨.bl k, H, I, rfl, q⟩
theorem op_eq : OpR X (compareOp .Eq) rEq := by
  intro pins s σ H x y v u Q I rx ry h
  obtain ⟨hs, q⟩ := h
  cases x with
  | non =>
    cases rx
    cases y with
    | non => cases ry; exact PySem.EqNone.eq_none_none (fin_bl I q (by simp))
    | bl j => cases ry; exact PySem.EqNone.eq_none_bool (fin_bl I q (by simp))
    | int j => obtain ⟨t', rfl⟩ := ry; exact PySem.EqNone.eq_none_int (fin_bl I q (by simp))
    | str j => obtain ⟨t', rfl⟩ := ry; exact PySem.EqNone.eq_none_str (fin_bl I q (by simp))
    | _ => exact absurd (show false = true from hs) Bool.false_ne_true
  | bl i =>
    cases rx
    cases y with
    | non => cases ry; exact PySem.EqNone.eq_bool_none (fin_bl I q (by simp))
    | bl j => cases ry; exact eq_bool (fin_bl I q dec_bl)
    | str j => obtain ⟨t', rfl⟩ := ry; exact PySem.EqMixed.eq_bool_str (fin_bl I q (by simp))
    | _ => exact absurd (show false = true from hs) Bool.false_ne_true
  | int i =>
    obtain ⟨t, rfl⟩ := rx
    cases y with
    | non => cases ry; exact PySem.EqNone.eq_int_none (fin_bl I q (by simp))
    | int j => obtain ⟨t', rfl⟩ := ry; exact eq_int (fin_bl I q dec_int)
    | str j => obtain ⟨t', rfl⟩ := ry; exact PySem.EqMixed.eq_int_str (fin_bl I q (by simp))
    | _ => exact absurd (show false = true from hs) Bool.false_ne_true
  | str i =>
    obtain ⟨t, rfl⟩ := rx
    cases y with
    | non => cases ry; exact PySem.EqNone.eq_str_none (fin_bl I q (by simp))
    | bl j => cases ry; exact PySem.EqMixed.eq_str_bool (fin_bl I q (by simp))
    | int j => obtain ⟨t', rfl⟩ := ry; exact PySem.EqMixed.eq_str_int (fin_bl I q (by simp))
    | str j => obtain ⟨t', rfl⟩ := ry; exact eq_str (fin_bl I q dec_str)
    | _ => exact absurd (show false = true from hs) Bool.false_ne_true
  | byt i =>
    obtain ⟨t, rfl⟩ := rx
    cases y with
    | byt j => obtain ⟨t', rfl⟩ := ry; exact PySem.W.eq_bytes (fin_bl I q dec_byt)
    | _ => exact absurd (show false = true from hs) Bool.false_ne_true
  | _ => cases y <;> exact absurd (show false = true from hs) Bool.false_ne_true
theorem op_ne : OpR X (compareOp .NotEq) rNe := by
  intro pins s σ H x y v u Q I rx ry h
  obtain ⟨hs, q⟩ := h
  cases x with
  | non =>
    cases rx
    cases y with
    | non => cases ry; exact PySem.EqNone.ne_none_none (fin_bl I q (by simp))
    | bl j => cases ry; exact PySem.EqNone.ne_none_bool (fin_bl I q (by simp))
    | int j => obtain ⟨t', rfl⟩ := ry; exact PySem.EqNone.ne_none_int (fin_bl I q (by simp))
    | str j => obtain ⟨t', rfl⟩ := ry; exact PySem.EqNone.ne_none_str (fin_bl I q (by simp))
    | _ => exact absurd (show false = true from hs) Bool.false_ne_true
  | bl i =>
    cases rx
    cases y with
    | non => cases ry; exact PySem.EqNone.ne_bool_none (fin_bl I q (by simp))
    | bl j => cases ry; exact ne_bool (fin_bl I q (congrArg not dec_bl))
    | str j => obtain ⟨t', rfl⟩ := ry; exact PySem.EqMixed.ne_bool_str (fin_bl I q (by simp))
    | _ => exact absurd (show false = true from hs) Bool.false_ne_true
  | int i =>
    obtain ⟨t, rfl⟩ := rx
    cases y with
    | non => cases ry; exact PySem.EqNone.ne_int_none (fin_bl I q (by simp))
    | int j => obtain ⟨t', rfl⟩ := ry; exact ne_int (fin_bl I q (congrArg not dec_int))
    | str j => obtain ⟨t', rfl⟩ := ry; exact PySem.EqMixed.ne_int_str (fin_bl I q (by simp))
    | _ => exact absurd (show false = true from hs) Bool.false_ne_true
  | str i =>
    obtain ⟨t, rfl⟩ := rx
    cases y with
    | non => cases ry; exact PySem.EqNone.ne_str_none (fin_bl I q (by simp))
    | bl j => cases ry; exact PySem.EqMixed.ne_str_bool (fin_bl I q (by simp))
    | int j => obtain ⟨t', rfl⟩ := ry; exact PySem.EqMixed.ne_str_int (fin_bl I q (by simp))
    | str j => obtain ⟨t', rfl⟩ := ry; exact ne_str (fin_bl I q (congrArg not dec_str))
    | _ => exact absurd (show false = true from hs) Bool.false_ne_true
  | byt i =>
    obtain ⟨t, rfl⟩ := rx
    cases y with
    | byt j => obtain ⟨t', rfl⟩ := ry; exact PySem.W.ne_bytes (fin_bl I q (congrArg not dec_byt))
    | _ => exact absurd (show false = true from hs) Bool.false_ne_true
  | _ => cases y <;> exact absurd (show false = true from hs) Bool.false_ne_true

theorem op_lt : OpR X (compareOp .Lt) (rI0 fun i j => .bl (decide (i < j))) := opB0 fun _ _ _ _ _ _ _ q => lt_int q
theorem op_le : OpR X (compareOp .LtE) (rI0 fun i j => .bl (decide (i ≤ j))) := opB0 fun _ _ _ _ _ _ _ q => le_int q
theorem op_gt : OpR X (compareOp .Gt) (rI0 fun i j => .bl (decide (j < i))) := opB0 fun _ _ _ _ _ _ _ q => gt_int q
theorem op_ge : OpR X (compareOp .GtE) (rI0 fun i j => .bl (decide (j ≤ i))) := opB0 fun _ _ _ _ _ _ _ q => ge_int q

/-- is None, is not None: the right side a value none -/
theorem op_isN : OpR X (compareOp .Is) (fun x y H Q => y = .non ∧ Q (.bl (decide (x = .non))) H) := by
  intro pins s σ H x y v u Q I rx ry h
  obtain ⟨rfl, q⟩ := h
  cases ry
  refine is_none_gen (fin_bl I q ?_)
  cases x <;> first
    | (cases rx; rfl)
    | (obtain ⟨t, rfl⟩ := rx; rfl)



theorem nomark (b : Expr) {op : CmpOp} (h : op ≠ .In := by decide) (h2 : op ≠ .NotIn := by decide) : behindInMarks op b = false := by
  have e1 : (op == CmpOp.In) = false := by cases op <;> first | rfl | exact absurd rfl h
  have e2 : (op == CmpOp.NotIn) = false := by cases op <;> first | rfl | exact absurd rfl h2
  cases b <;> simp [behindInMarks, e1, e2]
/-- a comparison as a value; hm: nomark b, or (for in, not in) by with_unfolding_all rfl -/
theorem pe_cmpR {op : CmpOp} {r : R2} (ho : OpR X (compareOp op) r) (ha : PE X a ta) (hb : PE X b tb) (hm : behindInMarks op b = false) : PE X (.Compare a [op] [b] pos) (tOp r ta tb) := by
  intro pins s σ H Q I h
  exact wpAny_Compare1 (binT ha hb I h fun v u s2 x y H2 I2 rx ry q => ho pins s2 σ H2 x y v u Q I2 rx ry q) hm
/-- a reading of a value as a test -/
def tTest (t : TE) : TT := fun σ H Q => t σ H fun x H' => ∃ k, x = .bl k ∧ Q k H'
theorem pt_cmpR {op : CmpOp} {r : R2} (ho : OpR X (compareOp op) r) (ha : PE X a ta) (hb : PE X b tb) (hm : behindInMarks op b = false) : PT X (.Compare a [op] [b] pos) (tTest (tOp r ta tb)) := by
  intro pins s σ H Q I h
  refine wpAny_isTrue_Compare1 (thn (ha pins s σ H _ I h) fun v s1 ⟨x, H1, I1, r1, q1⟩ => thn (hb pins s1 σ H1 _ I1 q1) fun u s2 ⟨y, H2, I2, r2, q2⟩ =>
    thn (ho pins s2 σ H2 x y v u _ I2 r1 r2 q2) fun c s3 ⟨z, H3, I3, r3, k, e, q3⟩ => ?_) hm
  subst e
  cases r3
  exact wpAny_truthy_bool ⟨H3, I3, q3⟩
/-- a op1 b op2 c -/
def tChain (r r' : R2) (ta tb tc : TE) : TE := fun σ H Q => ta σ H fun x H1 => tb σ H1 fun y H2 => r x y H2 fun z H3 => ∃ k, z = .bl k ∧
  (if k = true then tc σ H3 fun w' H4 => r' y w' H4 Q else Q (.bl false) H3)
theorem pt_chain {op op' : CmpOp} {r r' : R2} (ho : OpR X (compareOp op) r) (ho' : OpR X (compareOp op') r') (ha : PE X a ta) (hb : PE X b tb) (hc : PE X c tc)
    (hm : lastMarks [op, op'] [b, c] = false := by with_unfolding_all rfl) : PT X (.Compare a [op, op'] [b, c] pos) (tTest (tChain r r' ta tb tc)) := by
  intro pins s σ H Q I h
  refine isTrue_chain (thn (ha pins s σ H _ I h) fun v s1 ⟨x, H1, I1, r1, q1⟩ => test_link (thn (hb pins s1 σ H1 _ I1 q1) fun u s2 ⟨y, H2, I2, r2, q2⟩ =>
    thn (ho pins s2 σ H2 x y v u _ I2 r1 r2 q2) fun d s3 ⟨z, H3, I3, r3, k, e, q3⟩ => ?_)) hm
  subst e
  cases r3
  refine wpAny_truthy_bool ?_
  cases k with
  | false =>
    obtain ⟨k', e', q'⟩ := q3
    cases e'
    exact ite_ff ⟨H3, I3, q'⟩
  | true =>
    refine ite_tt (test_last (thn (hc pins s3 σ H3 _ I3 q3) fun w' s4 ⟨z', H4, I4, r4, q4⟩ => thn (ho' pins s4 σ H4 y z' u w' _ I4 r2 r4 q4) fun d' s5 ⟨z2, H5, I5, r5, k2, e2, q5⟩ => ?_))
    subst e2
    cases r5
    exact wpAny_truthy_bool ⟨H5, I5, q5⟩

/-! ### truth -/
/-- a value's truth by the abstract heap -/
def TruV (K : PySem.W.Frag) (x : V) (H : Hp) (k : Bool) : Prop :=
  match x with
  | .non => k = false
  | .bl b => k = b
  | .int i => k = (i != 0)
  | .str y => y.length ≤ sizeLine ∧ k = ((y.length : Int) != 0)
  | .byt y => y.size ≤ sizeLine ∧ k = ((y.size : Int) != 0)
  | .ref p => (∃ xs, SqL K H p xs ∧ k = !xs.isEmpty) ∨ (∃ xs, SqT K H p xs ∧ k = !xs.isEmpty) ∨ ∃ kvs, H p = some (.dK kvs) ∧ k = !kvs.isEmpty
  | _ => False
theorem isEmpty_kv {κ : Type} {kvs : List (κ × V)} {vs : List (κ × Value)} (r : KV kvs vs) : (!vs.isEmpty) = !kvs.isEmpty := by
  cases r <;> rfl
theorem isEmpty_of {xs : List V} {its : List Value} (r : Vals xs its) : (!its.toArray.isEmpty) = !xs.isEmpty := by
  cases r <;> simp
theorem line63 : (sizeLine : Nat) < 2 ^ 63 := by rw [sizeLine_eq]; decide
theorem tru_ok : TruR X (fun x H Q => ∃ k, TruV X.K x H k ∧ Q k H) := by
  intro pins s σ H x v Q I rx h
  obtain ⟨k, e, q⟩ := h
  have hl := line63
  have hs : sizeLine = 16777216 := sizeLine_eq
  cases x with
  | non =>
    cases rx
    have e' : k = false := e
    subst e'
    exact truthy_none ⟨H, I, q⟩
  | bl b =>
    cases rx
    have e' : k = b := e
    subst e'
    exact wpAny_truthy_bool ⟨H, I, q⟩
  | int i =>
    obtain ⟨t, rfl⟩ := rx
    have e' : k = (i != 0) := e
    subst e'
    exact PySem.P.truthy_int ⟨H, I, q⟩
  | str y =>
    obtain ⟨t, rfl⟩ := rx
    obtain ⟨hy, e'⟩ : y.length ≤ sizeLine ∧ k = ((y.length : Int) != 0) := e
    subst e'
    exact PySem.P.truthy_str (by omega) ⟨H, I.tok _, q⟩
  | byt y =>
    obtain ⟨t, rfl⟩ := rx
    obtain ⟨hy, e'⟩ : y.size ≤ sizeLine ∧ k = ((y.size : Int) != 0) := e
    subst e'
    exact PySem.W.truthy_bytes (by omega) ⟨H, I.tok _, q⟩
  | ref p =>
    cases rx
    have e' : (∃ xs, SqL X.K H p xs ∧ k = !xs.isEmpty) ∨ (∃ xs, SqT X.K H p xs ∧ k = !xs.isEmpty) ∨ ∃ kvs, H p = some (.dK kvs) ∧ k = !kvs.isEmpty := e
    rcases e' with ⟨xs, hx, e'⟩ | ⟨xs, hx, e'⟩ | ⟨kvs, hx, e'⟩
    · subst e'
      obtain ⟨its, r, pl, hz⟩ := I.list hx
      have hlen := r.length
      exact wpAny_truthy_list pl.isList (by simp only [List.size_toArray]; omega) ⟨H, I.tok _, by rw [isEmpty_of r]; exact q⟩
    · subst e'
      obtain ⟨its, r, pl, hz⟩ := I.tuple hx
      have hlen := r.length
      exact truthy_tuple pl (by simp only [List.size_toArray]; omega) ⟨H, I.tok _, by rw [isEmpty_of r]; exact q⟩
    · subst e'
      obtain ⟨hz, hS, vs, r, m⟩ : kvs.length ≤ sizeLine ∧ (p == sysModules) = false ∧ ∃ vs, KV kvs vs ∧ s.heap.DictOf (mixKind X.prog X.w) p vs := I.hok p _ hx
      have hlen : kvs.length = vs.length := Paired.length r
      exact wpAny_truthy_dict hS m (by omega) ⟨H, I.tok _, by rw [isEmpty_kv r]; exact q⟩
  | _ => exact (show False from e).elim
/-- any expression whose test is its value's truth (a name, a call, a subscript, a field ..: he by fun _ => rfl) -/
theorem pt_truth (ha : PE X a ta) (he : ∀ whole, isTrue a X.env whole = (do let v ← whole; standAt a.pos; holding [v] (truthy v))) :
    PT X a (fun σ H Q => ta σ H fun x H' => ∃ k, TruV X.K x H' k ∧ Q k H') := by
  intro pins s σ H Q I h
  exact isTrue_plain (thn (ha pins s σ H _ I h) fun v s1 ⟨x, H1, I1, r1, q1⟩ => tru_ok pins s1 σ H1 x v Q I1 r1 q1) (he _)

/-! ### strs and bytes -/


/-! ### scalar builtins, by CallR -/
theorem vals1 {x : V} {us : List Value} (r : Vals [x] us) : ∃ u, us = [u] ∧ RelV x u := by
  cases r with
  | cons r1 r2 => cases r2; exact ⟨_, rfl, r1⟩
theorem vals2 {x y : V} {us : List Value} (r : Vals [x, y] us) : ∃ u w', us = [u, w'] ∧ RelV x u ∧ RelV y w' := by
  cases r with
  | cons r1 r2 =>
    cases r2 with
    | cons r3 r4 => cases r4; exact ⟨_, _, rfl, r1, r3⟩
theorem call_abs : CallR X (.builtin "abs") (fun xs H Q => ∃ i, xs = [.int i] ∧ Q (.int (if i < 0 then -i else i)) H) := by
  intro pins s σ H xs us Q I r h
  obtain ⟨i, rfl, q⟩ := h
  obtain ⟨u, rfl, t, rfl⟩ := vals1 r
  exact call_abs_int fun u tk => ⟨.int (if i < 0 then -i else i), H, I.tok _, ⟨_, rfl⟩, q⟩
theorem call_int1 : CallR X (.type "int") (fun xs H Q => (∃ i, xs = [.int i] ∧ Q (.int i) H) ∨ ∃ k, xs = [.bl k] ∧ Q (.int (if k then 1 else 0)) H) := by
  intro pins s σ H xs us Q I r h
  rcases h with ⟨i, rfl, q⟩ | ⟨k, rfl, q⟩
  · obtain ⟨u, rfl, t, rfl⟩ := vals1 r
    exact call_int_int ⟨.int i, H, I, ⟨_, rfl⟩, q⟩
  · obtain ⟨u, rfl, r1⟩ := vals1 r
    cases r1
    exact call_int_bool ⟨.int (if k then 1 else 0), H, I.tok _, ⟨_, rfl⟩, q⟩
end
end L2

namespace L2
open PySem PySem.Spec PyProof.Rows

/-! ### an instance, its attributes a map -/
structure ObjM (h : Heap) (x dx C : Addr) (mA : Str → Option Value) : Prop where
  obj : h.get? x = some (PySem.W.instObj C dx)
  ns : h.Ns1 dx mA
  ne : dx ≠ x

theorem lookIn_ns {h : Heap} {dx : Addr} {mA : Str → Option Value} (n : h.Ns1 dx mA) : ∃ od, h.get? dx = some od ∧ ∀ name, PySem.W.lookIn name od = some (mA name) := by
  obtain ⟨o, es, ep, ho, hd, hk, _, hm⟩ := n
  refine ⟨o, ho, fun name => ?_⟩
  have e := hm name
  unfold nsFind findBy at e
  rw [← Array.find?_toList] at e
  unfold PySem.W.lookIn
  rw [hd]
  dsimp only
  split
  · rename_i y q
    rw [q] at e
    exact congrArg some e
  · rename_i q
    rw [q] at e
    have a : es.toList.any (·.refKey) = false := by
      rw [List.any_eq_false]
      intro y hy
      obtain ⟨z, t, hkey⟩ := hk y (Array.mem_toList_iff.mp hy)
      simp [DictEntry.refKey, hkey]
    have a' : ¬ es.toList.any (·.refKey) = true := by rw [a]; exact Bool.false_ne_true
    rw [if_neg a']
    exact congrArg some e

theorem ObjM.look {h : Heap} {x dx C : Addr} {mA : Str → Option Value} (I : ObjM h x dx C mA) : ∃ od, PySem.W.InstAt h x (PySem.W.instObj C dx) C (some od) ∧ ∀ name, PySem.W.lookIn name od = some (mA name) :=
  let ⟨od, ho, hl⟩ := lookIn_ns I.ns
  ⟨od, ⟨I.obj, rfl, rfl, ho⟩, hl⟩

section
variable {prog : Program} {w : World} {A : Around} {E : Value → Shared → Prop} {s : Shared} {K : PySem.W.Frag} {x dx C f : Addr} {mA : Str → Option Value} {name : Str} {v : Value}

theorem get_map {expr : Bool} {Q : Value → Shared → Prop} (X : K.In s.heap) (I : ObjM s.heap x dx C mA) (hg : PySem.W.plainGet K C name = true) (hh : PySem.W.hasDictIn K C = true)
    (ha : PySem.W.findIn K (.ref C) name = some none) (hv : mA name = some v) (hv' : PySem.W.handedIn v = true) (h : Q v { s with toks := s.toks + 1 }) :
    wpAny (model prog w) A (getAttr (.ref x) name expr) Q E s := by
  obtain ⟨od, J, hl⟩ := I.look
  exact PySem.W.get_value X J (PySem.W.plainGet_of hg).1 (PySem.W.findObj_own hh ha rfl (by rw [hl, hv])) hv' h


theorem get_meth {pl : Sem Bool} {Q : Value × List Value → Shared → Prop} (X : K.In s.heap) (I : ObjM s.heap x dx C mA) (hg : PySem.W.plainGet K C name = true)
    (hf : PySem.W.findIn K (.ref C) name = some (some (.ref f))) (ht : PySem.W.isFn K (.ref f) = true) (hv : mA name = none) (h : Q (.ref f, [.ref x]) s) :
    wpAny (model prog w) A (getMethod (.ref x) name pl) Q E s := by
  obtain ⟨od, J, hl⟩ := I.look
  exact PySem.W.method_fn X J (PySem.W.plainGet_of hg).1 (PySem.W.plainGet_of hg).2 hf (beq_iff_eq.mp ht) (by show (PySem.W.lookIn name od).map (·.isSome) = some false; rw [hl, hv]; rfl) h

theorem set_map {ns : List Str} {Q : Unit → Shared → Prop} (X : K.In s.heap) (I : ObjM s.heap x dx C mA)
    (hs : PySem.W.findIn K (.ref C) "__setattr__" = some (some (.builtin "object.__setattr__"))) (hp : PySem.W.plainOver K C = true) (ht : PySem.W.takerIn K C name = some none) (hh : PySem.W.hasDictIn K C = true)
    (hw : PySem.Within mA ns) (hsz : ns.length ≤ sizeLine)
    (h : ∀ h', ObjM h' x dx C (fun y => if y = name then some v else mA y) → Heap.SameBut dx s.heap h' → Q () { s with heap := h', toks := s.toks + 2 }) :
    wpAny (model prog w) A (setAttr (.ref x) name v) Q E s := by
  obtain ⟨od, J, hl⟩ := I.look
  refine PySem.W.set_plain X J hs (PySem.W.osa_open (s := { s with toks := s.toks + 1 }) (r := none) X J hp ht fun b => ?_)
  obtain ⟨cd, hc, hd'⟩ := PySem.W.any_some hh
  have hx : s.heap.get? x = some ⟨.ref C, some dx, .plain, #[]⟩ := I.obj
  refine wpAny_bind (wpAny_pure (wpAny_bind (wpAny_bind (wpAny_loadPart hx (wpAny_bind (PySem.W.Looks.here (s := { s with toks := s.toks + 1 }) (PySem.W.looks_clsIn X hc) ?_))))))
  rw [hd']
  refine wpAny_pure (a := some dx) (wpAny_bind (wpAny_pure (wpAny_bind ?_)))
  refine wpAny_nsSet1 (s := { s with toks := s.toks + 1 }) I.ns fun h' hn2 hs2 => ?_
  obtain ⟨oD, esD, epD, hoD, hdD, hcD⟩ := hn2.count (PySem.Within.cons name v hw)
  refine wpAny_bind (wpAny_lookBehind hoD (by rw [hdD]; exact pastItsLine_dict (Nat.le_trans hcD (by rw [List.length_cons]; omega))) ?_)
  exact wpAny_pure (h _ ⟨(hs2.2 _ (Ne.symm I.ne)).trans I.obj, hn2, I.ne⟩ hs2)

/-- C(..): the dict at the heap's end, the instance behind it; then its __init__ -/
theorem make_map {R : Result → Shared → Prop} {vs : List Value} {kw : List (Str × Value)} (X : K.In s.heap) (hm : PySem.W.makesIn K C = true)
    (hi : PySem.W.findIn K (.ref C) "__init__" = some (some (.ref f))) (hf : PySem.W.typeIn K (.ref f) = some (.type "function"))
    (h : codeAny (model prog w) (A.under (.builtin "type.__call__" ⟨.ref C :: vs, kw⟩)) (.call (.ref f) ⟨.ref (s.heap.objs.size + 1) :: vs, kw⟩) (PySem.W.InitBack (s.heap.objs.size + 1) R)
      { s with heap := (s.heap.push PySem.W.emptyDict).push (PySem.W.instObj C s.heap.objs.size) }) :
    codeAny (model prog w) A (.call (.ref C) ⟨vs, kw⟩) R s := by
  obtain ⟨hh, g, d, t, os⟩ := s
  exact PySem.W.make_core (PySem.W.makes_of X hm) (PySem.W.looks_findIn X hi) (fun self => PySem.W.bind_fn X self hf) (.inl rfl) h
end

/-! ### the attributes as a list of pairs -/
def putF (f : Str) (v : V) : List (Str × V) → List (Str × V)
  | [] => [(f, v)]
  | (g, x) :: r => if g = f then (g, v) :: r else (g, x) :: putF f v r
theorem lookup_putF (f g : Str) (v : V) : ∀ fs : List (Str × V), (putF f v fs).lookup g = if g = f then some v else fs.lookup g
  | [] => by
    show List.lookup g [(f, v)] = _
    by_cases h : g = f
    · have hb : (g == f) = true := beq_iff_eq.mpr h
      simp only [List.lookup, hb, if_pos h]
    · have hb : (g == f) = false := beq_eq_false_iff_ne.mpr h
      simp only [List.lookup, hb, if_neg h]
  | (k, x) :: r => by
    have ih := lookup_putF f g v r
    rw [show putF f v ((k, x) :: r) = (if k = f then (k, v) :: r else (k, x) :: putF f v r) from rfl]
    by_cases hk : k = f
    · rw [if_pos hk]
      by_cases h : g = k
      · have hb : (g == k) = true := beq_iff_eq.mpr h
        simp only [List.lookup, hb, if_pos (h.trans hk)]
      · have hb : (g == k) = false := beq_eq_false_iff_ne.mpr h
        simp only [List.lookup, hb, if_neg (fun e : g = f => h (e.trans hk.symm))]
    · rw [if_neg hk]
      by_cases h : g = k
      · have hb : (g == k) = true := beq_iff_eq.mpr h
        simp only [List.lookup, hb, if_neg (fun e : g = f => hk (h.symm.trans e))]
      · have hb : (g == k) = false := beq_eq_false_iff_ne.mpr h
        simp only [List.lookup, hb]
        exact ih
theorem keys_putF (f : Str) (v : V) : ∀ fs : List (Str × V), f ∈ (putF f v fs).map (·.1) ∧ ∀ g, g ∈ fs.map (·.1) → g ∈ (putF f v fs).map (·.1)
  | [] => ⟨by simp [putF], fun g h => by simp at h⟩
  | (k, x) :: r => by
    obtain ⟨i1, i2⟩ := keys_putF f v r
    rw [show putF f v ((k, x) :: r) = (if k = f then (k, v) :: r else (k, x) :: putF f v r) from rfl]
    by_cases hk : k = f
    · rw [if_pos hk]
      subst hk
      exact ⟨by simp, fun g h => by simpa using h⟩
    · rw [if_neg hk]
      refine ⟨?_, fun g h => ?_⟩
      · rw [List.map_cons]
        exact List.mem_cons_of_mem _ i1
      · rw [List.map_cons] at h ⊢
        rcases List.mem_cons.mp h with e | e
        · exact List.mem_cons.mpr (.inl e)
        · exact List.mem_cons_of_mem _ (i2 g e)
theorem length_putF (f : Str) (v : V) : ∀ fs : List (Str × V), (putF f v fs).length ≤ fs.length + 1
  | [] => by simp [putF]
  | (k, x) :: r => by
    have ih := length_putF f v r
    rw [show putF f v ((k, x) :: r) = (if k = f then (k, v) :: r else (k, x) :: putF f v r) from rfl]
    by_cases hk : k = f
    · rw [if_pos hk, List.length_cons, List.length_cons]; omega
    · rw [if_neg hk, List.length_cons, List.length_cons]; omega

theorem RelO.some_of {v : V} {o : Option Value} (r : RelO (some v) o) : ∃ u, o = some u ∧ RelV v u := by
  cases o with
  | none => exact (show False from r).elim
  | some u => exact ⟨u, rfl, r⟩
theorem RelO.none_of {o : Option Value} (r : RelO none o) : o = none := by
  cases o with
  | none => rfl
  | some u => exact (show False from r).elim
theorem handed_of {v : V} {u : Value} (r : RelV v u) : PySem.W.handedIn u = true := by
  cases v with
  | non => cases (show u = Value.none from r); rfl
  | bl b => cases (show u = Value.bool b from r); rfl
  | int i => obtain ⟨t, e⟩ := (show ∃ t, u = Value.int i t from r); cases e; rfl
  | str x => obtain ⟨t, e⟩ := (show ∃ t, u = Value.str x t from r); cases e; rfl
  | byt b => obtain ⟨t, e⟩ := (show ∃ t, u = Value.bytes b t from r); cases e; rfl
  | flt b => obtain ⟨t, e⟩ := (show ∃ t, u = Value.float b t from r); cases e; rfl
  | ref a => cases (show u = Value.ref a from r); rfl
  | ty n => cases (show u = Value.type n from r); rfl

section
variable {P : Program} {w : World} {H H' : Hp} {h h' : Heap} {a C dx : Addr} {fs fs' : List (Str × V)}
theorem ins_get (hok : HOk P w H h) (e : H a = some (.ins C dx fs)) : ∃ mA, ObjM h a dx C mA ∧ (∀ f, RelO (fs.lookup f) (mA f)) ∧ PySem.Within mA (fs.map (·.1)) ∧ fs.length ≤ 1000 ∧ H dx = some (.own a) := by
  obtain ⟨d, z, ne, ob, mA, n, r, q⟩ := (show ObjOk P w H h a (.ins C dx fs) from hok a _ e)
  exact ⟨mA, ⟨ob, n, ne⟩, r, q, z, d⟩
end

/-! ### what of the text a class must have -/
structure Cls (K : PySem.W.Frag) (C : Addr) : Prop where
  pg : PySem.W.plainGet K C Str.empty = true
  hd : PySem.W.hasDictIn K C = true
  po : PySem.W.plainOver K C = true
  sa : PySem.W.findIn K (.ref C) "__setattr__" = some (some (.builtin "object.__setattr__"))
theorem Cls.get {K : PySem.W.Frag} {C : Addr} (c : Cls K C) (f : Str) : PySem.W.plainGet K C f = true := c.pg
/-- no class of it has the name -/
def NoAttr (K : PySem.W.Frag) (C : Addr) (f : Str) : Prop := PySem.W.findIn K (.ref C) f = some none
theorem NoAttr.taker {K : PySem.W.Frag} {C : Addr} {f : Str} (n : NoAttr K C f) : PySem.W.takerIn K C f = some none := by
  unfold PySem.W.takerIn
  rw [show PySem.W.findIn K (.ref C) f = some none from n]
  rfl
/-- a constant of the class -/
structure Con (K : PySem.W.Frag) (C : Addr) (f : Str) (v : V) (u : Value) : Prop where
  at_ : PySem.W.findIn K (.ref C) f = some (some u)
  rel : RelV v u
  get : PySem.W.specialIn K u "__get__" = some none
  cp : PySem.W.copiedNames.contains f = false
/-- a method: a plain def of the class or of one above it -/
structure Meth (K : PySem.W.Frag) (C : Addr) (m : Str) (f : Addr) : Prop where
  at_ : PySem.W.findIn K (.ref C) m = some (some (.ref f))
  fn : PySem.W.isFn K (.ref f) = true
  kp : PySem.W.keepIn K (.ref f) = true

section
variable {X : Cx} {pins : List (Addr × Obj)} {σ : St} {H : Hp} {s : Shared} {a C dx : Addr} {fs : List (Str × V)} {f : Str} {v : V} {A : Around} {E : Value → Shared → Prop}

theorem getattr_ok {b : Bool} {Q : Value → Shared → Prop} (I : Inv X pins σ H s) (e : H a = some (.ins C dx fs)) (c : Cls X.K C) (n : NoAttr X.K C f) (l : fs.lookup f = some v)
    (h : ∀ u s', Inv X pins σ H s' → RelV v u → Q u s') : wpAny (model X.prog X.w) A (getAttr (.ref a) f b) Q E s := by
  obtain ⟨mA, O, r, _, _, _⟩ := ins_get I.hok e
  obtain ⟨u, hu, ru⟩ := RelO.some_of (v := v) (o := mA f) (by rw [← l]; exact r f)
  exact get_map I.kIn O (c.get f) c.hd n hu (handed_of ru) (h u _ (I.tok _) ru)


theorem getmeth_ok {m : Str} {g : Addr} {pl : Sem Bool} {Q : Value × List Value → Shared → Prop} (I : Inv X pins σ H s) (e : H a = some (.ins C dx fs)) (c : Cls X.K C) (k : Meth X.K C m g) (l : fs.lookup m = none)
    (h : Q (.ref g, [.ref a]) s) : wpAny (model X.prog X.w) A (getMethod (.ref a) m pl) Q E s := by
  obtain ⟨mA, O, r, _, _, _⟩ := ins_get I.hok e
  have hn : mA m = none := RelO.none_of (by rw [← l]; exact r m)
  exact get_meth I.kIn O (c.get m) k.at_ k.fn hn h

theorem setattr_ok {y : V} {u : Value} {Q : Unit → Shared → Prop} (I : Inv X pins σ H s) (e : H a = some (.ins C dx fs)) (c : Cls X.K C) (n : NoAttr X.K C f) (hl : fs.length < 1000) (ry : RelV y u)
    (h : ∀ s', Inv X pins σ (upd H a (.ins C dx (putF f y fs))) s' → Q () s') : wpAny (model X.prog X.w) A (setAttr (.ref a) f u) Q E s := by
  obtain ⟨mA, O, r, wi, _, ho⟩ := ins_get I.hok e
  have hz : (fs.map (·.1)).length ≤ sizeLine := by rw [List.length_map, sizeLine_eq]; omega
  refine set_map I.kIn O c.sa c.po n.taker c.hd wi hz fun h' O' sb => h _ ?_
  have hd : ∃ o, h'.get? dx = some o := let ⟨o, _, _, e', _⟩ := O'.ns; ⟨o, e'⟩
  refine I.write (x := a) (e := dx) (by rw [e]; exact True.intro) (.inr ho) (fun b q hb z => (sb.2 b hb).trans z) hd ?_
  refine ⟨by rw [upd_ne O.ne]; exact ho, ?_, O.ne, O'.obj, _, O'.ns, fun g => ?_, fun g hg => ?_⟩
  · have := length_putF f y fs; omega
  · show RelO ((putF f y fs).lookup g) (if g = f then some u else mA g)
    rw [lookup_putF]
    by_cases q : g = f
    · rw [if_pos q, if_pos q]; exact ry
    · rw [if_neg q, if_neg q]; exact r g
  · by_cases q : g = f
    · rw [q]; exact (keys_putF f y fs).1
    · refine (keys_putF f y fs).2 g (wi g fun z => hg ?_)
      show (if g = f then some u else mA g) = none
      rw [if_neg q]; exact z

/-- a new instance, tracked, without attributes -/
theorem Inv.made (I : Inv X pins σ H s) : Inv X pins σ (upd (upd H s.heap.objs.size (.own (s.heap.objs.size + 1))) (s.heap.objs.size + 1) (.ins C s.heap.objs.size []))
    { s with heap := (s.heap.push PySem.W.emptyDict).push (PySem.W.instObj C s.heap.objs.size) } := by
  have e1 : (s.heap.push PySem.W.emptyDict).get? s.heap.objs.size = some PySem.W.emptyDict := Heap.get?_push_size s.heap rfl
  have e2 : ((s.heap.push PySem.W.emptyDict).push (PySem.W.instObj C s.heap.objs.size)).get? (s.heap.objs.size + 1) = some (PySem.W.instObj C s.heap.objs.size) := by
    have := Heap.get?_push_size (s.heap.push PySem.W.emptyDict) (o := PySem.W.instObj C s.heap.objs.size) rfl
    rwa [Heap.size_push] at this
  have e3 : (s.heap.push PySem.W.emptyDict).Ns s.heap.objs.size (fun _ => none) := ⟨PySem.W.emptyDict, #[], _, e1, rfl, (fun e he => absurd he (by simp)), fun _ => rfl⟩
  have I1 := I.laid (a := s.heap.objs.size) (o := .own (s.heap.objs.size + 1)) (h' := s.heap.push PySem.W.emptyDict) (t' := s.toks) (fun b u q => Heap.get?_push_of_some _ q) (Nat.le_refl _) ⟨_, e1⟩
  refine I1.laid (a := s.heap.objs.size + 1) (o := .ins C s.heap.objs.size []) (t' := s.toks) (fun b u q => Heap.get?_push_of_some _ q) (Nat.le_of_eq (Heap.size_push _ _)) ?_
  have ne : s.heap.objs.size ≠ s.heap.objs.size + 1 := Nat.ne_of_lt (Nat.lt_succ_self _)
  refine ⟨by rw [upd_ne ne, upd_same], Nat.zero_le _, ne, e2, fun _ => none, (Heap.Ns1.of_empty e3).at fun o q => Heap.get?_push_of_some _ q, fun _ => True.intro, fun y hy => absurd rfl hy⟩

/-- e.f where nothing but the object is asked: through attributeBase (super) and the last hold -/
theorem attr_of {prog : Program} {w : World} {env : Env} {e : Expr} {f : Str} {pos : Pos} {s : Shared} {Q : Value → Shared → Prop} (hb : attributeBase e f env (eval e env) = eval e env)
    (h : wpAny (model prog w) A (eval e env) (fun o s₁ => wpAny (model prog w) A (getAttr o f true) Q E s₁) E s) : wpAny (model prog w) A (eval (.Attribute e f pos) env) Q E s :=
  Attribute_any_ h (by rw [arm_eval_Attribute, hb])
end

/-! ### readings and rules -/
/-- e.f, an attribute of the instance -/
def tFld (K : PySem.W.Frag) (ta : TE) (f : Str) : TE := fun σ H Q => ta σ H fun x H1 => ∃ a C dx fs v, x = .ref a ∧ H1 a = some (.ins C dx fs) ∧ Cls K C ∧ NoAttr K C f ∧ fs.lookup f = some v ∧ Q v H1
/-- e.f = value -/
def sFld (K : PySem.W.Frag) (ta tv : TE) (f : Str) : TS := fun D σ H => tv σ H fun y H1 => ta σ H1 fun x H2 => ∃ a C dx fs, x = .ref a ∧ H2 a = some (.ins C dx fs) ∧ Cls K C ∧ NoAttr K C f ∧ fs.length < 1000 ∧
  D.nx σ (upd H2 a (.ins C dx (putF f y fs)))

section
variable {X : Cx} {o e value : Expr} {f : Str} {pos pos' tpos : Pos} {ta tv : TE}
theorem pe_fld (he : PE X e ta) (hb : attributeBase e f X.env (eval e X.env) = eval e X.env) : PE X (.Attribute e f pos) (tFld X.K ta f) := by
  intro pins s σ H Q I h
  refine attr_of hb (thn (he pins s σ H _ I h) fun u s1 ⟨x, H1, I1, rx, a, C, dx, fs, v, ex, ea, c, n, l, q⟩ => ?_)
  subst ex
  obtain rfl : u = Value.ref a := rx
  exact getattr_ok I1 ea c n l fun u' s2 I2 ru => ⟨v, H1, I2, ru, q⟩
theorem ps_fld (ha : PE X o ta) (hv : PE X value tv) (hs : swapsWith value (some (.Attribute o f pos')) pos.line X.env = pure false) : PS X (.Assign [.Attribute o f pos'] value pos) (sFld X.K ta tv f) := by
  intro pins s σ H D I h
  refine plainObj_wpAny_Assign_Attribute (thn (hv pins s σ H _ I h) fun u s1 ⟨y, H1, I1, ry, q⟩ => thn (ha pins s1 σ H1 _ I1 q) fun ov s2 ⟨x, H2, I2, rx, a, C, dx, fs, ex, ea, c, n, l, q2⟩ => ?_) hs
  subst ex
  obtain rfl : ov = Value.ref a := rx
  exact setattr_ok I2 ea c n l ry fun s3 I3 => ⟨σ, _, I3, q2⟩

/-- what is between an instance and its method: the tree of a method call -/
theorem methcall_of {pl : Sem Bool} {m : Str} {apos : Pos} {args : List Expr} {pins : List (Addr × Obj)} {s : Shared} {σ : St} {H : Hp} {Q : Value → Shared → Prop} {te : TE} (he : PE X e te) (I : Inv X pins σ H s)
    (h : te σ H fun x H1 => ∃ a C dx fs g, x = .ref a ∧ H1 a = some (.ins C dx fs) ∧ Cls X.K C ∧ Meth X.K C m g ∧ fs.lookup m = none ∧
      ∀ s1, Inv X pins σ H1 s1 → wpAny (model X.prog X.w) X.A (callWith pos (.ref g) [.ref a] (backTo pos (starEach args X.env)) (backToKw pos (keywordEach [] X.env))) Q X.xe s1)
    (ht : eval (.Call (.Attribute e m apos) args [] pos) X.env = (do
      let ov ← eval e X.env
      standAt apos.atName
      let (f, first) ← holding [ov] (getMethod ov m pl)
      callWith pos f first (backTo pos (starEach args X.env)) (backToKw pos (keywordEach [] X.env)))) :
    wpAny (model X.prog X.w) X.A (eval (.Call (.Attribute e m apos) args [] pos) X.env) Q X.xe s := by
  refine PySem.W.methodCall_KW (pl := pl) (thn (he pins s σ H _ I h) fun u s1 ⟨x, H1, I1, rx, a, C, dx, fs, g, ex, ea, c, k, l, q⟩ => ?_) ht
  subst ex
  obtain rfl : u = Value.ref a := rx
  exact getmeth_ok I1 ea c k l (q s1 I1)
end

/-! ### isinstance -/
section
variable {X : Cx} {pins : List (Addr × Obj)} {σ : St} {H : Hp} {s : Shared} {A : Around} {E : Value → Shared → Prop} {Q : Value → Shared → Prop} {c : Value} {b : Bool}
/-- the type of a value, as the fragment's deciders take it; for an instance its class -/
inductive TyOf (K : PySem.W.Frag) (H : Hp) : V → Value → Prop where
  | non : TyOf K H .non (.type "NoneType")
  | bl (x : Bool) : TyOf K H (.bl x) (.type "bool")
  | int (i : Int) : TyOf K H (.int i) (.type "int")
  | str (x : Str) : TyOf K H (.str x) (.type "str")
  | flt (x : UInt64) : TyOf K H (.flt x) (.type "float")
  | lst {a : Addr} {xs : List V} (e : H a = some (.lst xs)) : TyOf K H (.ref a) (.type "list")
  | frz {a : Addr} {o : Obj} {xs : List V} (e : H a = some (.frz o (.lst xs))) : TyOf K H (.ref a) (.type "list")
  | tup {a : Addr} {xs : List V} (e : H a = some (.tup xs)) : TyOf K H (.ref a) (.type "tuple")
  | dK {a : Addr} {kvs : List (Key × V)} (e : H a = some (.dK kvs)) : TyOf K H (.ref a) (.type "dict")
  | dT {a : Addr} {kvs : List (List Key × V)} (e : H a = some (.dT kvs)) : TyOf K H (.ref a) (.type "dict")
  | ins {a C dx : Addr} {fs : List (Str × V)} (e : H a = some (.ins C dx fs)) (cl : Cls K C) (ha : PySem.W.findIn K (.ref C) "__class__" = some (some (.builtin "object.__class__")))
      (hn : PySem.W.specialIn K (.builtin "object.__class__") "__get__" = some (some (.builtin "getset_descriptor.__get__"))) (htk : PySem.W.takesIn K (.builtin "object.__class__") = some true)
      (hm : PySem.W.mroIn K C (.type "object") = some true) : TyOf K H (.ref a) (.ref C)
/-- isinstance(x, c) for one class c, a built-in or an own one: kitOne's answer -/
theorem isinst_ok {x : V} {u t : Value} (I : Inv X pins σ H s) (rx : RelV x u) (ty : TyOf X.K H x t) (e : PySem.W.kitOne X.K t c = some b) (h : ∀ tk, Q (.bool b) { s with toks := tk }) :
    wpAny (model X.prog X.w) A (call (.builtin "isinstance") [u, c]) Q E s := by
  cases ty with
  | non => cases (show u = Value.none from rx); exact PySem.W.kia_one PySem.W.kitx_none I.kIn True.intro e (fun z => nomatch z) h
  | bl y => cases (show u = Value.bool y from rx); exact PySem.W.kia_one PySem.W.kitx_bool I.kIn True.intro e (fun z => nomatch z) h
  | int i => obtain ⟨t, q⟩ := (show ∃ t, u = Value.int i t from rx); cases q; exact PySem.W.kia_one PySem.W.kitx_int I.kIn True.intro e (fun z => nomatch z) h
  | str y => obtain ⟨t, q⟩ := (show ∃ t, u = Value.str y t from rx); cases q; exact PySem.W.kia_one PySem.W.kitx_str I.kIn True.intro e (fun z => nomatch z) h
  | flt y => obtain ⟨t, q⟩ := (show ∃ t, u = Value.float y t from rx); cases q; exact PySem.W.kia_one PySem.W.kitx_float I.kIn True.intro e (fun z => nomatch z) h
  | @lst a xs ea =>
    cases (show u = Value.ref a from rx)
    obtain ⟨_, _, n, _, h1⟩ := (show ObjOk X.prog X.w H s.heap a (.lst xs) from I.hok a _ ea)
    exact PySem.W.kia_one PySem.W.kitx_list I.kIn ⟨_, h1, rfl⟩ e (fun z => nomatch z) h
  | @frz a ob xs ea =>
    cases (show u = Value.ref a from rx)
    obtain ⟨_, _, _, n, _, h1⟩ := (show ObjOk X.prog X.w H s.heap a (.frz ob (.lst xs)) from I.hok a _ ea)
    exact PySem.W.kia_one PySem.W.kitx_list I.kIn ⟨_, h1, rfl⟩ e (fun z => nomatch z) h
  | @tup a xs ea =>
    cases (show u = Value.ref a from rx)
    obtain ⟨_, _, _, p⟩ := (show ObjOk X.prog X.w H s.heap a (.tup xs) from I.hok a _ ea)
    obtain ⟨o, h1, h2, _⟩ := p
    exact PySem.W.kia_one PySem.W.kitx_tuple I.kIn ⟨o, h1, h2⟩ e (fun z => nomatch z) h
  | @dK a kvs ea =>
    cases (show u = Value.ref a from rx)
    obtain ⟨_, _, vs, _, p⟩ := (show ObjOk X.prog X.w H s.heap a (.dK kvs) from I.hok a _ ea)
    obtain ⟨o, es, ep, h1, h2, _⟩ := p
    exact PySem.W.kia_one PySem.W.kitx_dict I.kIn ⟨o, h1, h2.1⟩ e (fun z => nomatch z) h
  | @dT a kvs ea =>
    cases (show u = Value.ref a from rx)
    obtain ⟨_, _, xs, _, o, es, ep, h1, h2, _⟩ := (show ObjOk X.prog X.w H s.heap a (.dT kvs) from I.hok a _ ea)
    exact PySem.W.kia_one PySem.W.kitx_dict I.kIn ⟨o, h1, h2.1⟩ e (fun z => nomatch z) h
  | @ins a C dx fs ea cl ha hn htk hm =>
    cases (show u = Value.ref a from rx)
    obtain ⟨mA, O, _⟩ := ins_get I.hok ea
    obtain ⟨od, J, _⟩ := O.look
    exact PySem.W.kia_one (PySem.W.kitx_own (cl.get _) cl.hd ha hn htk hm) I.kIn J e (fun z => nomatch z) h
end
end L2

namespace L2
open PySem PySem.Spec PyProof.Rows

/-! ### room -/
structure Room (k : Nat) (A : Around) : Prop where
  hd : A.handled = none
  dp : A.depth + 3 * k + 5 < recursionLimit
  un : A.units + 16 * k + 200 < cLine
theorem Room.mono {j k : Nat} {A : Around} (r : Room k A) (h : j ≤ k) : Room j A := ⟨r.hd, by have := r.dp; omega, by have := r.un; omega⟩
theorem Room.deeper {k : Nat} {A : Around} (r : Room (k + 1) A) (env : Env) : Room k (A.deeper env) :=
  ⟨r.hd, by have := r.dp; show A.depth + 1 + 3 * k + 5 < _; omega, by have := r.un; show A.units + 3 + 16 * k + 200 < _; omega⟩
theorem make_depth {A : Around} {C : Addr} {us : List Value} {kw : List (Str × Value)} : (A.under (.builtin "type.__call__" ⟨.ref C :: us, kw⟩)).depth = A.depth + 1 := by
  first | rfl | simp [Around.under, Code.weight, Code.isCreation, Code.isGuard, Code.isCaller, Code.frames, Code.isFrame, guardIds]
theorem make_units {A : Around} {C : Addr} {us : List Value} {kw : List (Str × Value)} : (A.under (.builtin "type.__call__" ⟨.ref C :: us, kw⟩)).units = A.units + 1 := by
  first | rfl | simp [Around.under, Code.cUnits, Code.frames, Code.isFrame]
theorem Room.make {k : Nat} {A : Around} (r : Room (k + 1) A) (C : Addr) (us : List Value) (kw : List (Str × Value)) : Room k (A.under (.builtin "type.__call__" ⟨.ref C :: us, kw⟩)) :=
  ⟨r.hd, by have := r.dp; rw [make_depth]; omega, by have := r.un; rw [make_units]; omega⟩
theorem Room.depth {k : Nat} {A : Around} (r : Room k A) : A.depth < recursionLimit := by have := r.dp; omega
theorem Room.units {k : Nat} {A : Around} (r : Room k A) : A.units + 64 < cLine := by have := r.un; omega

/-! ### argument lists and displays -/
def tNil : TA := fun _ H Q => Q [] H
def tCons (ta : TE) (tr : TA) : TA := fun σ H Q => ta σ H fun x H1 => tr σ H1 fun xs H2 => Q (x :: xs) H2
section
variable {X : Cx} {e : Expr} {es : List Expr} {te : TE} {t : TA} {pos : Pos}
theorem pa_nil : PA X [] tNil := fun _ _ _ _ H Q I h => Calls.spliced_nil ⟨[], H, I, .nil, h⟩
theorem pa_cons (ha : PE X e te) (hr : PA X es t) (hs : starEach (e :: es) X.env = (false, eval e X.env) :: starEach es X.env := by rfl) : PA X (e :: es) (tCons te t) := by
  intro pos pins s σ H Q I h
  rw [hs]
  show wpAny _ _ (spliced ((false, eval e X.env) :: backTo pos (starEach es X.env))) _ _ s
  refine Calls.spliced_cons (thn (ha pins s σ H _ I h) fun u s1 ⟨x, H1, I1, r1, q1⟩ => ?_)
  exact thn (hr pos pins s1 σ H1 _ I1 q1) fun us s2 ⟨xs, H2, I2, r2, q2⟩ => ⟨x :: xs, H2, I2, .cons r1 r2, q2⟩

/-- a tuple, a list of written items -/
def tTup (t : TA) : TE := fun σ H Q => t σ H fun xs H1 => xs.length ≤ sizeLine ∧ ∀ p, H1 p = none → Q (.ref p) (upd H1 p (.tup xs))
def tLst (t : TA) : TE := fun σ H Q => t σ H fun xs H1 => xs.length ≤ sizeLine ∧ ∀ p, H1 p = none → Q (.ref p) (upd H1 p (.lst xs))
theorem pe_tup {x1} (h : PA X es t) : PE X (.Tuple es x1 pos) (tTup t) := by
  intro pins s σ H Q I hq
  refine wpAny_Tuple_spliced (thn (h pos pins s σ H _ I hq) fun us s1 ⟨xs, H1, I1, r, z, q⟩ => ⟨by rw [← r.length]; exact z, ?_⟩)
  have hf : H1 s1.heap.objs.size = none := I1.hok.fresh (Nat.le_refl _)
  refine ⟨.ref s1.heap.objs.size, upd H1 s1.heap.objs.size (.tup xs), I1.laid (t' := s1.toks) (fun b u e => Heap.get?_push_of_some _ e) (Nat.le_refl _) ?_, rfl, q _ hf⟩
  exact ⟨z, us, r, ⟨_, Heap.get?_push_size _ rfl, rfl, _, rfl⟩⟩
theorem pe_lst (h : PA X es t) : PE X (.List es pos) (tLst t) := by
  intro pins s σ H Q I hq
  refine wpAny_List_spliced (thn (h pos pins s σ H _ I hq) fun us s1 ⟨xs, H1, I1, r, z, q⟩ => ⟨by rw [← r.length]; exact z, ?_⟩)
  have hf : H1 s1.heap.objs.size = none := I1.hok.fresh (Nat.le_refl _)
  refine ⟨.ref s1.heap.objs.size, upd H1 s1.heap.objs.size (.lst xs), I1.laid (t' := s1.toks) (fun b u e => Heap.get?_push_of_some _ e) (Nat.le_refl _) ?_, rfl, q _ hf⟩
  exact ⟨z, us, 0, r, Heap.get?_push_size _ rfl⟩
end

/-! ### what a def promises -/
/-- a def's promise: the bound arguments in the parameters' order, the heap, the wanted end, the wanted exception -/
abbrev Sp := List V → Hp → VK → XK → Prop
/-- how an exception lies behind a call (file 08 gives it): the callers' frames, abstract heap and state ahead of the call, the wish, the exception, the state -/
abbrev CXT := List Env → Hp → Shared → XK → Value → Shared → Prop

/-- the state at a call -/
structure Env0 (P : Program) (w : World) (K : PySem.W.Frag) (mg : Str → Option Value) (base : Heap) (A : Around) (outer : List Env) (s : Shared) (H : Hp) : Prop where
  frames : A.frames = some outer
  mod : Mod K mg base
  bs : ∀ b o, base.get? b = some o → s.heap.get? b = some o ∧ H b = none
  bsz : base.objs.size ≤ s.heap.objs.size
  funs : s.heap.FunFrames base outer
  frf : ∀ b ∈ frs outer, H b = none
  hok : HOk P w H s.heap
  bare : AllBare s.gens
/-- a call's end -/
def CE (outer : List Env) (P : Program) (w : World) (H : Hp) (s : Shared) (Q : VK) (u : Value) (s' : Shared) : Prop :=
  ∃ v H', s'.os = s.os ∧ AllBare s'.gens ∧ Un (frs outer) [] H H' s.heap s'.heap ∧ HOk P w H' s'.heap ∧ RelV v u ∧ Q v H'
def CR (CX : CXT) (outer : List Env) (P : Program) (w : World) (H : Hp) (s : Shared) (Q : VK) (E : XK) (r : Result) (s' : Shared) : Prop :=
  match r with
  | .ok (.ret u) => CE outer P w H s Q u s'
  | .ok _ => False
  | .error e => CX outer H s E e s'
structure FnOk (P : Program) (w : World) (K : PySem.W.Frag) (mg : Str → Option Value) (base : Heap) (CX : CXT) (k : Nat) (f : Addr) (fd : FuncData) (ps : List Str) (sp : Sp) : Prop where
  len : ∀ vs H Q E, sp vs H Q E → vs.length = ps.length
  run : ∀ (A : Around) (outer : List Env) (s : Shared) (H : Hp) (args : Args) (us : List Value) (vs : List V) (Q : VK) (E : XK), Room k A → Env0 P w K mg base A outer s H → BindsTo s fd args (ps.zip us) → Vals vs us → sp vs H Q E →
    codeAny (model P w) A (.call (.ref f) args) (CR CX outer P w H s Q E) s

theorem Env0.make {P : Program} {w : World} {K : PySem.W.Frag} {mg : Str → Option Value} {base : Heap} {A : Around} {outer : List Env} {s : Shared} {H : Hp} (e : Env0 P w K mg base A outer s H) (C : Addr) (us : List Value) (kw : List (Str × Value)) :
    Env0 P w K mg base (A.under (.builtin "type.__call__" ⟨.ref C :: us, kw⟩)) outer s H := ⟨by first | exact e.frames | (simpa [Around.under, Code.envs, Code.isFrame, pushEnvs] using e.frames), e.mod, e.bs, e.bsz, e.funs, e.frf, e.hok, e.bare⟩

section
variable {X : Cx} {pins : List (Addr × Obj)} {σ : St} {H : Hp} {s s' : Shared}
/-- from a body: what a callee wants -/
theorem Inv.env0 (I : Inv X pins σ H s) : Env0 X.prog X.w X.K X.mg X.base X.A X.stack s H :=
  ⟨I.ok.frames, I.ok.mod, I.bs, Nat.le_trans I.ok.bsz I.sz, I.stack, I.stkFree, I.hok, I.bare⟩
/-- behind a call -/
theorem Inv.after {Q : VK} {u : Value} (I : Inv X pins σ H s) (h : CE X.stack X.prog X.w H s Q u s') : EP X pins σ Q u s' := by
  obtain ⟨v, H', os, bare, un, hok, r, q⟩ := h
  obtain ⟨hh, g, d, t, os'⟩ := s'
  obtain rfl : os' = s.os := os
  exact ⟨v, H', I.call (h' := hh) (g' := g) (d' := d) (t' := t) (ch := []) un hok bare (fun b z => absurd z (by simp)), r, q⟩
end

/-! ### calls -/
/-- f(..): the written arguments, then the defaults dvs; E: what is wanted of an exception -/
def tCall (sp : Sp) (dvs : List V) (E : XK) (t : TA) : TE := fun σ H Q => t σ H fun vs H1 => sp (vs ++ dvs) H1 Q E
/-- o.m(..) of an instance of the class at C -/
def tMeth (C : Addr) (m : Str) (sp : Sp) (dvs : List V) (E : XK) (ta : TE) (t : TA) : TE := fun σ H Q => ta σ H fun x H1 => ∃ a dx fs, x = .ref a ∧ H1 a = some (.ins C dx fs) ∧ fs.lookup m = none ∧
  t σ H1 fun vs H2 => sp (x :: (vs ++ dvs)) H2 Q E
/-- C(..): a new instance and its dict, then __init__ -/
def tMake (C : Addr) (sp : Sp) (dvs : List V) (E : XK) (t : TA) : TE := fun σ H Q => t σ H fun vs H1 => ∀ x dx, H1 x = none → H1 dx = none → dx ≠ x →
  sp (.ref x :: (vs ++ dvs)) (upd (upd H1 dx (.own x)) x (.ins C dx [])) (fun v H2 => v = .non ∧ Q (.ref x) H2) E

/-- how the parameters are bound: us the positional arguments, kw the keywords' values by name, ds the defaults that fill up -/
def Binds (K : PySem.W.Frag) (fd : FuncData) (ps : List Str) (ds : List Value) : Prop :=
  ∀ (s : Shared) (us : List Value), K.In s.heap → (us ++ ds).length = ps.length → BindsTo s fd ⟨us, []⟩ (ps.zip (us ++ ds))
/-- every parameter is given -/
theorem Binds.all {K : PySem.W.Frag} {fd : FuncData} {ps : List Str} (h : ∀ us : List Value, us.length = ps.length → bindArgs fd ⟨us, []⟩ = pure (ps.zip us)) : Binds K fd ps [] := fun s us _ hl => by
  rw [List.append_nil] at hl ⊢
  exact .of_eq (h us hl)

/-- an exception of a callee reaches what this body wants of exceptions -/
def Passes (CX : CXT) (X : Cx) (E : XK) : Prop := ∀ (pins : List (Addr × Obj)) (σ : St) (H : Hp) (s : Shared) (e : Value) (s' : Shared), Inv X pins σ H s → CX X.stack H s E e s' → X.xe e s'

section
variable {X : Cx} {CX : CXT} {k : Nat} {f C : Addr} {fd : FuncData} {ps : List Str} {sp : Sp} {dvs : List V} {ds : List Value} {E : XK} {x m : Str} {p pos apos : Pos} {e o : Expr} {es : List Expr} {ta : TE} {t : TA}

/-- the callee runs -/
theorem run_fn {pins : List (Addr × Obj)} {σ : St} {H : Hp} {s : Shared} {Q : VK} {us : List Value} {vs : List V} (F : FnOk X.prog X.w X.K X.mg X.base CX k f fd ps sp) (hr : Room k X.A) (hb : Binds X.K fd ps ds) (hd : Vals dvs ds) (hx : Passes CX X E)
    (I : Inv X pins σ H s) (r : Vals vs us) (h : sp (vs ++ dvs) H Q E) : wpAny (model X.prog X.w) X.A (call (.ref f) us) (EP X pins σ Q) X.xe s := by
  have r2 : Vals (vs ++ dvs) (us ++ ds) := r.append hd
  have hl : (us ++ ds).length = ps.length := by rw [← r2.length]; exact F.len _ _ _ _ h
  refine wpAny_call (codeAny_mono (F.run X.A X.stack s H ⟨us, []⟩ (us ++ ds) (vs ++ dvs) Q E hr I.env0 (hb s us I.kIn hl) r2 h) fun r s' hq => ?_)
  cases r with
  | error e => exact hx pins σ H s e s' I hq
  | ok fl =>
    cases fl with
    | ret u => exact I.after hq
    | next => exact False.elim hq
    | brk => exact False.elim hq
    | cont => exact False.elim hq

theorem pe_call (F : FnOk X.prog X.w X.K X.mg X.base CX k f fd ps sp) (hr : Room k X.A) (hg : Gl X x) (hm : X.mg x = some (.ref f)) (hk : PySem.W.keepIn X.K (.ref f) = true) (hb : Binds X.K fd ps ds) (hd : Vals dvs ds) (hx : Passes CX X E)
    (ha : PA X (e :: es) t) (hdb : (x == ("__debug__" : Str)) = false := by decide) (he : starEach (e :: es) X.env = (false, eval e X.env) :: starEach es X.env := by rfl) (hpl : (backTo pos (starEach es X.env)).any (·.1) = false := by rfl) :
    PE X (.Call (.Name x p) (e :: es) [] pos) (tCall sp dvs E t) := by
  intro pins s σ H Q I h
  refine wpAny_Call_Name_kw (ld_glob I hg hm ?_ hdb)
  refine PySem.W.callWith_K (h₀ := X.base) I.ok.mod.kin hk (thn (ha pos pins s σ H _ I h) fun us s1 ⟨vs, H1, I1, r, q⟩ => ⟨I1.kIn, ?_⟩) he hpl
  exact run_fn F hr hb hd hx I1 r q

/-- o.m(e, ..) -/
theorem pe_meth {pl : Sem Bool} (he : PE X o ta) (c : Cls X.K C) (hm : Meth X.K C m f) (F : FnOk X.prog X.w X.K X.mg X.base CX k f fd ps sp) (hr : Room k X.A) (hb : Binds X.K fd ps ds) (hd : Vals dvs ds) (hx : Passes CX X E) (ha : PA X (e :: es) t)
    (hst : starEach (e :: es) X.env = (false, eval e X.env) :: starEach es X.env := by rfl) (hpl : (backTo pos (starEach es X.env)).any (·.1) = false := by rfl)
    (ht : eval (.Call (.Attribute o m apos) (e :: es) [] pos) X.env = (do
      let ov ← eval o X.env
      standAt apos.atName
      let (f, first) ← holding [ov] (getMethod ov m pl)
      callWith pos f first (backTo pos (starEach (e :: es) X.env)) (backToKw pos (keywordEach [] X.env))) := by rfl) :
    PE X (.Call (.Attribute o m apos) (e :: es) [] pos) (tMeth C m sp dvs E ta t) := by
  intro pins s σ H Q I h
  refine PySem.W.methodCall_KW (pl := pl) (thn (he pins s σ H _ I h) fun u s1 ⟨x, H1, I1, rx, a, dx, fs, ex, ea, l, q⟩ => ?_) ht
  subst ex
  obtain rfl : u = Value.ref a := rx
  refine getmeth_ok I1 ea c hm l ?_
  refine PySem.W.callWith_K (first := [.ref a]) (h₀ := X.base) I.ok.mod.kin hm.kp (thn (ha pos pins s1 σ H1 _ I1 q) fun us s2 ⟨vs, H2, I2, r, q2⟩ => ⟨I2.kIn, ?_⟩) hst hpl
  exact run_fn (us := .ref a :: us) (vs := .ref a :: vs) F hr hb hd hx I2 (.cons rfl r) q2
/-- o.m() -/
theorem pe_meth0 {pl : Sem Bool} (he : PE X o ta) (c : Cls X.K C) (hm : Meth X.K C m f) (F : FnOk X.prog X.w X.K X.mg X.base CX k f fd ps sp) (hr : Room k X.A) (hb : Binds X.K fd ps ds) (hd : Vals dvs ds) (hx : Passes CX X E)
    (ht : eval (.Call (.Attribute o m apos) [] [] pos) X.env = (do
      let ov ← eval o X.env
      standAt apos.atName
      let (f, first) ← holding [ov] (getMethod ov m pl)
      callWith pos f first (backTo pos (starEach [] X.env)) (backToKw pos (keywordEach [] X.env))) := by rfl) :
    PE X (.Call (.Attribute o m apos) [] [] pos) (tMeth C m sp dvs E ta tNil) := by
  intro pins s σ H Q I h
  refine PySem.W.methodCall_KW (pl := pl) (thn (he pins s σ H _ I h) fun u s1 ⟨x, H1, I1, rx, a, dx, fs, ex, ea, l, q⟩ => ?_) ht
  subst ex
  obtain rfl : u = Value.ref a := rx
  refine getmeth_ok I1 ea c hm l ?_
  exact PySem.W.callWith_K0 (first := [.ref a]) I1.kIn hm.kp (run_fn (us := [.ref a]) (vs := [.ref a]) F hr hb hd hx I1 (.cons rfl .nil) q)

/-- what a class must have to be made -/
structure Mk (K : PySem.W.Frag) (C f : Addr) : Prop where
  makes : PySem.W.makesIn K C = true
  init : PySem.W.findIn K (.ref C) "__init__" = some (some (.ref f))
  fn : PySem.W.isFn K (.ref f) = true
  kp : PySem.W.keepIn K (.ref C) = true

theorem run_make {pins : List (Addr × Obj)} {σ : St} {H : Hp} {s : Shared} {Q : VK} {us : List Value} {vs : List V} (M : Mk X.K C f) (F : FnOk X.prog X.w X.K X.mg X.base CX k f fd ps sp) (hr : Room (k + 1) X.A) (hb : Binds X.K fd ps ds) (hd : Vals dvs ds)
    (hx : Passes CX X E) (I : Inv X pins σ H s) (r : Vals vs us)
    (h : ∀ x dx, H x = none → H dx = none → dx ≠ x → sp (.ref x :: (vs ++ dvs)) (upd (upd H dx (.own x)) x (.ins C dx [])) (fun v H2 => v = .non ∧ Q (.ref x) H2) E) :
    wpAny (model X.prog X.w) X.A (call (.ref C) us) (EP X pins σ Q) X.xe s := by
  have hq := h (s.heap.objs.size + 1) s.heap.objs.size (I.hok.fresh (Nat.le_succ _)) (I.hok.fresh (Nat.le_refl _)) (Nat.ne_of_lt (Nat.lt_succ_self _))
  have I2 := Inv.made (C := C) I
  have r2 : Vals (V.ref (s.heap.objs.size + 1) :: (vs ++ dvs)) (Value.ref (s.heap.objs.size + 1) :: (us ++ ds)) := .cons rfl (r.append hd)
  have hl : (Value.ref (s.heap.objs.size + 1) :: us ++ ds).length = ps.length := by
    have e := r2.length
    rw [F.len _ _ _ _ hq] at e
    exact e.symm
  refine wpAny_call (make_map (f := f) I.kIn M.makes M.init (beq_iff_eq.mp M.fn) (codeAny_mono (F.run _ X.stack _ _ ⟨Value.ref (s.heap.objs.size + 1) :: us, []⟩ (Value.ref (s.heap.objs.size + 1) :: (us ++ ds)) _ _ E (hr.make C us [])
    (I2.env0.make C us []) (hb _ (Value.ref (s.heap.objs.size + 1) :: us) I2.kIn hl) r2 hq) fun r s' hq' => ?_))
  cases r with
  | error e => exact hx pins σ _ _ e s' I2 hq'
  | ok fl =>
    cases fl with
    | ret u =>
      obtain ⟨v, H', I3, rv, ev, q3⟩ := I2.after hq'
      subst ev
      exact ⟨rv, ⟨V.ref (s.heap.objs.size + 1), H', I3, rfl, q3⟩⟩
    | next => exact False.elim hq'
    | brk => exact False.elim hq'
    | cont => exact False.elim hq'
theorem pe_make (M : Mk X.K C f) (F : FnOk X.prog X.w X.K X.mg X.base CX k f fd ps sp) (hr : Room (k + 1) X.A) (hg : Gl X x) (hm : X.mg x = some (.ref C)) (hb : Binds X.K fd ps ds) (hd : Vals dvs ds) (hx : Passes CX X E)
    (ha : PA X (e :: es) t) (hdb : (x == ("__debug__" : Str)) = false := by decide) (he : starEach (e :: es) X.env = (false, eval e X.env) :: starEach es X.env := by rfl) (hpl : (backTo pos (starEach es X.env)).any (·.1) = false := by rfl) :
    PE X (.Call (.Name x p) (e :: es) [] pos) (tMake C sp dvs E t) := by
  intro pins s σ H Q I h
  refine wpAny_Call_Name_kw (ld_glob I hg hm ?_ hdb)
  refine PySem.W.callWith_K (h₀ := X.base) I.ok.mod.kin M.kp (thn (ha pos pins s σ H _ I h) fun us s1 ⟨vs, H1, I1, r, q⟩ => ⟨I1.kIn, ?_⟩) he hpl
  exact run_make M F hr hb hd hx I1 r q
end

/-! ### keywords -/
section
variable {X : Cx} {CX : CXT} {k : Nat} {f C : Addr} {fd : FuncData} {ps ks : List Str} {sp : Sp} {E : XK} {x m : Str} {p pos apos kpos : Pos} {e o : Expr} {es : List Expr} {kws : List Keyword} {te ta : TE} {t tk : TA} {nm : Option Str}

/-- how a call with keywords binds: g puts the positional values us and the keywords' values ws (names ks) in the parameters' order, defaults among them -/
structure KBinds (K : PySem.W.Frag) (fd : FuncData) (ps ks : List Str) (g : List Value → List Value → List Value) (gV : List V → List V → List V) : Prop where
  to : ∀ (s : Shared) (us ws : List Value), K.In s.heap → (g us ws).length = ps.length → BindsTo s fd ⟨us, ks.zip ws⟩ (ps.zip (g us ws))
  rel : ∀ {vs : List V} {us : List Value} {zs : List V} {ws : List Value}, Vals vs us → Vals zs ws → Vals (gV vs zs) (g us ws)
variable {g : List Value → List Value → List Value} {gV : List V → List V → List V}
end

/-! ### a def's body keeps its promise -/
/-- names: the parameters first -/
structure FnScope (N P : List Str) (sc : Scope) : Prop where
  kind : sc.kind = .function
  co : sc.isCoroutine = false
  gen : sc.isGenerator = false
  nd : N.Nodup
  pre : N.take P.length = P
  par : ∀ x ∈ P, sc.names.lookup x = some .local ∨ sc.names.lookup x = some .cell
  nofree : ∀ y ∈ sc.names, y.2 ≠ .free

theorem bindL_out {kindOf : Str → Option NameKind} {x : Str} : ∀ {binds : List (Str × Value)} {m : Str → Option Value}, (∀ v, (x, v) ∉ binds) → bindL kindOf binds m x = m x
  | [], _, _ => rfl
  | (n, v) :: r, m, h => by
    unfold bindL
    rw [bindL_out fun w hw => h w (List.mem_cons_of_mem _ hw)]
    split
    · have : x ≠ n := by rintro rfl; exact h v List.mem_cons_self
      simp [this]
    · rfl
theorem bindC_out {kindOf : Str → Option NameKind} {x : Str} : ∀ {binds : List (Str × Value)} {m : Str → Option Value}, (∀ v, (x, v) ∉ binds) → bindC kindOf binds m x = m x
  | [], _, _ => rfl
  | (n, v) :: r, m, h => by
    unfold bindC
    rw [bindC_out fun w hw => h w (List.mem_cons_of_mem _ hw)]
    split
    · rfl
    · have : x ≠ n := by rintro rfl; exact h v List.mem_cons_self
      simp [this]
theorem bindL_get {kindOf : Str → Option NameKind} {x : Str} {v : Value} : ∀ {P : List Str} {vs : List Value} {i : Nat} {m : Str → Option Value}, P.Nodup → P[i]? = some x → vs[i]? = some v → kindOf x = some .local →
    bindL kindOf (P.zip vs) m x = some v
  | [], _, _, _, _, h, _, _ => by simp at h
  | _ :: _, [], _, _, _, _, h, _ => by simp at h
  | p :: P, w :: vs, 0, m, nd, h1, h2, hk => by
    simp at h1 h2; subst h1; subst h2
    show bindL kindOf ((p, w) :: P.zip vs) m p = _
    unfold bindL
    rw [bindL_out fun v hv => (List.nodup_cons.mp nd).1 (List.of_mem_zip hv).1, if_pos hk]
    simp
  | p :: P, w :: vs, i + 1, m, nd, h1, h2, hk => by
    show bindL kindOf ((p, w) :: P.zip vs) m x = _
    unfold bindL
    exact bindL_get (i := i) (List.nodup_cons.mp nd).2 (by simpa using h1) (by simpa using h2) hk
theorem bindC_get {kindOf : Str → Option NameKind} {x : Str} {v : Value} : ∀ {P : List Str} {vs : List Value} {i : Nat} {m : Str → Option Value}, P.Nodup → P[i]? = some x → vs[i]? = some v → kindOf x ≠ some .local →
    bindC kindOf (P.zip vs) m x = some v
  | [], _, _, _, _, h, _, _ => by simp at h
  | _ :: _, [], _, _, _, _, h, _ => by simp at h
  | p :: P, w :: vs, 0, m, nd, h1, h2, hk => by
    simp at h1 h2; subst h1; subst h2
    show bindC kindOf ((p, w) :: P.zip vs) m p = _
    unfold bindC
    rw [bindC_out fun v hv => (List.nodup_cons.mp nd).1 (List.of_mem_zip hv).1, if_neg hk]
    simp
  | p :: P, w :: vs, i + 1, m, nd, h1, h2, hk => by
    show bindC kindOf ((p, w) :: P.zip vs) m x = _
    unfold bindC
    exact bindC_get (i := i) (List.nodup_cons.mp nd).2 (by simpa using h1) (by simpa using h2) hk

/-- the names' values at the entry -/
def start (N : List Str) (vs : List V) : St := vs.map some ++ List.replicate (N.length - vs.length) none

/-- the context of a def's body, at its entry; an exception leaves the frame, then lies as CX says -/
def cxOf (CX : CXT) (P : Program) (w : World) (K : PySem.W.Frag) (mg : Str → Option Value) (base : Heap) (N : List Str) (qual : Str) (scope : Scope) (f : Addr) (cd : Value) (A : Around) (outer : List Env) (s : Shared) (H : Hp) (E : XK) : Cx where
  prog := P
  w := w
  K := K
  mg := mg
  base := base
  A := A.deeper (envOfC qual scope s.heap.objs.size f cd)
  N := N
  s₀ := s
  H₀ := H
  env := envOfC qual scope s.heap.objs.size f cd
  outer := outer
  stack := envOfC qual scope s.heap.objs.size f cd :: outer
  ex := []
  calm := true
  fn := fun _ => true
  pn := []
  xe := fun e s' => wpAny (model P w) (A.deeper (envOfC qual scope s.heap.objs.size f cd)) (leaving (envOfC qual scope s.heap.objs.size f cd) e) (fun _ s'' => CX outer H s E e s'') (fun e' s'' => CX outer H s E e' s'') s'

theorem cell_has {sc : Scope} {n : Nat} {x : Str} (h : sc.names.lookup x = some .cell) : ∃ c, (cellsFrom n sc.names []).lookup x = some c := by
  have q := PySem.W.cellsFrom_some sc.names n [] (.inl h)
  exact Option.isSome_iff_exists.mp q

theorem inv_start {CX : CXT} {P : Program} {w : World} {K : PySem.W.Frag} {mg : Str → Option Value} {base : Heap} {N ps : List Str} {qual : Str} {scope : Scope} {f : Addr} {cd : Value} {A : Around} {outer : List Env} {s s1 : Shared} {H : Hp} {E : XK} {us : List Value} {vs : List V}
    (S : FnScope N ps scope) (hd : A.handled = none) (e0 : Env0 P w K mg base A outer s H) (hl : vs.length = ps.length) (r : Vals vs us)
    (x : InCallC s s.heap.objs.size (bindL (envOfC qual scope s.heap.objs.size f cd).kindOf (ps.zip us) fun _ => none) (cellsFrom (s.heap.objs.size + 1) scope.names []) (bindC (envOfC qual scope s.heap.objs.size f cd).kindOf (ps.zip us) fun _ => none) s1) :
    Inv (cxOf CX P w K mg base N qual scope f cd A outer s H E) [] (start N vs) H s1 := by
  have hpl : ps.length ≤ N.length := by have := congrArg List.length S.pre; rw [List.length_take] at this; omega
  obtain ⟨h1, tk, rfl, hk⟩ := x.done
  have noA : ∀ b : Addr, b ∉ (cxOf CX P w K mg base N qual scope f cd A outer s H E).ex := fun b z => absurd (show b ∈ ([] : List Addr) from z) (by simp)
  refine ⟨⟨e0.mod, S.kind, rfl, rfl, Nat.le_refl _, fun y z c h1 h2 => ?_, fun y hy => ?_, fun y c _ h => ?_, fun _ => hd, Around.frames_deeper e0.frames, .inr ⟨rfl, rfl⟩, fun b z => absurd z (noA b), e0.bs, e0.bsz, fun b _ _ => noA b, fun b z => absurd z (noA b), e0.funs, e0.frf⟩,
    rfl, e0.bare, Un.kept hk, ⟨_, x.toInCall.ns, fun i y v h1 h2 h3 => ?_⟩, fun y c h => ⟨_, x.cell y c h⟩, e0.hok.fresh (Nat.le_refl _), fun y c h => ?_, fun p hp => absurd (show p ∈ ([] : List (Addr × Obj)) from hp) (by simp), e0.hok.kept hk, ?_⟩
  · exact name_of_addr x.apart (PySem.mem_of_lookup h1) (PySem.mem_of_lookup h2)
  · have hy : scope.names.lookup y = some .cell ∨ scope.names.lookup y = some .free := hy
    rcases hy with hy | hy
    · exact cell_has hy
    · exact absurd rfl (S.nofree _ (PySem.mem_of_lookup hy))
  · exact Nat.le_of_lt (x.above y c (PySem.mem_of_lookup h))
  · have hi : i < vs.length := by
      unfold start at h2
      by_cases hi : i < vs.length
      · exact hi
      · rw [List.getElem?_append_right (by simpa using hi)] at h2
        rw [List.getElem?_replicate] at h2
        split at h2 <;> cases h2
    have ha : vs[i]? = some v := by
      unfold start at h2
      rw [List.getElem?_append_left (by simpa using hi), List.getElem?_map] at h2
      cases e : vs[i]? with
      | none => rw [e] at h2; cases h2
      | some a => rw [e] at h2; cases h2; rfl
    obtain ⟨u, hu, rv⟩ := r.get ha
    have hp : ps[i]? = some y := by
      rw [← S.pre, List.getElem?_take_of_lt (by omega)]; exact h1
    have ndP : ps.Nodup := by rw [← S.pre]; exact S.nd.sublist (List.take_sublist _ _)
    refine ⟨u, rv, ?_⟩
    rcases S.par y (List.mem_of_getElem? hp) with k | k
    · exact .inl ⟨k, bindL_get ndP hp hu k⟩
    · obtain ⟨c, e⟩ := cell_has (n := s.heap.objs.size + 1) k
      refine .inr ⟨.inl k, c, e, ?_⟩
      have q := x.cell y c e
      rw [bindC_get ndP hp hu (by show scope.names.lookup y ≠ _; rw [k]; decide)] at q
      exact q
  · exact e0.hok.fresh (Nat.le_of_lt (x.above y c (PySem.mem_of_lookup h)))
  · unfold start
    show _ = N.length
    rw [List.length_append, List.length_map, List.length_replicate]
    omega

/-- THE RULE: a def (or a method) of the text, by its body. The body's reading t is chosen for each entry; it is run at the parameters' values -/
theorem fn_of {CX : CXT} {P : Program} {w : World} {K : PySem.W.Frag} {mg : Str → Option Value} {base : Heap} {k : Nat} {f : Addr} {name qual : Str} {params : Arguments} {body : List Stmt} {scope : Scope} {dV kV doc pm cdv ct oc : Value} {an od : Option Addr}
    {osl : Array (Option Value)} {N ps : List Str} {sp : Sp} (lk : K.lookup f = some ⟨oc, od, .func (PySem.W.fnOf name qual params body scope dV kV doc pm an cdv ct), osl⟩) (hcd : PySem.W.codeIn K cdv qual = true) (S : FnScope N ps scope)
    (len : ∀ vs H Q E, sp vs H Q E → vs.length = ps.length)
    (hbody : ∀ (A : Around) (outer : List Env) (s : Shared) (H : Hp) (vs : List V) (Q : VK) (E : XK), Room k (A.deeper (envOfC qual scope s.heap.objs.size f cdv)) → sp vs H Q E →
      ∃ t, PSs (cxOf CX P w K mg base N qual scope f cdv A outer s H E) body t ∧ t { nx := fun _ H' => Q .non H', rt := Q } (start N vs) H) :
    FnOk P w K mg base CX (k + 1) f (PySem.W.fnOf name qual params body scope dV kV doc pm an cdv ct) ps sp := by
  refine ⟨len, fun A outer s H args us vs Q E hr e0 hb r hsp => ?_⟩
  have hl := len _ _ _ _ hsp
  have KX : K.In s.heap := e0.mod.kin.keeps fun b o e => (e0.bs b o e).1
  have lim : s.heap.NoLimit := e0.mod.nolimit.keeps fun b o e => (e0.bs b o e).1
  have hkind : ∀ y ∈ ps.zip us, scope.names.lookup y.1 = some .local ∨ (scope.names.lookup y.1 = some .cell ∧ ((cellsFrom (s.heap.objs.size + 1) scope.names []).lookup y.1).isSome = true) := fun ⟨n, v⟩ hy => by
    rcases S.par n (List.of_mem_zip hy).1 with q | q
    · exact .inl q
    · exact .inr ⟨q, PySem.W.cellsFrom_some _ _ _ (.inl q)⟩
  refine codeAny_call_function hr.depth (KX _ _ lk) rfl S.co S.gen rfl (PySem.W.codeRec_of KX hcd) (hb _ _ _ _ ?_)
  refine wpAny_newFunctionEnv_cells S.kind hkind fun env he s1 x => ?_
  subst he
  refine ⟨lim.keeps x.toInCall.keep, codeAny_func ?_⟩
  obtain ⟨t, ht, hq⟩ := hbody A outer s H vs Q E (hr.deeper _) hsp
  have I : Inv (cxOf CX P w K mg base N qual scope f cdv A outer s H E) [] (start N vs) H s1 := inv_start S hr.hd e0 hl r x
  refine wpAny_mono (ht [] s1 (start N vs) H _ I hq) (fun fl s' hs => ?_) fun e s' hs => hs
  have fin : ∀ {σ' : St} {H' : Hp} {v : V} {u : Value}, Inv (cxOf CX P w K mg base N qual scope f cdv A outer s H E) [] σ' H' s' → RelV v u → Q v H' → CE outer P w H s Q u s' :=
    fun {σ' H' v u} J rv q => ⟨v, H', J.os, J.bare, J.base, J.hok, rv, q⟩
  cases fl with
  | ret u =>
    obtain ⟨v, σ', H', J, rv, q⟩ := hs
    exact fin J rv q
  | next =>
    obtain ⟨σ', H', J, q⟩ := hs
    exact fin (v := V.non) (u := Value.none) J rfl q
  | brk =>
    obtain ⟨_, _, _, q⟩ := hs
    exact False.elim q
  | cont =>
    obtain ⟨_, _, _, q⟩ := hs
    exact False.elim q
end L2

namespace L2
open PySem PySem.Spec PyProof.Rows
section
variable {X : Cx} {x : Str} {p pos : Pos} {e : Expr} {es : List Expr} {t : TA} {id T : String} {r : List V → Hp → VK → Prop}

def tCB (r : List V → Hp → VK → Prop) (t : TA) : TE := fun σ H Q => t σ H fun vs H1 => r vs H1 Q
/-- f(e, ..), f a built-in function -/
theorem pe_callB (hc : CallR X (.builtin id) r) (hg : Gl X x) (hm : X.mg x = none) (hv : bootBuiltins x = some (.builtin id)) (ha : PA X (e :: es) t) (hn : x ≠ "__name__" := by decide) (hdb : (x == ("__debug__" : Str)) = false := by decide)
    (he : starEach (e :: es) X.env = (false, eval e X.env) :: starEach es X.env := by rfl) (hpl : (backTo pos (starEach es X.env)).any (·.1) = false := by rfl) : PE X (.Call (.Name x p) (e :: es) [] pos) (tCB r t) := by
  intro pins s σ H Q I h
  refine wpAny_Call_Name_kw (ld_blt I hg hm hv ?_ hn hdb)
  exact PyProof.Rows.callWith_builtin1 (thn (ha pos pins s σ H _ I h) fun us s1 ⟨vs, H1, I1, r1, q1⟩ => hc pins s1 σ H1 vs us Q I1 r1 q1) he hpl
/-- T(e, ..), T a built-in type -/
theorem pe_callTy (hc : CallR X (.type T) r) (hg : Gl X x) (hm : X.mg x = none) (hv : bootBuiltins x = some (.type T)) (ha : PA X (e :: es) t) (hn : x ≠ "__name__" := by decide) (hdb : (x == ("__debug__" : Str)) = false := by decide)
    (he : starEach (e :: es) X.env = (false, eval e X.env) :: starEach es X.env := by rfl) (hpl : (backTo pos (starEach es X.env)).any (·.1) = false := by rfl) : PE X (.Call (.Name x p) (e :: es) [] pos) (tCB r t) := by
  intro pins s σ H Q I h
  refine wpAny_Call_Name_kw (ld_blt I hg hm hv ?_ hn hdb)
  exact PyProof.Rows.callWith_type1 (thn (ha pos pins s σ H _ I h) fun us s1 ⟨vs, H1, I1, r1, q1⟩ => hc pins s1 σ H1 vs us Q I1 r1 q1) he hpl
end
end L2

namespace HT
open PySem PyProof.Rows



section
open PySem.SeqAt
open PySem.AutoSeq1 (wpAny_loadPart')
open PySem.MeetsSeq PySem.MeetsSeq2 PySem.MeetsSeq3

end

section
variable {prog : Program} {w : World} {A : Around} {E : Value → Shared → Prop} {s : Shared}



/-! ### t[a:b], not the whole -/
/-- a slice's bound as a place among n (d where it is left out) -/
def sIx (n d : Nat) : Option Int → Nat
  | none => d
  | some v => if v < 0 then (v + (n : Int)).toNat else min v.toNat n
theorem sIx_nat (n d k : Nat) : sIx n d (some (k : Int)) = min k n := by
  show (if (k : Int) < 0 then ((k : Int) + (n : Int)).toNat else min (k : Int).toNat n) = min k n
  rw [if_neg (by omega), Int.toNat_natCast]
theorem sIx_le (n d : Nat) (hd : d ≤ n) (o : Option Int) : sIx n d o ≤ n := by
  cases o with
  | none => exact hd
  | some v =>
    show (if v < 0 then (v + (n : Int)).toNat else min v.toNat n) ≤ n
    by_cases hv : v < 0
    · rw [if_pos hv]; omega
    · rw [if_neg hv]; exact Nat.min_le_right _ _
theorem clip_eq (v : Int) (n d : Nat) : (if v < 0 then max (v + (n : Int)) 0 else min v (n : Int)) = ((sIx n d (some v) : Nat) : Int) := by
  show (if v < 0 then max (v + (n : Int)) 0 else min v (n : Int)) = (((if v < 0 then (v + (n : Int)).toNat else min v.toNat n) : Nat) : Int)
  by_cases hv : v < 0
  · simp only [if_pos hv]; omega
  · simp only [if_neg hv]; omega
theorem adjust_gen (lo hi : Option Int) (n : Nat) : Builtin.Slice.sliceAdjust lo hi 1 (n : Int) = (((sIx n 0 lo : Nat) : Int), ((sIx n n hi : Nat) : Int)) := by
  have h1 : ¬ ((1 : Int) < 0) := by omega
  unfold Builtin.Slice.sliceAdjust
  simp only [h1, if_false]
  refine Prod.ext ?_ ?_
  · cases lo with
    | none => rfl
    | some v => exact clip_eq v n 0
  · cases hi with
    | none => rfl
    | some v => exact clip_eq v n n
theorem places_gen (i j : Nat) : Builtin.Slice.slicePlaces (i : Int) (j : Int) 1 = j - i := by
  unfold Builtin.Slice.slicePlaces
  have h1 : (1 : Int) > 0 := by omega
  simp only [h1, if_true, Int.ediv_one]
  split <;> omega
theorem slicePart_ {v : Value} {o : Option Int} {Q : Option Int → Shared → Prop} (p : IsPart v o) (h : Q o s) : wpAny (model prog w) A (Builtin.Slice.slicePartIndex v) Q E s := by
  cases p with
  | none => exact slicePart_none h
  | int i t => exact slicePart_int h
theorem sliceApplied_gen {sl : Addr} {vl vu : Value} {lo hi : Option Int} {n : Nat} {Q : Int × Int × Nat → Shared → Prop} (hs : s.heap.IsSliceOf sl vl vu .none) (pl : IsPart vl lo) (pu : IsPart vu hi)
    (h : Q (((sIx n 0 lo : Nat) : Int), 1, sIx n n hi - sIx n 0 lo) s) : wpAny (model prog w) A (Builtin.Slice.sliceApplied (.ref sl) (pure (n : Int))) Q E s := by
  obtain ⟨os, hos, hcs, hds⟩ := id hs
  unfold Builtin.Slice.sliceApplied Builtin.Slice.sliceFields
  refine wpAny_bind (wpAny_bind (wpAny_field hos hds (x := vl) rfl (wpAny_bind (wpAny_field hos hds (x := vu) rfl (wpAny_bind (wpAny_field hos hds (x := .none) rfl (wpAny_pure ?_)))))))
  refine wpAny_bind (slicePart_none ?_)
  show wpAny _ _ (if ((1 : Int) == 0) = true then _ else _) _ _ s
  rw [if_neg (by decide)]
  refine wpAny_bind (slicePart_ pl (wpAny_bind (slicePart_ pu (wpAny_bind (wpAny_pure ?_)))))
  show wpAny _ _ (match Builtin.Slice.sliceAdjust lo hi 1 (n : Int) with | (lo, hi) => pure (lo, (1 : Int), Builtin.Slice.slicePlaces lo hi 1)) _ _ s
  rw [adjust_gen lo hi n]
  show wpAny _ _ (pure (((sIx n 0 lo : Nat) : Int), (1 : Int), Builtin.Slice.slicePlaces ((sIx n 0 lo : Nat) : Int) ((sIx n n hi : Nat) : Int) 1)) _ _ s
  rw [places_gen]
  exact wpAny_pure h
theorem pick_gen (xs : Array Value) (i k : Nat) : ((List.range k).filterMap fun (m : Nat) => xs[((i : Int) + (m : Int) * 1).toNat]?).toArray = ((xs.toList.drop i).take k).toArray := by
  have e : (fun (m : Nat) => xs[((i : Int) + (m : Int) * 1).toNat]?) = fun m => xs[i + m]? := by
    funext m
    have : ((i : Int) + (m : Int) * 1).toNat = i + m := by omega
    rw [this]
  rw [e]
  have := pick_run xs i k
  rw [List.filterMap_map] at this
  have e2 : ((fun x => xs[x]?) ∘ fun x => i + x) = fun m => xs[i + m]? := rfl
  rw [e2] at this
  rw [this]

theorem getItem_tuple_cut {t sl : Addr} {items : Array Value} {vl vu : Value} {lo hi : Option Int} {Q : Value → Shared → Prop} (ht : IsTup s.heap t items) (hs : s.heap.IsSliceOf sl vl vu .none) (pl : IsPart vl lo) (pu : IsPart vu hi)
    (hw : ¬ (sIx items.size 0 lo = 0 ∧ sIx items.size items.size hi = items.size))
    (h : Q (.ref s.heap.objs.size) { s with heap := s.heap.push { cls := .type "tuple", data := .seq ((items.toList.drop (sIx items.size 0 lo)).take (sIx items.size items.size hi - sIx items.size 0 lo)).toArray } })
    (hsz : items.size ≤ sizeLine) : wpAny (model prog w) A (getItem (.ref t) (.ref sl)) Q E s := by
  have htake : sizeOk (.seq ((items.toList.drop (sIx items.size 0 lo)).take (sIx items.size items.size hi - sIx items.size 0 lo)).toArray) := by
    show ((items.toList.drop (sIx items.size 0 lo)).take (sIx items.size items.size hi - sIx items.size 0 lo)).toArray.size ≤ sizeLine
    rw [List.size_toArray, List.length_take, List.length_drop, Array.length_toList]
    omega
  have hj : sIx items.size items.size hi ≤ items.size := sIx_le _ _ (Nat.le_refl _) hi
  obtain ⟨os, hos, hcs, hds⟩ := id hs
  have hTs : s.TypeIs (.ref sl) "slice" := ⟨os, hos, hcs⟩
  unfold getItem
  try with_reducible refine wpAny_holding ?_
  first | refine wpAny_bind (wpAny_pure ?_) | skip
  refine wpAny_bind (wpAny_sequenceKey ht.typeIs (by decide) ?_)
  refine wpAny_bind (wpAny_callSpecial?_slot (name := Str.ofString "__getitem__") ht.typeIs PyProof.Rows.slot_tuple_getitem
    (wpAny_call_entry PyProof.Rows.slot_tuple_getitem ht.typeIs entry_tuple_getitem ?_ (args_tuple_getitem _ _)))
  show wpAny _ _ (Builtin.Tuple.tupleItemsOf (.ref t) >>= _) _ _ s
  refine wpAny_bind (tupleItemsOf_ ht ?_)
  refine wpAny_bind (wpAny_typeOf hTs ?_)
  rw [if_pos (by decide)]
  refine wpAny_bind (sliceApplied_gen hs pl pu ?_)
  have hno : ¬ ((((sIx items.size 0 lo : Nat) : Int) == 0 && (1 : Int) == 1 && (sIx items.size items.size hi - sIx items.size 0 lo) == items.size) = true) := by
    intro q
    rw [Bool.and_eq_true, Bool.and_eq_true] at q
    have q1 : ((sIx items.size 0 lo : Nat) : Int) = 0 := eq_of_beq q.1.1
    have q2 : sIx items.size items.size hi - sIx items.size 0 lo = items.size := eq_of_beq q.2
    exact hw ⟨by omega, by omega⟩
  show wpAny _ _ (if (((sIx items.size 0 lo : Nat) : Int) == 0 && (1 : Int) == 1 && (sIx items.size items.size hi - sIx items.size 0 lo) == items.size) = true then _ else _) _ _ s
  rw [if_neg hno, pick_gen]
  first
    | exact wpAny_bind (m := Builtin.Tuple.tupleExact _) (wpAny_newObj_type (wpAny_pure ⟨_, rfl, wpAny_pure h⟩) htake)
    | exact wpAny_bind (m := Builtin.Tuple.tupleExact _) (wpAny_newObj_type (wpAny_bind (wpAny_pure (wpAny_pure ⟨_, rfl, wpAny_pure h⟩))) htake)
    | exact wpAny_bind (wpAny_bind (m := Builtin.Tuple.tupleExact _) (wpAny_newObj_type (wpAny_pure (wpAny_pure ⟨_, rfl, wpAny_pure h⟩)) htake))
    | exact wpAny_bind (wpAny_bind (m := Builtin.Tuple.tupleExact _) (wpAny_newObj_type (wpAny_pure ⟨_, rfl, wpAny_pure h⟩) htake))
end
end HT

namespace L2
open PySem PySem.Spec PyProof.Rows

/-! ### the parts of a slice -/
abbrev TO := St → Hp → (Option Int → Hp → Prop) → Prop
/-- a slice's part (left out, or an int) -/
def PO (X : Cx) (e : Option Expr) (t : TO) : Prop :=
  ∀ (pins : List (Addr × Obj)) (s : Shared) (σ : St) (H : Hp) (Q : Option Int → Hp → Prop), Inv X pins σ H s → t σ H Q →
    wpAny (model X.prog X.w) X.A (evalPart e X.env) (fun u s' => ∃ o H', Inv X pins σ H' s' ∧ IsPart u o ∧ Q o H') X.xe s
def tNoPart : TO := fun _ H Q => Q none H
def tPart (t : TE) : TO := fun σ H Q => t σ H fun x H1 => ∃ i, x = .int i ∧ Q (some i) H1


section
variable {X : Cx} {e : Expr} {te : TE} {lo hi : Option Expr} {tl th : TO} {pos p2 : Pos}

theorem po_none : PO X none tNoPart := by
  intro pins s σ H Q I h
  rw [evalPart_none]
  exact wpAny_pure ⟨none, H, I, .none, h⟩
theorem po_some (h : PE X e te) : PO X (some e) (tPart te) := by
  intro pins s σ H Q I hw
  rw [evalPart_some]
  refine thn (h pins s σ H _ I hw) fun u s1 ⟨x, H1, I1, r1, q1⟩ => ?_
  obtain ⟨i, rfl, q⟩ := q1
  obtain ⟨t, rfl⟩ := r1
  exact ⟨some i, H1, I1, .int i t, q⟩

/-- what a slice of a value is, by values: the slice object stands at sl -/
def SlR (X : Cx) (r : V → Option Int → Option Int → Hp → VK → Prop) : Prop :=
  ∀ (pins : List (Addr × Obj)) (s : Shared) (σ : St) (H : Hp) (x : V) (v vl vu : Value) (lo hi : Option Int) (sl : Addr) (Q : VK), Inv X pins σ H s → RelV x v → s.heap.IsSliceOf sl vl vu .none → IsPart vl lo → IsPart vu hi → r x lo hi H Q →
    ∃ T id, typeLookup (.type T) "__getitem__" = pure (some (.builtin id)) ∧ s.TypeIs v T ∧ wpAny (model X.prog X.w) X.A (getItem v (.ref sl)) (EP X pins σ Q) X.xe s
def tSl (r : V → Option Int → Option Int → Hp → VK → Prop) (te : TE) (tl th : TO) : TE := fun σ H Q => te σ H fun x H1 => tl σ H1 fun l H2 => th σ H2 fun u H3 => r x l u H3 Q
/-- a[lo:hi], any a -/
theorem pe_slice {r : V → Option Int → Option Int → Hp → VK → Prop} (hr : SlR X r) (he : PE X e te) (hl : PO X lo tl) (hu : PO X hi th) : PE X (.Subscript e (.Slice lo hi none p2) pos) (tSl r te tl th) := by
  intro pins s σ H Q I h
  refine Subscript_ (thn (he pins s σ H _ I h) fun v s1 ⟨x, H1, I1, r1, q1⟩ => ?_)
  refine wpAny_Slice (thn (hl pins s1 σ H1 _ I1 q1) fun vl s2 ⟨l, H2, I2, pl, q2⟩ => thn (hu pins s2 σ H2 _ I2 q2) fun vu s3 ⟨u, H3, I3, pu, q3⟩ => ?_)
  rw [evalPart_none]
  refine wpAny_pure ?_
  have I4 : Inv X pins σ H3 { s3 with heap := s3.heap.push { cls := .type "slice", data := .fields #[vl, vu, .none] } } := I3.kept (t' := s3.toks) fun b ob q => Heap.get?_push_of_some _ q
  obtain ⟨T, id, hT, ht, hg⟩ := hr pins { s3 with heap := s3.heap.push { cls := .type "slice", data := .fields #[vl, vu, .none] } } σ H3 x v vl vu l u s3.heap.objs.size Q I4 r1 (Heap.IsSliceOf.new ..) pl pu q3
  show wpAny (model X.prog X.w) X.A (subscriptTail e (.Slice lo hi none p2) v (.ref s3.heap.objs.size)) (EP X pins σ Q) X.xe { s3 with heap := s3.heap.push { cls := .type "slice", data := .fields #[vl, vu, .none] } }
  exact tail_any (ops := [.ref s3.heap.objs.size, v]) ht hT hg (by with_unfolding_all rfl)

/-- the items of xs[lo:hi] -/
def cutV (xs : List V) (lo hi : Option Int) : List V := (xs.drop (HT.sIx xs.length 0 lo)).take (HT.sIx xs.length xs.length hi - HT.sIx xs.length 0 lo)
theorem cutV_length (xs : List V) (lo hi : Option Int) : (cutV xs lo hi).length ≤ xs.length := by
  unfold cutV
  rw [List.length_take, List.length_drop]
  omega
/-- t[lo:hi], not the whole of it (the whole would be t itself) -/
def rSlT (K : PySem.W.Frag) : V → Option Int → Option Int → Hp → VK → Prop := fun x lo hi H Q => ∃ a xs, x = .ref a ∧ SqT K H a xs ∧
  ¬ (HT.sIx xs.length 0 lo = 0 ∧ HT.sIx xs.length xs.length hi = xs.length) ∧ ∀ p, H p = none → Q (.ref p) (upd H p (.tup (cutV xs lo hi)))
theorem sl_tup : SlR X (rSlT X.K) := by
  intro pins s σ H x v vl vu lo hi sl Q I rx hs pl pu h
  obtain ⟨a, xs, rfl, hx, hw, q⟩ := h
  cases rx
  obtain ⟨its, r, ht, hz⟩ := I.tuple hx
  have hlen : its.toArray.size = xs.length := by rw [List.size_toArray]; exact r.length.symm
  refine ⟨"tuple", _, PyProof.Rows.slot_tuple_getitem.lookup, ht.typeIs, ?_⟩
  refine HT.getItem_tuple_cut ht hs pl pu (by rw [hlen]; exact hw) ?_ (by rw [hlen]; exact hz)
  rw [hlen]
  refine ⟨.ref s.heap.objs.size, _, I.laid (t' := s.toks) (o := .tup (cutV xs lo hi)) (fun b ob q => Heap.get?_push_of_some _ q) (Nat.le_refl _) ?_, rfl, q _ (I.hok.fresh (Nat.le_refl _))⟩
  exact ⟨Nat.le_trans (cutV_length xs lo hi) hz, _, (r.drop (HT.sIx xs.length 0 lo)).take (HT.sIx xs.length xs.length hi - HT.sIx xs.length 0 lo), IsTup.new _ _⟩

/-! ### t < u, t + u -/
end
end L2

namespace L2
open PySem PySem.Spec PyProof.Rows

/-! ### places -/
/-- the place that an index of any sign means -/
def ixN (n : Nat) (i : Int) : Option Nat := if 0 ≤ i then (if i < n then some i.toNat else none) else if -(n : Int) ≤ i then some (i + n).toNat else none
def atI {α : Type} (xs : List α) (i : Int) : Option α := (ixN xs.length i).bind fun j => xs[j]?
theorem ixN_seq {n : Nat} {i : Int} {j : Nat} (h : ixN n i = some j) : seqIndex? i n = some j ∧ j < n ∧ -(n : Int) ≤ i ∧ i < n := by
  unfold ixN at h
  by_cases h0 : 0 ≤ i
  · rw [if_pos h0] at h
    by_cases h1 : i < n
    · rw [if_pos h1] at h
      have e : i.toNat = j := Option.some.inj h
      exact ⟨by rw [seqIndex_of h0 h1, e], by omega, by omega, h1⟩
    · rw [if_neg h1] at h; cases h
  · rw [if_neg h0] at h
    by_cases h1 : -(n : Int) ≤ i
    · rw [if_pos h1] at h
      have e : (i + n).toNat = j := Option.some.inj h
      exact ⟨by rw [seqIndex_neg (by omega) h1, e], by omega, h1, by omega⟩
    · rw [if_neg h1] at h; cases h
theorem atI_get {α : Type} {xs : List α} {i : Int} {v : α} (h : atI xs i = some v) : ∃ j, seqIndex? i xs.length = some j ∧ xs[j]? = some v ∧ j < xs.length ∧ -(xs.length : Int) ≤ i ∧ i < xs.length := by
  unfold atI at h
  cases e : ixN xs.length i with
  | none => rw [e] at h; cases h
  | some j =>
    rw [e] at h
    obtain ⟨h1, h2, h3, h4⟩ := ixN_seq e
    exact ⟨j, h1, h, h2, h3, h4⟩
theorem atI_nat {α : Type} {xs : List α} {j : Nat} {v : α} (h : xs[j]? = some v) : atI xs (j : Int) = some v := by
  have hj : j < xs.length := (List.getElem?_eq_some_iff.mp h).1
  have e : ixN xs.length (j : Int) = some j := by
    unfold ixN
    rw [if_pos (by omega), if_pos (by omega)]; simp
  unfold atI; rw [e]; exact h

/-! ### what may be subscripted -/
/-- what stands as an index of a plain subscript -/
def PlainIx (b : Expr) : Prop := ∀ o i, subscripted b false o i = operate [o, i] (getItem o i)
/-- a subscript by values -/
def IxR (X : Cx) (r : R2) : Prop :=
  ∀ (value slice : Expr) (pins : List (Addr × Obj)) (s : Shared) (σ : St) (H : Hp) (x y : V) (v u : Value) (Q : VK), Inv X pins σ H s → RelV x v → RelV y u → r x y H Q →
    subscripted slice false v u = operate [v, u] (getItem v u) → wpAny (model X.prog X.w) X.A (subscriptTail value slice v u) (EP X pins σ Q) X.xe s
/-- a call of a builtin's method by values: the receiver, the arguments -/
def MtR (X : Cx) (id : String) (r : V → List V → Hp → VK → Prop) : Prop :=
  ∀ (pins : List (Addr × Obj)) (s : Shared) (σ : St) (H : Hp) (x : V) (xs : List V) (v : Value) (us : List Value) (Q : VK), Inv X pins σ H s → RelV x v → Vals xs us → r x xs H Q →
    wpAny (model X.prog X.w) X.A (call (.builtin id) (v :: us)) (EP X pins σ Q) X.xe s
section
variable {X : Cx} {a b : Expr} {ta tb : TE} {pos : Pos}
/-- a[b] -/
theorem pe_ix {r : R2} (hr : IxR X r) (ha : PE X a ta) (hb : PE X b tb) (hs : PlainIx b) : PE X (.Subscript a b pos) (tOp r ta tb) := by
  intro pins s σ H Q I h
  exact Subscript_ (binT ha hb I h fun v u s2 x y H2 I2 rx ry q => hr a b pins s2 σ H2 x y v u Q I2 rx ry q (hs _ _))

def rIxL (K : PySem.W.Frag) : R2 := fun x y H Q => ∃ p xs i v, x = .ref p ∧ y = .int i ∧ SqL K H p xs ∧ atI xs i = some v ∧ Q v H
def rIxT (K : PySem.W.Frag) : R2 := fun x y H Q => ∃ p xs i v, x = .ref p ∧ y = .int i ∧ SqT K H p xs ∧ atI xs i = some v ∧ Q v H
theorem ix_list : IxR X (rIxL X.K) := by
  intro value slice pins s σ H x y v u Q I rx ry h hs
  obtain ⟨p, xs, i, z, rfl, rfl, hq, he, q⟩ := h
  cases rx
  obtain ⟨t, rfl⟩ := ry
  obtain ⟨its, r, pl, hz⟩ := I.list hq
  obtain ⟨j, h1, h2, h3, h4, h5⟩ := atI_get he
  obtain ⟨w, ew, rw'⟩ := r.get h2
  have hl := r.length
  have hn := line63
  have fin : EP X pins σ Q w s := ⟨z, H, I, rw', q⟩
  by_cases h0 : 0 ≤ i
  · have hj : i.toNat = j := by
      rw [seqIndex_of h0 h5] at h1
      exact Option.some.inj h1
    exact item_listR pl.isList h0 (by omega) (by rw [hj]; simpa using ew) fin hs
  · have hj : (i + (its.toArray.size : Int)).toNat = j := by
      rw [seqIndex_neg (by omega) h4] at h1
      rw [List.size_toArray, ← hl]
      exact Option.some.inj h1
    exact subscriptTail_builtinR (x := w) pl.isList.typeIs slot_list_getitem.lookup
      (wpAny_getItem_list_neg (Q := fun r s' => r = w ∧ EP X pins σ Q r s') pl.isList (by omega) (by rw [List.size_toArray] <;> omega) (by omega) (by rw [hj]; simpa using ew) ⟨rfl, fin⟩) hs
theorem ix_tup : IxR X (rIxT X.K) := by
  intro value slice pins s σ H x y v u Q I rx ry h hs
  obtain ⟨p, xs, i, z, rfl, rfl, hq, he, q⟩ := h
  cases rx
  obtain ⟨t, rfl⟩ := ry
  obtain ⟨its, r, pl, hz⟩ := I.tuple hq
  obtain ⟨j, h1, h2, h3, h4, h5⟩ := atI_get he
  obtain ⟨w, ew, rw'⟩ := r.get h2
  have hl := r.length
  have hn := line63
  have fin : EP X pins σ Q w s := ⟨z, H, I, rw', q⟩
  exact subscriptTail_builtinR (x := w) pl.typeIs slot_tuple_getitem.lookup
    (getItem_tuple (j := j) (Q := fun r s' => r = w ∧ EP X pins σ Q r s') pl (by omega) (by omega) (by rw [List.size_toArray, ← hl]; exact h1) (by simpa using ew) ⟨rfl, fin⟩) hs

/-! ### xs[i] = v, any sign -/
/-- the list's object behind a store -/
theorem mapSeq_set (its : List Value) (n j : Nat) (u : Value) : Obj.mapSeq (·.setIfInBounds j u) { cls := .type "list", data := .seq its.toArray n } = { cls := .type "list", data := .seq (its.set j u).toArray n } := by
  simp [Obj.mapSeq]
theorem Inv.lst {pins : List (Addr × Obj)} {σ : St} {H : Hp} {s : Shared} {p : Addr} {xs : List V} (I : Inv X pins σ H s) (h : H p = some (.lst xs)) :
    ∃ (its : List Value) (n : Nat), Vals xs its ∧ s.heap.get? p = some { cls := .type "list", data := .seq its.toArray n } ∧ xs.length ≤ sizeLine := by
  obtain ⟨z, its, n, r, e⟩ := I.hok p _ h
  exact ⟨its, n, r, e, z⟩
/-- the list at p is written by an update of its object -/
theorem Inv.lstUpd {pins : List (Addr × Obj)} {σ : St} {H : Hp} {s : Shared} {p : Addr} {xs ys : List V} {its its' : List Value} {n n' : Nat} {f : Obj → Obj} (I : Inv X pins σ H s) (h : H p = some (.lst xs))
    (ho : s.heap.get? p = some { cls := .type "list", data := .seq its.toArray n }) (hf : f { cls := .type "list", data := .seq its.toArray n } = { cls := .type "list", data := .seq its'.toArray n' }) (r : Vals ys its') (hz : ys.length ≤ sizeLine) (t : Nat) :
    Inv X pins σ (upd H p (.lst ys)) { s with heap := s.heap.update p f, toks := t } := by
  have e : (s.heap.update p f).get? p = some { cls := .type "list", data := .seq its'.toArray n' } := by
    rw [Heap.get?_update_self f ho (by rw [hf] <;> rfl), hf]
  refine I.write (x := p) (e := p) (by rw [h]; trivial) (.inl rfl) (fun b u hb q => (Heap.get?_update_other _ _ (Ne.symm hb)).trans q) ⟨_, e⟩ ?_
  exact ⟨hz, its', n', r, e⟩
def rSetL : V → V → V → Hp → (Hp → Prop) → Prop := fun o i v H Q => ∃ p xs k j, o = .ref p ∧ i = .int k ∧ H p = some (.lst xs) ∧ ixN xs.length k = some j ∧ Q (upd H p (.lst (xs.set j v)))
theorem set_list : PSet X rSetL := by
  intro pins s σ H o i v ov iv u Q I ro ri rv h
  obtain ⟨p, xs, k, j, rfl, rfl, hp, hj, q⟩ := h
  cases ro
  obtain ⟨t, rfl⟩ := ri
  obtain ⟨its, n, r, ho, hz⟩ := I.lst hp
  obtain ⟨h1, h2, h3, h4⟩ := ixN_seq hj
  have hl := r.length
  have hn := line63
  have I' : Inv X pins σ (upd H p (.lst (xs.set j v))) { s with heap := s.heap.update p (Obj.mapSeq (·.setIfInBounds j u)) } :=
    I.lstUpd hp ho (mapSeq_set its n j u) (r.set rv j) (by rw [List.length_set]; exact hz) s.toks
  by_cases h0 : 0 ≤ k
  · have hk : k.toNat = j := by
      rw [seqIndex_of h0 h4] at h1
      exact Option.some.inj h1
    exact PySem.W.ki_setAt ho h0 (by omega) (by rw [List.size_toArray, ← hl]; exact h4) (by rw [hk]; exact ⟨_, I', q⟩)
  · have hk : (k + (its.toArray.size : Int)).toNat = j := by
      rw [seqIndex_neg (by omega) h3] at h1
      rw [List.size_toArray, ← hl]
      exact Option.some.inj h1
    exact PySem.W.ki_setBack ho (by omega) (by rw [List.size_toArray, ← hl]; exact h3) (by omega) (by rw [hk]; exact ⟨_, I', q⟩)

/-! ### slices -/
theorem slice_bounds (lo hi : Option Int) (n : Nat) : (sliceBounds lo hi none n).1 = ((HT.sIx n 0 lo : Nat) : Int) ∧ (sliceBounds lo hi none n).2.1 = ((HT.sIx n n hi : Nat) : Int) ∧ (sliceBounds lo hi none n).2.2 = 1 := by
  refine ⟨?_, ?_, rfl⟩
  · cases lo with
    | none => simp [sliceBounds, HT.sIx]
    | some i =>
      simp only [sliceBounds, HT.sIx, Option.getD_none, show (1 : Int) > 0 by decide, if_true]
      by_cases h : i < 0
      · simp only [h, if_true] <;> omega
      · simp only [h, if_false] <;> omega
  · cases hi with
    | none => simp [sliceBounds, HT.sIx]
    | some i =>
      simp only [sliceBounds, HT.sIx, Option.getD_none, show (1 : Int) > 0 by decide, if_true]
      by_cases h : i < 0
      · simp only [h, if_true] <;> omega
      · simp only [h, if_false] <;> omega
theorem slicePick_cut (its : List Value) (lo hi : Option Int) : slicePick its.toArray lo hi none = ((its.drop (HT.sIx its.length 0 lo)).take (HT.sIx its.length its.length hi - HT.sIx its.length 0 lo)).toArray := by
  obtain ⟨h1, h2, h3⟩ := slice_bounds lo hi its.toArray.size
  unfold slicePick
  rw [h1, h2, h3]
  simp only [sliceRange_one, pick_run, List.size_toArray] <;> rfl
/-- xs[lo:hi] of a list: a new list -/
def rSlL (K : PySem.W.Frag) : V → Option Int → Option Int → Hp → VK → Prop := fun x lo hi H Q => ∃ a xs, x = .ref a ∧ SqL K H a xs ∧ ∀ p, H p = none → Q (.ref p) (upd H p (.lst (cutV xs lo hi)))
theorem sl_list : SlR X (rSlL X.K) := by
  intro pins s σ H x v vl vu lo hi sl Q I rx hs pl pu h
  obtain ⟨a, xs, rfl, hx, q⟩ := h
  cases rx
  obtain ⟨its, r, ht, hz⟩ := I.list hx
  have hlen := r.length
  refine ⟨"list", _, slot_list_getitem.lookup, ht.isList.typeIs, ?_⟩
  refine wpAny_getItem_list_slice ht.isList hs pl pu .none (by simp) ?_ (by rw [List.size_toArray] <;> omega)
  rw [slicePick_cut, ← hlen]
  refine ⟨.ref s.heap.objs.size, _, I.laid (t' := s.toks) (o := .lst (cutV xs lo hi)) (fun b ob q => Heap.get?_push_of_some _ q) (Nat.le_refl _) ?_, rfl, q _ (I.hok.fresh (Nat.le_refl _))⟩
  exact ⟨Nat.le_trans (cutV_length xs lo hi) hz, _, 0, (r.drop (HT.sIx xs.length 0 lo)).take (HT.sIx xs.length xs.length hi - HT.sIx xs.length 0 lo), Heap.get?_push_size _ rfl⟩

/-! ### in, not in: flat items -/
def flatV : V → Bool
  | .non => true
  | .bl _ => true
  | .int _ => true
  | .str _ => true
  | _ => false
/-- == of flat values -/
def eqV : V → V → Bool
  | .non, .non => true
  | .bl a, .bl b => a == b
  | .bl a, .int b => (if a then 1 else 0) == b
  | .int a, .bl b => a == (if b then 1 else 0)
  | .int a, .int b => a == b
  | .str a, .str b => a == b
  | _, _ => false
theorem eqAt_V {A : Around} {s : Shared} {y x : V} {u v : Value} (ry : RelV y u) (rx : RelV x v) (fy : flatV y = true) (fx : flatV x = true) : SeqAt.EqAt A s u v (eqV y x) := by
  cases y with
  | non =>
    cases ry
    cases x with
    | non => cases rx; exact SeqAt.EqAt.same _
    | bl b => cases rx; exact SeqAt.EqAt.none_bool b
    | int b => obtain ⟨t, rfl⟩ := rx; exact SeqAt.EqAt.none_int b t
    | str b => obtain ⟨t, rfl⟩ := rx; exact SeqAt.EqAt.none_str b t
    | _ => exact absurd (show false = true from fx) Bool.false_ne_true
  | bl a =>
    cases ry
    cases x with
    | non => cases rx; exact SeqAt.EqAt.bool_none a
    | bl b => cases rx; exact SeqAt.EqAt.bool_bool a b
    | int b => obtain ⟨t, rfl⟩ := rx; exact SeqAt.EqAt.bool_int a b t
    | str b => obtain ⟨t, rfl⟩ := rx; exact SeqAt.EqAt.bool_str a b t
    | _ => exact absurd (show false = true from fx) Bool.false_ne_true
  | int a =>
    obtain ⟨t', rfl⟩ := ry
    cases x with
    | non => cases rx; exact SeqAt.EqAt.int_none a t'
    | bl b => cases rx; exact SeqAt.EqAt.int_bool a t' b
    | int b => obtain ⟨t, rfl⟩ := rx; exact SeqAt.EqAt.int_int a t' b t
    | str b => obtain ⟨t, rfl⟩ := rx; exact SeqAt.EqAt.int_str a t' b t
    | _ => exact absurd (show false = true from fx) Bool.false_ne_true
  | str a =>
    obtain ⟨t', rfl⟩ := ry
    cases x with
    | non => cases rx; exact SeqAt.EqAt.str_none a t'
    | bl b => cases rx; exact SeqAt.EqAt.str_bool a t' b
    | int b => obtain ⟨t, rfl⟩ := rx; exact SeqAt.EqAt.str_int a t' b t
    | str b => obtain ⟨t, rfl⟩ := rx; exact SeqAt.EqAt.str_str a t' b t
    | _ => exact absurd (show false = true from fx) Bool.false_ne_true
  | _ => exact absurd (show false = true from fy) Bool.false_ne_true
/-- the items' answers, read off the values (a value's own answer does not lean on its token) -/
def eqU (x : V) (u : Value) : Bool := match u with
  | .none => eqV .non x
  | .bool b => eqV (.bl b) x
  | .int i _ => eqV (.int i) x
  | .str z _ => eqV (.str z) x
  | _ => false
theorem eqU_of {x y : V} {u : Value} (r : RelV y u) (f : flatV y = true) : eqU x u = eqV y x := by
  cases y with
  | non => cases r; rfl
  | bl b => cases r; rfl
  | int i => obtain ⟨t, rfl⟩ := r; rfl
  | str z => obtain ⟨t, rfl⟩ := r; rfl
  | _ => exact absurd (show false = true from f) Bool.false_ne_true
theorem any_eqU {x : V} : ∀ {xs : List V} {us : List Value}, Vals xs us → xs.all flatV = true → us.any (eqU x) = xs.any fun y => eqV y x
  | _, _, .nil, _ => rfl
  | y :: xs, u :: us, .cons r t, f => by
    rw [List.all_cons, Bool.and_eq_true] at f
    rw [List.any_cons, List.any_cons, eqU_of r f.1, any_eqU t f.2]
theorem mem_eqAt {A : Around} {s : Shared} {x : V} {v : Value} (rx : RelV x v) (fx : flatV x = true) : ∀ {xs : List V} {us : List Value}, Vals xs us → xs.all flatV = true → ∀ u ∈ us, SeqAt.EqAt A s u v (eqU x u)
  | _, _, .nil, _ => fun u hu => by cases hu
  | y :: xs, u :: us, .cons r t, f => fun u' hu => by
    rw [List.all_cons, Bool.and_eq_true] at f
    rcases List.mem_cons.mp hu with rfl | hu
    · rw [eqU_of r f.1]; exact eqAt_V r rx f.1 fx
    · exact mem_eqAt rx fx t f.2 u' hu
def inV (x : V) (xs : List V) : Bool := xs.any fun y => eqV y x
/-- x in a list or tuple of flat items -/
def rIn (K : PySem.W.Frag) (neg : Bool) : R2 := fun x y H Q => ∃ p xs, y = .ref p ∧ (SqL K H p xs ∨ SqT K H p xs) ∧ flatV x = true ∧ xs.all flatV = true ∧ Q (.bl (if neg then !inV x xs else inV x xs)) H
theorem op_in_seq : OpR X (compareOp .In) (rIn X.K false) := by
  intro pins s σ H x y v u Q I rx ry h
  obtain ⟨p, xs, rfl, hq, fx, fs, q⟩ := h
  cases ry
  rcases hq with hq | hq
  · obtain ⟨its, r, pl, hz⟩ := I.list hq
    refine SeqAt.in_listAt (eqU x) pl.isList (fun w hw => mem_eqAt rx fx r fs w (by simpa using hw)) ⟨.bl _, H, I, rfl, ?_⟩
    rw [show its.toArray.any (eqU x) = its.any (eqU x) by simp, any_eqU r fs]
    exact q
  · obtain ⟨its, r, pl, hz⟩ := I.tuple hq
    refine SeqAt.in_tupleAt (eqU x) pl (fun w hw => mem_eqAt rx fx r fs w (by simpa using hw)) ⟨.bl _, H, I, rfl, ?_⟩
    rw [show its.toArray.any (eqU x) = its.any (eqU x) by simp, any_eqU r fs]
    exact q

/-! ### len, list(x), tuple(x) of any list or tuple that is read -/
theorem call_len_seq : CallR X (.builtin "len") (fun xs H Q => ∃ p ys, xs = [.ref p] ∧ (SqL X.K H p ys ∨ SqT X.K H p ys) ∧ Q (.int ys.length) H) := by
  intro pins s σ H xs us Q I r h
  obtain ⟨p, ys, rfl, hq, q⟩ := h
  obtain ⟨u, rfl, rx⟩ := vals1 r
  cases rx
  have hn := line63
  rcases hq with hq | hq
  · obtain ⟨its, r', pl, hz⟩ := I.list hq
    have hlen := r'.length
    exact Calls.call_len_list pl.isList (by simp only [List.size_toArray] <;> omega) ⟨.int ys.length, H, I.tok _, ⟨s.toks + 1, by rw [List.size_toArray, hlen]⟩, q⟩
  · obtain ⟨its, r', pl, hz⟩ := I.tuple hq
    have hlen := r'.length
    exact len_tuple pl (by simp only [List.size_toArray] <;> omega) ⟨.int ys.length, H, I.tok _, ⟨s.toks + 1, by rw [List.size_toArray, hlen]⟩, q⟩
theorem call_list_of : CallR X (.type "list") (fun xs H Q => ∃ p ys, xs = [.ref p] ∧ (SqL X.K H p ys ∨ SqT X.K H p ys) ∧ ∀ l, H l = none → Q (.ref l) (upd H l (.lst ys))) := by
  intro pins s σ H xs us Q I r h
  obtain ⟨p, ys, rfl, hq, q⟩ := h
  obtain ⟨u, rfl, rx⟩ := vals1 r
  cases rx
  have fin : ∀ (its : List Value), Vals ys its → ys.length ≤ sizeLine → ∀ (h' : Heap) (c' : Nat), (∀ b o', s.heap.get? b = some o' → h'.get? b = some o') →
      h'.get? s.heap.objs.size = some { cls := .type "list", dict := none, data := .seq its.toArray c', slots := #[] } → EP X pins σ Q (.ref s.heap.objs.size) { s with heap := h' } := fun its r' hz h' c' kp e =>
    ⟨.ref s.heap.objs.size, _, I.laid (t' := s.toks) kp (Nat.le_refl _) (show ObjOk X.prog X.w _ h' _ (.lst ys) from ⟨hz, its, c', r', e⟩), rfl, q _ (I.hok.fresh (Nat.le_refl _))⟩
  rcases hq with hq | hq
  · obtain ⟨its, r', pl, hz⟩ := I.list hq
    have hlen := r'.length
    obtain ⟨o, ho, hc, n, hd⟩ := pl.isList
    exact call_list_seq p (.inl rfl) ho hc hd (fun h' c' kp e => fin its r' hz h' c' kp e) (by simp only [List.size_toArray] <;> omega)
  · obtain ⟨its, r', pl, hz⟩ := I.tuple hq
    have hlen := r'.length
    obtain ⟨o, ho, hc, n, hd⟩ := pl
    exact call_list_seq p (.inr rfl) ho hc hd (fun h' c' kp e => fin its r' hz h' c' kp e) (by simp only [List.size_toArray] <;> omega)

/-! ### the call of a builtin's method: o.m(..) -/
/-- the value is of that builtin type -/
def tyV (K : PySem.W.Frag) (T : String) (x : V) (H : Hp) : Prop := match x with
  | .str _ => T = "str"
  | .int _ => T = "int"
  | .ref p => (T = "list" ∧ ∃ xs, SqL K H p xs) ∨ (T = "tuple" ∧ ∃ o, K.lookup p = some o ∧ o.cls = .type "tuple" ∧ o.dict = none) ∨
      (T = "dict" ∧ ((∃ kvs, H p = some (.dK kvs)) ∨ ∃ kvs, H p = some (.dT kvs))) ∨ (T = "set" ∧ ∃ S n, H p = some (.set S n))
  | _ => False
theorem tyV_is {pins : List (Addr × Obj)} {σ : St} {H : Hp} {s : Shared} {T : String} {x : V} {v : Value} (I : Inv X pins σ H s) (r : RelV x v) (ty : tyV X.K T x H) :
    s.TypeIs v T ∧ ∀ a, v = .ref a → ∃ ob, s.heap.get? a = some ob ∧ ob.dict = none := by
  cases x with
  | str z =>
    obtain ⟨t, rfl⟩ := r
    cases (show T = "str" from ty)
    exact ⟨typeIs_str s z t, fun _ e => nomatch e⟩
  | int i =>
    obtain ⟨t, rfl⟩ := r
    cases (show T = "int" from ty)
    exact ⟨typeIs_int s i t, fun _ e => nomatch e⟩
  | ref p =>
    cases r
    rcases ty with ⟨rfl, xs, hq⟩ | ⟨rfl, o, hk, hc, hd⟩ | ⟨rfl, hk⟩ | ⟨rfl, S, n, hk⟩
    · obtain ⟨its, _, pl, _⟩ := I.list hq
      refine ⟨pl.isList.typeIs, fun a e => ?_⟩
      cases e
      obtain ⟨o, n, e, c, hd, _⟩ := pl
      exact ⟨o, e, hd⟩
    · refine ⟨⟨o, I.kIn p o hk, hc⟩, fun a e => ?_⟩
      cases e
      exact ⟨o, I.kIn _ o hk, hd⟩
    · have z : ∃ o, s.heap.get? p = some o ∧ o.ExactDict := by
        rcases hk with ⟨kvs, hk⟩ | ⟨kvs, hk⟩
        · obtain ⟨_, _, _, _, o, _, _, e, ex, _⟩ := I.hok p _ hk
          exact ⟨o, e, ex⟩
        · obtain ⟨_, _, _, _, o, _, _, e, ex, _⟩ := I.hok p _ hk
          exact ⟨o, e, ex⟩
      obtain ⟨o, e, ex⟩ := z
      refine ⟨⟨o, e, ex.1⟩, fun a e2 => ?_⟩
      cases e2
      exact ⟨o, e, ex.2.1⟩
    · obtain ⟨o, _, _, _, e, ex, _⟩ := I.hok p _ hk
      refine ⟨⟨o, e, ex.1⟩, fun a e2 => ?_⟩
      cases e2
      exact ⟨o, e, ex.2.1⟩
  | _ => exact False.elim ty
def tBM0 (K : PySem.W.Frag) (T : String) (r : V → List V → Hp → VK → Prop) (to : TE) : TE := fun σ H Q => to σ H fun x H1 => tyV K T x H1 ∧ r x [] H1 Q
def tBM (K : PySem.W.Frag) (T : String) (r : V → List V → Hp → VK → Prop) (to : TE) (t : TA) : TE := fun σ H Q => to σ H fun x H1 => tyV K T x H1 ∧ t σ H1 fun xs H2 => r x xs H2 Q
variable {o e : Expr} {es : List Expr} {to : TE} {t : TA} {name : Str} {apos cpos : Pos} {T id : String} {r : V → List V → Hp → VK → Prop}
theorem pe_bm0 (pa : PlainAttrs T) (slot : Slot T name id) (hty : typeOf (.builtin id) = pure (.type "method_descriptor")) (hm : MtR X id r) (ho : PE X o to)
    (hbase : attributeBase o name X.env (eval o X.env) = eval o X.env := by rfl) (hline : (apos.endLine == cpos.line) = true := by rfl) : PE X (.Call (.Attribute o name apos) [] [] cpos) (tBM0 X.K T r to) := by
  intro pins s σ H Q I h
  refine wpAny_Call_method0_late hbase hline (thn (ho pins s σ H _ I h) fun v s1 ⟨x, H1, I1, r1, ty, q1⟩ => ?_)
  obtain ⟨h1, h2⟩ := tyV_is I1 r1 ty
  exact ⟨T, id, pa, slot, hty, h1, h2, Calls.callWith_builtin rfl (PySem.evalArgs_none (hm pins s1 σ H1 x [] v [] Q I1 r1 .nil q1))⟩
theorem pe_bm (pa : PlainAttrs T) (slot : Slot T name id) (hty : typeOf (.builtin id) = pure (.type "method_descriptor")) (hm : MtR X id r) (ho : PE X o to) (ha : PA X (e :: es) t)
    (hbase : attributeBase o name X.env (eval o X.env) = eval o X.env := by rfl)
    (hfew : ((backTo cpos (starEach (e :: es) X.env)).all (fun x => !x.1) && (backToKw cpos (keywordEach [] X.env)).all (fun x => x.1.isSome)
      && decide ((e :: es).length + ([] : List Keyword).length + (if ([] : List Keyword).isEmpty then 0 else 1) < 30)) = true := by rfl)
    (hline : (apos.endLine == cpos.line) = true := by rfl) (hs : starEach (e :: es) X.env = (false, eval e X.env) :: starEach es X.env := by rfl) (hplain : (backTo cpos (starEach es X.env)).any (·.1) = false := by rfl) :
    PE X (.Call (.Attribute o name apos) (e :: es) [] cpos) (tBM X.K T r to t) := by
  intro pins s σ H Q I h
  refine wpAny_Call_method_late hbase hfew hline rfl (thn (ho pins s σ H _ I h) fun v s1 ⟨x, H1, I1, r1, ty, q1⟩ => ?_)
  obtain ⟨h1, h2⟩ := tyV_is I1 r1 ty
  refine ⟨T, id, pa, slot, hty, h1, h2, ?_⟩
  have hA := ha cpos pins s1 σ H1 _ I1 q1
  rw [hs] at hA ⊢
  refine Calls.callWith_builtin (by show (false || (backTo cpos (starEach es X.env)).any (·.1)) = false; rw [hplain] <;> rfl) (Calls.evalArgs_plain ?_)
  exact thn hA fun us s2 ⟨vs, H2, I2, r2, q2⟩ => hm pins s2 σ H2 x vs v us Q I2 r1 r2 q2
/- xs.append(e), list.index on a module's tuple .. are MtR facts of 06m -/
end
end L2

namespace L2
open PySem PySem.Spec PyProof.Rows

def MtM (X : Cx) (id : String) (r : V → List V → Hp → VK → Prop) : Prop :=
  ∀ (pins : List (Addr × Obj)) (s : Shared) (σ : St) (H : Hp) (x : V) (xs : List V) (v : Value) (us : List Value) (Q : VK), Inv X pins σ H s → RelV x v → Vals xs us → r x xs H Q →
    wpAny (model X.prog X.w) X.A (call (.builtin id) (v :: us)) (EP X pins σ Q) X.xe s

/-! ### lists of values -/
theorem Vals.one : ∀ {x : V} {us : List Value}, Vals [x] us → ∃ u, us = [u] ∧ RelV x u
  | _, _, .cons r .nil => ⟨_, rfl, r⟩
theorem Vals.zero : ∀ {us : List Value}, Vals [] us → us = []
  | _, .nil => rfl
theorem Vals.dropLast {xs : List V} {us : List Value} (h : Vals xs us) : Vals xs.dropLast us.dropLast := by
  induction h with
  | nil => exact .nil
  | cons r t ih =>
    cases t with
    | nil => exact .nil
    | cons q t' => exact .cons r ih
theorem Vals.eraseIdx : ∀ {xs : List V} {us : List Value} (i : Nat), Vals xs us → Vals (xs.eraseIdx i) (us.eraseIdx i)
  | _, _, _, .nil => .nil
  | _, _, 0, .cons _ t => t
  | _, _, i + 1, .cons r t => .cons r (Vals.eraseIdx i t)
theorem erase_last {α : Type} (l : List α) : l.eraseIdx (l.length - 1) = l.dropLast := by
  induction l with
  | nil => rfl
  | cons a r ih =>
    cases r with
    | nil => rfl
    | cons b r =>
      have e : (a :: b :: r).length - 1 = ((b :: r).length - 1) + 1 := by
        have h1 : (a :: b :: r).length = r.length + 2 := rfl
        have h2 : (b :: r).length = r.length + 1 := rfl
        omega
      rw [e, List.eraseIdx_cons_succ, ih]
      all_goals rfl
theorem len_erase {α : Type} : ∀ (l : List α) (i : Nat), (l.eraseIdx i).length ≤ l.length
  | [], _ => Nat.le_refl _
  | _ :: _, 0 => Nat.le_succ _
  | _ :: r, i + 1 => Nat.succ_le_succ (len_erase r i)

section
variable {X : Cx} {pins : List (Addr × Obj)} {σ : St} {H : Hp} {s : Shared} {l b : Addr} {xs ys zs : List V}

/-! ### the two steps: a tracked list is rewritten, a new list is laid -/
theorem Inv.lset {its its' : List Value} {n : Nat} {f : Array Value → Array Value} {t' : Nat} (I : Inv X pins σ H s) (hH : H l = some (.lst xs))
    (e : s.heap.get? l = some { cls := .type "list", data := .seq its.toArray n }) (hf : f its.toArray = its'.toArray) (hv : Vals ys its') (hz : ys.length ≤ sizeLine) :
    Inv X pins σ (upd H l (.lst ys)) { s with heap := s.heap.update l (Obj.mapSeq f), toks := t' } := by
  have q := PySem.IsL.update e f
  rw [hf] at q
  refine I.write (x := l) (e := l) (by rw [hH]; exact trivial) (.inl rfl) (fun b' u hb hu => (Heap.get?_update_other s.heap (Obj.mapSeq f) (Ne.symm hb)).trans hu) ⟨_, q⟩ ?_
  exact ⟨hz, its', _, hv, q⟩
theorem Inv.lnew {its : List Value} {t' : Nat} (I : Inv X pins σ H s) (hv : Vals ys its) (hz : ys.length ≤ sizeLine) :
    Inv X pins σ (upd H s.heap.objs.size (.lst ys)) { s with heap := s.heap.push { cls := .type "list", data := .seq its.toArray }, toks := t' } :=
  I.laid (fun _ _ q => Heap.get?_push_of_some _ q) (Nat.le_refl _) ⟨hz, its, 0, hv, Heap.get?_push_size _ rfl⟩
theorem Inv.fresh (I : Inv X pins σ H s) : H s.heap.objs.size = none := I.hok.fresh (Nat.le_refl _)
theorem Inv.lstM (I : Inv X pins σ H s) (hH : H l = some (.lst xs)) : xs.length ≤ sizeLine ∧ ∃ (its : List Value) (n : Nat), Vals xs its ∧ xs.length = its.length ∧ s.heap.get? l = some { cls := .type "list", data := .seq its.toArray n } := by
  obtain ⟨z, its, n, r, e⟩ := I.hok l _ hH
  exact ⟨z, its, n, r, r.length, e⟩

theorem notLongL {n : Nat} (h : n ≤ sizeLine) : Builtin.List.listTooLong n = false := by
  unfold Builtin.List.listTooLong
  exact decide_eq_false (by omega)
end

section
variable {X : Cx}

/-! ### methods -/
def rAppend : V → List V → Hp → VK → Prop := fun x vs H Q => ∃ l xs y, x = .ref l ∧ vs = [y] ∧ H l = some (.lst xs) ∧ xs.length < sizeLine ∧ Q .non (upd H l (.lst (xs ++ [y])))
theorem mt_append : MtM X "list.append" rAppend := by
  intro pins s σ H x vs v us Q I rx rv h
  obtain ⟨l, xs, y, rfl, rfl, hH, hz, q⟩ := h
  cases rx
  obtain ⟨u, rfl, ru⟩ := rv.one
  obtain ⟨z, its, n, r, hl, e⟩ := I.lstM hH
  refine call_meets F.slot_list_append ⟨_, e, rfl⟩ F.entry_list_append (F.args_list_append_2 _ _) (PySem.list_append l its.toArray n u (by rw [List.size_toArray]; omega)) ⟨e, ?_⟩
  refine ⟨.non, _, I.lset (its' := its ++ [u]) hH e (by simp) (r.append (.cons ru .nil)) ?_, rfl, q⟩
  rw [List.length_append, List.length_singleton]
  omega

def rExtend : V → List V → Hp → VK → Prop := fun x vs H Q => ∃ l b xs zs, x = .ref l ∧ vs = [.ref b] ∧ H l = some (.lst xs) ∧ H b = some (.lst zs) ∧ xs.length + zs.length ≤ sizeLine ∧ Q .non (upd H l (.lst (xs ++ zs)))
theorem mt_extend : MtM X "list.extend" rExtend := by
  intro pins s σ H x vs v us Q I rx rv h
  obtain ⟨l, b, xs, zs, rfl, rfl, hH, hB, hz, q⟩ := h
  cases rx
  obtain ⟨u, rfl, ru⟩ := rv.one
  cases ru
  obtain ⟨z, its, n, r, hl, e⟩ := I.lstM hH
  obtain ⟨z2, its2, n2, r2, hl2, e2⟩ := I.lstM hB
  have hsz : its.toArray.size + its2.toArray.size ≤ sizeLine := by rw [List.size_toArray, List.size_toArray]; omega
  have hlong : ¬ (!its.toArray.isEmpty && Builtin.List.listTooLong (its.toArray.size + its2.toArray.size)) = true := by
    rw [notLongL hsz, Bool.and_false]
    exact Bool.false_ne_true
  refine call_meets F.slot_list_extend ⟨_, e, rfl⟩ F.entry_list_extend (F.args_list_extend_2 _ _)
    (AutoSeq1.list_extend_list_list_0 l its.toArray n b its2.toArray n2 hlong (by rw [List.size_toArray]; omega) (by omega)) ⟨e, e2, ?_⟩
  refine ⟨.non, _, I.lset (its' := its ++ its2) hH e (by simp) (r.append r2) ?_, rfl, q⟩
  rw [List.length_append]
  omega

def rPop : V → List V → Hp → VK → Prop := fun x vs H Q => ∃ l xs y, x = .ref l ∧ vs = [] ∧ H l = some (.lst xs) ∧ xs[xs.length - 1]? = some y ∧ Q y (upd H l (.lst xs.dropLast))
theorem mt_pop : MtM X "list.pop" rPop := by
  intro pins s σ H x vs v us Q I rx rv h
  obtain ⟨l, xs, y, rfl, rfl, hH, hy, q⟩ := h
  cases rx
  have hus := rv.zero
  subst hus
  obtain ⟨z, its, n, r, hl, e⟩ := I.lstM hH
  obtain ⟨u, hu, ru⟩ := r.get hy
  have hy' : its.toArray[its.toArray.size - 1]? = some u := by
    show its.toArray[its.length - 1]? = some u
    rw [← Array.getElem?_toList, ← hl]
    exact hu
  refine call_meets F.slot_list_pop ⟨_, e, rfl⟩ F.entry_list_pop (F.args_list_pop_1 _) (MeetsSeq.list_pop_last l its.toArray n u hy' (by rw [List.size_toArray]; omega)) ⟨e, ?_⟩
  refine ⟨y, _, I.lset (its' := its.dropLast) hH e ?_ r.dropLast ?_, ru, q⟩
  · show its.toArray.eraseIdxIfInBounds (its.toArray.size - 1) = its.dropLast.toArray
    rw [List.size_toArray, List.eraseIdxIfInBounds_toArray, erase_last]
  · rw [List.length_dropLast]
    omega

def rPopAt : V → List V → Hp → VK → Prop := fun x vs H Q => ∃ l xs i k y, x = .ref l ∧ vs = [.int i] ∧ H l = some (.lst xs) ∧ -(2 ^ 63) ≤ i ∧ i < 2 ^ 63 ∧ seqIndex? i xs.length = some k ∧ xs[k]? = some y ∧ Q y (upd H l (.lst (xs.eraseIdx k)))
theorem mt_popAt : MtM X "list.pop" rPopAt := by
  intro pins s σ H x vs v us Q I rx rv h
  obtain ⟨l, xs, i, k, y, rfl, rfl, hH, h1, h2, hk, hy, q⟩ := h
  cases rx
  obtain ⟨u, rfl, ru⟩ := rv.one
  obtain ⟨t, rfl⟩ := ru
  obtain ⟨z, its, n, r, hl, e⟩ := I.lstM hH
  obtain ⟨w, hw, rw'⟩ := r.get hy
  refine call_meets F.slot_list_pop ⟨_, e, rfl⟩ F.entry_list_pop (F.args_list_pop_2 _ _)
    (MeetsSeq.list_pop_at l its.toArray n i t k w (fitsIndex_both h1 h2) (by rw [List.size_toArray, ← hl]; exact hk) (by rw [← Array.getElem?_toList]; exact hw) (by rw [List.size_toArray]; omega)) ⟨e, ?_⟩
  refine ⟨y, _, I.lset (its' := its.eraseIdx k) hH e ?_ (r.eraseIdx k) ?_, rw', q⟩
  · show its.toArray.eraseIdxIfInBounds k = (its.eraseIdx k).toArray
    rw [List.eraseIdxIfInBounds_toArray]
  · have := len_erase xs k
    omega


def rClear : V → List V → Hp → VK → Prop := fun x vs H Q => ∃ l xs, x = .ref l ∧ vs = [] ∧ H l = some (.lst xs) ∧ Q .non (upd H l (.lst []))
theorem mt_clear : MtM X "list.clear" rClear := by
  intro pins s σ H x vs v us Q I rx rv h
  obtain ⟨l, xs, rfl, rfl, hH, q⟩ := h
  cases rx
  have hus := rv.zero
  subst hus
  obtain ⟨z, its, n, r, hl, e⟩ := I.lstM hH
  refine call_meets F.slot_list_clear ⟨_, e, rfl⟩ F.entry_list_clear (F.args_list_clear_1 _) (AutoSeq1.list_clear_list_0 l its.toArray n (by rw [List.size_toArray]; omega)) ⟨e, ?_⟩
  exact ⟨.non, _, I.lset (its' := []) (ys := []) hH e rfl .nil (Nat.zero_le _), rfl, q⟩

/-! ### list + list, list += list, list * int -/
def rCat : R2 := fun x y H Q => ∃ l b xs zs, x = .ref l ∧ y = .ref b ∧ H l = some (.lst xs) ∧ H b = some (.lst zs) ∧ xs.length + zs.length ≤ sizeLine ∧ ∀ p, H p = none → Q (.ref p) (upd H p (.lst (xs ++ zs)))
theorem op_cat : OpR X (binaryOp .Add) rCat := by
  intro pins s σ H x y v u Q I rx ry h
  obtain ⟨l, b, xs, zs, rfl, rfl, hH, hB, hz, q⟩ := h
  cases rx
  cases ry
  obtain ⟨z, its, n, r, hl, e⟩ := I.lstM hH
  obtain ⟨z2, its2, n2, r2, hl2, e2⟩ := I.lstM hB
  refine PySem.P.add_list e e2 ?_ (by rw [List.size_toArray, List.size_toArray]; omega)
  have ea : its.toArray ++ its2.toArray = (its ++ its2).toArray := by simp
  rw [ea]
  exact ⟨.ref _, _, I.lnew (t' := s.toks) (r.append r2) (by rw [List.length_append]; omega), rfl, q _ I.fresh⟩

/-! ### del xs[i] -/
end

/-! ### xs[a:b] = ys -/
section
variable {prog : Program} {w : World} {A : Around} {E : Value → Shared → Prop} {s : Shared}
end

section
variable {X : Cx}
end
end L2

namespace Att
open PySem PySem.W PySem.Calls PyProof.Rows

/-! ### the script -/
theorem ints_of_wellAll {P : Params} {h : Heap} : ∀ (ns : List Int) (vs : List Value), WellAll P h vs (ns.map WData.int) → IntsAre vs ns := by
  intro ns
  induction ns with
  | nil =>
    intro vs w
    rw [List.map_nil] at w
    cases w
    exact .nil
  | cons n ns ih =>
    intro vs w
    rw [List.map_cons] at w
    cases w with
    | cons a b =>
      cases a
      exact .cons _ _ (ih _ b)

theorem script_of {l : OpenLaw} {n : Nat} (hn : l.most = some n) {P : Params} {h : Heap} {args : List WData} {vals : List Value}
    (hpre : l.row.toRowW.claim.pre args = true) (hwl : WellAll P h vals args) :
    ∃ a vs ns, vals = [Value.ref a] ∧ args = [WData.list (ns.map WData.int)] ∧ h.get? a = some { cls := .type "list", data := .seq vs.toArray } ∧ IntsAre vs ns ∧ ns.length ≤ n := by
  have hsh : WShape.hasAll [] args [.list .int] = true := (pre_splitW hpre).1
  have hc : l.pre.holds [] { args := args } = true := (pre_splitW hpre).2
  obtain ⟨d, r, rfl, h1, h2⟩ := hasAllW_cons hsh
  obtain rfl := hasAllW_nil h2
  obtain ⟨xs, rfl, h3⟩ := hasW_list h1
  obtain ⟨ns, rfl⟩ := items_int h3
  have hlen : ns.length ≤ n := by
    unfold OpenLaw.pre at hc
    have h4 : (WTm.not (.lt (.lit (.int (n : Int))) (.len (.arg 0)))).holds [] { args := [.list (ns.map .int)] } = true := by
      have h4 := (holds_andW hc).1
      rw [hn] at h4
      exact h4
    have h5 := condW_of h4 (w_not (w_lt w_lit (w_len_list (w_arg rfl))))
    rw [List.length_map] at h5
    refine Nat.le_of_not_lt fun q => ?_
    have q' : (n : Int) < ((ns.length : Nat) : Int) := by omega
    first
      | (rw [decide_eq_true q'] at h5; exact absurd h5 (by decide))
      | (simp at h5; omega)
  cases hwl with
  | cons w1 w2 =>
    cases w2
    cases w1 with
    | list ho hall => exact ⟨_, _, ns, rfl, rfl, ho, ints_of_wellAll ns _ hall, hlen⟩

theorem post_true (l : OpenLaw) (args : List WData) : l.row.toRowW.claim.post args (.bool true) args = true :=
  postW_of (r := l.row.toRowW) (X := (true == true))
    (show WShape.has [] (.bool true) .bool = true by first | rfl | decide | simp [WShape.has, WShape.arms, WShape.armsAll])
    (show (WTm.eq .res (.lit (.bool true))).value [] { args := args, res := some (.bool true), after := args } = some (.bool (true == true)) from w_eq_bool (w_res rfl) w_lit) rfl

/-! ### the attachment: holds_open's last premise (the goal 'hc' behind k_head) from a wpAny of the law's body -/

/-- the same from a codeAny of the CALL (for a layer whose function contracts speak of calls) -/
theorem attach_call {l : OpenLaw} {n : Nat} {q : Program} {loose : List Str} {XP : (Str → Option Value) → Heap → Prop} {YP : World → Heap → Prop} {d : DefRec}
    (hn : l.most = some n) (hdf : d.params.defaults = [])
    (call : ∀ (w : World) (s₀ s₁ : Shared) (mg mb : Str → Option Value) (fa : Addr) (o : Obj) (pm cd doc : Value) (a : Addr) (vs : List Value) (ns : List Int),
      Ground q loose [] XP w s₀ mg mb s₁.heap → YP w s₁.heap →
      s₁.heap.get? fa = some o → o.data = .func (docDef d.name d.params d.body d.scope pm cd doc) → s₁.heap.CodeRec cd d.name → mg d.name = some (.ref fa) →
      s₁.heap.get? a = some { cls := .type "list", data := .seq vs.toArray } → IntsAre vs ns → ns.length ≤ n → s₁.gens = #[] →
      codeAny (model l.prog w) callerA (.call (.ref fa) ⟨[.ref a], []⟩) (fun r s' => r = .ok (.ret (.bool true)) ∧ OldK s₁.heap s'.heap ∧ s'.os = s₁.os ∧ AllBare s'.gens) s₁) :
    WalkO q loose XP YP l.row.toRowW d [] (fun f vs => PySem.call f vs) := by
  intro w s₀ s₁ mg mb G Y fa o pm cd doc dV kV ho hd hcd hD hmg hg args vals as hpre hlay hrd hwl hlo
  obtain rfl : dV = .none := Dflts.none hD hdf
  obtain rfl : kV = .none := Dflts.noKw hD
  obtain ⟨a, vs, ns, rfl, rfl, hobj, hints, hlen⟩ := script_of hn hpre hwl
  refine enter_call (codeAny_mono (call w s₀ s₁ mg mb fa o pm cd doc a vs ns G Y ho (fd_plain hd) hcd hmg hobj hints hlen hg) fun r s' hq => ?_)
  obtain ⟨rfl, h2, h3, h4⟩ := hq
  exact ⟨.inl ⟨.bool true, .bool true, [], rfl, fun _ => rfl, .bool true, post_true l _, fun _ => ⟨List.Pairwise.nil, fun _ hm => (nomatch hm)⟩⟩, h2, h3, h4⟩


/-! ### rules over ANY heap (no ledger) from facts about the written part K: the library's own take a ledger (News) for what they write -/
section
variable {prog : Program} {w : World} {A : Around} {E : Value → Shared → Prop} {s : Shared} {K : Frag}





/-! the whole heap as the ledger: makes every rule that writes through a ledger a rule over any heap -/

end
end Att

namespace L2
open PySem PySem.Spec PyProof.Rows

theorem vals_ints : ∀ {vs : List Value} {ns : List Int}, IntsAre vs ns → Vals (ns.map V.int) vs
  | _, _, .nil => .nil
  | _, _, .cons n t h => .cons ⟨t, rfl⟩ (vals_ints h)

/-- nothing is tracked but the script, known to the object (or it is an object of the module) -/
def Only (H : Hp) : Prop := ∀ b, H b = none ∨ ∃ o xs, H b = some (.frz o (.lst xs))

/-- THE HEAD: the law's promise, at the heap behind the top. F, the promise of the law's def, may use that base is part of the heap (so K.In base, base.Ns mainGlobals mg stand in Mod) -/
theorem law_call {P : Program} {w : World} {K : PySem.W.Frag} {mg mb : Str → Option Value} {CX : CXT} {k : Nat} {fa a : Addr} {fd : FuncData} {x : Str} {sp : Sp} {s₁ : Shared} {vs : List Value} {ns : List Int}
    (KX : K.In s₁.heap) (hns : s₁.heap.Ns mainGlobals mg) (hb : s₁.heap.Ns builtinsNs mb) (hbb : ∀ x : Str, x ≠ "__name__" → mb x = bootBuiltins x) (hlim : s₁.heap.NoLimit) (hg : s₁.gens = #[])
    (ha : s₁.heap.get? a = some { cls := .type "list", data := .seq vs.toArray }) (hi : IntsAre vs ns) (hl : ns.length ≤ sizeLine) (hr : Room k callerA)
    (F : ∀ base : Heap, K.In base → base.Ns mainGlobals mg → FnOk P w K mg base CX k fa fd [x] sp) (hbind : ∀ (s : Shared) (u : Value), BindsTo s fd ⟨[u], []⟩ [(x, u)])
    (hsp : ∀ H : Hp, Only H → SqL K H a (ns.map V.int) → sp [.ref a] H (fun v _ => v = .bl true) fun _ _ _ => False)
    (hCX : ∀ H e s', CX [] H s₁ (fun _ _ _ => False) e s' → False) :
    codeAny (model P w) callerA (.call (.ref fa) ⟨[.ref a], []⟩) (fun r s' => r = .ok (.ret (.bool true)) ∧ OldK s₁.heap s'.heap ∧ s'.os = s₁.os ∧ AllBare s'.gens) s₁ := by
  have rv := vals_ints hi
  have lenV := hi.length
  -- from an abstract heap in which nothing but the script may be tracked
  have core : ∀ H : Hp, Only H → SqL K H a (ns.map V.int) → HOk P w H s₁.heap → (∀ b, H b ≠ none → b = a) → (H a ≠ none → K.lookup a = none) →
      codeAny (model P w) callerA (.call (.ref fa) ⟨[.ref a], []⟩) (fun r s' => r = .ok (.ret (.bool true)) ∧ OldK s₁.heap s'.heap ∧ s'.os = s₁.os ∧ AllBare s'.gens) s₁ := by
    intro H hO hS hok hA hK
    have base_of : ∀ {b : Addr} {o : Obj}, s₁.heap.get? b = some o → H b = none → (hidT s₁.heap H).get? b = some o := fun e n => hidT_get e n
    have noA : ∀ {b : Addr} {o : Obj} {es : Array DictEntry} {ep : Nat}, s₁.heap.get? b = some o → o.data = .dict es ep → H b = none := fun {b o es ep} e d => by
      cases q : H b with
      | none => rfl
      | some u =>
        have e' : b = a := hA b (by rw [q]; simp)
        subst e'
        rw [ha] at e; cases e
        have d' : Data.seq vs.toArray _ = Data.dict es ep := d
        cases d'
    have nsK : ∀ {b : Addr} {m : Str → Option Value}, s₁.heap.Ns b m → (hidT s₁.heap H).Ns b m := fun {b m} ⟨o, es, ep, e, d, r⟩ => ⟨o, es, ep, base_of e (noA e d), d, r⟩
    have hKb : K.In (hidT s₁.heap H) := fun b o e => base_of (KX b o e) (by
      cases q : H b with
      | none => rfl
      | some u =>
        have e' : b = a := hA b (by rw [q]; simp)
        subst e'
        rw [hK (by rw [q]; simp)] at e; cases e)
    have hM : Mod K mg (hidT s₁.heap H) := ⟨hKb, nsK hns, ⟨mb, nsK hb, hbb⟩, let ⟨mc, h1, h2⟩ := hlim; ⟨mc, nsK h1, h2⟩⟩
    have e0 : Env0 P w K mg (hidT s₁.heap H) callerA [] s₁ H := ⟨rfl, hM, fun b o e => of_hidT e, Nat.le_of_eq (hidT_size _ _), trivial, fun b hb => absurd (show b ∈ ([] : List Addr) from hb) (by simp), hok, .of_eq hg⟩
    refine codeAny_mono ((F _ hKb (nsK hns)).run callerA [] s₁ H ⟨[.ref a], []⟩ [.ref a] [.ref a] _ _ hr e0 (hbind s₁ (.ref a)) (.cons rfl .nil) (hsp H hO hS)) fun r s' h => ?_
    cases r with
    | error e => exact (hCX H e s' h).elim
    | ok fl =>
      cases fl with
      | next => exact False.elim h
      | brk => exact False.elim h
      | cont => exact False.elim h
      | ret u =>
        obtain ⟨v, H', os, bare, un, hok', r', q⟩ := h
        have q' : v = .bl true := q
        subst q'
        obtain rfl : u = Value.bool true := r'
        refine ⟨rfl, OldK.of_keep fun b o e => ?_, os, bare⟩
        cases q : H b with
        | none => exact un.keep b o e q (by intro z; exact absurd (show b ∈ ([] : List Addr) from z) (by simp)) (by simp)
        | some u =>
          rcases hO b with z | ⟨ob, xs, z⟩
          · rw [q] at z; cases z
          · have z2 := un.frzs b ob _ z
            obtain ⟨e1, _⟩ := hok b _ z
            obtain ⟨e2, _⟩ := hok' b _ z2
            rw [e] at e1; cases e1
            exact e2
  cases hk : K.lookup a with
  | some o =>
    -- the script is one of the module's own objects
    have e := KX a o hk
    rw [ha] at e
    cases e
    refine core (fun _ => none) (fun _ => .inl rfl) (.inr ⟨_, vs.toArray, _, hk, rfl, rfl, rfl, by rw [List.size_toArray, lenV]; exact hl, by simpa using rv⟩) (fun b u z => by have z' : (none : Option HO) = some u := z; cases z') (fun b z => absurd rfl z) fun z => absurd rfl z
  | none =>
    refine core (fun b => if b = a then some (.frz { cls := .type "list", data := .seq vs.toArray } (.lst (ns.map V.int))) else none) (fun b => ?_) (.inl (.inr ⟨{ cls := .type "list", data := .seq vs.toArray }, if_pos rfl⟩)) (fun b u z => ?_) (fun b z => ?_) fun _ => hk
    · by_cases hb : b = a
      · exact .inr ⟨_, _, if_pos hb⟩
      · exact .inl (if_neg hb)
    · by_cases hb : b = a
      · have z' := (if_pos hb).symm.trans z
        cases z'
        subst hb
        exact ⟨ha, by rw [List.length_map]; exact hl, vs, _, rv, ha⟩
      · have z' := (if_neg hb).symm.trans z
        cases z'
    · by_cases hb : b = a
      · exact hb
      · exact absurd (if_neg hb) z
end L2

namespace L2
open PySem PySem.Spec PyProof.Rows


/-- the goal that k_head leaves (case hc), from the law's promise. F gives the function object fd (K's own) once, then the promise over every base -/
theorem walk_of {l : PySem.W.OpenLaw} {n k : Nat} {q : Program} {loose : List Str} {XP : (Str → Option Value) → Heap → Prop} {YP : World → Heap → Prop} {d : DefRec} {K : Params → PySem.W.Frag} {CX : World → CXT} {sp : World → Sp} {x : Str}
    (hn : l.most = some n) (hn2 : n ≤ sizeLine) (hdf : d.params.defaults = []) (hr : Room k callerA)
    (hY : ∀ (w : World) (h : Heap), YP w h → (K w.params).In h)
    (F : ∀ (w : World) (mg : Str → Option Value) (fa : Addr) (h : Heap), (K w.params).In h → h.Ns mainGlobals mg → mg d.name = some (.ref fa) →
      ∃ fd : FuncData, (∀ (s : Shared) (u : Value), BindsTo s fd ⟨[u], []⟩ [(x, u)]) ∧
        ∀ base : Heap, (K w.params).In base → base.Ns mainGlobals mg → FnOk l.prog w (K w.params) mg base (CX w) k fa fd [x] (sp w))
    (hsp : ∀ (w : World) (H : Hp) (a : Addr) (ns : List Int), ns.length ≤ n → Only H → SqL (K w.params) H a (ns.map V.int) → sp w [.ref a] H (fun v _ => v = .bl true) fun _ _ _ => False)
    (hCX : ∀ (w : World) (H : Hp) (s : Shared) (e : Value) (s' : Shared), CX w [] H s (fun _ _ _ => False) e s' → False) :
    PySem.W.WalkO q loose XP YP l.row.toRowW d [] (fun f vs => PySem.call f vs) := by
  refine Att.attach_call hn hdf fun w s₀ s₁ mg mb fa o pm cd doc a vs ns G Y ho hd hcd hmg hobj hints hlen hg => ?_
  have KX := hY w _ Y
  obtain ⟨fd, hb, hF⟩ := F w mg fa _ KX G.T.g hmg
  exact law_call KX G.T.g G.T.b G.T.builtins G.T.nolimit hg hobj hints (Nat.le_trans hlen hn2) hr hF hb (fun H hO hS => hsp w H a ns hlen hO hS) fun H e s' => hCX w H s₁ e s'
end L2


/-! SHORT WORDS over the layer: a def of the text, its body, what a loop and a test want. -/
namespace L2
open PySem PySem.Spec PyProof.Rows

/-! ### the text by places -/
/-- the j-th statement of a class's body -/
def inClass (s : Stmt) (j : Nat) : Stmt := match s with
  | .ClassDef _ _ _ body _ _ _ _ _ _ _ => body.getD j (.Pass ⟨0, 0, 0, 0⟩)
  | _ => .Pass ⟨0, 0, 0, 0⟩
def defArgs (s : Stmt) : Arguments := match s with
  | .FunctionDef _ a _ _ _ _ _ _ _ _ => a
  | _ => { posonlyargs := [], args := [], vararg := none, kwonlyargs := [], kw_defaults := [], kwarg := none, defaults := [] }
def defBody (s : Stmt) : List Stmt := match s with
  | .FunctionDef _ _ b _ _ _ _ _ _ _ => b
  | _ => []
def defScope (s : Stmt) : Scope := match s with
  | .FunctionDef _ _ _ _ _ _ sc _ _ _ => sc
  | _ => { kind := .function, names := [], isGenerator := false, isCoroutine := false }

/-! ### no exception leaves a def -/
abbrev CX0 : CXT := fun _ _ _ _ _ _ => False
abbrev E0 : XK := fun _ _ _ => False
theorem pass0 {X : Cx} : Passes CX0 X E0 := fun _ _ _ _ _ _ _ h => h.elim

/-! ### a def (or method) of the text as it stands behind the top -/
structure Fun (K : PySem.W.Frag) (x qual : Str) (st : Stmt) (f : Addr) (fd : FuncData) : Prop where
  ex : ∃ (oc : Value) (od : Option Addr) (kV doc pm : Value) (an : Option Addr) (cdv ct : Value) (osl : Array (Option Value)),
    fd = PySem.W.fnOf x qual (defArgs st) (defBody st) (defScope st) .none kV doc pm an cdv ct ∧ K.lookup f = some ⟨oc, od, .func fd, osl⟩ ∧ PySem.W.codeIn K cdv qual = true
  kp : PySem.W.keepIn K (.ref f) = true
section
variable {P : Program} {w : World} {K : PySem.W.Frag} {mg : Str → Option Value} {base : Heap}
/-- THE RULE for a def: its body as a term of rules, and the reading of that term -/
theorem Fun.ok {x qual : Str} {st : Stmt} {f : Addr} {fd : FuncData} {N ps : List Str} {k : Nat} {sp : Sp} (F : Fun K x qual st f fd) (S : FnScope N ps (defScope st)) (len : ∀ vs H Q E, sp vs H Q E → vs.length = ps.length)
    (hbody : ∀ (cdv : Value) (A : Around) (outer : List Env) (s : Shared) (H : Hp) (vs : List V) (Q : VK) (E : XK), Room k (A.deeper (envOfC qual (defScope st) s.heap.objs.size f cdv)) → sp vs H Q E →
      ∃ t, PSs (cxOf CX0 P w K mg base N qual (defScope st) f cdv A outer s H E).nox (defBody st) t ∧ t { nx := fun _ H' => Q .non H', rt := Q } (start N vs) H) : FnOk P w K mg base CX0 (k + 1) f fd ps sp := by
  obtain ⟨oc, od, kV, doc, pm, an, cdv, ct, osl, rfl, lk, hcd⟩ := F.ex
  refine fn_of lk hcd S len fun A outer s H vs Q E hr hsp => ?_
  obtain ⟨t, h, q⟩ := hbody cdv A outer s H vs Q E hr hsp
  exact ⟨t, h.nox, q⟩
/-- how its arguments bind (no defaults): h is «fun _ _ _ _ _ _ us hl => match us, hl with | [_, _], _ => rfl», one _ a parameter -/
theorem Fun.binds {x qual : Str} {st : Stmt} {f : Addr} {fd : FuncData} {ps : List Str} (F : Fun K x qual st f fd)
    (h : ∀ (kV doc pm : Value) (an : Option Addr) (cdv ct : Value) (us : List Value), us.length = ps.length → bindArgs (PySem.W.fnOf x qual (defArgs st) (defBody st) (defScope st) .none kV doc pm an cdv ct) ⟨us, []⟩ = pure (ps.zip us)) : Binds K fd ps [] := by
  obtain ⟨oc, od, kV, doc, pm, an, cdv, ct, osl, rfl, lk, hcd⟩ := F.ex
  exact .all (h kV doc pm an cdv ct)
theorem fun_mk {x qual : Str} {st : Stmt} {f : Addr} {oc : Value} {od an : Option Addr} {osl : Array (Option Value)} {kV doc pm cdv ct : Value} (l : K.lookup f = some ⟨oc, od, .func (PySem.W.fnOf x qual (defArgs st) (defBody st) (defScope st) .none kV doc pm an cdv ct), osl⟩)
    (c : PySem.W.codeIn K cdv qual = true) (k : PySem.W.keepIn K (.ref f) = true) : Fun K x qual st f (PySem.W.fnOf x qual (defArgs st) (defBody st) (defScope st) .none kV doc pm an cdv ct) := ⟨⟨oc, od, kV, doc, pm, an, cdv, ct, osl, rfl, l, c⟩, k⟩
end
theorem hu_of {A : Around} {k : Nat} (hr : Room k A) : A.units + 1 < cLine := Nat.lt_of_le_of_lt (Nat.add_le_add_left (by decide : 1 ≤ 64) _) hr.units

/-! ### expressions in short: the name that stands in the i-th slot -/
section
variable {X : Cx}
theorem pv (i : Nat) {x : Str} {pos : Pos} (hN : X.N[i]? = some x := by rfl) (hv : Vis X.env.scope x := by first | exact Or.inl rfl | exact Or.inr (Or.inl rfl) | exact Or.inr (Or.inr rfl)) (hd : (x == ("__debug__" : Str)) = false := by decide)
    (hcd : (x == ("__classdict__" : Str)) = false := by decide) : PE X (.Name x pos) (tVar i) := pe_var hN hv hd hcd
end

/-! ### tests -/
theorem iteF {A B : Prop} (h : B) : if false = true then A else B := by
  rw [if_neg Bool.false_ne_true]
  exact h
theorem iteT {A B : Prop} (h : A) : if true = true then A else B := by
  rw [if_pos rfl]
  exact h
theorem ite2 {c A B : Prop} [Decidable c] (h1 : c → A) (h2 : ¬ c → B) : if c then A else B := by
  by_cases h : c
  · rw [if_pos h]
    exact h1 h
  · rw [if_neg h]
    exact h2 h

/-! ### heaps -/
/-- all that was tracked is as it was -/
def Same (H H' : Hp) : Prop := ∀ b o, H b = some o → H' b = some o
theorem Same.refl (H : Hp) : Same H H := fun _ _ h => h
theorem Same.trans {H H1 H2 : Hp} (a : Same H H1) (b : Same H1 H2) : Same H H2 := fun c o h => b c o (a c o h)
theorem Same.free {H H' : Hp} (e : Same H H') {l : Addr} (h : H' l = Option.none) : H l = Option.none := by
  cases q : H l with
  | none => rfl
  | some o =>
    rw [e l o q] at h
    cases h
theorem Same.seq {K : PySem.W.Frag} {H H' : Hp} {a : Addr} {xs : List V} (e : Same H H') (h : SqL K H a xs) : SqL K H' a xs := by
  rcases h with (h | ⟨o, h⟩) | h
  · exact .inl (.inl (e _ _ h))
  · exact .inl (.inr ⟨o, e _ _ h⟩)
  · exact .inr h

end L2

set_option Elab.async false
set_option linter.all false
set_option maxRecDepth 100000
namespace L2
open PySem PySem.Spec PyProof.Rows
/-! ### an argument list, its parts of any size -/
def notStar : Expr → Bool
  | .Starred _ _ => false
  | _ => true
theorem star_of {e : Expr} {es : List Expr} {env : Env} (h : notStar e = true) : starEach (e :: es) env = (false, eval e env) :: starEach es env := by
  cases e <;> first | rfl | cases h
theorem pa_consN {X : Cx} {e : Expr} {es : List Expr} {te : TE} {t : TA} (ha : PE X e te) (hr : PA X es t) (hs : notStar e = true := by rfl) : PA X (e :: es) (tCons te t) := pa_cons ha hr (star_of hs)
end L2

set_option Elab.async false
set_option linter.all false
set_option maxRecDepth 100000

namespace L2
open PySem PySem.Spec PyProof.Rows

/-! ### a comprehension's block -/
theorem lookup_relabel_free {env : Env} : ∀ {names : List (Str × NameKind)} {x : Str}, names.lookup x = some .free →
    ((names.map fun (n, k) => if (k == NameKind.free && env.scope.kind == .function && env.kindOf n == some .cell) then (n, NameKind.cell) else (n, k)).lookup x = some .cell ∨
    (names.map fun (n, k) => if (k == NameKind.free && env.scope.kind == .function && env.kindOf n == some .cell) then (n, NameKind.cell) else (n, k)).lookup x = some .free)
  | [], _, h => by simp at h
  | (n, k) :: r, x, h => by
    have ih := @lookup_relabel_free env r x
    show (List.lookup x ((if (k == NameKind.free && env.scope.kind == .function && env.kindOf n == some .cell) = true then (n, NameKind.cell) else (n, k)) :: _) = _ ∨ List.lookup x ((if (k == NameKind.free && env.scope.kind == .function && env.kindOf n == some .cell) = true then (n, NameKind.cell) else (n, k)) :: _) = _)
    cases hx : x == n with
    | true =>
      simp only [List.lookup_cons, hx] at h
      cases h
      by_cases hc : (NameKind.free == NameKind.free && env.scope.kind == .function && env.kindOf n == some .cell) = true
      · rw [if_pos hc]; left; simp only [List.lookup_cons, hx]
      · rw [if_neg hc]; right; simp only [List.lookup_cons, hx]
    | false =>
      simp only [List.lookup_cons, hx] at h
      by_cases hc : (k == NameKind.free && env.scope.kind == .function && env.kindOf n == some .cell) = true
      · rw [if_pos hc]; simp only [List.lookup_cons, hx]; exact ih h
      · rw [if_neg hc]; simp only [List.lookup_cons, hx]; exact ih h
theorem lookup_relabel_inv {env : Env} : ∀ {names : List (Str × NameKind)} {x : Str}, (∀ y ∈ names, y.2 ≠ .cell) →
    ((names.map fun (n, k) => if (k == NameKind.free && env.scope.kind == .function && env.kindOf n == some .cell) then (n, NameKind.cell) else (n, k)).lookup x = some .cell ∨
    (names.map fun (n, k) => if (k == NameKind.free && env.scope.kind == .function && env.kindOf n == some .cell) then (n, NameKind.cell) else (n, k)).lookup x = some .free) →
    (x, NameKind.free) ∈ names
  | [], _, _, h => by simp at h
  | (n, k) :: r, x, hn, h => by
    have ih := @lookup_relabel_inv env r x (fun y hy => hn y (List.mem_cons_of_mem _ hy))
    have hk : k ≠ .cell := hn (n, k) List.mem_cons_self
    have h' : (List.lookup x ((if (k == NameKind.free && env.scope.kind == .function && env.kindOf n == some .cell) = true then (n, NameKind.cell) else (n, k)) :: r.map fun (n, k) => if (k == NameKind.free && env.scope.kind == .function && env.kindOf n == some .cell) then (n, NameKind.cell) else (n, k)) = some NameKind.cell ∨ List.lookup x ((if (k == NameKind.free && env.scope.kind == .function && env.kindOf n == some .cell) = true then (n, NameKind.cell) else (n, k)) :: r.map fun (n, k) => if (k == NameKind.free && env.scope.kind == .function && env.kindOf n == some .cell) then (n, NameKind.cell) else (n, k)) = some NameKind.free) := h
    cases hx : x == n with
    | true =>
      have e : x = n := eq_of_beq hx
      subst e
      by_cases hc : (k == NameKind.free && env.scope.kind == .function && env.kindOf x == some .cell) = true
      · have hkf : k = .free := by
          have := hc
          simp only [Bool.and_eq_true] at this
          exact eq_of_beq this.1.1
        subst hkf; exact List.mem_cons_self
      · rw [if_neg hc] at h'
        simp only [List.lookup_cons, hx] at h'
        rcases h' with h' | h'
        · cases h'; exact absurd rfl hk
        · cases h'; exact List.mem_cons_self
    | false =>
      refine List.mem_cons_of_mem _ (ih ?_)
      by_cases hc : (k == NameKind.free && env.scope.kind == .function && env.kindOf n == some .cell) = true
      · rw [if_pos hc] at h'; simp only [List.lookup_cons, hx] at h'; exact h'
      · rw [if_neg hc] at h'; simp only [List.lookup_cons, hx] at h'; exact h'

theorem closure_go {env : Env} (f : Str × NameKind → List (Str × Addr) → Sem (ForInStep (List (Str × Addr))))
    (h1 : ∀ n k r, (k == NameKind.free) = false → f (n, k) r = pure (.yield r)) (h2 : ∀ n c r, env.cells.lookup n = some c → f (n, .free) r = pure (.yield ((n, c) :: r))) :
    ∀ (l : List (Str × NameKind)) (acc : List (Str × Addr)), (∀ y ∈ l, y.2 = .free → ∃ c, env.cells.lookup y.1 = some c) → (∀ n c, acc.lookup n = some c → env.cells.lookup n = some c) →
      ∃ cl, forIn l acc f = pure cl ∧ (∀ n c, cl.lookup n = some c → env.cells.lookup n = some c) ∧ (∀ y ∈ l, y.2 = .free → ∃ c, cl.lookup y.1 = some c) ∧ ∀ n c, acc.lookup n = some c → ∃ c', cl.lookup n = some c'
  | [], acc, _, ha => ⟨acc, rfl, ha, ⟨fun y hy _ => absurd hy List.not_mem_nil, fun n c e => ⟨c, e⟩⟩⟩
  | (n, k) :: r, acc, hl, ha => by
    cases hk : k == NameKind.free with
    | false =>
      obtain ⟨cl, e, p1, p2, p3⟩ := closure_go f h1 h2 r acc (fun y hy => hl y (List.mem_cons_of_mem _ hy)) ha
      refine ⟨cl, ?_, p1, fun y hy hf => ?_, p3⟩
      · rw [List.forIn_cons, h1 n k acc hk, pure_bind]; exact e
      · rcases List.mem_cons.mp hy with rfl | hy
        · rw [show k = .free from hf] at hk; cases hk
        · exact p2 y hy hf
    | true =>
      have hkf : k = .free := eq_of_beq hk
      subst hkf
      obtain ⟨c, hc⟩ := hl (n, .free) List.mem_cons_self rfl
      have hc : env.cells.lookup n = some c := hc
      obtain ⟨cl, e, p1, p2, p3⟩ := closure_go f h1 h2 r ((n, c) :: acc) (fun y hy => hl y (List.mem_cons_of_mem _ hy)) (fun m d hm => by
        rw [List.lookup_cons] at hm
        cases hx : m == n with
        | true => rw [hx] at hm; cases hm; rw [eq_of_beq hx]; exact hc
        | false => rw [hx] at hm; exact ha m d hm)
      have here : ∃ c', cl.lookup n = some c' := p3 n c (by rw [List.lookup_cons]; simp)
      refine ⟨cl, ?_, p1, fun y hy hf => ?_, fun m d hm => ?_⟩
      · rw [List.forIn_cons, h2 n c acc hc, pure_bind]; exact e
      · rcases List.mem_cons.mp hy with rfl | hy
        · exact here
        · exact p2 y hy hf
      · cases hx : m == n with
        | true => rw [eq_of_beq hx]; exact here
        | false => exact p3 m d (by rw [List.lookup_cons, hx]; exact hm)
theorem closure_ex {scope : Scope} {env : Env} (h : ∀ y ∈ scope.names, y.2 = .free → ∃ c, env.cells.lookup y.1 = some c) :
    ∃ cl, closureFor scope env = pure cl ∧ (∀ n c, cl.lookup n = some c → env.cells.lookup n = some c) ∧ ∀ y ∈ scope.names, y.2 = .free → ∃ c, cl.lookup y.1 = some c := by
  obtain ⟨cl, e, p1, p2, _⟩ := closure_go (env := env) (fun x r => if (x.2 == NameKind.free) = true then (cellOf env x.1 >>= fun a => pure (ForInStep.yield ((x.1, a) :: r))) else pure (ForInStep.yield r))
    (fun n k r hk => by simp only [hk, Bool.false_eq_true, if_false]) (fun n c r hc => by simp only [cellOf, hc, beq_self_eq_true, if_true, pure_bind]) scope.names [] h (fun n c e => by simp at e)
  refine ⟨cl, ?_, p1, p2⟩
  rw [show closureFor scope env = (forIn scope.names [] (fun (x : Str × NameKind) (r : List (Str × Addr)) => if (x.2 == NameKind.free) = true then (cellOf env x.1 >>= fun a => pure (ForInStep.yield ((x.1, a) :: r))) else pure (ForInStep.yield r)) >>= fun cs => pure cs) from rfl, e, pure_bind]

section
variable {prog : Program} {w : World} {A : Around} {R : Result → Shared → Prop} {s : Shared}
theorem codeAny_compLoop_own {elt target iter : Expr} {scope : Scope} {pos : Pos} {it acc : Value} {env : Env} (I : Nat → Shared → Prop)
    (turn : ∀ n s, I n s → wpAny (model prog w) A (pyNext it) (fun r s1 => match r with
      | none => R (.ok .next) s1
      | some v => wpAny (model prog w) A (letOwnedTupleGo target it v) (fun _ s0 => wpAny (model prog w) A (assign target env v) (fun _ s2 => wpAny (model prog w) A (eval elt env) (fun x s3 =>
          wpAny (model prog w) A (call (.builtin "list.append") [acc, x]) (fun _ s4 => ∃ m, m < n ∧ I m s4) (notedBy (model prog w) A env fun e s' => R (.error e) s') s3)
          (notedBy (model prog w) A env fun e s' => R (.error e) s') s2) (notedBy (model prog w) A env fun e s' => R (.error e) s') s0) (notedBy (model prog w) A env fun e s' => R (.error e) s') s1) (notedBy (model prog w) A env fun e s' => R (.error e) s') s)
    (n : Nat) (h : I n s) :
    codeAny (model prog w) A (.compLoop (.ListComp elt [⟨target, iter, [], 0⟩] scope pos) 0 it acc env) R s := by
  refine codeAny_loop rfl I (fun n s hI => ?_) n h
  show wpAny _ _ ((compTurn (.ListComp elt [⟨target, iter, [], 0⟩] scope pos) 0 it acc env).onRaise (fun x => do noteFrame x env; theTreesLotGoes x)) _ _ s
  refine wpAny_noted ?_
  rw [compTurn_list1]
  refine wpAny_bind (wpAny_standAt (wpAny_bind (wpAny_mono (turn n s hI) (fun r s1 h1 => ?_) fun _ _ h' => h')))
  cases r with
  | none => exact wpAny_pure h1
  | some v =>
    refine wpAny_bind (wpAny_mono h1 (fun _ s0 h0 => ?_) fun _ _ h' => h')
    exact wpAny_bind (wpAny_mono h0 (fun _ s2 h2 => wpAny_bind (wpAny_bind (wpAny_mono h2 (fun x s3 h3 => wpAny_bind (wpAny_mono h3
      (fun _ s4 h4 => wpAny_pure (wpAny_pure ⟨rfl, h4⟩)) fun _ _ h' => h')) fun _ _ h' => h'))) fun _ _ h' => h')
end

/-- the block's names at its start: own ones unset, then the free ones as they are outside -/
def blkStart (own : Nat) (fv : List Nat) (σ : St) : St := List.replicate own none ++ fv.map fun j => (σ[j]?).getD none
def Cx.blk (X : Cx) (scope : Scope) (N' : List Str) (cl : List (Str × Addr)) (s3 : Shared) (H3 : Hp) (ex : List Addr) : Cx :=
  { X with N := N', s₀ := s3, H₀ := H3, env := compEnvC scope cl s3.heap.objs.size X.env, outer := X.stack, stack := X.stack, ex := ex, fn := fun _ => false, pn := [], xe := fun _ _ => False }
/-- what of the text a block must have; N': own names first (own of them), then the free ones, which stand in the slots fv of the names outside -/
structure BlkScope (X : Cx) (scope : Scope) (N' : List Str) (own : Nat) (fv : List Nat) : Prop where
  kind : scope.kind = .function
  nocell : ∀ y ∈ scope.names, y.2 ≠ .cell
  names : ∀ y ∈ scope.names, y.2 = .local → scope.names.lookup y.1 = some .local
  free : ∀ y ∈ scope.names, y.2 = .free → X.env.kindOf y.1 = some .cell ∨ X.env.kindOf y.1 = some .free
  len : N'.length = own + fv.length
  fvs : ∀ i : Fin fv.length, ∃ x, N'[own + i.val]? = some x ∧ X.N[fv[i.val]]? = some x ∧ scope.names.lookup x = some .free ∧ (X.env.kindOf x = some .cell ∨ X.env.kindOf x = some .free)

theorem mem_of_lookup {x : Str} {k : NameKind} : ∀ {l : List (Str × NameKind)}, l.lookup x = some k → (x, k) ∈ l
  | [], h => by simp at h
  | (n, j) :: r, h => by
    rw [List.lookup_cons] at h
    cases hx : x == n with
    | true => rw [hx] at h; cases h; rw [eq_of_beq hx]; exact List.mem_cons_self
    | false => rw [hx] at h; exact List.mem_cons_of_mem _ (mem_of_lookup h)

section
variable {X : Cx} {scope : Scope} {N' : List Str} {own : Nat} {fv : List Nat} {cl : List (Str × Addr)} {pins : List (Addr × Obj)} {σ : St} {H2 : Hp} {s3 : Shared} {fp : List Addr} {h1 : Heap} {t1 : Nat} {m1 : Str → Option Value}
theorem blk_inv (sc : BlkScope X scope N' own fv) (I : Inv X pins σ H2 s3) (f : ∀ b ∈ fp, FpOk X pins H2 b) (fo : ∀ b ∈ fp, b < s3.heap.objs.size)
    (c1 : ∀ n c, cl.lookup n = some c → X.env.cells.lookup n = some c) (c2 : ∀ y ∈ scope.names, y.2 = .free → ∃ c, cl.lookup y.1 = some c)
    (hns : h1.Ns s3.heap.objs.size m1) (old : ∀ b o, s3.heap.get? b = some o → h1.get? b = some o) :
    Inv (X.blk scope N' cl s3 H2 fp) [] (blkStart own fv σ) H2 { s3 with heap := h1, toks := t1 } where
  ok := {
    mod := I.ok.mod
    kind := sc.kind
    glob := I.ok.glob
    blt := I.ok.blt
    above := Nat.le_refl _
    inj := fun x y c hx hy => I.ok.inj x y c (c1 x c hx) (c1 y c hy)
    has := fun x hx => c2 (x, .free) (lookup_relabel_inv (env := X.env) sc.nocell hx) rfl
    cab := fun x c h => nomatch h
    hd := I.ok.hd
    frames := I.ok.frames
    stk := .inl rfl
    exf := fun b hb => ⟨Nat.ne_of_lt (fo b hb), fun x c hc => (f b hb).2.2.2.2.1 x c (c1 x c hc)⟩
    bs := fun b o e => I.bs b o e
    bsz := Nat.le_trans I.ok.bsz I.sz
    noex := fun b o e hb => by
      rcases (f b hb).2.2.2.1 with h | h
      · exact I.ok.noex b o e h
      · exact Nat.lt_irrefl _ (Nat.lt_of_lt_of_le (Heap.lt_size e) (Nat.le_trans I.ok.bsz h))
    exfs := fun b hb hf => by
      rcases List.mem_cons.mp (I.stkSub b hf) with h | h
      · exact (f b hb).2.1 h
      · exact (f b hb).2.2.1 h
    funs := I.stack
    frf := I.stkFree }
  os := rfl
  bare := I.bare
  base := Un.kept old
  loc := by
    refine ⟨m1, hns, fun i x v hi hv _ => ?_⟩
    have hi' : N'[i]? = some x := hi
    unfold blkStart at hv
    by_cases hlt : i < own
    · rw [List.getElem?_append_left (by rw [List.length_replicate]; exact hlt), List.getElem?_replicate, if_pos hlt] at hv
      cases hv
    · rw [List.getElem?_append_right (by rw [List.length_replicate]; omega), List.length_replicate, List.getElem?_map] at hv
      cases hj : fv[i - own]? with
      | none => rw [hj] at hv; cases hv
      | some j =>
        rw [hj] at hv
        have hv' : (σ[j]?).getD none = some v := Option.some.inj hv
        have hσ : σ[j]? = some (some v) := by
          cases e : σ[j]? with
          | none => rw [e] at hv'; cases hv'
          | some o => rw [e] at hv'; simp only [Option.getD_some] at hv'; rw [hv']
        obtain ⟨hk, ej⟩ := List.getElem?_eq_some_iff.mp hj
        obtain ⟨y, y1, y2, y3, y4⟩ := sc.fvs ⟨i - own, hk⟩
        have e1 : own + (i - own) = i := by omega
        simp only [e1] at y1
        rw [hi'] at y1; cases y1
        simp only [ej] at y2
        obtain ⟨m3, hn3, hl3⟩ := I.loc
        obtain ⟨u, ru, lk⟩ := hl3 j x v y2 hσ (by rcases y4 with h | h; exact .inr (.inl h); exact .inr (.inr h))
        refine ⟨u, ru, .inr ⟨lookup_relabel_free y3, ?_⟩⟩
        rcases lk with ⟨h, _⟩ | ⟨_, c, hc, ic⟩
        · rcases y4 with h' | h' <;> rw [h] at h' <;> cases h'
        · obtain ⟨c', hc'⟩ := c2 (x, .free) (mem_of_lookup y3) rfl
          have : c' = c := by have := c1 x c' hc'; rw [hc] at this; exact (Option.some.inj this).symm
          subst this
          exact ⟨c', hc', ic.keeps old⟩
  cell := fun x c hc => let ⟨v, hv⟩ := I.cell x c (c1 x c hc); ⟨v, hv.keeps old⟩
  free := I.fresh
  freeC := fun x c hc => I.freeC x c (c1 x c hc)
  pin := fun p hp => nomatch hp
  hok := I.hok.kept old
  len := by
    show (blkStart own fv σ).length = N'.length
    unfold blkStart
    rw [List.length_append, List.length_replicate, List.length_map, sc.len]
end

/-- W: the invariant by the turn and a measure; acc: where the new list stands -/
def compWalk (J : It) (H1 : Hp) (σ0 : St) (g : TG) (te : TE) (Q : Addr → Hp → Prop) : Prop :=
  ∀ acc, H1 acc = none → ∃ W : Nat → Nat → St → Hp → Prop, (∃ m, W 0 m σ0 (upd H1 acc (.lst []))) ∧ ∀ i m σ' H', W i m σ' H' →
    (J.stop i H' ∧ Q acc H') ∨ (J.go i H' ∧ ∀ x H2, J.yld i H' x H2 → g x σ' H2 fun σ2 H3 => te σ2 H3 fun y H4 => ∃ ys, H4 acc = some (.lst ys) ∧ ys.length < sizeLine ∧ ∃ m', m' < m ∧ W (i + 1) m' σ2 (upd H4 acc (.lst (ys ++ [y]))))
def tComp (wi : TI) (own : Nat) (fv : List Nat) (g : TG) (te : TE) : TE := fun σ H Q => wi σ H fun J H1 => compWalk J H1 (blkStart own fv σ) g te fun acc H' => Q (.ref acc) H'

section
variable {X : Cx} {elt tg iter : Expr} {scope : Scope} {N' : List Str} {own : Nat} {fv : List Nat} {cl : List (Str × Addr)} {pins : List (Addr × Obj)} {σ : St} {H2 : Hp} {s2 : Shared} {fp : List Addr} {it : Addr} {tn : Nat → Heap → Prop} {J : It} {pos : Pos} {g : TG} {te : TE} {Q : Addr → Hp → Prop}
theorem comp_block (hc : X.calm = true) (sc : BlkScope X scope N' own fv) (I2 : Inv X pins σ H2 s2) (T : Turn X.prog X.w X.K tg J fp it tn) (st2 : tn 0 s2.heap) (f2 : ∀ b ∈ fp, FpOk X pins H2 b)
    (c1 : ∀ n c, cl.lookup n = some c → X.env.cells.lookup n = some c) (c2 : ∀ y ∈ scope.names, y.2 = .free → ∃ c, cl.lookup y.1 = some c)
    (hg : ∀ cl s3 H3 ex, PG (X.blk scope N' cl s3 H3 ex) tg g) (he : ∀ cl s3 H3 ex, PE (X.blk scope N' cl s3 H3 ex) elt te)
    (hq : compWalk J H2 (blkStart own fv σ) g te Q) {RR : Value → Addr → Result → Shared → Prop}
    (hRR : ∀ acc C s' H' m, Inv X pins σ H' s' → Q acc H' → s'.heap.Ns C m → H' C = none → C ≠ X.env.locals → X.s₀.heap.objs.size ≤ C → (∀ x c, X.env.cells.lookup x = some c → c ≠ C) → (∀ p ∈ X.pn ++ pins, p.1 ≠ C) → RR (.ref acc) C (.ok .next) s') :
    wpAny (model X.prog X.w) X.A (newList []) (fun acc s3 => wpAny (model X.prog X.w) X.A (newFunctionEnv scope X.env.globals cl [] X.env.qual none .none (some X.env)) (fun cenv s4 =>
      codeAny (model X.prog X.w) X.A (.compStart (.ListComp elt [⟨tg, iter, [], 0⟩] scope pos) 0 (.ref it) acc { cenv with scope := relabel scope X.env }) (RR acc cenv.locals) s4) X.xe s3) X.xe s2 := by
  refine wpAny_newObj_type (wpAny_newFunctionEnv sc.nocell (by intro y hy; simp at hy) (fun h1 hns hsb => ?_) sc.kind)
  dsimp only at hns hsb ⊢
  have I3 : Inv X pins σ (upd H2 s2.heap.objs.size (.lst [])) { s2 with heap := s2.heap.push { cls := .type "list", dict := none, data := .seq ([] : List Value).toArray } } := I2.lnew (t' := s2.toks) .nil (Nat.zero_le _)
  have hacc : H2 s2.heap.objs.size = none := I2.fresh
  obtain ⟨W, ⟨m0, w0⟩, turn⟩ := hq s2.heap.objs.size hacc
  have flt : ∀ b ∈ fp, b < s2.heap.objs.size := fun b hb => by
    obtain ⟨o, e, _⟩ := T.obj _ _ st2 b hb
    exact Heap.lt_size e
  have f3 : ∀ b ∈ fp, FpOk X pins (upd H2 s2.heap.objs.size (.lst [])) b := fun b hb => ⟨by rw [upd_ne (Nat.ne_of_lt (flt b hb))]; exact (f2 b hb).1, (f2 b hb).2⟩
  have st3 : tn 0 (s2.heap.push { cls := .type "list", dict := none, data := .seq ([] : List Value).toArray }) := T.keep _ _ _ st2 fun b _ o e => Heap.get?_push_of_some _ e
  generalize hs3 : ({ s2 with heap := s2.heap.push { cls := .type "list", dict := none, data := .seq ([] : List Value).toArray } } : Shared) = s3 at I3 
  have eh : s2.heap.push { cls := .type "list", dict := none, data := .seq ([] : List Value).toArray } = s3.heap := by rw [← hs3]
  rw [eh] at hns hsb st3
  have old : ∀ b o, s3.heap.get? b = some o → h1.get? b = some o := fun b o e => hsb.extBut b o (Nat.ne_of_lt (Heap.lt_size e)) (Heap.get?_push_of_some _ e)
  have fo3 : ∀ b ∈ fp, b < s3.heap.objs.size := fun b hb => by
    obtain ⟨o, e, _⟩ := T.obj _ _ st3 b hb
    exact Heap.lt_size e
  have est : ({ s2 with heap := h1, toks := s2.toks + ([] : List (Str × Value)).length } : Shared) = { s3 with heap := h1, toks := s3.toks } := by rw [← hs3]; rfl
  have I4 : Inv (X.blk scope N' cl s3 (upd H2 s2.heap.objs.size (.lst [])) fp) [] (blkStart own fv σ) (upd H2 s2.heap.objs.size (.lst [])) { s3 with heap := h1, toks := s3.toks } :=
    blk_inv sc I3 f3 fo3 c1 c2 hns old
  have st4 : tn 0 h1 := T.keep _ _ _ st3 fun b _ o e => old b o e
  have stat : ∀ {H' : Hp}, (∀ b ∈ fp, H' b = none) → ∀ b ∈ fp, FpOk (X.blk scope N' cl s3 (upd H2 s2.heap.objs.size (.lst [])) fp) [] H' b := fun hn b hb =>
    ⟨hn b hb, Nat.ne_of_lt (fo3 b hb), fun hf => by
      rcases List.mem_cons.mp (I3.stkSub b hf) with h | h
      · exact (f3 b hb).2.1 h
      · exact (f3 b hb).2.2.1 h, .inl hb, fun x c hc' => (f3 b hb).2.2.2.2.1 x c (c1 x c hc'), fun p hp => nomatch hp⟩
  have loop : ∀ s4 : Shared, s4 = { s3 with heap := h1, toks := s3.toks } →
      codeAny (model X.prog X.w) X.A (.compLoop (.ListComp elt [⟨tg, iter, [], 0⟩] scope pos) 0 (.ref it) (.ref s2.heap.objs.size) (compEnvC scope cl s3.heap.objs.size X.env)) (RR (.ref s2.heap.objs.size) s3.heap.objs.size) s4 := by
    rintro s4 rfl
    refine codeAny_compLoop_own (fun n s' => ∃ i σ' H', Inv (X.blk scope N' cl s3 (upd H2 s2.heap.objs.size (.lst [])) fp) [] σ' H' s' ∧ tn i s'.heap ∧ (∀ b ∈ fp, H' b = none) ∧ W i n σ' H') ?_ m0
      ⟨0, _, _, I4, st4, fun b hb => (f3 b hb).1, w0⟩
    rintro n s5 ⟨i, σ5, H5, I5, st5, fr5, w5⟩
    rcases turn i n σ5 H5 w5 with ⟨stop, q⟩ | ⟨go, step⟩
    · refine thn (T.done (X.blk scope N' cl s3 (upd H2 s2.heap.objs.size (.lst [])) fp) rfl rfl rfl hc i [] s5 σ5 H5 _ I5 (stat fr5) st5 stop) fun r s6 ⟨hr, I6⟩ => ?_
      subst hr
      obtain ⟨m6, hn6, _⟩ := I6.loc
      refine hRR _ _ s6 H5 m6 (I3.call' (ch := fp) I6.os I6.base I6.hok I6.bare fun b hb => ⟨(f3 b hb).2.2.2.1, (f3 b hb).2.1, (f3 b hb).2.2.2.2.1, (f3 b hb).2.2.2.2.2⟩) q hn6 I6.free (Nat.ne_of_gt I3.lt) I3.sz (fun x c hc' => ?_) fun p hp => ?_
      · obtain ⟨v, o, ho, _⟩ := I3.cell x c hc'
        exact Nat.ne_of_lt (Heap.lt_size ho)
      · exact Nat.ne_of_lt (Heap.lt_size (I3.pin p hp).1)
    · refine thn (T.item (X.blk scope N' cl s3 (upd H2 s2.heap.objs.size (.lst [])) fp) rfl rfl rfl hc i [] s5 σ5 H5 _ I5 (stat fr5) st5 go) fun r s6 ⟨u, hr, h6⟩ => ?_
      subst hr
      refine thn h6 fun _ s7 ⟨x, H7, I7, r7, y7, st7, fr7⟩ => ?_
      have I7' := I7.pinned (stat fr7) (T.obj _ _ st7)
      refine wpAny_mono (hg cl s3 _ fp _ s7 σ5 H7 x u _ I7' r7 (step x H7 y7)) (fun _ s8 ⟨σ8, H8, I8, q8⟩ => ?_) fun _ _ z => z.elim
      refine wpAny_mono (he cl s3 _ fp _ s8 σ8 H8 _ I8 q8) (fun v s9 ⟨y, H9, I9, r9, ys, e9, z9, m', hm', w9⟩ => ?_) fun _ _ z => z.elim
      refine wpAny_mono (mt_append (X := X.blk scope N' cl s3 (upd H2 s2.heap.objs.size (.lst [])) fp) _ s9 σ8 H9 (.ref s2.heap.objs.size) [y] (.ref s2.heap.objs.size) [v] (fun _ H' => ∃ m', m' < n ∧ W (i + 1) m' σ8 H') I9 rfl (.cons r9 .nil) ⟨_, ys, y, rfl, rfl, e9, z9, m', hm', w9⟩) (fun _ s10 ⟨_, H10, I10, _, m10, hm10, w10⟩ => ?_) fun _ _ z => z.elim
      refine ⟨m10, hm10, i + 1, σ8, H10, I10.unpinned (pl := pinsAt fp s7.heap), T.keep _ _ _ st7 fun b hb o e => (I10.pin (b, o) (List.mem_append_right _ (List.mem_append_right _ (mem_pinsAt hb e)))).1, fun b hb => ?_, w10⟩
      obtain ⟨o, e, d⟩ := T.obj _ _ st7 b hb
      exact (I10.pin (b, o) (List.mem_append_right _ (List.mem_append_right _ (mem_pinsAt hb e)))).2.1
  rw [est]
  rw [eh]
  exact codeAny_compStart_list (loop _ rfl) (T.self _ 0 _ _ _ st4 (loop _ rfl))

theorem pe_comp {wi : TI} (hc : X.calm = true) (sc : BlkScope X scope N' own fv) (hi : PI X tg iter wi)
    (hg : ∀ cl s3 H3 ex, PG (X.blk scope N' cl s3 H3 ex) tg g) (he : ∀ cl s3 H3 ex, PE (X.blk scope N' cl s3 H3 ex) elt te)
    (hs : ∀ x, foldedSetIterable iter X.env x = pure x := by intro _; rfl) : PE X (.ListComp elt [⟨tg, iter, [], 0⟩] scope pos) (tComp wi own fv g te) := by
  intro pins s σ H Q I h
  obtain ⟨cl, hcl, c1, c2⟩ := closure_ex (scope := scope) (env := X.env) fun y hy hf => I.ok.has _ (sc.free y hy hf)
  rw [eval_ListComp]
  refine wpAny_comprehension_free (use := none) rfl hs hcl sc.kind sc.names (thn (hi pins s σ H _ I h) fun v s1 h1 => thn h1 fun itv s2 h2 => ?_)
  obtain ⟨it, fp, tn, J, H2, e, I2, T, st2, f2, hq⟩ := h2
  subst e
  refine comp_block (RR := fun acc C => compPost (model X.prog X.w) X.A X.xe none (EP X pins σ Q) acc C) hc sc I2 T st2 f2 c1 c2 hg he hq ?_
  intro acc C s' H' m I' q hn hC hL h0 hcc hp
  exact ⟨m, hn, fun h' sb => ⟨.ref acc, H', I'.turned (t' := s'.toks) (fun b o hb e => sb.extBut b o hb e) hC hL (.inr h0) hcc hp, rfl, q⟩⟩

/-- name = [..], a comprehension that is stored into a plain local name of its own row -/
theorem ps_setComp {wi : TI} {i : Nat} {x : Str} {pos' spos : Pos} (hc : X.calm = true) (sc : BlkScope X scope N' own fv) (hN : X.N.Nodup) (hix : X.N[i]? = some x) (hx : Loc X.env.scope x) (hi : PI X tg iter wi)
    (hg : ∀ cl s3 H3 ex, PG (X.blk scope N' cl s3 H3 ex) tg g) (he : ∀ cl s3 H3 ex, PE (X.blk scope N' cl s3 H3 ex) elt te)
    (hsw : swapsWith (.ListComp elt [⟨tg, iter, [], 0⟩] scope pos) (some (.Name x pos')) spos.line X.env = pure true := by rfl)
    (hs : ∀ x, foldedSetIterable iter X.env x = pure x := by intro _; rfl)
    (hf : X.fn x = true ∨ X.env.scope.names.lookup x = some .local := by first | exact .inl rfl | exact .inr rfl | assumption) :
    PS X (.Assign [.Name x pos'] (.ListComp elt [⟨tg, iter, [], 0⟩] scope pos) spos) (tAsg (tComp wi own fv g te) (gName i)) := by
  intro pins s σ H D I h
  obtain ⟨cl, hcl, c1, c2⟩ := closure_ex (scope := scope) (env := X.env) fun y hy hf => I.ok.has _ (sc.free y hy hf)
  rw [exec_Assign_Name_used _ _ _ _ hsw]
  refine wpAny_bind (wpAny_standAt (wpAny_bind ?_))
  show wpAny _ X.A (do let _ ← comprehension (.ListComp elt [⟨tg, iter, [], 0⟩] scope pos) scope X.env _ (newList []) false (eval iter X.env) (some (assign (.Name x pos') X.env))) _ _ s
  refine wpAny_bind (wpAny_mono (wpAny_comprehension_free (use := some (assign (.Name x pos') X.env)) (Q := fun _ s' => SP X pins D .next s') rfl hs hcl sc.kind sc.names
    (thn (hi pins s σ H _ I h) fun v s1 h1 => thn h1 fun itv s2 h2 => ?_)) (fun _ s' hq => wpAny_pure (wpAny_pure hq)) fun _ _ e => e)
  obtain ⟨it, fp, tn, J, H2, e, I2, T, st2, f2, hq⟩ := h2
  subst e
  refine comp_block (RR := fun acc C => compPost (model X.prog X.w) X.A X.xe (some (assign (.Name x pos') X.env)) (fun _ s' => SP X pins D .next s') acc C) hc sc I2 T st2 f2 c1 c2 hg he hq ?_
  intro acc C s' H' m I' q hn hC hL h0 hcc hp
  show wpAny _ X.A (assign (.Name x pos') X.env (.ref acc)) _ _ _
  refine wpAny_assign_Name (store_ok2 I' hN hix hx (v := .ref acc) rfl (fun s'' I'' ⟨a, sb, ha⟩ => ?_) hf)
  have hCa : C ≠ a := by
    rcases ha with rfl | ha
    · exact hL
    · exact fun z => hcc x a ha z.symm
  refine ⟨m, hn.sameBut sb hCa, fun h' sb' => ⟨_, H', I''.turned (t' := s''.toks) (fun b o hb e => sb'.extBut b o hb e) hC hL (.inr h0) hcc hp, q⟩⟩
end
end L2

set_option Elab.async false
set_option linter.all false
set_option maxRecDepth 100000

namespace L2
open PySem PySem.Spec PyProof.Rows

/-! ### a list taken apart: a, b = xs -/
section
variable {prog : Program} {w : World} {A : Around} {E : Value → Shared → Prop}
end
section
variable {X : Cx} {pos : Pos}

/-! ### all(list of bools) -/

/-! ### min, max of a tuple of ints -/
end

/-! ### data within one another: what a value stands for -/
mutual
inductive Rep (K : PySem.W.Frag) (H : Hp) : V → PyData → Prop
  | non : Rep K H .non .none
  | bl (b : Bool) : Rep K H (.bl b) (.bool b)
  | int (i : Int) : Rep K H (.int i) (.int i)
  | str (x : Str) : Rep K H (.str x) (.str x)
  | lst {a : Addr} {xs : List V} {ds : List PyData} : SqL K H a xs → RepAll K H xs ds → Rep K H (.ref a) (.list ds)
  | tup {a : Addr} {xs : List V} {ds : List PyData} : SqT K H a xs → RepAll K H xs ds → Rep K H (.ref a) (.tuple ds)
inductive RepAll (K : PySem.W.Frag) (H : Hp) : List V → List PyData → Prop
  | nil : RepAll K H [] []
  | cons {x : V} {d : PyData} {xs : List V} {ds : List PyData} : Rep K H x d → RepAll K H xs ds → RepAll K H (x :: xs) (d :: ds)
end
mutual
theorem Rep.reads {X : Cx} {pins : List (Addr × Obj)} {σ : St} {H : Hp} {s : Shared} (I : Inv X pins σ H s) : ∀ {v : V} {d : PyData} {u : Value}, Rep X.K H v d → RelV v u → ∃ as, Reads s.heap u d as
  | _, _, _, .non, r => by cases r; exact ⟨_, .none⟩
  | _, _, _, .bl b, r => by cases r; exact ⟨_, .bool b⟩
  | _, _, _, .int i, r => by obtain ⟨t, rfl⟩ := r; exact ⟨_, .int i t⟩
  | _, _, _, .str x, r => by obtain ⟨t, rfl⟩ := r; exact ⟨_, .str x t⟩
  | _, _, _, .lst h q, r => by
    cases r
    obtain ⟨its, rv, pl, _⟩ := I.list h
    obtain ⟨as, ra⟩ := RepAll.reads I q rv
    obtain ⟨o, e, c, n, d⟩ := pl.isList
    exact ⟨_, .list e c d ra⟩
  | _, _, _, .tup h q, r => by
    cases r
    obtain ⟨its, rv, pl, _⟩ := I.tuple h
    obtain ⟨as, ra⟩ := RepAll.reads I q rv
    obtain ⟨o, e, c, n, d⟩ := pl
    exact ⟨_, .tuple e c d ra⟩
theorem RepAll.reads {X : Cx} {pins : List (Addr × Obj)} {σ : St} {H : Hp} {s : Shared} (I : Inv X pins σ H s) : ∀ {xs : List V} {ds : List PyData} {us : List Value}, RepAll X.K H xs ds → Vals xs us → ∃ as, ReadsAll s.heap us ds as
  | _, _, _, .nil, .nil => ⟨_, .nil⟩
  | _, _, _, .cons h q, .cons r rr => by
    obtain ⟨as, ra⟩ := Rep.reads I h r
    obtain ⟨bs, rb⟩ := RepAll.reads I q rr
    exact ⟨_, .cons ra rb⟩
end
section
variable {X : Cx}
/-- == of two things that are data; the parts of one may be the parts of the other -/
def rEqD (K : PySem.W.Frag) (neg : Bool) : R2 := fun x y H Q => ∃ d e, Rep K H x d ∧ Rep K H y e ∧ d.canLay0 = true ∧ e.canLay0 = true ∧ d.depth ≤ 64 ∧ Q (.bl (if neg then !PyData.eqv d e else PyData.eqv d e)) H
theorem op_eqD (hu : X.A.units + 64 < cLine) : OpR X (compareOp .Eq) (rEqD X.K false) := by
  intro pins s σ H x y v u Q I rx ry h
  obtain ⟨d, e, rd, re, ld, le, dd, q⟩ := h
  obtain ⟨as, ra⟩ := rd.reads I rx
  obtain ⟨bs, rb⟩ := re.reads I ry
  exact SeqAt.compareEq_reads ra rb ld le (by omega) ⟨.bl _, H, I, rfl, q⟩
theorem op_neD (hu : X.A.units + 64 < cLine) : OpR X (compareOp .NotEq) (rEqD X.K true) := by
  intro pins s σ H x y v u Q I rx ry h
  obtain ⟨d, e, rd, re, ld, le, dd, q⟩ := h
  obtain ⟨as, ra⟩ := rd.reads I rx
  obtain ⟨bs, rb⟩ := re.reads I ry
  exact SeqAt.compareNe_reads ra rb ld le (by omega) ⟨.bl _, H, I, rfl, q⟩

/-! ### isinstance(x, bool), isinstance(x, int) of a flat value; x is True -/
theorem call_isi {T : String} : CallR X (.builtin "isinstance") (fun xs H Q => ∃ x t k, xs = [x, .ty T] ∧ TyOf X.K H x t ∧ PySem.W.kitOne X.K t (.type T) = some k ∧ Q (.bl k) H) := by
  intro pins s σ H xs us Q I r h
  obtain ⟨x, t, k, rfl, ty, e, q⟩ := h
  obtain ⟨u, w', rfl, r1, r2⟩ := vals2 r
  cases r2
  exact isinst_ok I r1 ty e fun tk => ⟨.bl k, H, I.tok _, rfl, q⟩
end
end L2

namespace L2
open PySem PySem.Spec PyProof.Rows
section
variable {X : Cx}

/-! ### the text of a block, by one look -/
def blkOk (sc0 : Scope) (N0 : List Str) (scope : Scope) (N' : List Str) (own : Nat) (fv : List Nat) : Bool :=
  decide (scope.kind = .function) && (scope.names.all fun y => decide (y.2 ≠ .cell)) && (scope.names.all fun y => decide (y.2 ≠ .local) || decide (scope.names.lookup y.1 = some .local)) &&
  (scope.names.all fun y => decide (y.2 ≠ .free) || (decide (sc0.names.lookup y.1 = some .cell) || decide (sc0.names.lookup y.1 = some .free))) && decide (N'.length = own + fv.length) &&
  ((List.range fv.length).all fun i => match N'[own + i]?, fv[i]? with
    | some x, some j => decide (N0[j]? = some x) && decide (scope.names.lookup x = some .free) && (decide (sc0.names.lookup x = some .cell) || decide (sc0.names.lookup x = some .free))
    | _, _ => false)
theorem blk_of {sc0 : Scope} {N0 : List Str} {scope : Scope} {N' : List Str} {own : Nat} {fv : List Nat} (h : blkOk sc0 N0 scope N' own fv = true) (h1 : X.env.scope = sc0) (h2 : X.N = N0) : BlkScope X scope N' own fv := by
  unfold blkOk at h
  simp only [Bool.and_eq_true, List.all_eq_true, decide_eq_true_eq, Bool.or_eq_true] at h
  obtain ⟨⟨⟨⟨⟨a1, a2⟩, a3⟩, a4⟩, a5⟩, a6⟩ := h
  refine ⟨a1, a2, fun y hy e => ?_, fun y hy e => ?_, a5, fun i => ?_⟩
  · rcases a3 y hy with z | z
    · exact absurd e z
    · exact z
  · rcases a4 y hy with z | z
    · exact absurd e z
    · show X.env.scope.names.lookup y.1 = _ ∨ X.env.scope.names.lookup y.1 = _
      rw [h1]; exact z
  · have := a6 i.val (List.mem_range.mpr i.isLt)
    split at this
    · rename_i x j e1 e2
      simp only [Bool.and_eq_true, decide_eq_true_eq, Bool.or_eq_true] at this
      refine ⟨x, e1, ?_, this.1.2, ?_⟩
      · have e3 : fv[i.val] = j := by
          have := List.getElem?_eq_getElem i.isLt
          rw [e2] at this; exact (Option.some.inj this).symm
        rw [h2, e3]; exact this.1.1
      · show X.env.scope.names.lookup x = _ ∨ X.env.scope.names.lookup x = _
        rw [h1]; exact this.2
    · cases this
end

/-! ### comprehensions: the forms one uses (one name, own slot 0, then the free names' values fvals) -/
theorem Same.put {H : Hp} {a : Addr} {o : HO} (h : H a = none) : Same H (upd H a o) := fun b u e => by
  rw [upd_ne (ne_of_none e h)]; exact e
end L2

namespace L2
open PySem PySem.Spec PyProof.Rows
section
variable {X : Cx} {e : Expr}
end
end L2

namespace L2
open PySem PySem.Spec PyProof.Rows
section
variable {X : Cx}
/-- // by a positive divisor of up to 512 bits -/
def CDivL (i j : Int) : Prop := 0 < j ∧ j < 2 ^ 512
theorem op_fdivL : OpR X (binaryOp .FloorDiv) (rI CDivL fun i j => .int (i / j)) := opI fun i j _ _ _ _ _ hc q => by
  have h0 := hc.1
  have h1 := hc.2
  refine floordiv_int (by omega) ?_ (.inl (PyProof.noPylong_of_log2 ?_))
  · rw [Int.fdiv_eq_ediv_of_nonneg i (by omega)]; exact q
  · have h2 : j.natAbs < 2 ^ 512 := by omega
    have h3 : j.natAbs ≠ 0 := by omega
    exact Nat.lt_trans ((Nat.log2_lt h3).mpr h2) (by decide)
end
end L2

namespace L2
open PySem PySem.Spec PyProof.Rows
section
variable {X : Cx} {K : PySem.W.Frag} {tg l : Expr} {tl : TE}
/-! ### the rules that speak of the written part, by its own letter (for a block) -/
theorem ix_tupK (h : X.K = K := by rfl) : IxR X (rIxT K) := by subst h; exact ix_tup
end
end L2

set_option Elab.async false
set_option linter.all false
set_option maxRecDepth 100000

namespace L2
open PySem PySem.Spec PyProof.Rows
/-! ### zip of two lists, taken apart at once -/
section
variable {X : Cx} {pins : List (Addr × Obj)} {σ : St} {H : Hp} {s : Shared} {h' : Heap} {t' : Nat} {fp : List Addr}
theorem Inv.turnedAll (I : Inv X pins σ H s) (hf : ∀ b ∈ fp, FpOk X pins H b) (k : ∀ b o, b ∉ fp → s.heap.get? b = some o → h'.get? b = some o) : Inv X pins σ H { s with heap := h', toks := t' } := by
  have nit : ∀ b u, H b = some u → b ∉ fp := fun b u e z => by rw [(hf b z).1] at e; cases e
  refine I.step (g' := s.gens) (d' := s.drawn) (ch := fp) (fun b hb => ⟨(hf b hb).2.2.2.1, (hf b hb).2.1, (hf b hb).2.2.2.2.1, (hf b hb).2.2.2.2.2⟩) (fun b o _ _ hc e _ => k b o hc e) (fun b o _ _ hc e _ => ⟨o.slots, k b o hc e⟩) (fun _ _ _ _ n => n)
    (fun b o hc e => ⟨o, k b o hc e⟩) (fun _ _ e => e) (fun _ _ _ e => e) (fun b ps e => ⟨#[], by rw [e]; simp⟩) (fun m hm => ?_) (fun b u e => ?_) I.bare
  · obtain ⟨o, es, ep, ho, r⟩ := hm
    exact ⟨o, es, ep, k _ o (fun z => (hf _ z).2.1 rfl) ho, r⟩
  · refine (I.hok b u e).stay (fun c v hc q => k c v ?_ q) (fun _ q => q) fun _ _ q => q
    rcases hc with z | z
    · rw [z]; exact nit b u e
    · exact nit c _ z
/-- .. and a new tuple is laid and tracked -/
theorem Inv.turnedTup {T : Addr} {x y : V} {vx vy : Value} (I : Inv X pins σ H s) (hf : ∀ b ∈ fp, FpOk X pins H b) (hT : s.heap.objs.size ≤ T) (hp : IsPair h' T vx vy) (rx : RelV x vx) (ry : RelV y vy)
    (k : ∀ b o, b ∉ fp → s.heap.get? b = some o → h'.get? b = some o) : Inv X pins σ (upd H T (.tup [x, y])) { s with heap := h', toks := t' } := by
  have hn : H T = none := I.hok.fresh hT
  have sm : Same H (upd H T (.tup [x, y])) := fun b u e => by rw [upd_ne (ne_of_none e hn)]; exact e
  have nit : ∀ b u, H b = some u → b ∉ fp := fun b u e z => by rw [(hf b z).1] at e; cases e
  refine I.step (g' := s.gens) (d' := s.drawn) (ch := fp) (fun b hb => ⟨(hf b hb).2.2.2.1, (hf b hb).2.1, (hf b hb).2.2.2.2.1, (hf b hb).2.2.2.2.2⟩) (fun b o _ _ hc e _ => k b o hc e) (fun b o _ _ hc e _ => ⟨o.slots, k b o hc e⟩)
    (fun b o _ e n => by rw [upd_ne (Nat.ne_of_lt (Nat.lt_of_lt_of_le (Heap.lt_size e) hT))]; exact n)
    (fun b o hc e => ⟨o, k b o hc e⟩) (fun b xs e => sm b _ e) (fun b o u e => sm b _ e) (fun b ps e => ⟨#[], by rw [sm b _ e]; simp⟩) (fun m hm => ?_) (fun b u e => ?_) I.bare
  · obtain ⟨o, es, ep, ho, r⟩ := hm
    exact ⟨o, es, ep, k _ o (fun z => (hf _ z).2.1 rfl) ho, r⟩
  · by_cases hb : b = T
    · subst hb
      rw [upd_same] at e; cases e
      exact ⟨by show 2 ≤ sizeLine; rw [sizeLine_eq]; decide, [vx, vy], .cons rx (.cons ry .nil), ⟨_, hp, rfl, _, rfl⟩⟩
    · rw [upd_ne hb] at e
      refine (I.hok b u e).stay (fun c v hc q => k c v ?_ q) (fun c q => sm c _ q) fun c xs q => sm c _ q
      rcases hc with z | z
      · rw [z]; exact nit b u e
      · exact nit c _ z
end
section
variable {X : Cx} {K : PySem.W.Frag}
end

/-! ### comprehensions over zip(xs, ys), two own names -/
end L2

namespace L2
open PySem PySem.Spec PyProof.Rows
end L2

set_option Elab.async false
set_option linter.all false
set_option maxRecDepth 100000

namespace L2
open PySem PySem.Spec PyProof.Rows
/-! ### enumerate of a list, taken apart at once -/
section
variable {X : Cx} {K : PySem.W.Frag}

/-! ### xs.insert(i, y), 0 ≤ i -/

/-! ### range(..) as a thing, list(range(..)) -/
theorem call_rng1 : CallR X (.type "range") (fun xs H Q => ∃ j, xs = [.int j] ∧ ∀ p, H p = none → Q (.ref p) (upd H p (.rng 0 j))) := by
  intro pins s σ H xs us Q I r h
  obtain ⟨j, rfl, q⟩ := h
  obtain ⟨u, rfl, t, rfl⟩ := vals1 r
  exact call_range_1 ⟨.ref s.heap.objs.size, _, I.laid (o := .rng 0 j) (t' := s.toks + 1 + 1) (fun b o e => Heap.get?_push_of_some _ e) (Nat.le_refl _) ⟨_, _, _, Heap.get?_push_size _ rfl⟩, rfl, q _ I.fresh⟩
def rngV (lo : Int) (n : Nat) : List V := (List.range n).map fun (i : Nat) => V.int (lo + (i : Int))
theorem call_list_rng (hc : X.calm = true) : CallR X (.type "list") (fun xs H Q => ∃ p lo hi, xs = [.ref p] ∧ H p = some (.rng lo hi) ∧ (-(2 ^ 62) ≤ lo ∧ lo < 2 ^ 62 ∧ -(2 ^ 62) ≤ hi ∧ hi < 2 ^ 62) ∧ hi - lo ≤ 1000000 ∧ ∀ l, H l = none → Q (.ref l) (upd H l (.lst (rngV lo (hi - lo).toNat)))) := by
  intro pins s σ H xs us Q I r h
  obtain ⟨p, lo, hi, rfl, hp, ⟨b1, b2, b3, b4⟩, b5, q⟩ := h
  obtain ⟨u, rfl, ru⟩ := vals1 r
  cases ru
  obtain ⟨t, u, v, e⟩ := I.hok p _ hp
  refine call_list_range (I.ok.hd hc) (n := (hi - lo).toNat) e (small_one b1 b2 b3 b4) (by rw [rangeSize_one]; split <;> omega) (by omega) fun h' tk acc' c' hk hS' hacc => ?_
  refine ⟨.ref s.heap.objs.size, _, I.laid (o := .lst (rngV lo (hi - lo).toNat)) (t' := tk) hk (Nat.le_refl _) ⟨?_, acc'.toList, c', ?_, hS'⟩, rfl, q _ I.fresh⟩
  · unfold rngV
    rw [List.length_map, List.length_range, sizeLine_eq]; omega
  · have hl : acc'.toList.length = (hi - lo).toNat := hacc.1
    have go : ∀ (m : Nat) (us : List Value) (k : Nat), us.length = m → (∀ (j : Nat) (v : Value), us[j]? = some v → ∃ t, v = Value.int (lo + ((k + j : Nat) : Int) * 1) t) → Vals ((List.range' k m).map fun (i : Nat) => V.int (lo + (i : Int))) us := by
      intro m
      induction m with
      | zero => intro us k hu _; cases us with
        | nil => exact .nil
        | cons _ _ => simp at hu
      | succ m ih =>
        intro us k hu hv
        cases us with
        | nil => simp at hu
        | cons u r =>
          rw [List.range'_succ, List.map_cons]
          refine .cons ?_ (ih r (k + 1) (by simpa using hu) fun j v hj => ?_)
          · obtain ⟨t, rfl⟩ := hv 0 u rfl
            exact ⟨t, by simp⟩
          · obtain ⟨t, rfl⟩ := hv (j + 1) v (by simpa using hj)
            exact ⟨t, by rw [show k + (j + 1) = k + 1 + j by omega]⟩
    unfold rngV
    rw [List.range_eq_range']
    exact go _ _ 0 hl fun j v hj => by
      obtain ⟨t, rfl⟩ := hacc.2 j v (by simpa using hj)
      exact ⟨t, by simp⟩
end
end L2

namespace L2
open PySem PySem.Spec PyProof.Rows
end L2

set_option Elab.async false
set_option linter.all false
set_option maxRecDepth 100000

namespace L2
open PySem PySem.Spec PyProof.Rows
section
variable {X : Cx} {K : PySem.W.Frag}
end
/-- a comprehension over a list whose parts change the heap: an invariant of one's own -/
theorem comp_inv {K : PySem.W.Frag} {a : Addr} {xs : List V} {H1 : Hp} {fvals : St} {te : TE} {Q : Addr → Hp → Prop} (Pv : Addr → Nat → Hp → Prop) (hl : ∀ acc i H, Pv acc i H → SqL K H a xs)
    (h0 : ∀ acc, H1 acc = none → Pv acc 0 (upd H1 acc (.lst [])))
    (step : ∀ (acc : Addr) (i : Nat) (x : V) (H : Hp) (R : VK), xs[i]? = some x → Pv acc i H → (∀ v H2, (∃ ys, H2 acc = some (.lst ys) ∧ ys.length < sizeLine ∧ Pv acc (i + 1) (upd H2 acc (.lst (ys ++ [v])))) → R v H2) → te (some x :: fvals) H R)
    (q : ∀ acc H', H1 acc = none → Pv acc xs.length H' → Q acc H') :
    compWalk (Itl K a) H1 (none :: fvals) (gName 0) te Q := by
  intro acc hacc
  refine ⟨fun i m σ' H' => m = xs.length - i ∧ i ≤ xs.length ∧ (∃ o, σ' = o :: fvals) ∧ Pv acc i H', ⟨_, rfl, Nat.zero_le _, ⟨none, rfl⟩, h0 acc hacc⟩, ?_⟩
  rintro i m σ' H' ⟨rfl, hi, ⟨o, rfl⟩, pv⟩
  by_cases hlt : i < xs.length
  · have hxi : xs[i]? = some xs[i] := List.getElem?_eq_getElem hlt
    refine .inr ⟨⟨xs, _, hl _ _ _ pv, hxi⟩, ?_⟩
    rintro v H2 ⟨rfl, hx⟩
    exact step acc i v H2 _ (hx xs (hl _ _ _ pv)) pv fun u H3 ⟨ys, e1, e2, e3⟩ => ⟨ys, e1, e2, xs.length - (i + 1), by omega, rfl, hlt, ⟨some v, rfl⟩, e3⟩
  · have e : i = xs.length := by omega
    subst e
    exact .inl ⟨⟨xs, hl _ _ _ pv, Nat.le_refl _⟩, q acc H' hacc pv⟩
end L2



namespace L2
open PySem PySem.Spec PyProof.Rows

/-! ### lists of pairs as tables -/
section
variable {κ : Type} [DecidableEq κ]
def valV (kvs : List (κ × V)) (k : κ) : Option V := (kvs.find? fun kv => decide (kv.1 = k)).map (·.2)
/-- in its place, or at the end -/
def putK (kvs : List (κ × V)) (k : κ) (v : V) : List (κ × V) :=
  if (kvs.any fun kv => decide (kv.1 = k)) = true then kvs.map (fun kv => if kv.1 = k then (kv.1, v) else kv) else kvs ++ [(k, v)]

theorem valV_pos {p : κ × V} {r : List (κ × V)} {k : κ} (e : p.1 = k) : valV (p :: r) k = some p.2 := by simp [valV, List.find?_cons, e]
theorem valV_neg {p : κ × V} {r : List (κ × V)} {k : κ} (e : ¬ p.1 = k) : valV (p :: r) k = valV r k := by simp [valV, List.find?_cons, e]
theorem valV_any (k : κ) : ∀ kvs : List (κ × V), (kvs.any fun kv => decide (kv.1 = k)) = (valV kvs k).isSome
  | [] => rfl
  | p :: r => by
    rw [List.any_cons]
    by_cases e : p.1 = k
    · simp only [valV_pos e, decide_eq_true e, Bool.true_or, Option.isSome_some]
    · rw [valV_neg e, decide_eq_false e, Bool.false_or]; exact valV_any k r
theorem length_putK (kvs : List (κ × V)) (k : κ) (v : V) : (putK kvs k v).length ≤ kvs.length + 1 := by
  unfold putK
  split
  · rw [List.length_map]; omega
  · rw [List.length_append, List.length_cons, List.length_nil]; omega
theorem putK_new {kvs : List (κ × V)} {k : κ} (v : V) (h : valV kvs k = none) : putK kvs k v = kvs ++ [(k, v)] := by
  unfold putK
  rw [valV_any, h]
  exact if_neg (by decide)

theorem RelO.isSome_eq {o : Option V} {u : Option Value} (r : RelO o u) : o.isSome = u.isSome := by
  cases o with
  | none => cases u with
    | none => rfl
    | some _ => exact (show False from r).elim
  | some _ => cases u with
    | none => exact (show False from r).elim
    | some _ => rfl

/-- raw tables of the same keys -/
theorem KV.val {kvs : List (κ × V)} {vs : List (κ × Value)} (r : KV kvs vs) (k : κ) : RelO (valV kvs k) (valueAt vs k) := by
  unfold KV at r
  induction r with
  | nil => exact True.intro
  | @cons p q ps qs h t ih =>
    obtain ⟨h1, h2⟩ := h
    by_cases e : p.1 = k
    · have e' : q.1 = k := h1.symm.trans e
      have b : valueAt (q :: qs) k = some q.2 := by simp [valueAt, List.find?_cons, e']
      rw [valV_pos e, b]; exact h2
    · have e' : ¬ q.1 = k := fun z => e (h1.trans z)
      have b : valueAt (q :: qs) k = valueAt qs k := by simp [valueAt, List.find?_cons, e']
      rw [valV_neg e, b]; exact ih
theorem KV.any {kvs : List (κ × V)} {vs : List (κ × Value)} (r : KV kvs vs) (k : κ) : (kvs.any fun kv => decide (kv.1 = k)) = vs.any fun kv => decide (kv.1 = k) := by
  unfold KV at r
  induction r with
  | nil => rfl
  | cons h t ih => rw [List.any_cons, List.any_cons, ih, h.1]
theorem KV.repl {kvs : List (κ × V)} {vs : List (κ × Value)} (r : KV kvs vs) (k : κ) {y : V} {u : Value} (ry : RelV y u) :
    KV (kvs.map fun kv => if kv.1 = k then (kv.1, y) else kv) (vs.map fun kv => if kv.1 = k then (kv.1, u) else kv) := by
  unfold KV at r ⊢
  induction r with
  | nil => exact .nil
  | @cons p q ps qs h t ih =>
    rw [List.map_cons, List.map_cons]
    refine .cons ?_ ih
    obtain ⟨h1, h2⟩ := h
    by_cases e : p.1 = k
    · rw [if_pos e, if_pos (h1.symm.trans e)]; exact ⟨h1, ry⟩
    · rw [if_neg e, if_neg (fun z => e (h1.trans z))]; exact ⟨h1, h2⟩
theorem KV.put {kvs : List (κ × V)} {vs : List (κ × Value)} (r : KV kvs vs) (k : κ) {y : V} {u : Value} (ry : RelV y u) : KV (putK kvs k y) (stored vs k u) := by
  unfold putK stored
  rw [r.any k]
  by_cases e : (vs.any fun kv => decide (kv.1 = k)) = true
  · rw [if_pos e, if_pos e]; exact r.repl k ry
  · rw [if_neg e, if_neg e]; exact Paired.snoc r ⟨rfl, ry⟩
theorem KV.keys {kvs : List (κ × V)} {vs : List (κ × Value)} (r : KV kvs vs) : kvs.map (·.1) = vs.map (·.1) := by
  unfold KV at r
  induction r with
  | nil => rfl
  | cons h t ih => rw [List.map_cons, List.map_cons, ih, h.1]
theorem KV.length {kvs : List (κ × V)} {vs : List (κ × Value)} (r : KV kvs vs) : kvs.length = vs.length := Paired.length r
end


/-! ### a tracked dict, its keys ints and texts or tuples of these -/
theorem kV_is {P : Program} {w : World} {k : Key} {u : Value} (r : RelV (kV k) u) : (mixKind P w).is k u = true := by
  cases k with
  | inl i => obtain ⟨t, e⟩ := (show ∃ t, u = Value.int i t from r); subst e; exact mixKind_int P w i t
  | inr x => obtain ⟨t, e⟩ := (show ∃ t, u = Value.str x t from r); subst e; exact mixKind_str P w x t
theorem items_are {P : Program} {w : World} : ∀ {ks : List Key} {us : List Value}, Vals (ks.map kV) us → ItemsAre (mixKind P w) ks us
  | [], _, r => by rw [List.map_nil] at r; cases r; exact .nil
  | k :: ks, _, r => by
    rw [List.map_cons] at r
    cases r with
    | cons h t => exact .cons (kV_is h) (items_are t)

/-- raw entries of a dict with tuple keys -/
abbrev KT (H : Hp) : List (List Key × V) → List (List Key × Addr × Value) → Prop := Paired fun p q => p.1 = q.1 ∧ H q.2.1 = some (.tup (p.1.map kV)) ∧ RelV p.2 q.2.2
theorem KT.val {H : Hp} {kvs : List (List Key × V)} {xs : List (List Key × Addr × Value)} (r : KT H kvs xs) (k : List Key) : RelO (valV kvs k) ((atKey xs k).map (·.2)) := by
  induction r with
  | nil => exact True.intro
  | @cons p q ps qs h t ih =>
    obtain ⟨h1, _, h2⟩ := h
    by_cases e : p.1 = k
    · have e' : q.1 = k := h1.symm.trans e
      have b : atKey (q :: qs) k = some q.2 := by simp [atKey, List.find?_cons, e']
      rw [valV_pos e, b]; exact h2
    · have e' : ¬ q.1 = k := fun z => e (h1.trans z)
      have b : atKey (q :: qs) k = atKey qs k := by simp [atKey, List.find?_cons, e']
      rw [valV_neg e, b]; exact ih
theorem KT.repl {H : Hp} {kvs : List (List Key × V)} {xs : List (List Key × Addr × Value)} (r : KT H kvs xs) (k : List Key) {y : V} {u : Value} (ry : RelV y u) :
    KT H (kvs.map fun kv => if kv.1 = k then (kv.1, y) else kv) (xs.map (putAt k u)) := by
  induction r with
  | nil => exact .nil
  | @cons p q ps qs h t ih =>
    rw [List.map_cons, List.map_cons]
    refine .cons ?_ ih
    obtain ⟨h1, h2, h3⟩ := h
    unfold putAt
    by_cases e : p.1 = k
    · rw [if_pos e, if_pos (h1.symm.trans e)]; exact ⟨h1, h2, ry⟩
    · rw [if_neg e, if_neg (fun z => e (h1.trans z))]; exact ⟨h1, h2, h3⟩
theorem KT.put {H : Hp} {kvs : List (List Key × V)} {xs : List (List Key × Addr × Value)} (r : KT H kvs xs) (k : List Key) {b : Addr} {y : V} {u : Value} (hb : H b = some (.tup (k.map kV))) (ry : RelV y u) :
    KT H (putK kvs k y) (storedH xs k b u) := by
  have e : (kvs.any fun kv => decide (kv.1 = k)) = (atKey xs k).isSome := by
    rw [valV_any, (r.val k).isSome_eq, Option.isSome_map]
  unfold putK storedH
  rw [e]
  by_cases q : (atKey xs k).isSome = true
  · rw [if_pos q, if_pos q]; exact r.repl k ry
  · rw [if_neg q, if_neg q]; exact Paired.snoc r ⟨rfl, hb, ry⟩
theorem KT.keeps {H H' : Hp} {kvs : List (List Key × V)} {xs : List (List Key × Addr × Value)} (r : KT H kvs xs) (ht : ∀ b ys, H b = some (.tup ys) → H' b = some (.tup ys)) : KT H' kvs xs :=
  Paired.mapP r fun _ _ z => ⟨z.1, ht _ _ z.2.1, z.2.2⟩

section
variable {P : Program} {w : World} {H : Hp} {h : Heap} {a : Addr}
theorem rd_of {u : HO} (ok : HOk P w H h) (e : Rd H a u) : ObjOk P w H h a u := e.ok ok
theorem dk_rd {kvs : List (Key × V)} (ok : HOk P w H h) (e : Rd H a (.dK kvs)) : kvs.length ≤ sizeLine ∧ (a == sysModules) = false ∧ ∃ vs, KV kvs vs ∧ h.DictOf (mixKind P w) a vs :=
  show ObjOk P w H h a (.dK kvs) from rd_of ok e
theorem dk_of {kvs : List (Key × V)} (ok : HOk P w H h) (e : H a = some (.dK kvs)) : kvs.length ≤ sizeLine ∧ (a == sysModules) = false ∧ ∃ vs, KV kvs vs ∧ h.DictOf (mixKind P w) a vs := dk_rd ok (.inl e)
/-- a tracked tuple of ints and texts is a key -/
theorem key_of {ks : List Key} (ok : HOk P w H h) (e : H a = some (.tup (ks.map kV))) : (tupleKind (mixKind P w)).is h ks a := by
  obtain ⟨_, its, r, o, h1, h2, n, h3⟩ := (show ObjOk P w H h a (.tup (ks.map kV)) from ok a _ e)
  exact ⟨o, its.toArray, n, h1, h2, h3, by simpa using items_are r⟩
theorem dt_rd {kvs : List (List Key × V)} (ok : HOk P w H h) (e : Rd H a (.dT kvs)) : kvs.length ≤ sizeLine ∧ (a == sysModules) = false ∧
    ∃ xs, KT H kvs xs ∧ h.DictOfH (tupleKind (mixKind P w)) a xs := by
  obtain ⟨z, y, xs, r, o, es, ep, h1, h2, h3, h4, h5⟩ := (show ObjOk P w H h a (.dT kvs) from rd_of ok e)
  refine ⟨z, y, xs, r, o, es, ep, h1, h2, h3, h4, fun x hx => ?_, h5⟩
  have all : ∀ {l : List (List Key × V)} {m : List (List Key × Addr × Value)}, KT H l m → ∀ x ∈ m, (tupleKind (mixKind P w)).is h x.1 x.2.1 := by
    intro l m q
    induction q with
    | nil => intro x hx; exact nomatch hx
    | @cons p q ps qs hq t ih =>
      intro x hx
      rcases List.mem_cons.mp hx with e | hx
      · subst e
        exact key_of ok (by rw [← hq.1]; exact hq.2.1)
      · exact ih x hx
  exact all r x hx
theorem dt_of {kvs : List (List Key × V)} (ok : HOk P w H h) (e : H a = some (.dT kvs)) : kvs.length ≤ sizeLine ∧ (a == sysModules) = false ∧
    ∃ xs, KT H kvs xs ∧ h.DictOfH (tupleKind (mixKind P w)) a xs := dt_rd ok (.inl e)
end

/-- what the dict at a holds at the key y -/
def DGet (H : Hp) (a : Addr) (y : V) (r : Option V) : Prop :=
  (∃ kvs k, Rd H a (.dK kvs) ∧ y = kV k ∧ r = valV kvs k) ∨ ∃ kvs k b, Rd H a (.dT kvs) ∧ y = .ref b ∧ H b = some (.tup (k.map kV)) ∧ r = valV kvs k
/-- the heap behind a[y] = v -/
def DPut (H : Hp) (a : Addr) (y v : V) (H' : Hp) : Prop :=
  (∃ kvs k, H a = some (.dK kvs) ∧ y = kV k ∧ kvs.length < sizeLine ∧ H' = upd H a (.dK (putK kvs k v))) ∨
  ∃ kvs k b, H a = some (.dT kvs) ∧ y = .ref b ∧ H b = some (.tup (k.map kV)) ∧ kvs.length < sizeLine ∧ H' = upd H a (.dT (putK kvs k v))
theorem DGet.k {H : Hp} {a : Addr} {kvs : List (Key × V)} {k : Key} (e : H a = some (.dK kvs)) : DGet H a (kV k) (valV kvs k) := .inl ⟨kvs, k, .inl e, rfl, rfl⟩
theorem DPut.k {H : Hp} {a : Addr} {kvs : List (Key × V)} {k : Key} {v : V} (e : H a = some (.dK kvs)) (hl : kvs.length < sizeLine) : DPut H a (kV k) v (upd H a (.dK (putK kvs k v))) := .inl ⟨kvs, k, e, rfl, hl, rfl⟩


section
variable {X : Cx} {pins : List (Addr × Obj)} {σ : St} {H : Hp} {s : Shared} {a : Addr} {y v : V} {u r : Value} {o : Option V} {A : Around} {E : Value → Shared → Prop}

theorem Inv.big (I : Inv X pins σ H s) : sysModules < s.heap.objs.size := by
  have h : mainGlobals < s.heap.objs.size := (I.mod.glob.keeps I.bk).lt
  exact Nat.lt_trans (by decide) h

/-- d[y], there -/
theorem d_getItem {Q : Value → Shared → Prop} (hu : A.units + 1 < cLine) (I : Inv X pins σ H s) (g : DGet H a y (some v)) (ry : RelV y u) (h : ∀ w' s', Inv X pins σ H s' → RelV v w' → Q w' s') :
    wpAny (model X.prog X.w) A (getItem (.ref a) u) Q E s := by
  rcases g with ⟨kvs, k, e, ey, l⟩ | ⟨kvs, k, b, e, ey, eb, l⟩
  · subst ey
    obtain ⟨z, hd, vs, rel, dd⟩ := dk_rd I.hok e
    obtain ⟨w', hw, rw'⟩ := RelO.some_of (v := v) (o := valueAt vs k) (by rw [l]; exact rel.val k)
    exact wpAny_getItem_of (kV_is ry) dd.mapOf hw (h w' _ (I.tok _) rw')
  · subst ey
    cases (show u = Value.ref b from ry)
    obtain ⟨z, hd, xs, rel, dd⟩ := dt_rd I.hok e
    obtain ⟨w', hw, rw'⟩ := RelO.some_of (v := v) (o := (atKey xs k).map (·.2)) (by rw [l]; exact rel.val k)
    obtain ⟨p, hp, hp2⟩ := Option.map_eq_some_iff.mp hw
    refine wpAny_getItem_heap (tupleKind_room_in1 hu) (key_of I.hok eb) dd hp ?_
    rw [hp2]
    exact h w' _ (I.tok _) rw'
/-- a dict's object is replaced -/
theorem d_write {h' : Heap} {t' : Nat} {ob : HO} (I : Inv X pins σ H s) (mu : Mut (H a)) (hs : Heap.SameBut a s.heap h') (he : ∃ q, h'.get? a = some q) (new : ObjOk X.prog X.w (upd H a ob) h' a ob) :
    Inv X pins σ (upd H a ob) { s with heap := h', toks := t' } :=
  I.write (x := a) (e := a) mu (.inl rfl) (fun b q hb z => (hs.2 b hb).trans z) he new
theorem dk_new {P : Program} {w : World} {H' : Hp} {h' : Heap} {kvs : List (Key × V)} {vs : List (Key × Value)} (z : kvs.length ≤ sizeLine) (hd : (a == sysModules) = false) (rel : KV kvs vs) (dd : h'.DictOf (mixKind P w) a vs) :
    ObjOk P w H' h' a (.dK kvs) := ⟨z, hd, vs, rel, dd⟩
/-- d[y] = v -/
theorem d_setItem {H' : Hp} {Q : Unit → Shared → Prop} (hu : A.units + 1 < cLine) (I : Inv X pins σ H s) (g : DPut H a y v H') (ry : RelV y u) (rv : RelV v r) (h : ∀ s', Inv X pins σ H' s' → Q () s') :
    wpAny (model X.prog X.w) A (setItem (.ref a) u r) Q E s := by
  rcases g with ⟨kvs, k, e, ey, l, eH⟩ | ⟨kvs, k, b, e, ey, eb, l, eH⟩
  · subst ey eH
    obtain ⟨z, hd, vs, rel, dd⟩ := dk_of I.hok e
    have hz : vs.length ≤ sizeLine := by rw [← rel.length]; exact z
    have hl : (putK kvs k v).length ≤ sizeLine := by have := length_putK kvs k v; omega
    refine wpAny_setItem_pairs (hsz := hz) (kV_is ry) dd fun h' dd' hs => h _ ?_
    have he : ∃ q, h'.get? a = some q := let ⟨q, _, _, hq, _⟩ := dd'; ⟨q, hq⟩
    exact d_write I (by rw [e]; exact True.intro) hs he (dk_new hl hd (rel.put k rv) dd')
  · subst ey eH
    cases (show u = Value.ref b from ry)
    obtain ⟨z, hd, xs, rel, dd⟩ := dt_of I.hok e
    have hz : xs.length ≤ sizeLine := by rw [← Paired.length rel]; exact z
    have hl : (putK kvs k v).length ≤ sizeLine := by have := length_putK kvs k v; omega
    refine wpAny_setItem_heap (hsz := hz) (tupleKind_room_in1 hu) (key_of I.hok eb) dd fun h' dd' hs => h _ ?_
    obtain ⟨q, es, ep, hq, h2, h3, h4, _, h5⟩ := dd'
    refine d_write I (by rw [e]; exact True.intro) hs ⟨q, hq⟩ ⟨hl, hd, _, (rel.put k eb rv).keeps fun c ys ec => ?_, q, es, ep, hq, h2, h3, h4, h5⟩
    rw [upd_ne (ne_of ec e (fun z => nomatch z))]
    exact ec
end

section
variable {X : Cx} {pins : List (Addr × Obj)} {σ : St} {H : Hp} {s : Shared} {a : Addr} {kvs : List (Key × V)} {k : Key} {u : Value} {A : Around} {E : Value → Shared → Prop}
end


/-! ### readings and rules -/
/-- the element of a subscription, not a slice -/
def NoSl (i : Expr) : Prop := ∀ ov iv, subscripted i false ov iv = operate [ov, iv] (getItem ov iv)
theorem subD_of {prog : Program} {w : World} {A : Around} {E : Value → Shared → Prop} {s : Shared} {env : Env} {value slice : Expr} {pos : Pos} {T id : String} {Q : Value → Shared → Prop}
    (hl : typeLookup (.type T) "__getitem__" = pure (some (.builtin id))) (hs : NoSl slice)
    (h : wpAny (model prog w) A (eval value env) (fun o s₁ => wpAny (model prog w) A (eval slice env) (fun i s₂ => s₂.TypeIs o T ∧ wpAny (model prog w) A (getItem o i) Q E s₂) E s₁) E s) :
    wpAny (model prog w) A (eval (.Subscript value slice pos) env) Q E s := by
  refine Subscript_ (wpAny_mono h (fun o s₁ h₁ => wpAny_mono h₁ (fun i s₂ h₂ => ?_) fun _ _ x => x) fun _ _ x => x)
  obtain ⟨hT, h₂⟩ := h₂
  unfold subscriptTail
  refine wpAny_bind ?_
  rw [getitemInPython_of_ne hT.not_modules]
  refine wpAny_bind (wpAny_specialOf hT hl ?_)
  have fin : wpAny (model prog w) A (subscripted slice false o i) (fun r s₃ => wpAny (model prog w) A (letTemporaryGo value o r >>= fun _ => pure r) Q E s₃) E s₂ := by
    rw [hs o i]
    exact wpAny_operating (wpAny_mono h₂ (fun r s₃ h₃ => wpAny_bind (wpAny_letTemporaryGo (wpAny_pure h₃))) fun _ _ x => x)
  first
    | exact wpAny_pure (wpAny_bind fin)
    | exact wpAny_bind (wpAny_pure (wpAny_bind fin))
    | exact wpAny_bind fin

theorem dict_typeIs {X : Cx} {pins : List (Addr × Obj)} {σ : St} {H : Hp} {s : Shared} {a : Addr} {y : V} {o : Option V} (I : Inv X pins σ H s) (g : DGet H a y o) : s.TypeIs (.ref a) "dict" := by
  rcases g with ⟨kvs, k, e, _, _⟩ | ⟨kvs, k, b, e, _, _, _⟩
  · obtain ⟨_, _, vs, _, dd⟩ := dk_rd I.hok e
    exact dd.typeIs
  · obtain ⟨_, _, xs, _, dd⟩ := dt_rd I.hok e
    exact dd.typeIs

/-- d[y] -/
def tDGet (td ty : TE) : TE := fun σ H Q => td σ H fun x H1 => ty σ H1 fun y H2 => ∃ a v, x = .ref a ∧ DGet H2 a y (some v) ∧ Q v H2
/-- d[y] = v -/
def sDPut (td ty tv : TE) : TS := fun D σ H => tv σ H fun v H1 => td σ H1 fun x H2 => ty σ H2 fun y H3 => ∃ a H4, x = .ref a ∧ DPut H3 a y v H4 ∧ D.nx σ H4

section
variable {X : Cx} {o i e value : Expr} {pos pos' tpos : Pos} {td ty tv : TE}
theorem pe_dget (hu : X.A.units + 1 < cLine) (ho : PE X o td) (hi : PE X i ty) (hs : NoSl i) : PE X (.Subscript o i pos) (tDGet td ty) := by
  intro pins s σ H Q I h
  refine subD_of PySem.F.slot_dict_getitem.lookup hs (thn (ho pins s σ H _ I h) fun u s1 ⟨x, H1, I1, rx, q1⟩ => thn (hi pins s1 σ H1 _ I1 q1) fun iv s2 ⟨y, H2, I2, ry, a, v, ex, g, q2⟩ => ?_)
  subst ex
  obtain rfl : u = Value.ref a := rx
  exact ⟨dict_typeIs I2 g, d_getItem hu I2 g ry fun w' s3 I3 rw' => ⟨v, H2, I3, rw', q2⟩⟩
theorem ps_dput (hu : X.A.units + 1 < cLine) (ho : PE X o td) (hi : PE X i ty) (hv : PE X value tv) (hs : swapsWith value (some (.Subscript o i pos')) pos.line X.env = pure false) :
    PS X (.Assign [.Subscript o i pos'] value pos) (sDPut td ty tv) := by
  intro pins s σ H D I h
  refine wpAny_Assign_Subscript (thn (hv pins s σ H _ I h) fun r s1 ⟨v, H1, I1, rv, q1⟩ => thn (ho pins s1 σ H1 _ I1 q1) fun u s2 ⟨x, H2, I2, rx, q2⟩ => thn (hi pins s2 σ H2 _ I2 q2) fun iv s3 ⟨y, H3, I3, ry, a, H4, ex, g, q3⟩ => ?_) hs
  subst ex
  obtain rfl : u = Value.ref a := rx
  exact d_setItem hu I3 g ry rv fun s4 I4 => ⟨σ, H4, I4, q3⟩
end


/-! ### displays -/
theorem dk_empty {P : Program} {w : World} {H : Hp} (h : Heap) (hb : sysModules < h.objs.size) : ObjOk P w H (h.push { cls := .type "dict", data := .dict #[] }) h.objs.size (.dK []) :=
  ⟨Nat.zero_le _, beq_eq_false_iff_ne.mpr (Ne.symm (Nat.ne_of_lt hb)), [], .nil, Heap.DictOf.new h⟩
/-- {}, to be a dict of the kind that is wanted -/
def tDNewK : TE := fun _ H Q => ∀ p, H p = none → Q (.ref p) (upd H p (.dK []))
section
variable {X : Cx} {pos : Pos}
theorem pe_dnewK : PE X (.Dict [] [] pos) tDNewK := fun pins s σ H Q I h =>
  wpAny_Dict_empty ⟨.ref s.heap.objs.size, _, I.laid (a := s.heap.objs.size) (o := .dK []) (t' := s.toks) (fun _ _ q => Heap.get?_push_of_some _ q) (Nat.le_refl _) (dk_empty s.heap I.big), rfl, h _ (I.hok.fresh (Nat.le_refl _))⟩
end




/-! ### methods -/
/-- a method call o.m(e) of a built-in, with one argument: what must be seen of the text -/
structure M1 (X : Cx) (o : Expr) (m : Str) (apos : Pos) (e : Expr) (cpos : Pos) : Prop where
  base : attributeBase o m X.env (eval o X.env) = eval o X.env
  few : ((backTo cpos (starEach [e] X.env)).all (fun x => !x.1) && (backToKw cpos (keywordEach [] X.env)).all (fun x => x.1.isSome)
    && decide (([e] : List Expr).length + ([] : List Keyword).length + (if ([] : List Keyword).isEmpty then 0 else 1) < 30)) = true
  line : (apos.endLine == cpos.line) = true
  trees : backTo cpos (starEach [e] X.env) = [(false, eval e X.env)]
structure M2 (X : Cx) (o : Expr) (m : Str) (apos : Pos) (e f : Expr) (cpos : Pos) : Prop where
  base : attributeBase o m X.env (eval o X.env) = eval o X.env
  few : ((backTo cpos (starEach [e, f] X.env)).all (fun x => !x.1) && (backToKw cpos (keywordEach [] X.env)).all (fun x => x.1.isSome)
    && decide (([e, f] : List Expr).length + ([] : List Keyword).length + (if ([] : List Keyword).isEmpty then 0 else 1) < 30)) = true
  line : (apos.endLine == cpos.line) = true
  trees : backTo cpos (starEach [e, f] X.env) = [(false, eval e X.env), (false, eval f X.env)]


section
variable {X : Cx} {pins : List (Addr × Obj)} {σ : St} {H : Hp} {s : Shared} {a : Addr} {y d : V} {u r : Value} {o : Option V} {A : Around} {E : Value → Shared → Prop}
end

section
variable {X : Cx} {o e f : Expr} {apos cpos : Pos} {td ty tx : TE}
end

/-! ### dict(d): a copy -/
section
variable {X : Cx} {pins : List (Addr × Obj)} {σ : St} {H : Hp} {s : Shared} {a : Addr} {kvs : List (Key × V)} {A : Around} {E : Value → Shared → Prop}
end


section
variable {X : Cx} {pins : List (Addr × Obj)} {σ : St} {H : Hp} {s : Shared} {a : Addr} {y : V} {u : Value} {A : Around} {E : Value → Shared → Prop}
end
end L2


set_option Elab.async false
set_option linter.all false
set_option maxRecDepth 100000

namespace PySem
open Builtin
end PySem
namespace L2
open PySem PySem.Spec PyProof.Rows
section
variable {X : Cx} {K : PySem.W.Frag}
theorem foldl_one (v : Value) : ∀ (m : Nat) (a : List Value), List.foldl (fun x1 x2 => x1 ++ x2) a.toArray (List.replicate m #[v]) = (a ++ List.replicate m v).toArray
  | 0, a => by simp
  | m + 1, a => by
    rw [List.replicate_succ, List.foldl_cons, show a.toArray ++ #[v] = (a ++ [v]).toArray by simp, foldl_one v m (a ++ [v]), List.replicate_succ, List.append_assoc]; rfl
theorem vals_rep {v : V} {u : Value} (r : RelV v u) : ∀ m : Nat, Vals (List.replicate m v) (List.replicate m u)
  | 0 => .nil
  | m + 1 => .cons r (vals_rep r m)
end
end L2









namespace PySem
open Sem (wp)
set_option maxRecDepth 100000
namespace F
theorem plain_update_loop : plainId "dict.update.loop" = true := by decide +kernel
theorem entry_update_loop : entryFor table "dict.update.loop" = some Builtin.«dict.update.loop» := entryFor_of_fast (by kernel_rfl)
end F
section
variable {prog : Program} {w : World} {K : Type} [DecidableEq K] {knd : KeyKind prog w K} {A : Around} {E : Value → Shared → Prop} {s : Shared}
theorem dp_pair {t : Addr} {x y : Value} {Q : List Value → Shared → Prop} (ht : s.heap.IsTuple t #[x, y]) (h : Q [x, y] s) : wpAny (model prog w) A (Builtin.Dict.pairItems (.ref t)) Q E s := by
  obtain ⟨o, ho, hc, n, hd⟩ := ht
  unfold Builtin.Dict.pairItems
  refine wpAny_bind (wpAny_typeOf (T := "tuple") ⟨o, ho, hc⟩ ?_)
  refine wpAny_bind (wpAny_seqItems ho hd ?_)
  exact wpAny_pure h
theorem codeAny_dp_loop {it l d : Addr} {items : Array Value} {ps : List (K × Value)} {R : Result → Shared → Prop} (hh : A.in1.handled = none) (hdi : d ≠ it) (hdl : d ≠ l) (hil : l ≠ it) (hsz : ps.length ≤ sizeLine) (hn : items.size = ps.length) (hdis : (ps.map (·.1)).Nodup) :
    ∀ (k i : Nat) (s : Shared) (n : Int), ps.length - i = k → i ≤ ps.length → s.heap.IsListIter it l i → s.heap.IsList l items →
    (∀ j (h : j < ps.length), ∃ t key, items[j]? = some (.ref t) ∧ s.heap.IsTuple t #[key, ps[j].2] ∧ knd.is ps[j].1 key = true ∧ t ≠ it ∧ t ≠ d) → s.heap.DictOf knd d (ps.take i) →
    (∀ h' t', h'.DictOf knd d ps → (∀ b o, b ≠ d → b ≠ it → s.heap.get? b = some o → h'.get? b = some o) → R (.ok (.ret .none)) { s with heap := h', toks := t' }) →
    codeAny (model prog w) A (.builtin "dict.update.loop" ⟨[.ref d, .ref it, .int n 0, .none], []⟩) R s := by
  intro k
  induction k with
  | zero =>
    intro i s n hk hi hit hl hitems hd hR
    refine codeAny_builtin F.entry_update_loop ?_
    rw [Around.under_plainId F.plain_update_loop _]
    show wpAny _ A.in1 (pyNext (.ref it) >>= _) _ _ s
    refine wpAny_bind (wpAny_pyNext_list_end hh hit hl (by simp; omega) fun h' eb => ?_)
    show wpAny _ _ (Builtin.Dict.addKeywords d [] >>= _) _ _ _
    refine wpAny_bind (wpAny_pure (wpAny_pure ?_))
    rw [List.take_of_length_le (by omega)] at hd
    exact hR _ _ (hd.extBut eb hdi) (fun b o hb1 hb2 e => eb b o hb2 e)
  | succ k ih =>
    intro i s n hk hi hit hl hitems hd hR
    have hlt : i < ps.length := by omega
    obtain ⟨t, key, e1, e2, e3, e4, e5⟩ := hitems i hlt
    refine codeAny_builtin F.entry_update_loop ?_
    rw [Around.under_plainId F.plain_update_loop _]
    show wpAny _ A.in1 (pyNext (.ref it) >>= _) _ _ s
    refine wpAny_bind (wpAny_pyNext_list_item hit hl e1 fun h' it' sb => ?_)
    have e2' : h'.IsTuple t #[key, ps[i].2] := let ⟨o, ho, r⟩ := e2; ⟨o, (sb.2 t e4).trans ho, r⟩
    have hd' := hd.sameBut sb hdi
    have hl' : h'.IsList l items := let ⟨o, ho, r⟩ := hl; ⟨o, (sb.2 l hil).trans ho, r⟩
    show wpAny _ _ (holding [Value.ref t] _ >>= _) _ _ _
    refine wpAny_bind (wpAny_holding ?_)
    refine wpAny_bind (wpAny_tryCatch (dp_pair e2' ?_))
    have hst : stored (ps.take i) ps[i].1 ps[i].2 = ps.take (i + 1) := by
      unfold stored
      rw [if_neg, List.take_add_one, List.getElem?_eq_getElem hlt]
      · rfl
      · intro ha
        obtain ⟨q, hq, eq⟩ := List.any_eq_true.mp ha
        have eq' : q.1 = ps[i].1 := of_decide_eq_true eq
        obtain ⟨j, hj, ej⟩ := List.getElem_of_mem hq
        rw [List.length_take] at hj
        rw [List.getElem_take] at ej
        have := List.pairwise_iff_getElem.mp hdis j i (by rw [List.length_map]; omega) (by rw [List.length_map]; exact hlt) (by omega)
        apply this
        rw [List.getElem_map, List.getElem_map, ej, eq']
    show wpAny _ _ (holding [key, ps[i].2] (dictSet d key ps[i].2)) _ _ _
    refine wpAny_holding (wpAny_dictSet_pairs (s := { s with heap := h' }) e3 hd' (fun h2 dd sb2 => ?_) (by rw [List.length_take]; omega))
    rw [hst] at dd
    refine wpAny_pure ⟨plainId_quiet F.plain_update_loop _, ih (i + 1) _ _ (by omega) hlt ?_ ?_ (fun j hj => ?_) dd fun h3 t3 d' ext => hR h3 t3 d' (fun b o hb1 hb2 e => ext b o hb1 hb2 ((sb2.2 b hb1).trans ((sb.2 b hb2).trans e)))⟩
    · obtain ⟨o, ho, r⟩ := it'
      exact ⟨o, (sb2.2 it (Ne.symm hdi)).trans ho, r⟩
    · obtain ⟨o, ho, r⟩ := hl'
      exact ⟨o, (sb2.2 l (Ne.symm hdl)).trans ho, r⟩
    · obtain ⟨t, key, f1, ⟨o, ho, r⟩, f3, f4, f5⟩ := hitems j hj
      exact ⟨t, key, f1, ⟨o, (sb2.2 t f5).trans ((sb.2 t f4).trans ho), r⟩, f3, f4, f5⟩
theorem dp_keys_list : typeLookup (.type "list") "keys" = pure none := by rw [typeLookup_type, builtinLookup_eq_fast]; kernel_rfl
theorem getAttrOpt_miss_list {prog : Program} {w : World} {A : Around} {E : Value → Shared → Prop} {s : Shared} {a : Addr} {o : Obj} {xs : Array Value} {k : Nat} {name : Str} {Q : Option Value → Shared → Prop}
    (hx : s.heap.get? a = some o) (hc : o.cls = .type "list") (hdat : o.data = .seq xs k) (hd : o.dict = none) (hmiss : typeLookup (.type "list") name = pure none) (hname : (["__module__", "__name__", "__qualname__", "__doc__", "__annotations__"] : List Str).contains name = false) (hA : A.handled = none)
    (h : ∀ h' tk e, Heap.NewExcOf s.heap h' e "AttributeError" → Q none { s with heap := h', toks := tk }) (hsz : name.length + 100 ≤ sizeLine := by size_fits) :
    wpAny (model prog w) A (getAttr? (.ref a) name) Q E s := by
  obtain ⟨c, dct, dat, sl⟩ := o
  simp only at hc hdat hd
  subst hc hdat hd
  obtain ⟨hp, g, d, tk, os⟩ := s
  have hT : ∀ tk', (⟨hp, g, d, tk', os⟩ : Shared).TypeIs (.ref a) "list" := fun _ => ⟨_, hx, rfl⟩
  have f1 := sub_AttributeError
  have f3 := F.slot_list_getattribute.lookup
  have f4 := F.slot_list_getattribute.bind (.ref a)
  have f5 := am_list_getattr_none
  unfold getAttr? getAttrBy? getAttrBy
  repeat (any_goals (first | assumption | exact hT _ | ((with_reducible show wpAny _ _ (call (Value.builtin "list.__getattribute__") _ _) _ _ _); refine call_meets F.slot_list_getattribute (hT _) am_entry_list_getattribute (F.args_list_getattribute_2 _ _) (meets_getattribute_miss_list a xs k sl name _ hmiss hname hsz) ⟨hx, hA, fun h' tk' e hx' => ?_⟩) | wp_step))
  obtain ⟨t', u', he⟩ := hx'.there
  show wpAny _ _ (getattributeRaised _ _ _ _ _ _ _) _ _ _
  unfold getattributeRaised
  repeat (any_goals (first | assumption | wp_step))
  exact h _ _ _ hx'.of

theorem dp_call {l : Addr} {o : Obj} {items : Array Value} {n : Nat} {ps : List (K × Value)} {Q : Value → Shared → Prop} (hh : A.handled = none) (hsz : ps.length ≤ sizeLine) (hn : items.size = ps.length) (hdis : (ps.map (·.1)).Nodup)
    (ho : s.heap.get? l = some o) (hc : o.cls = .type "list") (hdat : o.data = .seq items n) (hdc : o.dict = none)
    (hitems : ∀ j (h : j < ps.length), ∃ t key, items[j]? = some (.ref t) ∧ s.heap.IsTuple t #[key, ps[j].2] ∧ knd.is ps[j].1 key = true)
    (h : ∀ h' t', h'.DictOf knd s.heap.objs.size ps → (∀ b o, s.heap.get? b = some o → h'.get? b = some o) → Q (.ref s.heap.objs.size) { s with heap := h', toks := t' }) :
    wpAny (model prog w) A (call (.type "dict") [.ref l]) Q E s := by
  refine callType_codes (Q₁ := fun obj s₁ => obj = .ref s.heap.objs.size ∧ s₁ = { s with heap := s.heap.push { cls := .type "dict", data := .dict #[] } }) F.kt_called_dict (F.kt_typeCall_dict_1 _) F.entry_dict_init (kt_code_dict_new _ ⟨rfl, rfl⟩) ?_
  rintro obj s₁ ⟨rfl, rfl⟩
  have hnew : (s.heap.push { cls := .type "dict", data := .dict #[] }).DictOf knd s.heap.objs.size [] := Heap.DictOf.new s.heap
  have ho1 := Heap.get?_push_of_some (h := s.heap) { cls := .type "dict", data := .dict #[] } ho
  refine ⟨hnew.typeIs, F.args_dict_init_2 _ _, ?_⟩
  unfold Builtin.«dict.__init__»
  refine wpAny_bind ?_
  unfold Builtin.Dict.selfAndRest
  refine wpAny_bind (wpAny_notOrdered_dict hnew.typeIs ?_)
  show wpAny _ _ (pure (s.heap.objs.size, [Value.ref l])) _ _ _
  refine wpAny_pure ?_
  show wpAny _ _ (Builtin.Dict.updateFrom "dict.__init__" s.heap.objs.size (.ref l) [] .none) _ _ _
  unfold Builtin.Dict.updateFrom
  refine wpAny_bind (wpAny_typeOf (T := "list") ⟨o, ho1, hc⟩ ?_)
  rw [if_pos (by decide)]
  refine wpAny_bind (getAttrOpt_miss_list ho1 hc hdat hdc dp_keys_list (by decide +kernel) hh (fun h' tk e ne => ?_))
  simp only [Option.isNone_none, if_true]
  have hl2 : h'.IsList l items := ⟨o, ne.keeps _ _ ho1, hc, n, hdat⟩
  have hd2 : h'.DictOf knd s.heap.objs.size [] := by
    obtain ⟨o', es, ep, hg, r⟩ := hnew
    exact ⟨o', es, ep, ne.keeps _ _ hg, r⟩
  have hlt : s.heap.objs.size < h'.objs.size := by
    obtain ⟨o', es, ep, hg, r⟩ := hd2
    exact Heap.lt_size hg
  have hllt : l < s.heap.objs.size := Heap.lt_size ho
  show wpAny _ _ (pyIter (Value.ref l) >>= _) _ _ _
  refine wpAny_bind (wpAny_pyIter_list hl2 ?_)
  refine wpAny_pure ⟨plainId_quiet F.plain_update_loop _, codeAny_dp_loop (A := A.in1) (d := s.heap.objs.size) (it := h'.objs.size) (ps := ps) (knd := knd) (l := l) (items := items) hh (Nat.ne_of_lt hlt) (Nat.ne_of_gt hllt) (Nat.ne_of_lt (Nat.lt_trans hllt hlt)) hsz hn hdis ps.length 0 _ 0 rfl (Nat.zero_le _) ?_ ?_ (fun j hj => ?_) ?_ ?_⟩
  · exact ⟨_, Heap.get?_push_size _ rfl, rfl, rfl⟩
  · exact hl2.push _
  · obtain ⟨t, key, f1, ⟨ot, hot, r⟩, f3⟩ := hitems j hj
    have tlt : t < s.heap.objs.size := Heap.lt_size hot
    exact ⟨t, key, f1, ⟨ot, Heap.get?_push_of_some _ (ne.keeps _ _ (Heap.get?_push_of_some _ hot)), r⟩, f3, Nat.ne_of_lt (Nat.lt_trans tlt hlt), Nat.ne_of_lt tlt⟩
  · exact hd2.push _
  · intro h3 t3 d3 ext
    refine ⟨rfl, h h3 t3 d3 fun b o e => ?_⟩
    have blt : b < s.heap.objs.size := Heap.lt_size e
    exact ext b o (Nat.ne_of_lt blt) (Nat.ne_of_lt (Nat.lt_trans blt hlt)) (Heap.get?_push_of_some _ (ne.keeps _ _ (Heap.get?_push_of_some _ e)))
end
end PySem
namespace L2
open PySem PySem.Spec PyProof.Rows
section
variable {X : Cx}
/-- a pair in a list that dict(..) takes -/
def DPair (K : PySem.W.Frag) (H : Hp) (v : V) (p : Key × V) : Prop := ∃ t, v = .ref t ∧ SqT K H t [kV p.1, p.2]
theorem dp_vals {pins : List (Addr × Obj)} {σ : St} {H : Hp} {s : Shared} (I : Inv X pins σ H s) : ∀ {vs : List V} {ps : List (Key × V)} {its : List Value}, Paired (DPair X.K H) vs ps → Vals vs its →
    ∃ qs : List (Key × Value), KV ps qs ∧ its.length = qs.length ∧ ∀ j (h : j < qs.length), ∃ t key, its[j]? = some (.ref t) ∧ s.heap.IsTuple t #[key, qs[j].2] ∧ (mixKind X.prog X.w).is qs[j].1 key = true
  | _, _, _, .nil, .nil => ⟨[], .nil, rfl, fun j h => absurd h (Nat.not_lt_zero _)⟩
  | _, _, _, .cons ⟨t, e, hT⟩ r, .cons r1 rr => by
    subst e
    cases r1
    obtain ⟨qs, k1, k2, k3⟩ := dp_vals I r rr
    obtain ⟨its, rt, ⟨o, ho, hc, n, hd⟩, _⟩ := I.tuple hT
    obtain ⟨u, w', rfl, ru, rw'⟩ := vals2 rt
    refine ⟨(_, w') :: qs, .cons ⟨rfl, rw'⟩ k1, by rw [List.length_cons, k2, List.length_cons], fun j h => ?_⟩
    cases j with
    | zero => exact ⟨t, u, rfl, ⟨o, ho, hc, n, hd⟩, kV_is ru⟩
    | succ j =>
      obtain ⟨t2, key, a1, a2, a3⟩ := k3 j (by simpa using h)
      exact ⟨t2, key, a1, a2, a3⟩
/-- dict([(k, v), ..]) of keys that are apart -/
theorem call_dpairs (hc : X.calm = true) : CallR X (.type "dict") (fun xs H Q => ∃ (a : Addr) (vs : List V) (ps : List (Key × V)), xs = [.ref a] ∧ SqL X.K H a vs ∧ Paired (DPair X.K H) vs ps ∧ (ps.map (·.1)).Nodup ∧ ∀ p, H p = none → Q (.ref p) (upd H p (.dK ps))) := by
  intro pins s σ H xs us Q I rv h
  obtain ⟨a, vs, ps, e, hq, hP, hn, q⟩ := h
  subst e
  obtain ⟨u1, rfl, r2⟩ := vals1 rv
  have e1 : u1 = .ref a := r2
  subst e1
  obtain ⟨its, rvs, ⟨o, n, ho, hcl, hdc, hdat⟩, hz⟩ := I.list hq
  obtain ⟨qs, k1, k2, k3⟩ := dp_vals I hP rvs
  have lv : vs.length = its.length := rvs.length
  have lk := k1.length
  have lp : vs.length = ps.length := hP.length
  refine dp_call (I.ok.hd hc) (ps := qs) (items := its.toArray) (by omega) (by simpa using k2) (by rw [← k1.keys]; exact hn) ho hcl hdat hdc (fun j hj => by simpa using k3 j hj) fun h' t' dd ext => ?_
  exact ⟨.ref s.heap.objs.size, _, I.laid (a := s.heap.objs.size) (o := .dK ps) (t' := t') ext (Nat.le_refl _) (dk_new (by omega) (beq_eq_false_iff_ne.mpr (Ne.symm (Nat.ne_of_lt I.big))) k1 dd), rfl, q _ I.fresh⟩

end
end L2




set_option Elab.async false
set_option linter.all false
set_option maxRecDepth 100000
namespace L2
open PySem PySem.Spec PyProof.Rows
theorem ObjOk.there {P : Program} {w : World} {H : Hp} {h : Heap} {a : Addr} {o : HO} (x : ObjOk P w H h a o) : ∃ ob, h.get? a = some ob := by
  cases o with
  | lst xs => obtain ⟨_, _, _, _, e⟩ := x; exact ⟨_, e⟩
  | tup xs => obtain ⟨_, _, _, ob, e, _⟩ := x; exact ⟨ob, e⟩
  | dK kvs => obtain ⟨_, _, _, _, ob, _, _, e, _⟩ := x; exact ⟨ob, e⟩
  | dT kvs => obtain ⟨_, _, _, _, ob, _, _, e, _⟩ := x; exact ⟨ob, e⟩
  | set S n => obtain ⟨ob, _, _, _, e, _⟩ := x; exact ⟨ob, e⟩
  | ins C dx fs => obtain ⟨_, _, _, e, _⟩ := x; exact ⟨_, e⟩
  | own y => exact x
  | xd fs => obtain ⟨_, ⟨ob, _, _, e, _⟩, _⟩ := x; exact ⟨ob, e⟩
  | rng lo hi => obtain ⟨_, _, _, e⟩ := x; exact ⟨_, e⟩
  | frz ob u => obtain ⟨e, _⟩ := x; exact ⟨_, e⟩
  | tbl ps => exact ⟨_, show h.get? a = some _ from x⟩
  | met f y => exact ⟨_, show h.get? a = some _ from x⟩
  | ext φ => exact x.2.1
section
variable {X : Cx} {x n : Str} {i : Nat} {CT : Addr} {np hpos pos : Pos} {body suite : List Stmt} {b0 : Stmt} {tb : (St → XK) → TS} {th : TS}
end
end L2

set_option Elab.async false
set_option linter.all false
set_option maxRecDepth 100000
namespace L2
open PySem PySem.Spec PyProof.Rows
/-! ### a dict that is walked: frozen meanwhile -/
def thaw (d : Addr) (kvs : List (Key × V)) (H : Hp) : Hp := upd H d (.dK kvs)
def thawEnds (d : Addr) (o : Obj) (kvs : List (Key × V)) (D : Ends) : Ends where
  nx := fun σ H => H d = some (.frz o (.dK kvs)) ∧ D.nx σ (thaw d kvs H)
  bk := fun σ H => H d = some (.frz o (.dK kvs)) ∧ D.bk σ (thaw d kvs H)
  ct := fun σ H => H d = some (.frz o (.dK kvs)) ∧ D.ct σ (thaw d kvs H)
  rt := fun v H => H d = some (.frz o (.dK kvs)) ∧ D.rt v (thaw d kvs H)
section
variable {X : Cx} {pins : List (Addr × Obj)} {σ : St} {H : Hp} {s : Shared} {d : Addr} {kvs : List (Key × V)} {o : Obj}
/-- what is tracked at d is told otherwise, the object being the same -/
theorem Inv.retell {a b : HO} (I : Inv X pins σ H s) (e : H d = some a) (nt : ∀ xs, a ≠ .tup xs) (nb : ∀ p, a ≠ .tbl p) (no : ∀ y, a ≠ .own y) (nf : ∀ ob u, X.H₀ d ≠ some (.frz ob u)) (new : ObjOk X.prog X.w (upd H d b) s.heap d b) : Inv X pins σ (upd H d b) s where
  ok := I.ok
  os := I.os
  bare := I.bare
  base := {
    keep := I.base.keep
    slot := I.base.slot
    free := fun c ob e1 n hx => by
      have hc := I.base.free c ob e1 n hx
      rw [upd_ne (fun z => by rw [z, e] at hc; cases hc)]; exact hc
    there := I.base.there
    tups := fun c xs e1 => by
      have h1 := I.base.tups c xs e1
      rw [upd_ne (fun z => by rw [z, e] at h1; exact nt xs (Option.some.inj h1))]; exact h1
    frzs := fun c ob u e1 => by
      have h1 := I.base.frzs c ob u e1
      have hcd : c ≠ d := fun z => by subst z; exact nf ob u e1
      rw [upd_ne hcd]; exact h1
    tbls := fun c p e1 => by
      obtain ⟨m, h1⟩ := I.base.tbls c p e1
      exact ⟨m, by rw [upd_ne (fun z => by rw [z, e] at h1; exact nb _ (Option.some.inj h1))]; exact h1⟩ }
  loc := I.loc
  cell := I.cell
  free := by
    have hf := I.free
    rw [upd_ne (fun z => by rw [z, e] at hf; cases hf)]; exact hf
  freeC := fun y c e1 => by
    have hf := I.freeC y c e1
    rw [upd_ne (fun z => by rw [z, e] at hf; cases hf)]; exact hf
  pin := fun p hp => by
    obtain ⟨p1, p2, p3⟩ := I.pin p hp
    refine ⟨p1, ?_, p3⟩
    rw [upd_ne (fun z => by rw [z, e] at p2; cases p2)]; exact p2
  hok := fun c u e1 => by
    by_cases hc : c = d
    · subst hc; rw [upd_same] at e1; cases e1; exact new
    · rw [upd_ne hc] at e1
      refine (I.hok c u e1).stay (fun _ _ _ q => q) (fun y q => ?_) fun y xs q => ?_
      · rw [upd_ne (fun z => by rw [z, e] at q; exact no _ (Option.some.inj q))]; exact q
      · rw [upd_ne (fun z => by rw [z, e] at q; exact nt _ (Option.some.inj q))]; exact q
  len := I.len
theorem dk_up {P : Program} {w : World} {H H' : Hp} {h : Heap} (x : ObjOk P w H h d (.dK kvs)) : ObjOk P w H' h d (.dK kvs) := x
theorem Inv.freeze (I : Inv X pins σ H s) (e : H d = some (.dK kvs)) : ∃ o, s.heap.get? d = some o ∧ (∀ ob u, X.H₀ d ≠ some (.frz ob u)) ∧ Inv X pins σ (upd H d (.frz o (.dK kvs))) s := by
  have x := I.hok d _ e
  obtain ⟨o, ho⟩ := x.there
  have nf : ∀ ob u, X.H₀ d ≠ some (.frz ob u) := fun ob u z => by
    have := I.base.frzs d ob u z
    rw [e] at this; cases this
  exact ⟨o, ho, nf, I.retell e (fun xs z => by cases z) (fun p z => by cases z) (fun y z => by cases z) nf ⟨ho, dk_up x⟩⟩
theorem Inv.thaw (I : Inv X pins σ H s) (nf : ∀ ob u, X.H₀ d ≠ some (.frz ob u)) (e : H d = some (.frz o (.dK kvs))) : Inv X pins σ (thaw d kvs H) s :=
  I.retell e (fun xs z => by cases z) (fun p z => by cases z) (fun y z => by cases z) nf (dk_up (I.hok d _ e).2)
end
section
variable {X : Cx} {st : Stmt} {t : TS}
/-- a statement during which a dict is frozen -/
def tFrozen (t : TS) : TS := fun D σ H => ∃ d kvs, H d = some (.dK kvs) ∧ ∀ o, t (thawEnds d o kvs D) σ (upd H d (.frz o (.dK kvs)))
theorem ps_frozen (h : PS X st t) : PS X st (tFrozen t) := by
  rintro pins s σ H D I ⟨d, kvs, e, q⟩
  obtain ⟨o, ho, nf, I1⟩ := I.freeze e
  refine thn (h pins s σ _ _ I1 (q o)) fun f s1 hq => ?_
  cases f with
  | next => obtain ⟨σ', H', I', e', q'⟩ := hq; exact ⟨σ', _, I'.thaw nf e', q'⟩
  | brk => obtain ⟨σ', H', I', e', q'⟩ := hq; exact ⟨σ', _, I'.thaw nf e', q'⟩
  | cont => obtain ⟨σ', H', I', e', q'⟩ := hq; exact ⟨σ', _, I'.thaw nf e', q'⟩
  | ret u => obtain ⟨v, σ', H', I', r, e', q'⟩ := hq; exact ⟨v, σ', _, I'.thaw nf e', r, q'⟩
end
def epOf (o : Obj) : Nat := match o.data with
  | .dict _ ep => ep
  | _ => 0
theorem frz_at {X : Cx} {pins : List (Addr × Obj)} {σ : St} {H : Hp} {s : Shared} {d : Addr} {kvs : List (Key × V)} {o : Obj} (I : Inv X pins σ H s) (e : H d = some (.frz o (.dK kvs))) : (d == sysModules) = false ∧ ∃ vs, KV kvs vs ∧ s.heap.DictAt (mixKind X.prog X.w) d vs (epOf o) := by
  obtain ⟨ho, _, h1, vs, rel, ob, es, ep, h2, h3, h4, h5, h6, h7⟩ := I.hok d _ e
  rw [ho] at h2; cases h2
  exact ⟨h1, vs, rel, o, es, ho, h3, by rw [h4]; unfold epOf; rw [h4], h5, h6, h7⟩
theorem kV_rel {P : Program} {w : World} {k : Key} {u : Value} (h : (mixKind P w).is k u = true) : RelV (kV k) u := by
  rw [mixKind_is] at h
  rcases keyIs_shape h with ⟨i, t, rfl, rfl⟩ | ⟨x, t, rfl, rfl⟩
  · exact ⟨t, rfl⟩
  · exact ⟨t, rfl⟩
theorem KV.at {kvs : List (Key × V)} {vs : List (Key × Value)} (r : KV kvs vs) {i : Nat} (hi : i < kvs.length) : ∃ k v u, kvs[i]? = some (k, v) ∧ vs[i]? = some (k, u) ∧ RelV v u := by
  induction r generalizing i with
  | nil => cases hi
  | cons h t ih =>
    cases i with
    | zero =>
      rename_i a b _ _
      exact ⟨a.1, a.2, b.2, rfl, by obtain ⟨b1, b2⟩ := b; rw [h.1]; rfl, h.2⟩
    | succ i => exact ih (Nat.lt_of_succ_lt_succ hi)
section
variable {X : Cx} {tg : Expr}
end
end L2

set_option Elab.async false
set_option linter.all false
set_option maxRecDepth 100000
namespace L2
open PySem PySem.Spec PyProof.Rows
section
variable {X : Cx}
/-- [x] * k -/
def rRepL1 : R2 := fun x y H Q => ∃ l k v, x = .ref l ∧ y = .int k ∧ H l = some (.lst [v]) ∧ -1000000 ≤ k ∧ k ≤ 1000000 ∧ ∀ p, H p = none → Q (.ref p) (upd H p (.lst (List.replicate k.toNat v)))
theorem op_repL1 : OpR X (binaryOp .Mult) rRepL1 := by
  intro pins s σ H x y v u Q I rx ry h
  obtain ⟨l, k, a, rfl, rfl, hq, h1, h2, q⟩ := h
  cases rx
  obtain ⟨t, rfl⟩ := ry
  obtain ⟨z, its, n, r, hl, e⟩ := I.lstM hq
  obtain ⟨u, rfl, ru⟩ : ∃ u, its = [u] ∧ RelV a u := by
    cases r with
    | cons h t => cases t; exact ⟨_, rfl, h⟩
  have hf : (List.replicate (if (#[u] : Array Value).isEmpty = true then 0 else k.toNat) #[u]).foldl (fun x1 x2 => x1 ++ x2) #[] = (List.replicate k.toNat u).toArray := by
    rw [if_neg (by simp)]
    have := foldl_one u k.toNat []
    simpa using this
  have sl := sizeLine_eq
  refine wpAny_binaryOp_repeat_ref (T := "list") (U := "int") (by decide) ⟨_, e, rfl⟩ (fun s' => typeIs_int s' k t) noFill_list_mul F.fills_int_mul F.slot_int_rmul repeat_list F.slot_int_index.lookup
    (call_meets F.slot_int_rmul (typeIs_int s k t) F.entry_int_rmul (F.args_int_rmul_2 _ _) (int___rmul___int_list k t l _ n)
      ⟨e, rfl, ⟨_, e, rfl⟩, call_meets F.slot_list_mul ⟨_, e, rfl⟩ F.entry_list_mul (F.args_list_mul_2 _ _) (PySem.AutoListH.list___mul___list_int_3 l _ n k t ?_ ?_ ?_) ⟨e, ?_⟩⟩)
  · unfold Builtin.List.listFitsIndex; simp; omega
  · show ¬ 1 * k.toNat > _; omega
  · unfold Builtin.List.listTooLong; show ¬ decide (1 * k.toNat > sizeLine) = true; simp; omega
  · rw [show ([u].toArray : Array Value) = #[u] from rfl, hf]
    exact ⟨.ref s.heap.objs.size, _, I.lnew (t' := s.toks) (vals_rep ru _) (by rw [List.length_replicate]; omega), rfl, q _ I.fresh⟩
end
/-! ### defs that may raise; calls within a try -/
section
variable {P : Program} {w : World} {K : PySem.W.Frag} {mg : Str → Option Value} {base : Heap}
end
section
variable {X : Cx} {k : Nat} {f C : Addr} {fd : FuncData} {ps : List Str} {sp : Sp} {x m : Str} {p pos apos : Pos} {e o : Expr} {es : List Expr} {ta : TE} {t : TA} {W : St → XK}
end
end L2







set_option Elab.async false
set_option linter.all false
set_option maxRecDepth 100000
namespace L2
open PySem PySem.Spec PyProof.Rows
/-! ### for k, v in d.items() -/
def Iti (d : Addr) (o : Obj) (kvs : List (Key × V)) : It :=
  ⟨fun i H => H d = some (.frz o (.dK kvs)) ∧ i < kvs.length, fun i H x H' => ∃ (T : Addr) (k : Key) (v : V), x = .ref T ∧ H T = none ∧ H' = upd H T (.tup [kV k, v]) ∧ kvs[i]? = some (k, v), fun i H => H d = some (.frz o (.dK kvs)) ∧ kvs.length ≤ i⟩
theorem entry_itemiter : entryFor table "dict_itemiterator.__iter__" = some Builtin.«dict_keyiterator.__iter__» :=
  entryFor_alias (id' := "dict_keyiterator.__iter__") (by kernel_rfl) rfl (by decide +kernel) (by kernel_rfl)
theorem wpAny_pyIter_itemiter {P : Program} {w : World} {A : Around} {E : Value → Shared → Prop} {s : Shared} {it d : Addr} {i n ep : Nat} {ok ov : Value} {Q : Value → Shared → Prop} (hit : IsItemIter s.heap it d i n ep ok ov) (h : Q (.ref it) s) : wpAny (model P w) A (pyIter (.ref it)) Q E s := by
  have hT : s.TypeIs (.ref it) "dict_itemiterator" := ⟨_, hit, rfl⟩
  refine wpAny_pyIter_slot hT PySem.F.slot_dict_itemiterator_iter (wpAny_call_entry PySem.F.slot_dict_itemiterator_iter hT entry_itemiter ?_ (PySem.F.args_dict_itemiterator_iter_1 _))
  show wpAny _ _ (ret (.ref it)) _ _ s
  exact wpAny_pure ⟨_, rfl, "dict_itemiterator", _, hT, PySem.F.slot_dict_itemiterator_next.lookup, h⟩
theorem turn_items {P : Program} {w : World} {K : PySem.W.Frag} {elts : List Expr} {k0 : Nat} {pos : Pos} (d it : Addr) (o : Obj) (kvs : List (Key × V)) : Turn P w K (.Tuple elts k0 pos) (Iti d o kvs) [it] it (fun i h => ∃ ok ov, IsItemIter h it d i kvs.length (epOf o) ok ov) where
  mem := by simp
  obj := fun i h st b hb => by
    have e : b = it := by simpa using hb
    subst e
    obtain ⟨ok, ov, e⟩ := st
    exact ⟨_, e, fun v q => nomatch q⟩
  keep := fun i h h' st k => by
    obtain ⟨ok, ov, e⟩ := st
    exact ⟨ok, ov, k it (by simp) _ e⟩
  item := by
    intro X hP hw hK hc i pins s σ H E I hf st hg
    subst hP hw hK
    obtain ⟨hq, hi⟩ := hg
    obtain ⟨ok, ov, st⟩ := st
    obtain ⟨_, vs, rel, dd⟩ := frz_at I hq
    have hl : vs.length = kvs.length := rel.length.symm
    obtain ⟨k, v, u, e1, e2, rv⟩ := rel.at hi
    refine wpAny_pyNext_items_item (knd := mixKind X.prog X.w) (kvs := vs) (by rw [hl]; exact st) dd e2 fun key h' hkey a1 a5 a6 hk => ?_
    rw [hl] at a1
    have kp : ∀ c ob, c ∉ [it] → s.heap.get? c = some ob → h'.get? c = some ob := fun c ob hc q => hk c ob (fun z => hc (by simp [z])) q
    have I1 : Inv X pins σ (upd H s.heap.objs.size (.tup [kV k, v])) { s with heap := h' } := I.turnedTup (t' := s.toks) hf (Nat.le_refl _) a5 (kV_rel hkey) rv kp
    have nz : ∀ b ∈ [it], b ≠ s.heap.objs.size := fun b hb q => by
      have e : b = it := by simpa using hb
      subst e
      exact Nat.lt_irrefl _ (q ▸ Heap.lt_size st)
    have hf1 : ∀ b ∈ [it], FpOk X pins (upd H s.heap.objs.size (.tup [kV k, v])) b := fun b hb => ⟨by rw [upd_ne (nz b hb)]; exact (hf b hb).1, (hf b hb).2⟩
    refine ⟨.ref s.heap.objs.size, rfl, wpAny_letOwnedTupleGo_items (s := { s with heap := h' }) a1 fun h2' hz' hs' => ?_⟩
    have I2 : Inv X pins σ (upd H s.heap.objs.size (.tup [kV k, v])) { s with heap := h2' } := I1.turnedAll (t' := s.toks) hf1 fun c o hc q => hs'.extBut c o (fun z => hc (by simp [z])) q
    exact ⟨.ref s.heap.objs.size, _, I2, rfl, ⟨_, k, v, rfl, I.hok.fresh (Nat.le_refl _), rfl, e1⟩, ⟨_, _, hz'⟩, fun b hb => (hf1 b hb).1⟩
  done := by
    intro X hP hw hK hc i pins s σ H E I hf st hg
    subst hP hw hK
    obtain ⟨hq, hi⟩ := hg
    obtain ⟨ok, ov, st⟩ := st
    obtain ⟨_, vs, rel, dd⟩ := frz_at I hq
    have hl : vs.length = kvs.length := rel.length.symm
    exact wpAny_pyNext_items_end (knd := mixKind X.prog X.w) (kvs := vs) (I.ok.hd hc) (by rw [hl]; exact st) dd (by rw [List.getElem?_eq_none_iff]; omega) fun h' eb => ⟨rfl, I.turnedAll (t' := s.toks) hf fun c o hc q => eb c o (fun z => hc (by simp [z])) q⟩
  self := fun _ _ _ _ _ st h => by obtain ⟨ok, ov, st⟩ := st; exact wpAny_pyIter_itemiter st h
section
variable {X : Cx}
def iItems (tl : TE) : TI := fun σ H R => tl σ H fun x H1 => ∃ d o kvs, x = .ref d ∧ H1 d = some (.frz o (.dK kvs)) ∧ R (Iti d o kvs) H1
theorem pi_items {elts : List Expr} {k0 : Nat} {pos : Pos} {l : Expr} {apos cpos : Pos} {tl : TE} (hl : PE X l tl) (hbase : attributeBase l "items" X.env (eval l X.env) = eval l X.env := by rfl) (hline : (apos.endLine == cpos.line) = true := by rfl) : PI X (.Tuple elts k0 pos) (.Call (.Attribute l "items" apos) [] [] cpos) (iItems tl) := by
  intro pins s σ H R I h
  refine wpAny_Call_method0_late hbase hline (thn (hl pins s σ H _ I h) fun v s1 ⟨x, H1, I1, r1, d, o, kvs, ex, ed, q⟩ => ?_)
  subst ex
  cases r1
  obtain ⟨hd, vs, rel, dd⟩ := frz_at I1 ed
  have hlen : vs.length = kvs.length := rel.length.symm
  obtain ⟨ob, es, e1, e2, e3, e4⟩ := id dd
  have dof : s1.heap.DictOf (mixKind X.prog X.w) d vs := ⟨ob, es, epOf o, e1, e2, e3, e4⟩
  refine ⟨"dict", "dict.items", PySem.F.plainAttrs_dict, PySem.F.slot_dict_items, PySem.F.type_dict_items, dof.typeIs, fun b z => ?_, Calls.callWith_builtin rfl (PySem.evalArgs_none (call_meetsIn PySem.F.slot_dict_items dof.typeIs PySem.F.entry_dict_items (PySem.F.args_dict_items_1 _) (meets_dict_items (mixKind X.prog X.w) d hd) ⟨⟨vs, dof⟩, ?_⟩))⟩
  · cases z; exact ⟨ob, e1, e2.2.1⟩
  have k1 : ∀ b u, s1.heap.get? b = some u → (s1.heap.push { cls := .type "dict_items", data := .fields #[.ref d] }).get? b = some u := fun b u e => Heap.get?_push_of_some _ e
  have I2 : Inv X pins σ H1 { s1 with heap := s1.heap.push { cls := .type "dict_items", data := .fields #[.ref d] } } := I1.kept (t' := s1.toks) k1
  refine wpAny_pyIter_items (v := s1.heap.objs.size) (knd := mixKind X.prog X.w) (kvs := vs) (ep := epOf o) ⟨_, Heap.get?_push_size _ rfl, rfl, rfl⟩ (dd.at' fun u e => k1 _ _ e) ?_
  refine ⟨_, [_], _, _, H1, rfl, I2.kept (t' := s1.toks) fun b o e => Heap.get?_push_of_some _ e, turn_items d _ o kvs, ⟨_, _, by rw [← hlen]; exact Heap.get?_push_size _ rfl⟩, fun b hb => ?_, q⟩
  have e : b = (s1.heap.push { cls := .type "dict_items", data := .fields #[.ref d] }).objs.size := by simpa using hb
  subst e
  exact I2.fpOk (Nat.le_refl _) (I2.hok.fresh (Nat.le_refl _))
end
theorem for_items {d : Addr} {o : Obj} {kvs : List (Key × V)} {g : TG} {tb : TS} {D : Ends} {σ : St} {H : Hp} (Pv : Nat → St → Hp → Prop) (h0 : Pv 0 σ H) (hl : ∀ i σ H, i ≤ kvs.length → Pv i σ H → H d = some (.frz o (.dK kvs)))
    (hs : ∀ i k v σ H T, kvs[i]? = some (k, v) → Pv i σ H → H T = none → g (.ref T) σ (upd H T (.tup [kV k, v])) fun σ2 H2 => tb { D with nx := Pv (i + 1), ct := Pv (i + 1), bk := D.nx } σ2 H2) (hd : ∀ σ H, Pv kvs.length σ H → D.nx σ H) :
    ∃ W : Nat → Nat → St → Hp → Prop, (∃ m, W 0 m σ H) ∧ ∀ i m σ H, W i m σ H →
      ((Iti d o kvs).stop i H ∧ D.nx σ H) ∨ ((Iti d o kvs).go i H ∧ ∃ N : St → Hp → Prop, (∀ σ' H', N σ' H' → ∃ m', m' < m ∧ W (i + 1) m' σ' H') ∧ ∀ x H', (Iti d o kvs).yld i H x H' → g x σ H' fun σ2 H2 => tb { D with nx := N, ct := N, bk := D.nx } σ2 H2) := by
  refine ⟨fun i m σ H => m = kvs.length - i ∧ i ≤ kvs.length ∧ Pv i σ H, ⟨_, rfl, Nat.zero_le _, h0⟩, ?_⟩
  rintro i m σ H ⟨rfl, hi, hp⟩
  have q := hl i σ H hi hp
  by_cases hlt : i < kvs.length
  · refine .inr ⟨⟨q, hlt⟩, Pv (i + 1), fun σ' H' h' => ⟨kvs.length - (i + 1), by omega, rfl, hlt, h'⟩, fun x H' y => ?_⟩
    obtain ⟨T, k, v, rfl, hT, rfl, e⟩ := y
    exact hs i k v σ H T e hp hT
  · have e : i = kvs.length := by omega
    subst e
    exact .inl ⟨⟨q, Nat.le_refl _⟩, hd σ H hp⟩
end L2













set_option Elab.async false
set_option linter.all false
set_option maxRecDepth 100000
set_option maxHeartbeats 4000000
namespace K49
open PySem L2
def top (i : Nat) : Stmt := PySem.Challenge.pw_gatetown_k49_places_of_lists.main.body.getD i (.Pass ⟨0, 0, 0, 0⟩)
abbrev s_with_inner : Stmt := top 1
abbrev s_inner_bodies : Stmt := top 3
abbrev s_counted : Stmt := top 4
abbrev s_counted_tree : Stmt := top 5
abbrev s_signed : Stmt := top 10
abbrev s_joined : Stmt := top 11
abbrev s_first_cells : Stmt := top 12
abbrev s_copied : Stmt := top 13
abbrev s_Meaning___init__ : Stmt := inClass (top 14) 0
abbrev s_Meaning_is_going : Stmt := inClass (top 14) 1
abbrev s_Meaning_end_so_far : Stmt := inClass (top 14) 2
abbrev s_Meaning_next_entry : Stmt := inClass (top 14) 3
abbrev s_Meaning_step_ahead : Stmt := inClass (top 14) 4
abbrev s_Meaning_value_of : Stmt := inClass (top 14) 5
abbrev s_Meaning_place_in : Stmt := inClass (top 14) 6
abbrev s_Meaning_do_next : Stmt := inClass (top 14) 7
abbrev s_Meaning_choose : Stmt := inClass (top 14) 8
abbrev s_Meaning_do_with_value : Stmt := inClass (top 14) 9
abbrev s_Meaning_do_plain : Stmt := inClass (top 14) 10
abbrev s_meant : Stmt := top 15
abbrev s_law_cell_at : Stmt := top 17
abbrev s_law_mixed : Stmt := top 18
abbrev s_law_stream : Stmt := top 19
abbrev s_law_take : Stmt := top 20
abbrev s_law_deed : Stmt := top 21
abbrev s_law : Stmt := top 22
/-! ### the mirror -/
structure NetD where
  ins : Int
  keeps : Int
  gates : List (Int × Int)
  nexts : List Int
  outs : List Int
def GateAt (H : Hp) (v : V) (p : Int × Int) : Prop := ∃ q, v = .ref q ∧ H q = some (.tup [.int p.1, .int p.2])
structure NetAt (H : Hp) (v : V) (N : NetD) : Prop where
  ex : ∃ (p g n o : Addr) (gs : List V), v = .ref p ∧ H p = some (.tup [.int N.ins, .int N.keeps, .ref g, .ref n, .ref o]) ∧ H g = some (.lst gs) ∧ Paired (GateAt H) gs N.gates ∧
    H n = some (.lst (N.nexts.map V.int)) ∧ H o = some (.lst (N.outs.map V.int))
  sm : N.gates.length ≤ 1000 ∧ N.nexts.length ≤ 1000 ∧ N.outs.length ≤ 1000

structure Fn (K : PySem.W.Frag) (mg : Str → Option Value) (x : Str) (st : Stmt) (ps : List Str) (a : Addr) (fd : FuncData) : Prop where
  F : Fun K x x st a fd
  m : mg x = some (.ref a)
  b : Binds K fd ps []
structure Bt (mg : Str → Option Value) : Prop where
  b_len : mg "len" = none
  b_range : mg "range" = none
  b_list : mg "list" = none
  b_isinstance : mg "isinstance" = none
  b_int : mg "int" = none
  b_abs : mg "abs" = none
  b_dict : mg "dict" = none
structure Ct (K : PySem.W.Frag) (mg : Str → Option Value) : Prop where
  k_WORDS : ∃ tk, mg "WORDS" = some (.int 65536 tk)
  k_FIRST_BELOW : ∃ tk, mg "FIRST_BELOW" = some (.int 32768 tk)
  k_NONE_LEFT : ∃ tk, mg "NONE_LEFT" = some (.int 65535 tk)
theorem cmul_l {i j : Int} (h1 : -18446744073709551616 < i) (h2 : i < 18446744073709551616) : CMul i j := .inl ⟨by omega, by omega⟩
theorem cpow_of {i j : Int} (h0 : 0 ≤ j) (h1 : j ≤ 1000000) (h2 : -18446744073709551616 < i) (h3 : i < 18446744073709551616) : CPow i j := ⟨h0, h1, by omega⟩
structure Small (N : NetD) : Prop where
  g : N.gates.length ≤ 900
  n : N.nexts.length ≤ 100
  o : N.outs.length ≤ 100
  i : N.ins ≤ 100
theorem rep_ints (K : PySem.W.Frag) (H : Hp) : ∀ ns : List Int, RepAll K H (ns.map V.int) (ns.map PyData.int)
  | [] => .nil
  | n :: r => .cons (.int n) (rep_ints K H r)
theorem lay_ints : ∀ ns : List Int, PyData.canLayAll0 (ns.map PyData.int) = true
  | [] => rfl
  | n :: r => by
    show (true && PyData.canLayAll0 (r.map PyData.int)) = true
    rw [lay_ints r]; rfl
theorem dep_ints : ∀ ns : List Int, PyData.depthAll (ns.map PyData.int) ≤ 0
  | [] => Nat.le_refl _
  | n :: r => by
    show max 0 (PyData.depthAll (r.map PyData.int)) ≤ 0
    have := dep_ints r; omega
section
variable {X : Cx}
end
/-- numbers, each from 0 on and below its size -/
structure Rg (ss r : List Int) : Prop where
  len : r.length = ss.length
  bd : ∀ (j : Nat) (s : Int), ss[j]? = some s → 0 ≤ r.getD j 0 ∧ r.getD j 0 < s
/-- all stays but the list at l -/
def Kl (l : Addr) (H H' : Hp) : Prop := ∀ b o, H b = some o → b ≠ l → H' b = some o
theorem Kl.one {l : Addr} {o : HO} {H : Hp} : Kl l H (upd H l o) := fun b o' e n => by rw [upd_ne n]; exact e
theorem Kl.same {l : Addr} {H0 H H' : Hp} (s : Same H0 H) (n : H0 l = none) (k : Kl l H H') : Same H0 H' := fun b o e => k b o (s b o e) (ne_of_none e n)
end K49

set_option Elab.async false
set_option linter.all false
set_option maxRecDepth 100000
set_option maxHeartbeats 4000000
namespace K49
open PySem L2
theorem itDP {c : Prop} [Decidable c] {A B : Prop} (e : c) (h : A) : if decide c = true then A else B := by rw [if_pos (decide_eq_true e)]; exact h
theorem itDN {c : Prop} [Decidable c] {A B : Prop} (e : ¬ c) (h : B) : if decide c = true then A else B := by rw [if_neg fun z => e (of_decide_eq_true z)]; exact h
theorem Kl.trans {l : Addr} {H H1 H2 : Hp} (a : Kl l H H1) (b : Kl l H1 H2) : Kl l H H2 := fun x o e n => b x o (a x o e n) n
theorem Kl.of {l : Addr} {H H' : Hp} (s : Same H H') : Kl l H H' := fun _ _ e _ => s _ _ e
def mixM (n k : Int) : Int :=
  ((((n % 1000000007 + 7 * k + 1) * 48271 % 2147483647) * (((n % 1000000007 + 7 * k + 1) * 48271 % 2147483647) % 1009 + k + 3) % 998244353) * 69621 + ((n % 1000000007 + 7 * k + 1) * 48271 % 2147483647)) % 2147483629
def sp_mix : Sp := fun vs H Q _ => ∃ (c k : Int), vs = [.int c, .int k] ∧ 0 ≤ k ∧ k ≤ 1000000000000000 ∧ Q (.int (mixM c k)) H
section
variable {P : Program} {w : World} {K : PySem.W.Frag} {mg : Str → Option Value} {base : Heap}
local macro_rules | `(tactic| walk_at "sd") => `(tactic| ((try dsimp only); first | omega | decide | exact cmul_l (by omega) (by omega) | exact cmul_r (by omega) (by omega) | exact ⟨by omega, by omega⟩ | exact cpow_of (by omega) (by omega) (by omega) (by omega) | (split <;> omega)))
local macro_rules | `(tactic| walk_at "rd") => `(tactic| repeat (first | refine ⟨_, rfl, ?_⟩ | refine ⟨_, _, rfl, rfl, ?_⟩ | refine And.intro (by walk_at "sd") ?_))
theorem sc_law_mixed : FnScope ["_law_number", "_law_k", "_law_once", "_law_twice"] ["_law_number", "_law_k"] (defScope s_law_mixed) := ⟨rfl, rfl, rfl, by decide +kernel, rfl, by decide +kernel, by decide +kernel⟩
theorem ok_law_mixed {f : Addr} {fd : FuncData} (F : Fun K "_law_mixed" "_law_mixed" s_law_mixed f fd) : FnOk P w K mg base CX0 1 f fd ["_law_number", "_law_k"] sp_mix := by
  refine F.ok sc_law_mixed (fun vs H Q E h => ?_) (fun cdv A outer s H vs Q E hr h => ?_)
  · obtain ⟨c, k, rfl, _⟩ := h; rfl
  · obtain ⟨c, k, rfl, h0, h1, q⟩ := h
    refine ⟨_, (pss_cons (ps_set (i := 2) sc_law_mixed.nd rfl (Or.inl rfl) (pe_op op_mod (pe_op op_mul (pe_op op_add (pe_op op_add (pe_op op_mod (pv 0) pe_int) (pe_op op_mul pe_int (pv 1))) pe_int) pe_int) pe_int))
      (pss_cons (ps_set (i := 3) sc_law_mixed.nd rfl (Or.inl rfl) (pe_op op_mod (pe_op op_mul (pv 2) (pe_op op_add (pe_op op_add (pe_op op_mod (pv 2) pe_int) (pv 1)) pe_int)) pe_int))
      (pss_one (ps_ret (pe_op op_mod (pe_op op_add (pe_op op_mul (pv 3) pe_int) (pv 2)) pe_int))))), ?_⟩
    walk_at "rd"
    exact q
end
def sp_cell (K : PySem.W.Frag) : Sp := fun vs H Q _ => ∃ (a : Addr) (ns : List Int) (k : Nat), vs = [.ref a, .int (k : Int)] ∧ SqL K H a (ns.map V.int) ∧ Q (.int (ns.getD k 0)) H
section
variable {P : Program} {w : World} {K : PySem.W.Frag} {mg : Str → Option Value} {base : Heap}
theorem sc_law_cell_at : FnScope ["_law_script", "_law_k"] ["_law_script", "_law_k"] (defScope s_law_cell_at) := ⟨rfl, rfl, rfl, by decide +kernel, rfl, by decide +kernel, by decide +kernel⟩
theorem ok_law_cell_at {f : Addr} {fd : FuncData} (F : Fun K "_law_cell_at" "_law_cell_at" s_law_cell_at f fd) (T : Bt mg) : FnOk P w K mg base CX0 1 f fd ["_law_script", "_law_k"] (sp_cell K) := by
  refine F.ok sc_law_cell_at (fun vs H Q E h => ?_) (fun cdv A outer s H vs Q E hr h => ?_)
  · obtain ⟨a, ns, k, rfl, _⟩ := h; rfl
  · obtain ⟨a, ns, k, rfl, hq, q⟩ := h
    refine ⟨_, (pss_cons (ps_if (pt_cmpR op_lt (pv 1) (pe_callB call_len_seq rfl T.b_len (by decide +kernel) (pa_consN (pv 0) pa_nil)) (nomark _))
        (pss_one (ps_ret (pe_ix ix_list (pv 0) (pv 1) (fun _ _ => rfl))))
        pss_nil)
      (pss_one (ps_ret pe_int))), ?_⟩
    refine ⟨_, rfl, _, rfl, a, _, rfl, .inl hq, _, _, rfl, rfl, _, rfl, ite2 (fun h => ?_) (fun h => ?_)⟩
    · have hk : (k : Int) < (((ns.map V.int).length : Nat) : Int) := of_decide_eq_true h
      rw [List.length_map] at hk
      have hk : k < ns.length := by omega
      have e : ns.getD k 0 = ns[k] := by rw [List.getD_eq_getElem?_getD, List.getElem?_eq_getElem hk]; rfl
      rw [e] at q
      exact ⟨_, rfl, _, rfl, a, _, _, _, rfl, rfl, hq, atI_nat (by rw [List.getElem?_map, List.getElem?_eq_getElem hk]; rfl), q⟩
    · have hk : ¬ (k : Int) < (((ns.map V.int).length : Nat) : Int) := fun z => h (decide_eq_true z)
      rw [List.length_map] at hk
      have e : ns.getD k 0 = 0 := by rw [List.getD_eq_getElem?_getD, List.getElem?_eq_none (by omega)]; rfl
      rw [e] at q
      exact q
end

/-! ### a stream of drawn numbers -/
def Stm (H : Hp) (a : Addr) (c : Nat) : Prop := ∃ x fl y : Int, H a = some (.lst [.int x, .int fl, .int (c : Int), .int y])
theorem Stm.same {H H' : Hp} (s : Same H H') {a : Addr} {c : Nat} (h : Stm H a c) : Stm H' a c := by
  obtain ⟨x, fl, y, e⟩ := h
  exact ⟨x, fl, y, s _ _ e⟩
def sp_stream : Sp := fun vs H Q _ => ∃ (c : Int), vs = [.int c] ∧ ∀ (l : Addr) (H' : Hp), H l = none → Same H H' → Stm H' l 0 → Q (.ref l) H'
def sp_take : Sp := fun vs H Q _ => ∃ (a : Addr) (c : Nat) (size : Int), vs = [.ref a, .int size] ∧ Stm H a c ∧ c ≤ 1000 ∧ 0 < size ∧ size < 1000000 ∧ ∀ (v : Int) (H' : Hp), Kl a H H' → Stm H' a (c + 1) → 0 ≤ v → v < size → Q (.int v) H'
theorem take_go {H : Hp} {a : Addr} {vs vs' : List V} {q : Hp → Prop} (hv : vs = vs') (h : ∀ H1, Kl a H H1 → H1 a = some (.lst vs') → q H1) : q (upd H a (.lst vs)) := by subst hv; exact h _ Kl.one upd_same
section
variable {P : Program} {w : World} {K : PySem.W.Frag} {mg : Str → Option Value} {base : Heap}
theorem sc_law_stream : FnScope ["_law_cell"] ["_law_cell"] (defScope s_law_stream) := ⟨rfl, rfl, rfl, by decide +kernel, rfl, by decide +kernel, by decide +kernel⟩
theorem ok_law_stream {f : Addr} {fd : FuncData} (F : Fun K "_law_stream" "_law_stream" s_law_stream f fd) (T : Bt mg) : FnOk P w K mg base CX0 1 f fd ["_law_cell"] sp_stream := by
  refine F.ok sc_law_stream (fun vs H Q E h => ?_) (fun cdv A outer s H vs Q E hr h => ?_)
  · obtain ⟨c, rfl, _⟩ := h; rfl
  · obtain ⟨c, rfl, q⟩ := h
    have hs : sizeLine = 16777216 := sizeLine_eq
    refine ⟨_, (pss_one (ps_ret (pe_lst (pa_consN (pe_callB call_abs rfl T.b_abs (by decide +kernel) (pa_consN (pv 0) pa_nil)) (pa_consN (pe_callTy call_int1 rfl T.b_int (by decide +kernel) (pa_consN (pe_cmpR op_lt (pe_callB call_abs rfl T.b_abs (by decide +kernel) (pa_consN (pv 0) pa_nil)) (pe_op op_pow pe_int pe_int) (nomark _)) pa_nil)) (pa_consN pe_int (pa_consN (pv 0) pa_nil))))))), ?_⟩
    refine ⟨_, rfl, _, rfl, _, rfl, _, rfl, _, _, rfl, rfl, cpow_of (by decide) (by decide) (by decide) (by decide), _, _, rfl, rfl, .inr ⟨_, rfl, _, rfl, (by show 4 ≤ sizeLine; omega), fun l hl => q l _ hl (Same.put hl) ?_⟩⟩
    exact ⟨_, _, _, upd_same⟩
theorem sc_law_take : FnScope ["_law_stream_here", "_law_size", "_law_found"] ["_law_stream_here", "_law_size"] (defScope s_law_take) := ⟨rfl, rfl, rfl, by decide +kernel, rfl, by decide +kernel, by decide +kernel⟩
theorem take_B {f f1 : Addr} {d1 : FuncData} (T_law_mixed : Fn K mg "_law_mixed" s_law_mixed ["_law_number", "_law_k"] f1 d1) {cdv : Value} {A : Around} {outer : List Env} {s : Shared} {H0 : Hp} {E : XK} (hr : Room 1 (A.deeper (PyProof.Rows.envOfC "_law_take" (defScope s_law_take) s.heap.objs.size f cdv))) :
    ∃ u, PSs (cxOf CX0 P w K mg base ["_law_stream_here", "_law_size", "_law_found"] "_law_take" (defScope s_law_take) f cdv A outer s H0 E).nox ((defBody s_law_take).drop 2) u ∧
      ∀ (D : Ends) (a : Addr) (c : Nat) (size x fl y : Int) (H : Hp), H a = some (.lst [V.int x, V.int fl, V.int (c : Int), V.int y]) → c ≤ 2000 → 0 < size → size < 1000000 → (∀ (v : Int) (H' : Hp), Kl a H H' → Stm H' a c → 0 ≤ v → v < size → D.rt (.int v) H') →
        u D [some (.ref a), some (.int size), none] H := by
  have G_law_mixed := ok_law_mixed (P := P) (w := w) (mg := mg) (base := base) T_law_mixed.F
  refine ⟨_, (pss_cons (ps_if (pt_cmpR op_eq (pe_ix ix_list (pv 0) pe_int (fun _ _ => rfl)) pe_int (nomark _))
        (pss_cons (ps_set (i := 2) sc_law_take.nd rfl (Or.inl rfl) (pe_op op_mod (pe_ix ix_list (pv 0) pe_int (fun _ _ => rfl)) (pv 1)))
        (pss_cons (ps_asg (pe_op op_fdivL (pe_ix ix_list (pv 0) pe_int (fun _ _ => rfl)) (pv 1)) (pg_sub (pv 0) pe_int set_list))
        (pss_one (ps_ret (pv 2)))))
        pss_nil)
      (pss_cons (ps_asg (pe_call G_law_mixed (hr.mono (by decide)) rfl T_law_mixed.m T_law_mixed.F.kp T_law_mixed.b .nil pass0 (pa_consN (pe_ix ix_list (pv 0) pe_int (fun _ _ => rfl)) (pa_consN (pe_ix ix_list (pv 0) pe_int (fun _ _ => rfl)) pa_nil))) (pg_sub (pv 0) pe_int set_list))
      (pss_one (ps_ret (pe_op op_mod (pe_op op_fdiv (pe_ix ix_list (pv 0) pe_int (fun _ _ => rfl)) pe_int) (pv 1)))))), ?_⟩
  intro D a c size x fl y H ea hc h0 h1 q
  refine ⟨_, rfl, a, _, _, _, rfl, rfl, SqL.of ea, rfl, rfl, _, rfl, ite2 (fun h => ?_) (fun h => ?_)⟩
  · refine ⟨_, rfl, a, _, _, _, rfl, rfl, SqL.of ea, rfl, _, rfl, _, _, rfl, rfl, by omega, ?_⟩
    refine ⟨_, rfl, a, _, _, _, rfl, rfl, SqL.of ea, rfl, _, rfl, _, _, rfl, rfl, ⟨by omega, by omega⟩, _, rfl, a, _, _, _, rfl, rfl, ea, rfl, ?_⟩
    refine take_go (q := fun H1 => _) (vs' := [V.int (x / size), V.int fl, V.int (c : Int), V.int y]) rfl ?_
    intro H1 k1 e1
    exact ⟨_, rfl, q _ H1 k1 ⟨_, _, _, e1⟩ (Int.emod_nonneg _ (by omega)) (Int.emod_lt_of_pos _ h0)⟩
  · refine ⟨_, rfl, a, _, _, _, rfl, rfl, SqL.of ea, rfl, _, rfl, a, _, _, _, rfl, rfl, SqL.of ea, rfl, x, (c : Int), rfl, by omega, by omega, _, rfl, a, _, _, _, rfl, rfl, ea, rfl, ?_⟩
    refine take_go (q := fun H1 => _) (vs' := [V.int (mixM x (c : Int)), V.int fl, V.int (c : Int), V.int y]) rfl ?_
    intro H1 k1 e1
    refine ⟨_, rfl, a, _, _, _, rfl, rfl, SqL.of e1, rfl, _, _, rfl, rfl, ⟨by decide, by decide⟩, _, rfl, _, _, rfl, rfl, by omega, ?_⟩
    exact q _ H1 k1 ⟨_, _, _, e1⟩ (Int.emod_nonneg _ (by omega)) (Int.emod_lt_of_pos _ h0)
theorem ok_law_take {f f1 : Addr} {fd d1 : FuncData} (F : Fun K "_law_take" "_law_take" s_law_take f fd) (T_law_mixed : Fn K mg "_law_mixed" s_law_mixed ["_law_number", "_law_k"] f1 d1) : FnOk P w K mg base CX0 2 f fd ["_law_stream_here", "_law_size"] sp_take := by
  have G_law_mixed := ok_law_mixed (P := P) (w := w) (mg := mg) (base := base) T_law_mixed.F
  refine F.ok sc_law_take (fun vs H Q E h => ?_) (fun cdv A outer s H vs Q E hr h => ?_)
  · obtain ⟨a, c, size, rfl, _⟩ := h; rfl
  · obtain ⟨a, c, size, rfl, ⟨x, fl, y, ea⟩, hc, h0, h1, q⟩ := h
    obtain ⟨uB, hB, kB⟩ := take_B (P := P) (w := w) (base := base) (f := f) (cdv := cdv) (outer := outer) (H0 := H) (E := E) T_law_mixed hr
    refine ⟨_, (pss_cons (ps_asg (pe_op op_add (pe_ix ix_list (pv 0) pe_int (fun _ _ => rfl)) pe_int) (pg_sub (pv 0) pe_int set_list))
      (pss_cons (ps_if (PW.pt (pw_and (pt_cmpR op_eq (pe_ix ix_list (pv 0) pe_int (fun _ _ => rfl)) pe_int (nomark _)) (pw_and1 (pt_cmpR op_eq (pe_ix ix_list (pv 0) pe_int (fun _ _ => rfl)) pe_int (nomark _)))))
        (pss_cons (ps_asg pe_int (pg_sub (pv 0) pe_int set_list))
        (pss_one (ps_asg (pe_call G_law_mixed (hr.mono (by decide)) rfl T_law_mixed.m T_law_mixed.F.kp T_law_mixed.b .nil pass0 (pa_consN (pe_ix ix_list (pv 0) pe_int (fun _ _ => rfl)) (pa_consN pe_int pa_nil))) (pg_sub (pv 0) pe_int set_list))))
        pss_nil)
      hB)), ?_⟩
    refine ⟨_, rfl, a, _, _, _, rfl, rfl, SqL.of ea, rfl, _, _, rfl, rfl, _, rfl, a, _, _, _, rfl, rfl, ea, rfl, ?_⟩
    refine take_go (q := fun H1 => _) (vs' := [V.int x, V.int fl, V.int ((c + 1 : Nat) : Int), V.int y]) rfl ?_
    intro H1 k1 e1
    have go : ∀ (x fl : Int) (H2 : Hp), Kl a H1 H2 → H2 a = some (.lst [V.int x, V.int fl, V.int ((c + 1 : Nat) : Int), V.int y]) → uB { nx := fun _ H' => Q .non H', rt := Q } [some (.ref a), some (.int size), none] H2 := fun x fl H2 k2 e2 =>
      kB _ a (c + 1) size x fl y H2 e2 (by omega) h0 h1 fun v H' k' st v0 v1 => q v H' ((k1.trans k2).trans k') st v0 v1
    refine ⟨_, rfl, a, _, _, _, rfl, rfl, SqL.of e1, rfl, rfl, _, rfl, ite2 (fun h => ?_) (fun h => ?_)⟩
    · refine ⟨_, rfl, a, _, _, _, rfl, rfl, SqL.of e1, rfl, rfl, _, rfl, ite2 (fun h => ?_) (fun h => ?_)⟩
      · refine ⟨_, rfl, a, _, _, _, rfl, rfl, e1, rfl, ?_⟩
        refine take_go (q := fun H1 => _) (vs' := [V.int x, V.int 1, V.int ((c + 1 : Nat) : Int), V.int y]) rfl ?_
        intro H2 k2 e2
        refine ⟨_, rfl, a, _, _, _, rfl, rfl, SqL.of e2, rfl, y, 9, rfl, by decide, by decide, _, rfl, a, _, _, _, rfl, rfl, e2, rfl, ?_⟩
        refine take_go (q := fun H1 => _) (vs' := [V.int (mixM y 9), V.int 1, V.int ((c + 1 : Nat) : Int), V.int y]) rfl ?_
        intro H3 k3 e3
        exact go _ _ H3 (k2.trans k3) e3
      · exact go _ _ H1 (Kl.of (Same.refl _)) e1
    · exact iteF (go _ _ H1 (Kl.of (Same.refl _)) e1)
end
end K49

set_option Elab.async false
set_option linter.all false
set_option maxRecDepth 100000
set_option maxHeartbeats 4000000
namespace K49
open PySem L2
/-! ### flat statements, counted -/
theorem at_zero (x : V) (xs : List V) : atI (x :: xs) 0 = some x := by show atI (x :: xs) ((0 : Nat) : Int) = some x; exact atI_nat rfl
theorem in_tag (x a b : Str) : (if false = true then !inV (V.str x) [V.str a, V.str b] else inV (V.str x) [V.str a, V.str b]) = decide (x = a ∨ x = b) := by
  rw [if_neg (by decide)]
  unfold inV
  simp only [List.any_cons, List.any_nil, Bool.or_false]
  rw [Bool.eq_iff_iff, Bool.or_eq_true, decide_eq_true_eq]
  simp only [eqV, beq_iff_eq]
  constructor
  · rintro (h | h)
    · exact .inl h.symm
    · exact .inr h.symm
  · rintro (h | h)
    · exact .inl h.symm
    · exact .inr h.symm
theorem Paired.app {α β : Type} {F : α → β → Prop} : ∀ {l1 m1 : List α} {l2 m2 : List β}, Paired F l1 l2 → Paired F m1 m2 → Paired F (l1 ++ m1) (l2 ++ m2)
  | _, _, _, _, .nil, b => b
  | _, _, _, _, .cons r t, b => .cons r (Paired.app t b)
def FlS (H : Hp) (v : V) : Prop := ∃ (r : Addr) (tag : Str) (vs : List V), v = .ref r ∧ H r = some (.tup (.str tag :: vs)) ∧ tag ≠ "if" ∧ tag ≠ "while"
theorem FlS.same {H H' : Hp} (s : Same H H') {v : V} (h : FlS H v) : FlS H' v := by
  obtain ⟨r, tag, vs, e, h1, h2, h3⟩ := h
  exact ⟨r, tag, vs, e, s _ _ h1, h2, h3⟩
def sp_wi : Sp := fun vs H Q _ => ∃ (r : Addr) (xs : List V), vs = [.ref r] ∧ H r = some (.lst xs) ∧ (∀ x ∈ xs, FlS H x) ∧ xs.length ≤ 1000 ∧ ∀ (l : Addr) (H' : Hp), Same H H' → H l = none → H' l = some (.lst xs) → Q (.ref l) H'
def sp_ib : Sp := fun vs H Q _ => ∃ (v : V) (k : Int), vs = [v, .int k] ∧ FlS H v ∧ ∀ (l : Addr) (H' : Hp), Same H H' → H l = none → H' l = some (.lst []) → Q (.ref l) H'
/-- an entry: its number, its statement -/
def EnAt (H : Hp) (v : V) (p : Int × V) : Prop := ∃ (r ib : Addr), v = .ref r ∧ H r = some (.tup [.int p.1, p.2, .ref ib])
theorem EnAt.keep {H H' : Hp} (k : ∀ b vs, H b = some (.tup vs) → H' b = some (.tup vs)) {v : V} {p : Int × V} (h : EnAt H v p) : EnAt H' v p := by
  obtain ⟨r, ib, e, h1⟩ := h
  exact ⟨r, ib, e, k _ _ h1⟩
def ens (k : Int) : List V → List (Int × V)
  | [] => []
  | x :: xs => (k, x) :: ens (k + 1) xs
theorem ens_app : ∀ (k : Int) (a b : List V), ens k (a ++ b) = ens k a ++ ens (k + (a.length : Int)) b
  | k, [], b => by show ens k b = ens (k + ((0 : Nat) : Int)) b; rw [Int.natCast_zero, Int.add_zero]
  | k, x :: a, b => by
    show (k, x) :: ens (k + 1) (a ++ b) = (k, x) :: (ens (k + 1) a ++ ens (k + ((a.length + 1 : Nat) : Int)) b)
    rw [ens_app (k + 1) a b, show k + ((a.length + 1 : Nat) : Int) = k + 1 + (a.length : Int) by omega]
def sp_cnt : Sp := fun vs H Q _ => ∃ (r : Addr) (k : Int) (xs : List V), vs = [.ref r, .int k] ∧ H r = some (.lst xs) ∧ (∀ x ∈ xs, FlS H x) ∧ xs.length ≤ 1000 ∧ ∀ (l : Addr) (es : List V) (H' : Hp), Same H H' → H l = none → H' l = some (.lst es) → Paired (EnAt H') es (ens k xs) → Q (.ref l) H'
def sp_ct : Sp := fun vs H Q _ => ∃ (t told pl ml : Addr) (xs : List V), vs = [.ref t] ∧ H t = some (.tup [.ref told, .ref pl, .ref ml]) ∧ H pl = some (.lst []) ∧ H ml = some (.lst xs) ∧ (∀ x ∈ xs, FlS H x) ∧ xs.length ≤ 1000 ∧ ∀ (T p l : Addr) (es : List V) (H' : Hp), Same H H' → H p = none → H l = none → H' T = some (.tup [.ref p, .ref l]) → H' p = some (.lst []) → H' l = some (.lst es) → Paired (EnAt H') es (ens 0 xs) → Q (.ref T) H'
section
variable {P : Program} {w : World} {K : PySem.W.Frag} {mg : Str → Option Value} {base : Heap}
theorem sc_with_inner : FnScope ["body", "found", "statement", "inner"] ["body"] (defScope s_with_inner) := ⟨rfl, rfl, rfl, by decide +kernel, rfl, by decide +kernel, by decide +kernel⟩
theorem ok_with_inner {f : Addr} {fd : FuncData} (T : Bt mg) (T_with_inner : Fn K mg "with_inner" s_with_inner ["body"] f fd) : FnOk P w K mg base CX0 2 f fd ["body"] sp_wi := by
  have G_with_inner : FnOk P w K mg base CX0 1 f fd ["body"] (fun _ _ _ _ => False) := T_with_inner.F.ok (k := 0) (sp := fun _ _ _ _ => False) sc_with_inner (fun _ _ _ _ h => h.elim) (fun _ _ _ _ _ _ _ _ _ h => h.elim)
  refine T_with_inner.F.ok (k := 1) sc_with_inner (fun vs H Q E h => ?_) (fun cdv A outer s H vs Q E hr h => ?_)
  · obtain ⟨r, xs, rfl, _⟩ := h; rfl
  · obtain ⟨r, xs, rfl, er, fl, hl, q⟩ := h
    have hs : sizeLine = 16777216 := sizeLine_eq
    have two : 2 ≤ sizeLine := by omega
    refine ⟨_, (pss_cons (ps_set (i := 1) sc_with_inner.nd rfl (Or.inl rfl) (pe_lst pa_nil))
      (pss_cons (ps_for PassesOwn.never rfl (pi_list (pv 0)) (pg_name (i := 2) sc_with_inner.nd rfl (Or.inl rfl))
        (pss_cons (ps_expr (pe_bm PySem.F.plainAttrs_list PySem.F.slot_list_append PySem.F.type_list_append mt_append (pv 1) (pa_consN (pv 2) pa_nil)))
        (pss_one (ps_if (pt_cmpR op_in_seq (pe_ix ix_tup (pv 2) pe_int (fun _ _ => rfl)) (pe_tup (pa_consN pe_str (pa_consN pe_str pa_nil))) (by with_unfolding_all rfl))
          (pss_one (ps_for PassesOwn.never rfl (pi_tup (pe_slice sl_tup (pv 2) (po_some pe_int) po_none)) (pg_name (i := 3) sc_with_inner.nd rfl (Or.inl rfl))
            (pss_one (ps_expr (pe_bm PySem.F.plainAttrs_list PySem.F.slot_list_extend PySem.F.type_list_extend mt_extend (pv 1) (pa_consN (pe_call G_with_inner (hr.mono (by decide)) rfl T_with_inner.m T_with_inner.F.kp T_with_inner.b .nil pass0 (pa_consN (pv 3) pa_nil)) pa_nil))))))
          pss_nil))))
      (pss_one (ps_ret (pv 1))))), ?_⟩
    refine ⟨Nat.zero_le _, fun l hl0 => ?_⟩
    have y1 := Same.put (o := .lst []) hl0
    have el : upd H l (.lst []) l = some (.lst []) := upd_same
    generalize upd H l (.lst []) = H1 at y1 el ⊢
    refine ⟨_, rfl, r, rfl, ⟨_, SqL.of (y1 _ _ er)⟩, for_list (K := K) (a := r) (xs := xs) (fun i σ H2 => ∃ (v2 v3 : Option V), σ = [some (.ref r), some (.ref l), v2, v3] ∧ Same H H2 ∧ H2 l = some (.lst (xs.take i))) ⟨_, _, rfl, y1, by rw [List.take_zero]; exact el⟩ ?_ ?_ ?_⟩
    · rintro i σ H2 _ ⟨v2, v3, rfl, s2, _⟩
      exact SqL.of (s2 _ _ er)
    · rintro i x σ H2 hx ⟨v2, v3, rfl, s2, e2⟩
      obtain ⟨r2, tag, vs, rfl, et, t1, t2⟩ := fl x (List.mem_of_getElem? hx)
      have hi : i < xs.length := (List.getElem?_eq_some_iff.mp hx).1
      refine ⟨_, rfl, .inl ⟨rfl, _, SqL.of e2⟩, _, rfl, l, _, _, rfl, rfl, e2, by rw [List.length_take]; omega, ?_⟩
      have s3 : Same H (upd H2 l (.lst (xs.take i ++ [V.ref r2]))) := Kl.same s2 hl0 Kl.one
      have e3 : upd H2 l (.lst (xs.take i ++ [V.ref r2])) l = some (.lst (xs.take (i + 1))) := by rw [upd_same, List.take_add_one, hx]; rfl
      generalize upd H2 l (.lst (xs.take i ++ [V.ref r2])) = H3 at s3 e3 ⊢
      refine ⟨_, rfl, r2, _, _, _, rfl, rfl, SqT.of (s3 _ _ et), at_zero _ _, two, fun p hp => ?_⟩
      have y4 := Same.put (o := .tup [V.str "if", V.str "while"]) hp
      have ep : upd H3 p (.tup [V.str "if", V.str "while"]) p = some (.tup [V.str "if", V.str "while"]) := upd_same
      generalize upd H3 p (.tup [V.str "if", V.str "while"]) = H4 at y4 ep ⊢
      refine ⟨p, _, rfl, .inr (SqT.of ep), rfl, rfl, _, rfl, ?_⟩
      rw [in_tag]
      exact itDN (fun z => z.elim t1 t2) ⟨_, _, rfl, s3.trans y4, y4 _ _ e3⟩
    · rintro σ H2 ⟨v2, v3, rfl, s2, e2⟩
      rw [List.take_of_length_le (Nat.le_refl _)] at e2
      exact ⟨_, rfl, q l H2 s2 hl0 e2⟩
theorem sc_inner_bodies : FnScope ["statement", "first", "bodies", "body"] ["statement", "first"] (defScope s_inner_bodies) := ⟨rfl, rfl, rfl, by decide +kernel, rfl, by decide +kernel, by decide +kernel⟩
theorem sc_counted : FnScope ["body", "first", "entries", "statement"] ["body", "first"] (defScope s_counted) := ⟨rfl, rfl, rfl, by decide +kernel, rfl, by decide +kernel, by decide +kernel⟩
theorem ok_inner_bodies {f f1 f2 : Addr} {fd d1 d2 : FuncData} (T : Bt mg) (T_with_inner : Fn K mg "with_inner" s_with_inner ["body"] f1 d1) (T_counted : Fn K mg "counted" s_counted ["body", "first"] f2 d2) (T_inner_bodies : Fn K mg "inner_bodies" s_inner_bodies ["statement", "first"] f fd) : FnOk P w K mg base CX0 3 f fd ["statement", "first"] sp_ib := by
  have G_with_inner := ok_with_inner (P := P) (w := w) (base := base) T T_with_inner
  have G_counted : FnOk P w K mg base CX0 1 _ _ ["body", "first"] (fun _ _ _ _ => False) := T_counted.F.ok (k := 0) (sp := fun _ _ _ _ => False) sc_counted (fun _ _ _ _ h => h.elim) (fun _ _ _ _ _ _ _ _ _ h => h.elim)
  refine T_inner_bodies.F.ok (k := 2) sc_inner_bodies (fun vs H Q E h => ?_) (fun cdv A outer s H vs Q E hr h => ?_)
  · obtain ⟨v, k, rfl, _⟩ := h; rfl
  · obtain ⟨v, k, rfl, ⟨r2, tag, vs, rfl, et, t1, t2⟩, q⟩ := h
    have hs : sizeLine = 16777216 := sizeLine_eq
    have two : 2 ≤ sizeLine := by omega
    refine ⟨_, (pss_cons (ps_set (i := 2) sc_inner_bodies.nd rfl (Or.inl rfl) (pe_lst pa_nil))
      (pss_cons (ps_if (pt_cmpR op_in_seq (pe_ix ix_tup (pv 0) pe_int (fun _ _ => rfl)) (pe_tup (pa_consN pe_str (pa_consN pe_str pa_nil))) (by with_unfolding_all rfl))
        (pss_one (ps_for PassesOwn.never rfl (pi_tup (pe_slice sl_tup (pv 0) (po_some pe_int) po_none)) (pg_name (i := 3) sc_inner_bodies.nd rfl (Or.inl rfl))
          (pss_cons (ps_expr (pe_bm PySem.F.plainAttrs_list PySem.F.slot_list_append PySem.F.type_list_append mt_append (pv 2) (pa_consN (pe_call G_counted (hr.mono (by decide)) rfl T_counted.m T_counted.F.kp T_counted.b .nil pass0 (pa_consN (pv 3) (pa_consN (pv 1) pa_nil))) pa_nil)))
          (pss_one (ps_set (i := 1) sc_inner_bodies.nd rfl (Or.inl rfl) (pe_op op_add (pv 1) (pe_callB call_len_seq rfl T.b_len (by decide +kernel) (pa_consN (pe_call G_with_inner (hr.mono (by decide)) rfl T_with_inner.m T_with_inner.F.kp T_with_inner.b .nil pass0 (pa_consN (pv 3) pa_nil)) pa_nil))))))))
        pss_nil)
      (pss_one (ps_ret (pv 2))))), ?_⟩
    refine ⟨Nat.zero_le _, fun l hl0 => ?_⟩
    have y1 := Same.put (o := .lst []) hl0
    have el : upd H l (.lst []) l = some (.lst []) := upd_same
    generalize upd H l (.lst []) = H1 at y1 el ⊢
    refine ⟨_, rfl, r2, _, _, _, rfl, rfl, SqT.of (y1 _ _ et), at_zero _ _, two, fun p hp => ?_⟩
    have y4 := Same.put (o := .tup [V.str "if", V.str "while"]) hp
    have ep : upd H1 p (.tup [V.str "if", V.str "while"]) p = some (.tup [V.str "if", V.str "while"]) := upd_same
    generalize upd H1 p (.tup [V.str "if", V.str "while"]) = H4 at y4 ep ⊢
    refine ⟨p, _, rfl, .inr (SqT.of ep), rfl, rfl, _, rfl, ?_⟩
    rw [in_tag]
    exact itDN (fun z => z.elim t1 t2) ⟨_, rfl, q l H4 (y1.trans y4) hl0 (y4 _ _ el)⟩
theorem ok_counted {f f1 f2 : Addr} {fd d1 d2 : FuncData} (T : Bt mg) (T_with_inner : Fn K mg "with_inner" s_with_inner ["body"] f1 d1) (T_inner_bodies : Fn K mg "inner_bodies" s_inner_bodies ["statement", "first"] f2 d2) (T_counted : Fn K mg "counted" s_counted ["body", "first"] f fd) : FnOk P w K mg base CX0 4 f fd ["body", "first"] sp_cnt := by
  have G_with_inner := ok_with_inner (P := P) (w := w) (base := base) T T_with_inner
  have G_inner_bodies := ok_inner_bodies (P := P) (w := w) (base := base) T T_with_inner T_counted T_inner_bodies
  refine T_counted.F.ok (k := 3) sc_counted (fun vs H Q E h => ?_) (fun cdv A outer s H vs Q E hr h => ?_)
  · obtain ⟨r, k, xs, rfl, _⟩ := h; rfl
  · obtain ⟨r, k, xs, rfl, er, fl, hl, q⟩ := h
    have hs : sizeLine = 16777216 := sizeLine_eq
    have one : 1 ≤ sizeLine := by omega
    have three : 3 ≤ sizeLine := by omega
    refine ⟨_, (pss_cons (ps_set (i := 2) sc_counted.nd rfl (Or.inl rfl) (pe_lst pa_nil))
      (pss_cons (ps_for PassesOwn.never rfl (pi_list (pv 0)) (pg_name (i := 3) sc_counted.nd rfl (Or.inl rfl))
        (pss_cons (ps_expr (pe_bm PySem.F.plainAttrs_list PySem.F.slot_list_append PySem.F.type_list_append mt_append (pv 2) (pa_consN (pe_tup (pa_consN (pv 1) (pa_consN (pv 3) (pa_consN (pe_call G_inner_bodies (hr.mono (by decide)) rfl T_inner_bodies.m T_inner_bodies.F.kp T_inner_bodies.b .nil pass0 (pa_consN (pv 3) (pa_consN (pe_op op_add (pv 1) pe_int) pa_nil))) pa_nil)))) pa_nil)))
        (pss_one (ps_set (i := 1) sc_counted.nd rfl (Or.inl rfl) (pe_op op_add (pv 1) (pe_callB call_len_seq rfl T.b_len (by decide +kernel) (pa_consN (pe_call G_with_inner (hr.mono (by decide)) rfl T_with_inner.m T_with_inner.F.kp T_with_inner.b .nil pass0 (pa_consN (pe_lst (pa_consN (pv 3) pa_nil)) pa_nil)) pa_nil)))))))
      (pss_one (ps_ret (pv 2))))), ?_⟩
    refine ⟨Nat.zero_le _, fun l hl0 => ?_⟩
    have y1 := Same.put (o := .lst []) hl0
    have el : upd H l (.lst []) l = some (.lst []) := upd_same
    generalize upd H l (.lst []) = H1 at y1 el ⊢
    refine ⟨_, rfl, r, rfl, ⟨_, SqL.of (y1 _ _ er)⟩, for_list (K := K) (a := r) (xs := xs) (fun i σ H2 => ∃ (v3 : Option V) (es : List V), σ = [some (.ref r), some (.int (k + (i : Int))), some (.ref l), v3] ∧ Same H H2 ∧ H2 l = some (.lst es) ∧ es.length = i ∧ Paired (EnAt H2) es (ens k (xs.take i))) ⟨_, [], by rw [Int.natCast_zero, Int.add_zero]; rfl, y1, el, rfl, .nil⟩ ?_ ?_ ?_⟩
    · rintro i σ H2 _ ⟨v3, es, rfl, s2, _⟩
      exact SqL.of (s2 _ _ er)
    · rintro i x σ H2 hx ⟨v3, es, rfl, s2, e2, le, pe⟩
      have hi : i < xs.length := (List.getElem?_eq_some_iff.mp hx).1
      have fx := fl x (List.mem_of_getElem? hx)
      refine ⟨_, rfl, .inl ⟨rfl, _, SqL.of e2⟩, _, rfl, _, rfl, _, rfl, _, rfl, _, _, rfl, rfl, x, _, rfl, fx.same s2, fun ib H3 s3 hib eib => ⟨three, fun p hp => ?_⟩⟩
      have yp := Same.put (o := .tup [V.int (k + (i : Int)), x, V.ref ib]) hp
      have ep : upd H3 p (.tup [V.int (k + (i : Int)), x, V.ref ib]) p = some (.tup [V.int (k + (i : Int)), x, V.ref ib]) := upd_same
      generalize upd H3 p (.tup [V.int (k + (i : Int)), x, V.ref ib]) = H4 at yp ep ⊢
      have s24 := s3.trans yp
      have e4 := s24 _ _ e2
      refine ⟨l, _, _, rfl, rfl, e4, by omega, ?_⟩
      have s5 : Same H (upd H4 l (.lst (es ++ [V.ref p]))) := Kl.same (s2.trans s24) hl0 Kl.one
      have tp : ∀ b vs, H4 b = some (.tup vs) → upd H4 l (.lst (es ++ [V.ref p])) b = some (.tup vs) := fun b vs e => by rw [upd_ne (ne_of e e4 (by intro z; cases z))]; exact e
      have e5 : upd H4 l (.lst (es ++ [V.ref p])) l = some (.lst (es ++ [V.ref p])) := upd_same
      have pe5 : Paired (EnAt (upd H4 l (.lst (es ++ [V.ref p])))) (es ++ [V.ref p]) (ens k (xs.take (i + 1))) := by
        rw [List.take_add_one, hx]
        show Paired _ _ (ens k (xs.take i ++ [x]))
        rw [ens_app, List.length_take, Nat.min_eq_left (by omega)]
        exact Paired.app (Paired.mapP pe fun _ _ z => (z.keep (fun b vs e => s24 _ _ e)).keep tp) (.cons ⟨p, ib, rfl, tp _ _ ep⟩ .nil)
      generalize upd H4 l (.lst (es ++ [V.ref p])) = H5 at s5 e5 pe5 ⊢
      refine ⟨_, rfl, _, rfl, one, fun sl hsl => ?_⟩
      have y6 := Same.put (o := .lst [x]) hsl
      have e6 : upd H5 sl (.lst [x]) sl = some (.lst [x]) := upd_same
      generalize upd H5 sl (.lst [x]) = H6 at y6 e6 ⊢
      refine ⟨sl, [x], rfl, e6, fun z hz => by rw [List.mem_singleton.mp hz]; exact fx.same (s5.trans y6), (by show 1 ≤ 1000; decide), fun l2 H7 s7 hl2 el2 => ⟨l2, _, rfl, .inl (SqL.of el2), _, _, rfl, rfl, ?_⟩⟩
      have s57 := y6.trans s7
      exact ⟨_, es ++ [V.ref p], by show _ = [some (V.ref r), some (V.int (k + ((i + 1 : Nat) : Int))), some (V.ref l), _]; rw [show k + ((i + 1 : Nat) : Int) = k + (i : Int) + 1 by omega]; rfl, s5.trans s57, s57 _ _ e5, by rw [List.length_append, le]; rfl, Paired.mapP pe5 fun _ _ z => z.keep (fun b vs e => s57 _ _ e)⟩
    · rintro σ H2 ⟨v3, es, rfl, s2, e2, le, pe⟩
      rw [List.take_of_length_le (Nat.le_refl _)] at pe
      exact ⟨_, rfl, q l es H2 s2 hl0 e2 pe⟩
theorem sc_counted_tree : FnScope ["tree", "parts", "first", "name", "body"] ["tree"] (defScope s_counted_tree) := ⟨rfl, rfl, rfl, by decide +kernel, rfl, by decide +kernel, by decide +kernel⟩
theorem ok_counted_tree {f f1 f2 f3 : Addr} {fd d1 d2 d3 : FuncData} (F : Fun K "counted_tree" "counted_tree" s_counted_tree f fd) (T : Bt mg) (T_with_inner : Fn K mg "with_inner" s_with_inner ["body"] f1 d1) (T_inner_bodies : Fn K mg "inner_bodies" s_inner_bodies ["statement", "first"] f2 d2) (T_counted : Fn K mg "counted" s_counted ["body", "first"] f3 d3) : FnOk P w K mg base CX0 5 f fd ["tree"] sp_ct := by
  have G_with_inner := ok_with_inner (P := P) (w := w) (base := base) T T_with_inner
  have G_counted := ok_counted (P := P) (w := w) (base := base) T T_with_inner T_inner_bodies T_counted
  refine F.ok (k := 4) sc_counted_tree (fun vs H Q E h => ?_) (fun cdv A outer s H vs Q E hr h => ?_)
  · obtain ⟨t, told, pl, ml, xs, rfl, _⟩ := h; rfl
  · obtain ⟨t, told, pl, ml, xs, rfl, et, epl, eml, fl, hl, q⟩ := h
    have hs : sizeLine = 16777216 := sizeLine_eq
    have two : 2 ≤ sizeLine := by omega
    refine ⟨_, (pss_cons (ps_set (i := 1) sc_counted_tree.nd rfl (Or.inl rfl) (pe_lst pa_nil))
      (pss_cons (ps_set (i := 2) sc_counted_tree.nd rfl (Or.inl rfl) pe_int)
      (pss_cons (ps_for PassesOwn.never rfl (pi_list (pe_ix ix_tup (pv 0) pe_int (fun _ _ => rfl))) (pg_tup rfl (pgs_cons (pg_name (i := 3) sc_counted_tree.nd rfl (Or.inl rfl)) (pgs_cons (pg_name (i := 4) sc_counted_tree.nd rfl (Or.inl rfl)) pgs_nil)))
        (pss_cons (ps_expr (pe_bm PySem.F.plainAttrs_list PySem.F.slot_list_append PySem.F.type_list_append mt_append (pv 1) (pa_consN (pe_tup (pa_consN (pv 3) (pa_consN (pe_call G_counted (hr.mono (by decide)) rfl T_counted.m T_counted.F.kp T_counted.b .nil pass0 (pa_consN (pv 4) (pa_consN (pv 2) pa_nil))) pa_nil))) pa_nil)))
        (pss_one (ps_set (i := 2) sc_counted_tree.nd rfl (Or.inl rfl) (pe_op op_add (pv 2) (pe_callB call_len_seq rfl T.b_len (by decide +kernel) (pa_consN (pe_call G_with_inner (hr.mono (by decide)) rfl T_with_inner.m T_with_inner.F.kp T_with_inner.b .nil pass0 (pa_consN (pv 4) pa_nil)) pa_nil)))))))
      (pss_one (ps_ret (pe_tup (pa_consN (pv 1) (pa_consN (pe_call G_counted (hr.mono (by decide)) rfl T_counted.m T_counted.F.kp T_counted.b .nil pass0 (pa_consN (pe_ix ix_tup (pv 0) pe_int (fun _ _ => rfl)) (pa_consN (pv 2) pa_nil))) pa_nil)))))))), ?_⟩
    refine ⟨Nat.zero_le _, fun p hp0 => ?_⟩
    have y1 := Same.put (o := .lst []) hp0
    have ep : upd H p (.lst []) p = some (.lst []) := upd_same
    generalize upd H p (.lst []) = H1 at y1 ep ⊢
    refine ⟨_, rfl, t, _, _, _, rfl, rfl, SqT.of (y1 _ _ et), rfl, pl, rfl, ⟨_, SqL.of (y1 _ _ epl)⟩, for_list (K := K) (a := pl) (xs := []) (fun i σ H2 => σ = [some (.ref t), some (.ref p), some (.int 0), none, none] ∧ H2 = H1) ⟨rfl, rfl⟩ ?_ ?_ ?_⟩
    · rintro i σ H2 _ ⟨_, rfl⟩
      exact SqL.of (y1 _ _ epl)
    · rintro i x σ H2 hx _
      cases hx
    · rintro σ H2 ⟨rfl, rfl⟩
      refine ⟨_, rfl, _, rfl, t, _, _, _, rfl, rfl, SqT.of (y1 _ _ et), rfl, _, rfl, ml, 0, xs, rfl, y1 _ _ eml, fun x hx => (fl x hx).same y1, hl, fun l es H3 s3 hl0 e3 pe => ⟨two, fun T0 hT0 => ?_⟩⟩
      have y4 := Same.put (o := .tup [V.ref p, V.ref l]) hT0
      exact q T0 p l es _ ((y1.trans s3).trans y4) hp0 (y1.free hl0) upd_same (y4 _ _ (s3 _ _ ep)) (y4 _ _ e3) (Paired.mapP pe fun _ _ z => z.keep (fun b vs e => y4 _ _ e))
end
end K49

set_option Elab.async false
set_option linter.all false
set_option maxRecDepth 100000
set_option maxHeartbeats 4000000
namespace K49
open PySem L2
/-! ### cells -/
inductive Cv where
  | i (n : Int)
  | l (a : Addr) (ns : List Int)
def Cv.v : Cv → V
  | .i n => .int n
  | .l a _ => .ref a
/-- what it is worth, wherever it lies -/
def Cv.w : Cv → Int ⊕ List Int
  | .i n => .inl n
  | .l _ ns => .inr ns
abbrev Cells := List (Str × Cv)
def ckv (cs : Cells) : List (Key × V) := cs.map fun p => (.inr p.1, p.2.v)
def cvals (cs : Cells) : List (Str × (Int ⊕ List Int)) := cs.map fun p => (p.1, p.2.w)
structure CellsAt (H : Hp) (d : Addr) (cs : Cells) : Prop where
  ed : H d = some (.dK (ckv cs))
  ls : ∀ x a ns, (x, Cv.l a ns) ∈ cs → H a = some (.lst (ns.map V.int))
  nd : (cs.map (·.1)).Nodup
  ap : ∀ x a ns y ms, (x, Cv.l a ns) ∈ cs → (y, Cv.l a ms) ∈ cs → x = y
theorem CellsAt.same {H H' : Hp} {d : Addr} {cs : Cells} (h : CellsAt H d cs) (s : Same H H') : CellsAt H' d cs := ⟨s _ _ h.ed, fun x a ns m => s _ _ (h.ls x a ns m), h.nd, h.ap⟩
theorem ckv_none : ∀ {cs : Cells} {x : Str}, x ∉ cs.map (·.1) → valV (ckv cs) (.inr x) = none
  | [], _, _ => rfl
  | p :: r, x, h => by
    have h1 : ¬ p.1 = x := fun z => h (by rw [← z]; exact List.mem_cons_self)
    show valV ((Sum.inr p.1, p.2.v) :: ckv r) _ = none
    rw [valV_neg (fun z => h1 (Sum.inr.inj z))]
    exact ckv_none fun z => h (List.mem_cons_of_mem _ z)
theorem ckv_snoc {cs : Cells} {x : Str} {c : Cv} (h : x ∉ cs.map (·.1)) : putK (ckv cs) (.inr x) c.v = ckv (cs ++ [(x, c)]) := by
  rw [putK_new _ (ckv_none h)]
  unfold ckv
  rw [List.map_append]; rfl
theorem ckv_len (cs : Cells) : (ckv cs).length = cs.length := List.length_map _
abbrev VRow := Str × Str × Int
def VarAt (H : Hp) (v : V) (p : VRow) : Prop := ∃ a, v = .ref a ∧ H a = some (.tup [.str p.1, .str p.2.1, .int p.2.2])
theorem paired_at {α β : Type} {F : α → β → Prop} : ∀ {l1 : List α} {l2 : List β} {i : Nat} {x : α}, Paired F l1 l2 → l1[i]? = some x → ∃ y, l2[i]? = some y ∧ F x y
  | _, _, 0, _, .cons r _, h1 => by cases h1; exact ⟨_, rfl, r⟩
  | _, _, i + 1, _, .cons _ t, h1 => paired_at (i := i) t h1
/-- a first cell of a variable -/
def Cell0 (H : Hp) (p : VRow) (c : Str × Cv) : Prop := c.1 = p.2.1 ∧ if p.1 = "list" then ∃ a, c.2 = .l a (List.replicate p.2.2.toNat 0) ∧ H a = none else c.2 = .i 0
theorem names0 {H : Hp} {rows : List VRow} {cs : Cells} (h : Paired (Cell0 H) rows cs) : rows.map (·.2.1) = cs.map (·.1) := by
  induction h with
  | nil => rfl
  | cons a _ ih => rw [List.map_cons, List.map_cons, ih, a.1]
def sp_fc : Sp := fun vs H Q _ => ∃ (l : Addr) (xs : List V) (rows : List VRow), vs = [.ref l] ∧ H l = some (.lst xs) ∧ Paired (VarAt H) xs rows ∧ rows.length ≤ 40 ∧ (rows.map (·.2.1)).Nodup ∧ (∀ p ∈ rows, 0 ≤ p.2.2 ∧ p.2.2 ≤ 1000) ∧
  ∀ (d : Addr) (cs : Cells) (H' : Hp), Same H H' → H d = none → CellsAt H' d cs → Paired (Cell0 H) rows cs → (∀ x a ns, (x, Cv.l a ns) ∈ cs → a ≠ d) → Q (.ref d) H'
def sp_cp : Sp := fun vs H Q _ => ∃ (d : Addr) (cs : Cells), vs = [.ref d] ∧ CellsAt H d cs ∧ cs.length ≤ 40 ∧
  ∀ (d' : Addr) (cs' : Cells) (H' : Hp), Same H H' → H d' = none → CellsAt H' d' cs' → cvals cs' = cvals cs → Q (.ref d') H'
theorem app_cells {H : Hp} {d : Addr} {cs : Cells} {x : Str} {c : Cv} (hd : H d = some (.dK (ckv (cs ++ [(x, c)])))) (ls : ∀ y a ns, (y, Cv.l a ns) ∈ cs → H a = some (.lst (ns.map V.int))) (nd : (cs.map (·.1)).Nodup) (ap : ∀ x a ns y ms, (x, Cv.l a ns) ∈ cs → (y, Cv.l a ms) ∈ cs → x = y) (hx : x ∉ cs.map (·.1))
    (hc : ∀ a ns, c = .l a ns → H a = some (.lst (ns.map V.int)) ∧ ∀ y ms, (y, Cv.l a ms) ∉ cs) : CellsAt H d (cs ++ [(x, c)]) := by
  refine ⟨hd, fun y a ns h => ?_, ?_, fun y a ns z ms h1 h2 => ?_⟩
  · rcases List.mem_append.mp h with h | h
    · exact ls y a ns h
    · have := List.mem_singleton.mp h
      cases this
      exact (hc a ns rfl).1
  · rw [List.map_append, List.nodup_append]
    refine ⟨nd, by simp, fun a ha b hb => ?_⟩
    rw [List.mem_singleton.mp hb]
    exact fun (z : a = x) => hx (z ▸ ha)
  · rcases List.mem_append.mp h1 with g1 | g1 <;> rcases List.mem_append.mp h2 with g2 | g2
    · exact ap y a ns z ms g1 g2
    · have := List.mem_singleton.mp g2
      cases this
      exact absurd g1 ((hc a ms rfl).2 y ns)
    · have := List.mem_singleton.mp g1
      cases this
      exact absurd g2 ((hc a ns rfl).2 z ms)
    · have e1 := List.mem_singleton.mp g1
      have e2 := List.mem_singleton.mp g2
      cases e1; cases e2; rfl
section
variable {P : Program} {w : World} {K : PySem.W.Frag} {mg : Str → Option Value} {base : Heap}
theorem sc_signed : FnScope ["number"] ["number"] (defScope s_signed) := ⟨rfl, rfl, rfl, by decide +kernel, rfl, by decide +kernel, by decide +kernel⟩
def sgn (n : Int) : Int := if 32768 ≤ n then n - 65536 else n
def sp_signed : Sp := fun vs H Q _ => ∃ n : Int, vs = [.int n] ∧ Q (.int (sgn n)) H
theorem ok_signed {f : Addr} {fd : FuncData} (F : Fun K "signed" "signed" s_signed f fd) (T : Bt mg) (C : Ct K mg) : FnOk P w K mg base CX0 1 f fd ["number"] sp_signed := by
  refine F.ok sc_signed (fun vs H Q E h => ?_) (fun cdv A outer s H vs Q E hr h => ?_)
  · obtain ⟨n, rfl, _⟩ := h; rfl
  · obtain ⟨n, rfl, q⟩ := h
    refine ⟨_, (pss_one (ps_ret (pe_ifExp (pt_cmpR op_ge (pv 0) (pe_glob (v := .int 32768) rfl C.k_FIRST_BELOW.choose_spec ⟨_, rfl⟩) (nomark _)) (pe_op op_sub (pv 0) (pe_glob (v := .int 65536) rfl C.k_WORDS.choose_spec ⟨_, rfl⟩)) (pv 0)))), ?_⟩
    unfold sgn at q
    refine ⟨_, rfl, _, _, rfl, rfl, _, rfl, ite2 (fun h => ?_) (fun h => ?_)⟩
    · have h : (32768 : Int) ≤ n := of_decide_eq_true h
      rw [if_pos h] at q
      exact ⟨_, rfl, _, _, rfl, rfl, q⟩
    · have h : ¬ (32768 : Int) ≤ n := fun z => h (decide_eq_true z)
      rw [if_neg h] at q
      exact ⟨_, rfl, q⟩
theorem sc_first_cells : FnScope ["variables", "cells", "kind", "name", "size"] ["variables"] (defScope s_first_cells) := ⟨rfl, rfl, rfl, by decide +kernel, rfl, by decide +kernel, by decide +kernel⟩
theorem ok_first_cells {f : Addr} {fd : FuncData} (F : Fun K "first_cells" "first_cells" s_first_cells f fd) (T : Bt mg) : FnOk P w K mg base CX0 1 f fd ["variables"] sp_fc := by
  refine F.ok sc_first_cells (fun vs H Q E h => ?_) (fun cdv A outer s H vs Q E hr h => ?_)
  · obtain ⟨l, xs, rows, rfl, _⟩ := h; rfl
  · obtain ⟨l, xs, rows, rfl, el, hx, hl, ap, sz, q⟩ := h
    have hs : sizeLine = 16777216 := sizeLine_eq
    have lx : xs.length = rows.length := hx.length
    refine ⟨_, (pss_cons (ps_set (i := 1) sc_first_cells.nd rfl (Or.inl rfl) pe_dnewK)
      (pss_cons (ps_for PassesOwn.never rfl (pi_list (pv 0)) (pg_tup rfl (pgs_cons (pg_name (i := 2) sc_first_cells.nd rfl (Or.inl rfl)) (pgs_cons (pg_name (i := 3) sc_first_cells.nd rfl (Or.inl rfl)) (pgs_cons (pg_name (i := 4) sc_first_cells.nd rfl (Or.inl rfl)) pgs_nil))))
        (pss_one (ps_dput (hu_of hr) (pv 1) (pv 3) (pe_ifExp (pt_cmpR op_eq (pv 2) pe_str (nomark _)) (pe_op op_repL1 (pe_lst (pa_consN pe_int pa_nil)) (pv 4)) pe_int) rfl)))
      (pss_one (ps_ret (pv 1))))), ?_⟩
    intro d hd
    have y1 := Same.put (o := .dK []) hd
    have ed : upd H d (.dK []) d = some (.dK []) := upd_same
    generalize upd H d (.dK []) = H1 at y1 ed ⊢
    refine ⟨_, rfl, l, rfl, ⟨_, SqL.of (y1 _ _ el)⟩, for_list (xs := xs) (fun i σ H2 => ∃ (v2 v3 v4 : Option V) (cs : Cells), σ = [some (.ref l), some (.ref d), v2, v3, v4] ∧ Same H H2 ∧ CellsAt H2 d cs ∧ Paired (Cell0 H) (rows.take i) cs ∧ ∀ x a ns, (x, Cv.l a ns) ∈ cs → a ≠ d)
      ⟨_, _, _, [], rfl, y1, ⟨ed, fun x a ns h => (by cases h), List.nodup_nil, fun x a ns y ms h => (by cases h)⟩, .nil, fun x a ns h => (by cases h)⟩ ?_ ?_ ?_⟩
    · rintro i σ H2 _ ⟨v2, v3, v4, cs, rfl, s2, _⟩
      exact SqL.of (s2 _ _ el)
    · rintro i x σ H2 hxi ⟨v2, v3, v4, cs, rfl, s2, ca, pc, nd⟩
      obtain ⟨p, hp, T0, rfl, eT⟩ := paired_at hx hxi
      have hi : i < xs.length := (List.getElem?_eq_some_iff.mp hxi).1
      have hsz := sz p (List.mem_of_getElem? hp)
      have lc : cs.length = i := by rw [← pc.length, List.length_take]; omega
      have tk : rows.take (i + 1) = rows.take i ++ [p] := by rw [List.take_add_one, hp]; rfl
      have hnn : p.2.1 ∉ cs.map (·.1) := by
        rw [← names0 pc]
        have hn : ((rows.take (i + 1)).map (·.2.1)).Nodup := by rw [List.map_take]; exact ap.sublist (List.take_sublist _ _)
        rw [tk, List.map_append, List.nodup_append] at hn
        exact fun z => hn.2.2 _ z _ (List.mem_singleton.mpr rfl) rfl
      have fin : ∀ (c : Cv) (H3 : Hp), Same H2 H3 → (∀ a ns, c = .l a ns → H3 a = some (.lst (ns.map V.int)) ∧ H2 a = none) → Cell0 H p (p.2.1, c) → ∃ (v2 v3 v4 : Option V) (cs' : Cells), [some (V.ref l), some (V.ref d), some (V.str p.1), some (V.str p.2.1), some (V.int p.2.2)] = [some (.ref l), some (.ref d), v2, v3, v4] ∧ Same H (upd H3 d (.dK (putK (ckv cs) (.inr p.2.1) c.v))) ∧ CellsAt (upd H3 d (.dK (putK (ckv cs) (.inr p.2.1) c.v))) d cs' ∧ Paired (Cell0 H) (rows.take (i + 1)) cs' ∧ ∀ x a ns, (x, Cv.l a ns) ∈ cs' → a ≠ d := fun c H3 s3 hc h0 => by
        have ed3 := s3 _ _ ca.ed
        refine ⟨_, _, _, cs ++ [(p.2.1, c)], rfl, Kl.same (s2.trans s3) hd Kl.one, ?_, ?_, fun x a ns h => ?_⟩
        · refine app_cells (by rw [upd_same, ckv_snoc hnn]) (fun y a ns h => ?_) ca.nd ca.ap hnn fun a ns e => ⟨?_, fun y ms h => ?_⟩
          · rw [upd_ne (nd y a ns h)]; exact s3 _ _ (ca.ls y a ns h)
          · rw [upd_ne (ne_of (hc a ns e).1 ed3 (by intro z; cases z))]; exact (hc a ns e).1
          · have := ca.ls y a ms h
            rw [(hc a ns e).2] at this; cases this
        · rw [tk]; exact Paired.app pc (.cons h0 .nil)
        · rcases List.mem_append.mp h with h | h
          · exact nd x a ns h
          · have := List.mem_singleton.mp h
            cases this
            exact ne_of (hc a ns rfl).1 ed3 (by intro z; cases z)
      refine ⟨T0, _, rfl, SqT.of (s2 _ _ eT), rfl, _, _, rfl, _, _, rfl, _, _, rfl, rfl, ?_⟩
      refine ⟨_, rfl, rfl, _, rfl, ite2 (fun h => ?_) (fun h => ?_)⟩
      · have hk : p.1 = "list" := V.str.inj (of_decide_eq_true h)
        refine ⟨(by show 1 ≤ sizeLine; omega), fun l1 hl1 => ?_⟩
        have y1 := Same.put (o := .lst [V.int 0]) hl1
        refine ⟨_, rfl, l1, _, .int 0, rfl, rfl, upd_same, by omega, by omega, fun r hr0 => ?_⟩
        have y2 := Same.put (o := .lst (List.replicate p.2.2.toNat (V.int 0))) hr0
        have y02 := y1.trans y2
        have er : upd (upd H2 l1 (.lst [V.int 0])) r (.lst (List.replicate p.2.2.toNat (V.int 0))) r = some (.lst ((List.replicate p.2.2.toNat (0 : Int)).map V.int)) := by rw [upd_same, List.map_replicate]
        have hr2 : H2 r = none := y1.free hr0
        generalize upd (upd H2 l1 (.lst [V.int 0])) r (.lst (List.replicate p.2.2.toNat (V.int 0))) = H3 at y2 y02 er ⊢
        refine ⟨_, rfl, _, rfl, d, _, rfl, DPut.k (k := .inr p.2.1) (y02 _ _ ca.ed) (by rw [ckv_len]; omega), ?_⟩
        exact fin (.l r (List.replicate p.2.2.toNat 0)) H3 y02 (fun a ns e => by cases e; exact ⟨er, hr2⟩) ⟨rfl, by rw [if_pos hk]; exact ⟨r, rfl, s2.free hr2⟩⟩
      · have hk : ¬ p.1 = "list" := fun z => h (decide_eq_true (congrArg V.str z))
        refine ⟨_, rfl, _, rfl, d, _, rfl, DPut.k (k := .inr p.2.1) ca.ed (by rw [ckv_len]; omega), ?_⟩
        exact fin (.i 0) H2 (Same.refl _) (fun a ns e => by cases e) ⟨rfl, by rw [if_neg hk]⟩
    · rintro σ H2 ⟨v2, v3, v4, cs, rfl, s2, ca, pc, nd⟩
      rw [lx, List.take_of_length_le (Nat.le_refl _)] at pc
      exact ⟨_, rfl, q d cs H2 s2 hd ca pc nd⟩
end
end K49

set_option Elab.async false
set_option linter.all false
set_option maxRecDepth 100000
set_option maxHeartbeats 4000000
namespace K49
open PySem L2
theorem cvals_take {cs : Cells} {i : Nat} {p : Str × Cv} (h : cs[i]? = some p) : cvals (cs.take (i + 1)) = cvals (cs.take i) ++ [(p.1, p.2.w)] := by
  unfold cvals
  rw [List.take_add_one, h, List.map_append]; rfl
theorem ckv_at {cs : Cells} {i : Nat} {k : Key} {v : V} (h : (ckv cs)[i]? = some (k, v)) : ∃ p, cs[i]? = some p ∧ k = .inr p.1 ∧ v = p.2.v := by
  unfold ckv at h
  rw [List.getElem?_map] at h
  cases hc : cs[i]? with
  | none => rw [hc] at h; cases h
  | some p => rw [hc] at h; cases h; exact ⟨p, rfl, rfl, rfl⟩
theorem cvals_names {a b : Cells} (h : cvals a = cvals b) : a.map (·.1) = b.map (·.1) := by
  have := congrArg (fun l => l.map fun p : Str × (Int ⊕ List Int) => p.1) h
  unfold cvals at this
  simpa [List.map_map, Function.comp_def] using this
section
variable {P : Program} {w : World} {K : PySem.W.Frag} {mg : Str → Option Value} {base : Heap}
theorem sc_copied : FnScope ["cells", "copies", "name", "value"] ["cells"] (defScope s_copied) := ⟨rfl, rfl, rfl, by decide +kernel, rfl, by decide +kernel, by decide +kernel⟩
theorem ok_copied {f : Addr} {fd : FuncData} (F : Fun K "copied" "copied" s_copied f fd) (T : Bt mg) : FnOk P w K mg base CX0 1 f fd ["cells"] sp_cp := by
  refine F.ok sc_copied (fun vs H Q E h => ?_) (fun cdv A outer s H vs Q E hr h => ?_)
  · obtain ⟨d, cs, rfl, _⟩ := h; rfl
  · obtain ⟨d, cs, rfl, ca, hl, q⟩ := h
    have hs : sizeLine = 16777216 := sizeLine_eq
    refine ⟨_, (pss_cons (ps_set (i := 1) sc_copied.nd rfl (Or.inl rfl) pe_dnewK)
      (pss_cons (ps_frozen (ps_for PassesOwn.never rfl (pi_items (pv 0)) (pg_tup rfl (pgs_cons (pg_name (i := 2) sc_copied.nd rfl (Or.inl rfl)) (pgs_cons (pg_name (i := 3) sc_copied.nd rfl (Or.inl rfl)) pgs_nil)))
        (pss_one (ps_dput (hu_of hr) (pv 1) (pv 2) (pe_ifExp (pt_val (pe_callB (call_isi (T := "list")) rfl T.b_isinstance (by decide +kernel) (pa_consN (pv 3) (pa_consN (pe_bltn (v := .ty "list") (u := .type "list") rfl T.b_list (by decide +kernel) rfl) pa_nil)))) (pe_callTy call_list_of rfl T.b_list (by decide +kernel) (pa_consN (pv 3) pa_nil)) (pv 3)) rfl))))
      (pss_one (ps_ret (pv 1))))), ?_⟩
    intro r hr0
    have y1 := Same.put (o := .dK []) hr0
    have er : upd H r (.dK []) r = some (.dK []) := upd_same
    generalize upd H r (.dK []) = H1 at y1 er ⊢
    have ed := ca.ed
    have dr : d ≠ r := ne_of_none ed hr0
    have ed1 := y1 _ _ ed
    refine ⟨d, _, ed1, fun o => ?_⟩
    have kf : ∀ b u, H1 b = some u → b ≠ d → upd H1 d (.frz o (.dK (ckv cs))) b = some u := fun b u e hb => by rw [upd_ne hb]; exact e
    have efz : upd H1 d (.frz o (.dK (ckv cs))) d = some (.frz o (.dK (ckv cs))) := upd_same
    have ff : ∀ b, upd H1 d (.frz o (.dK (ckv cs))) b = none → H b = none := fun b e => by
      have hb : b ≠ d := fun z => by rw [z, upd_same] at e; cases e
      rw [upd_ne hb] at e
      exact y1.free e
    generalize upd H1 d (.frz o (.dK (ckv cs))) = Hf at kf efz ff ⊢
    refine ⟨_, rfl, d, o, _, rfl, efz, for_items (d := d) (o := o) (kvs := ckv cs) (fun i σ H2 => ∃ (v2 v3 : Option V) (cs' : Cells), σ = [some (.ref d), some (.ref r), v2, v3] ∧ Kl r Hf H2 ∧ CellsAt H2 r cs' ∧ cvals cs' = cvals (cs.take i) ∧ ∀ x a ns, (x, Cv.l a ns) ∈ cs' → H a = none ∧ a ≠ r)
      ⟨none, none, [], rfl, Kl.of (Same.refl _), ⟨kf _ _ er dr.symm, fun x a ns h => (by cases h), List.nodup_nil, fun x a ns y ms h => (by cases h)⟩, rfl, fun x a ns h => (by cases h)⟩ ?_ ?_ ?_⟩
    · rintro i σ H2 _ ⟨v2, v3, cs', rfl, k2, _⟩
      exact k2 _ _ efz dr
    · rintro i k v σ H2 Tt hkv ⟨v2, v3, cs', rfl, k2, c2, hw, nw⟩ hT
      obtain ⟨p, hp, rfl, rfl⟩ := ckv_at hkv
      have hi : i < cs.length := (List.getElem?_eq_some_iff.mp hp).1
      have lc : cs'.length = i := by
        have := congrArg List.length hw
        unfold cvals at this
        rw [List.length_map, List.length_map, List.length_take] at this; omega
      have hnn : p.1 ∉ cs'.map (·.1) := by
        rw [cvals_names hw]
        have hn : ((cs.take (i + 1)).map (·.1)).Nodup := by rw [List.map_take]; exact ca.nd.sublist (List.take_sublist _ _)
        rw [List.take_add_one, hp, List.map_append, List.nodup_append] at hn
        exact fun z => hn.2.2 _ z _ (List.mem_singleton.mpr rfl) rfl
      have yT := Same.put (o := .tup [kV (.inr p.1), p.2.v]) hT
      refine ⟨Tt, _, rfl, SqT.of upd_same, rfl, _, _, rfl, _, _, rfl, rfl, ?_⟩
      generalize upd H2 Tt (.tup [kV (.inr p.1), p.2.v]) = H3 at yT ⊢
      have k3 := k2.trans (Kl.of yT)
      have c3 := c2.same yT
      have fin : ∀ (c : Cv) (H4 : Hp), Same H3 H4 → c.w = p.2.w → (∀ a ns, c = .l a ns → H4 a = some (.lst (ns.map V.int)) ∧ H3 a = none ∧ H a = none) → ∃ (v2 v3 : Option V) (cs2 : Cells), [some (V.ref d), some (V.ref r), some (V.str p.1), some p.2.v] = [some (.ref d), some (.ref r), v2, v3] ∧ Kl r Hf (upd H4 r (.dK (putK (ckv cs') (.inr p.1) c.v))) ∧ CellsAt (upd H4 r (.dK (putK (ckv cs') (.inr p.1) c.v))) r cs2 ∧ cvals cs2 = cvals (cs.take (i + 1)) ∧ ∀ x a ns, (x, Cv.l a ns) ∈ cs2 → H a = none ∧ a ≠ r := fun c H4 s4 hcw hc => by
        have c4 := c3.same s4
        refine ⟨_, _, cs' ++ [(p.1, c)], rfl, (k3.trans (Kl.of s4)).trans Kl.one, ?_, ?_, fun x a ns h => ?_⟩
        · refine app_cells (by rw [upd_same, ckv_snoc hnn]) (fun y a ns h => ?_) c2.nd c2.ap hnn fun a ns e => ⟨?_, fun y ms h => ?_⟩
          · rw [upd_ne (nw y a ns h).2]; exact c4.ls y a ns h
          · rw [upd_ne (ne_of (hc a ns e).1 c4.ed (by intro z; cases z))]; exact (hc a ns e).1
          · have := c3.ls y a ms h
            rw [(hc a ns e).2.1] at this; cases this
        · rw [cvals_take hp, ← hw, ← hcw]
          unfold cvals
          rw [List.map_append]; rfl
        · rcases List.mem_append.mp h with h | h
          · exact nw x a ns h
          · have := List.mem_singleton.mp h
            cases this
            exact ⟨(hc a ns rfl).2.2, ne_of (hc a ns rfl).1 c4.ed (by intro z; cases z)⟩
      obtain ⟨px, pc⟩ := p
      cases pc with
      | i n =>
        refine ⟨_, rfl, _, _, false, rfl, .int _, rfl, _, rfl, ?_⟩
        refine iteF ?_
        refine ⟨_, rfl, _, rfl, _, rfl, r, _, rfl, DPut.k (k := .inr px) c3.ed (by rw [ckv_len]; omega), ?_⟩
        exact fin (.i n) H3 (Same.refl _) rfl (fun a ns e => by cases e)
      | l a ns =>
        have ea : H a = some (.lst (ns.map V.int)) := ca.ls px a ns (List.mem_of_getElem? hp)
        have ad : a ≠ d := ne_of ea ed (by intro z; cases z)
        have ea3 : H3 a = some (.lst (ns.map V.int)) := k3 _ _ (kf _ _ (y1 _ _ ea) ad) (ne_of_none ea hr0)
        refine ⟨_, rfl, _, _, true, rfl, .lst ea3, rfl, _, rfl, ?_⟩
        refine iteT ?_
        refine ⟨_, rfl, a, _, rfl, .inl (SqL.of ea3), fun r2 hr2 => ?_⟩
        have yr := Same.put (o := .lst (ns.map V.int)) hr2
        have er2 : upd H3 r2 (.lst (ns.map V.int)) r2 = some (.lst (ns.map V.int)) := upd_same
        generalize upd H3 r2 (.lst (ns.map V.int)) = H4 at yr er2 ⊢
        have hr2H : H r2 = none := by
          cases z : H r2 with
          | none => rfl
          | some u =>
            by_cases hb : r2 = d
            · rw [hb, k3 _ _ efz dr] at hr2; cases hr2
            · rw [k3 _ _ (kf _ _ (y1 _ _ z) hb) (ne_of_none z hr0)] at hr2; cases hr2
        refine ⟨_, rfl, _, rfl, r, _, rfl, DPut.k (k := .inr px) (yr _ _ c3.ed) (by rw [ckv_len]; omega), ?_⟩
        exact fin (.l r2 ns) H4 yr rfl (fun a' ns' e => by cases e; exact ⟨er2, hr2, hr2H⟩)
    · rintro σ H2 ⟨v2, v3, cs', rfl, k2, c2, hw, nw⟩
      rw [ckv_len, List.take_of_length_le (Nat.le_refl _)] at hw
      refine ⟨k2 _ _ efz dr, ?_⟩
      have sT : Same H (thaw d (ckv cs) H2) := fun b u e => by
        unfold thaw
        by_cases hb : b = d
        · subst hb
          rw [upd_same, ← e]; exact ed.symm
        · rw [upd_ne hb]
          exact k2 _ _ (kf _ _ (y1 _ _ e) hb) (ne_of_none e hr0)
      refine ⟨_, rfl, q r cs' _ sT hr0 ⟨?_, fun x a ns h => ?_, c2.nd, c2.ap⟩ hw⟩
      · unfold thaw; rw [upd_ne dr.symm]; exact c2.ed
      · unfold thaw
        have : a ≠ d := fun z => by have := (nw x a ns h).1; rw [z, ed] at this; cases this
        rw [upd_ne this]; exact c2.ls x a ns h
end
end K49

set_option Elab.async false
set_option linter.all false
set_option maxRecDepth 100000
set_option maxHeartbeats 4000000
namespace K49
open PySem L2
/-! ### expressions -/
inductive Ex where
  | num (i : Int)
  | nam (x : Str)
  | flg (b : Bool)
  | pl (x : Str) (e : Ex)
  | nt (e : Ex)
  | bin (o : Str) (a b : Ex)
def ExAt (H : Hp) : Ex → V → Prop
  | .num i, v => ∃ a, v = .ref a ∧ H a = some (.tup [.str "num", .int i])
  | .nam x, v => ∃ a, v = .ref a ∧ H a = some (.tup [.str "name", .str x])
  | .flg b, v => ∃ a, v = .ref a ∧ H a = some (.tup [.str "flag", .bl b])
  | .pl x e, v => ∃ a u, v = .ref a ∧ H a = some (.tup [.str "at", .str x, u]) ∧ ExAt H e u
  | .nt e, v => ∃ a u, v = .ref a ∧ H a = some (.tup [.str "not", u]) ∧ ExAt H e u
  | .bin o e1 e2, v => ∃ a u1 u2, v = .ref a ∧ H a = some (.tup [.str o, u1, u2]) ∧ ExAt H e1 u1 ∧ ExAt H e2 u2
def Ex.dep : Ex → Nat
  | .pl _ e => e.dep + 1
  | .nt e => e.dep + 1
  | .bin _ a b => max a.dep b.dep + 1
  | _ => 0
theorem ExAt.keep {H H' : Hp} (k : ∀ (b : Addr) (xs : List V), H b = some (.tup xs) → H' b = some (.tup xs)) : ∀ {e : Ex} {v : V}, ExAt H e v → ExAt H' e v
  | .num i, v, ⟨a, e, h⟩ => ⟨a, e, k _ _ h⟩
  | .nam x, v, ⟨a, e, h⟩ => ⟨a, e, k _ _ h⟩
  | .flg b, v, ⟨a, e, h⟩ => ⟨a, e, k _ _ h⟩
  | .pl x e, v, ⟨a, u, e1, h, r⟩ => ⟨a, u, e1, k _ _ h, ExAt.keep k r⟩
  | .nt e, v, ⟨a, u, e1, h, r⟩ => ⟨a, u, e1, k _ _ h, ExAt.keep k r⟩
  | .bin o e1 e2, v, ⟨a, u1, u2, e3, h, r1, r2⟩ => ⟨a, u1, u2, e3, k _ _ h, ExAt.keep k r1, ExAt.keep k r2⟩
theorem ExAt.same {H H' : Hp} (s : Same H H') {e : Ex} {v : V} (h : ExAt H e v) : ExAt H' e v := h.keep fun _ _ z => s _ _ z
/-! ### the Meaning's object -/
structure Oa where
  p : Addr
  bd : Addr
  fr : Addr
  ce : Addr
  le : Addr
  to : Addr
def mfl (o : Oa) (fy : Bool) : List (Str × V) := putF "faulty" (.bl fy) (putF "told" (.ref o.to) (putF "left" (.ref o.le) (putF "cells" (.ref o.ce) (putF "frames" (.ref o.fr) (putF "bodies" (.ref o.bd) [])))))
theorem look_mfl (o : Oa) (fy : Bool) (x : Str) : (mfl o fy).lookup x = if x = "faulty" then some (.bl fy) else if x = "told" then some (.ref o.to) else if x = "left" then some (.ref o.le) else if x = "cells" then some (.ref o.ce) else if x = "frames" then some (.ref o.fr) else if x = "bodies" then some (.ref o.bd) else none := by
  unfold mfl
  rw [lookup_putF, lookup_putF, lookup_putF, lookup_putF, lookup_putF, lookup_putF]; rfl
theorem f_faulty (o : Oa) (fy : Bool) : (mfl o fy).lookup ("faulty" : Str) = some (.bl fy) := by rw [look_mfl, if_pos rfl]
theorem f_told (o : Oa) (fy : Bool) : (mfl o fy).lookup ("told" : Str) = some (.ref o.to) := by rw [look_mfl, if_neg (by decide +kernel), if_pos rfl]
theorem f_left (o : Oa) (fy : Bool) : (mfl o fy).lookup ("left" : Str) = some (.ref o.le) := by rw [look_mfl, if_neg (by decide +kernel), if_neg (by decide +kernel), if_pos rfl]
theorem f_cells (o : Oa) (fy : Bool) : (mfl o fy).lookup ("cells" : Str) = some (.ref o.ce) := by rw [look_mfl, if_neg (by decide +kernel), if_neg (by decide +kernel), if_neg (by decide +kernel), if_pos rfl]
theorem f_frames (o : Oa) (fy : Bool) : (mfl o fy).lookup ("frames" : Str) = some (.ref o.fr) := by rw [look_mfl, if_neg (by decide +kernel), if_neg (by decide +kernel), if_neg (by decide +kernel), if_neg (by decide +kernel), if_pos rfl]
theorem f_no (o : Oa) (fy : Bool) {x : Str} (h : x ∉ (["faulty", "told", "left", "cells", "frames", "bodies"] : List Str)) : (mfl o fy).lookup x = none := by
  have g : ∀ y, y ∈ (["faulty", "told", "left", "cells", "frames", "bodies"] : List Str) → ¬ x = y := fun y hy z => h (z ▸ hy)
  rw [look_mfl, if_neg (g _ (by simp)), if_neg (g _ (by simp)), if_neg (g _ (by simp)), if_neg (g _ (by simp)), if_neg (g _ (by simp)), if_neg (g _ (by simp))]
structure Mt (K : PySem.W.Frag) (C : Addr) (m q : Str) (st : Stmt) (ps : List Str) (a : Addr) (fd : FuncData) : Prop where
  F : Fun K m q st a fd
  me : Meth K C m a
  b : Binds K fd ps []
structure Mc (K : PySem.W.Frag) (mg : Str → Option Value) (C : Addr) (f : Addr) (fd : FuncData) : Prop where
  cl : Cls K C
  mks : Mk K C f
  F : Fun K "__init__" "Meaning.__init__" s_Meaning___init__ f fd
  b : Binds K fd ["self", "tree", "given"] []
  mg : mg "Meaning" = some (.ref C)
  n1 : NoAttr K C "bodies"
  n2 : NoAttr K C "frames"
  n3 : NoAttr K C "cells"
  n4 : NoAttr K C "left"
  n5 : NoAttr K C "told"
  n6 : NoAttr K C "faulty"
/-! ### what an expression is worth -/
def lookC (cs : Cells) (x : Str) : Option Cv := (cs.find? fun p => decide (p.1 = x)).map (·.2)
theorem look_ckv (cs : Cells) (x : Str) : valV (ckv cs) (.inr x) = (lookC cs x).map Cv.v := by
  unfold lookC
  induction cs with
  | nil => rfl
  | cons p r ih =>
    show valV ((Sum.inr p.1, p.2.v) :: ckv r) _ = _
    by_cases h : p.1 = x
    · rw [valV_pos (congrArg Sum.inr h), List.find?_cons_of_pos (by simpa using h)]; rfl
    · rw [valV_neg (fun z => h (Sum.inr.inj z)), ih, List.find?_cons_of_neg (by simpa using h)]
theorem look_mem {cs : Cells} {x : Str} {c : Cv} (h : lookC cs x = some c) : (x, c) ∈ cs := by
  unfold lookC at h
  cases hf : cs.find? fun p => decide (p.1 = x) with
  | none => rw [hf] at h; cases h
  | some p =>
    rw [hf] at h
    have h1 := List.mem_of_find?_eq_some hf
    have h2 : p.1 = x := by have := List.find?_some hf; simpa using this
    cases h
    rw [← h2]; exact h1
/-- the cells hold words -/
def Cv.Ok : Cv → Prop
  | .i n => 0 ≤ n ∧ n < 65536
  | .l _ ns => ns.length ≤ 1000 ∧ ∀ n ∈ ns, 0 ≤ n ∧ n < 65536
def COk (cs : Cells) : Prop := ∀ p ∈ cs, p.2.Ok
def valP (cs : Cells) : Ex → Option Int
  | .num i => some (i % 65536)
  | .nam x => match lookC cs x with
    | some (.i n) => some n
    | _ => none
  | .pl x e => match valP cs e, lookC cs x with
    | some v, some (.l _ ns) => if 0 ≤ sgn v ∧ sgn v < ns.length then some (ns.getD v.toNat 0) else none
    | _, _ => none
  | _ => none
/-- an expression of numbers, names and places alone -/
def Ek (cs : Cells) : Ex → Prop
  | .num _ => True
  | .nam x => ∃ n, lookC cs x = some (.i n)
  | .pl x e => (∃ a ns, lookC cs x = some (.l a ns)) ∧ Ek cs e
  | _ => False
theorem val_ok {cs : Cells} (h : COk cs) : ∀ {e : Ex} {v : Int}, valP cs e = some v → 0 ≤ v ∧ v < 65536
  | .num i, v, hv => by cases hv; exact ⟨Int.emod_nonneg _ (by decide), Int.emod_lt_of_pos _ (by decide)⟩
  | .nam x, v, hv => by
    unfold valP at hv
    cases hl : lookC cs x with
    | none => rw [hl] at hv; cases hv
    | some c =>
      rw [hl] at hv
      cases c with
      | i n => cases hv; exact h _ (look_mem hl)
      | l a ns => cases hv
  | .pl x e, v, hv => by
    unfold valP at hv
    cases he : valP cs e with
    | none => rw [he] at hv; cases hv
    | some u =>
      rw [he] at hv
      cases hl : lookC cs x with
      | none => rw [hl] at hv; cases hv
      | some c =>
        rw [hl] at hv
        cases c with
        | i n => cases hv
        | l a ns =>
          have hv : (if 0 ≤ sgn u ∧ sgn u < (ns.length : Int) then some (ns.getD u.toNat 0) else none) = some v := hv
          split at hv
          · rename_i hc
            cases hv
            have hok := val_ok h he
            have : u.toNat < ns.length := by unfold sgn at hc; split at hc <;> omega
            rw [List.getD_eq_getElem?_getD, List.getElem?_eq_getElem this]
            exact (h _ (look_mem hl)).2 _ (List.getElem_mem _)
          · cases hv
  | .flg _, _, hv => by cases hv
  | .nt _, _, hv => by cases hv
  | .bin _ _ _, _, hv => by cases hv
def oV : Option Int → V
  | none => .non
  | some n => .int n
/-- the object as far as values are asked -/
structure Ma (C : Addr) (H : Hp) (o : Oa) (fy : Bool) (cs : Cells) : Prop where
  ob : ∃ dx, H o.p = some (.ins C dx (mfl o fy))
  ec : CellsAt H o.ce cs
  ok : COk cs
theorem Ma.same {C : Addr} {H H' : Hp} {o : Oa} {fy : Bool} {cs : Cells} (h : Ma C H o fy cs) (s : Same H H') : Ma C H' o fy cs := by
  obtain ⟨⟨dx, h1⟩, h2, h3⟩ := h
  exact ⟨⟨dx, s _ _ h1⟩, h2.same s, h3⟩
def sp_val (C : Addr) (n : Nat) : Sp := fun vs H Q _ => ∃ (o : Oa) (fy : Bool) (cs : Cells) (e : Ex) (v : V), vs = [.ref o.p, v] ∧ Ma C H o fy cs ∧ ExAt H e v ∧ Ek cs e ∧ e.dep ≤ n ∧ ∀ H', Same H H' → Q (oV (valP cs e)) H'
/-- a place in a list, by an expression -/
def plP (cs : Cells) (x : Str) (e : Ex) : Option Int := match valP cs e, lookC cs x with
  | some v, some (.l _ ns) => if 0 ≤ sgn v ∧ sgn v < ns.length then some v else none
  | _, _ => none
def sp_plc (C : Addr) (n : Nat) : Sp := fun vs H Q _ => ∃ (o : Oa) (fy : Bool) (cs : Cells) (x : Str) (e : Ex) (v : V), vs = [.ref o.p, .str x, v] ∧ Ma C H o fy cs ∧ ExAt H e v ∧ Ek cs e ∧ (∃ a ns, lookC cs x = some (.l a ns)) ∧ e.dep ≤ n ∧ ∀ H', Same H H' → Q (oV (plP cs x e)) H'
section
variable {P : Program} {w : World} {K : PySem.W.Frag} {mg : Str → Option Value} {base : Heap}
theorem sc_Meaning_place_in : FnScope ["self", "name", "expr", "place"] ["self", "name", "expr"] (defScope s_Meaning_place_in) := ⟨rfl, rfl, rfl, by decide +kernel, rfl, by decide +kernel, by decide +kernel⟩
theorem plc_step {n k : Nat} {f f1 f2 fi MC : Addr} {fd d1 d2 di : FuncData} (T : Bt mg) (C : Ct K mg) (T_signed : Fn K mg "signed" s_signed ["number"] f1 d1) (T_Meaning : Mc K mg MC fi di) (T_Meaning_value_of : Mt K MC "value_of" "Meaning.value_of" s_Meaning_value_of ["self", "expr"] f2 d2) (T_Meaning_place_in : Mt K MC "place_in" "Meaning.place_in" s_Meaning_place_in ["self", "name", "expr"] f fd)
    (G_Meaning_value_of : FnOk P w K mg base CX0 (k + 1) f2 d2 ["self", "expr"] (sp_val MC n)) : FnOk P w K mg base CX0 (k + 2) f fd ["self", "name", "expr"] (sp_plc MC n) := by
  have G_signed := ok_signed (P := P) (w := w) (base := base) T_signed.F T C
  refine T_Meaning_place_in.F.ok (k := k + 1) sc_Meaning_place_in (fun vs H Q E h => ?_) (fun cdv A outer s H vs Q E hr h => ?_)
  · obtain ⟨o, fy, cs, x, e, v, rfl, _⟩ := h; rfl
  · obtain ⟨o, fy, cs, x, e, v, rfl, ma, he, ek, ⟨a, ns, hl⟩, hd, q⟩ := h
    refine ⟨_, (pss_cons (ps_set (i := 3) sc_Meaning_place_in.nd rfl (Or.inl rfl) (pe_meth (pv 0) T_Meaning.cl T_Meaning_value_of.me G_Meaning_value_of (hr.mono (by omega)) T_Meaning_value_of.b .nil pass0 (pa_consN (pv 2) pa_nil)))
      (pss_cons (ps_if (PW.pt (pw_or (pt_cmpR op_isN (pv 3) pe_non (nomark _)) (pw_or1 (pt_not (pt_chain op_le op_lt pe_int (pe_call G_signed (hr.mono (by omega)) rfl T_signed.m T_signed.F.kp T_signed.b .nil pass0 (pa_consN (pv 3) pa_nil)) (pe_callB call_len_seq rfl T.b_len (by decide +kernel) (pa_consN (pe_dget (hu_of hr) (pe_fld (pv 0) rfl) (pv 1) (fun _ _ => rfl)) pa_nil)))))))
        (pss_one (ps_ret pe_non))
        pss_nil)
      (pss_one (ps_ret (pv 3))))), ?_⟩
    obtain ⟨dx, ob⟩ := ma.ob
    refine ⟨_, rfl, o.p, dx, _, rfl, ob, f_no o fy (by decide +kernel), _, rfl, o, fy, cs, e, v, rfl, ma, he, ek, hd, fun H1 s1 => ?_⟩
    unfold plP at q
    rw [hl] at q
    cases hv : valP cs e with
    | none =>
      rw [hv] at q
      refine ⟨_, rfl, rfl, _, rfl, ?_⟩
      refine iteT ?_
      exact q H1 s1
    | some u =>
      rw [hv] at q
      have q : ∀ H', Same H H' → Q (oV (if 0 ≤ sgn u ∧ sgn u < (ns.length : Int) then some u else none)) H' := q
      refine ⟨_, rfl, rfl, _, rfl, itDN (fun z => by cases z) ?_⟩
      refine ⟨_, rfl, u, rfl, _, _, rfl, rfl, _, rfl, ite2 (fun h => ?_) (fun h => ?_)⟩
      · have h : (0 : Int) ≤ sgn u := of_decide_eq_true h
        have ma1 := ma.same s1
        obtain ⟨dx1, ob1⟩ := ma1.ob
        have eg : DGet H1 o.ce (.str x) (some (.ref a)) := by
          have := DGet.k (k := .inr x) ma1.ec.ed
          rw [look_ckv, hl] at this; exact this
        have ea := ma1.ec.ls x a ns (look_mem hl)
        refine ⟨_, rfl, o.p, MC, dx1, _, _, rfl, ob1, T_Meaning.cl, T_Meaning.n3, f_cells o fy, _, rfl, o.ce, _, rfl, eg, a, _, rfl, .inl (SqL.of ea), _, _, rfl, rfl, _, rfl, ?_⟩
        rw [List.length_map]
        refine ite2 (fun h2 => ?_) (fun h2 => ?_)
        · have h2 : ¬ sgn u < (ns.length : Int) := fun z => by rw [decide_eq_true z] at h2; cases h2
          rw [if_neg (fun z => h2 z.2)] at q
          exact q H1 s1
        · have h2 : sgn u < (ns.length : Int) := by
            rcases Decidable.em (sgn u < (ns.length : Int)) with z | z
            · exact z
            · exact absurd (by rw [decide_eq_false z]; rfl) h2
          rw [if_pos ⟨h, h2⟩] at q
          exact ⟨_, rfl, q H1 s1⟩
      · have h : ¬ (0 : Int) ≤ sgn u := fun z => h (decide_eq_true z)
        rw [if_neg (fun z => h z.1)] at q
        refine ⟨_, rfl, ?_⟩
        refine iteT ?_
        exact q H1 s1
theorem sc_Meaning_value_of : FnScope ["self", "expr", "place", "inner"] ["self", "expr"] (defScope s_Meaning_value_of) := ⟨rfl, rfl, rfl, by decide +kernel, rfl, by decide +kernel, by decide +kernel⟩
theorem sc_joined : FnScope ["op", "one", "another"] ["op", "one", "another"] (defScope s_joined) := ⟨rfl, rfl, rfl, by decide +kernel, rfl, by decide +kernel, by decide +kernel⟩
theorem val_step {n k : Nat} {prev : Sp} {f f2 f3 fi MC : Addr} {fd d2 d3 di : FuncData} (T : Bt mg) (C : Ct K mg) (T_joined : Fn K mg "joined" s_joined ["op", "one", "another"] f3 d3) (T_Meaning : Mc K mg MC fi di) (T_Meaning_value_of : Mt K MC "value_of" "Meaning.value_of" s_Meaning_value_of ["self", "expr"] f fd) (T_Meaning_place_in : Mt K MC "place_in" "Meaning.place_in" s_Meaning_place_in ["self", "name", "expr"] f2 d2)
    (hp : n = 0 ∨ ∃ m, n = m + 1 ∧ prev = sp_plc MC m) (G_Meaning_place_in : FnOk P w K mg base CX0 (k + 2) f2 d2 ["self", "name", "expr"] prev) : FnOk P w K mg base CX0 (k + 3) f fd ["self", "expr"] (sp_val MC n) := by
  have G_Meaning_value_of : FnOk P w K mg base CX0 1 f fd ["self", "expr"] (fun _ _ _ _ => False) := T_Meaning_value_of.F.ok (k := 0) (sp := fun _ _ _ _ => False) sc_Meaning_value_of (fun _ _ _ _ h => h.elim) (fun _ _ _ _ _ _ _ _ _ h => h.elim)
  have G_joined : FnOk P w K mg base CX0 1 f3 d3 ["op", "one", "another"] (fun _ _ _ _ => False) := T_joined.F.ok (k := 0) (sp := fun _ _ _ _ => False) sc_joined (fun _ _ _ _ h => h.elim) (fun _ _ _ _ _ _ _ _ _ h => h.elim)
  refine T_Meaning_value_of.F.ok (k := k + 2) sc_Meaning_value_of (fun vs H Q E h => ?_) (fun cdv A outer s H vs Q E hr h => ?_)
  · obtain ⟨o, fy, cs, e, v, rfl, _⟩ := h; rfl
  · obtain ⟨o, fy, cs, e, v, rfl, ma, he, ek, hd, q⟩ := h
    refine ⟨_, (pss_cons (ps_if (pt_cmpR op_eq (pe_ix ix_tup (pv 1) pe_int (fun _ _ => rfl)) pe_str (nomark _))
        (pss_one (ps_ret (pe_op op_mod (pe_ix ix_tup (pv 1) pe_int (fun _ _ => rfl)) (pe_glob (v := .int 65536) rfl C.k_WORDS.choose_spec ⟨_, rfl⟩))))
        pss_nil)
      (pss_cons (ps_if (pt_cmpR op_eq (pe_ix ix_tup (pv 1) pe_int (fun _ _ => rfl)) pe_str (nomark _))
        (pss_one (ps_ret (pe_ifExp (pt_truth (pe_ix ix_tup (pv 1) pe_int (fun _ _ => rfl)) (fun _ => rfl)) pe_int pe_int)))
        pss_nil)
      (pss_cons (ps_if (pt_cmpR op_eq (pe_ix ix_tup (pv 1) pe_int (fun _ _ => rfl)) pe_str (nomark _))
        (pss_one (ps_ret (pe_dget (hu_of hr) (pe_fld (pv 0) rfl) (pe_ix ix_tup (pv 1) pe_int (fun _ _ => rfl)) (fun _ _ => rfl))))
        pss_nil)
      (pss_cons (ps_if (pt_cmpR op_eq (pe_ix ix_tup (pv 1) pe_int (fun _ _ => rfl)) pe_str (nomark _))
        (pss_cons (ps_set (i := 2) sc_Meaning_value_of.nd rfl (Or.inl rfl) (pe_meth (pv 0) T_Meaning.cl T_Meaning_place_in.me G_Meaning_place_in (hr.mono (by omega)) T_Meaning_place_in.b .nil pass0 (pa_consN (pe_ix ix_tup (pv 1) pe_int (fun _ _ => rfl)) (pa_consN (pe_ix ix_tup (pv 1) pe_int (fun _ _ => rfl)) pa_nil))))
        (pss_one (ps_ret (pe_ifExp (pt_cmpR op_isN (pv 2) pe_non (nomark _)) pe_non (pe_ix ix_list (pe_dget (hu_of hr) (pe_fld (pv 0) rfl) (pe_ix ix_tup (pv 1) pe_int (fun _ _ => rfl)) (fun _ _ => rfl)) (pv 2) (fun _ _ => rfl))))))
        pss_nil)
      (pss_cons (ps_setComp (i := 3) rfl (blk_of (sc0 := defScope s_Meaning_value_of) (N0 := ["self", "expr", "place", "inner"]) (N' := ["each", "self"]) (own := 1) (fv := [0]) (by decide +kernel) rfl rfl) sc_Meaning_value_of.nd rfl (Or.inl rfl) (pi_tup (pe_slice sl_tup (pv 1) (po_some pe_int) po_none)) (fun _ _ _ _ => (pg_name (i := 0) (by show List.Nodup (["each", "self"] : List Str); decide +kernel) rfl (Or.inl rfl))) (fun _ _ _ _ => (pe_meth (pv 1) T_Meaning.cl T_Meaning_value_of.me G_Meaning_value_of (hr.mono (by omega)) T_Meaning_value_of.b .nil pass0 (pa_consN (pv 0) pa_nil))))
      (pss_cons (ps_if (pt_cmpR op_in_seq pe_non (pv 3) (by with_unfolding_all rfl))
        (pss_one (ps_ret pe_non))
        pss_nil)
      (pss_cons (ps_if (pt_cmpR op_eq (pe_ix ix_tup (pv 1) pe_int (fun _ _ => rfl)) pe_str (nomark _))
        (pss_one (ps_ret (pe_op op_sub pe_int (pe_ix ix_list (pv 3) pe_int (fun _ _ => rfl)))))
        pss_nil)
      (pss_one (ps_ret (pe_call G_joined (hr.mono (by omega)) rfl T_joined.m T_joined.F.kp T_joined.b .nil pass0 (pa_consN (pe_ix ix_tup (pv 1) pe_int (fun _ _ => rfl)) (pa_consN (pe_ix ix_list (pv 3) pe_int (fun _ _ => rfl)) (pa_consN (pe_ix ix_list (pv 3) pe_int (fun _ _ => rfl)) pa_nil))))))))))))), ?_⟩
    obtain ⟨dx, ob⟩ := ma.ob
    have tg : ∀ {r : Addr} {tag : Str} {us : List V} {t' : Str}, H r = some (.tup (.str tag :: us)) → ¬ tag = t' → ¬ V.str tag = V.str t' := fun _ h z => h (V.str.inj z)
    cases e with
    | num i =>
      obtain ⟨r, rfl, er⟩ := he
      refine ⟨_, rfl, r, _, _, _, rfl, rfl, SqT.of er, rfl, rfl, _, rfl, itDP rfl ?_⟩
      exact ⟨_, rfl, r, _, _, _, rfl, rfl, SqT.of er, rfl, _, _, rfl, rfl, (by show (0 : Int) < 65536; decide), q H (Same.refl _)⟩
    | nam x =>
      obtain ⟨r, rfl, er⟩ := he
      obtain ⟨nn, hl⟩ := ek
      have q : ∀ H', Same H H' → Q (oV (match lookC cs x with | some (.i n) => some n | _ => none)) H' := q
      rw [hl] at q
      refine ⟨_, rfl, r, _, _, _, rfl, rfl, SqT.of er, rfl, rfl, _, rfl, itDN (tg er (by decide +kernel)) ?_⟩
      refine ⟨_, rfl, r, _, _, _, rfl, rfl, SqT.of er, rfl, rfl, _, rfl, itDN (tg er (by decide +kernel)) ?_⟩
      refine ⟨_, rfl, r, _, _, _, rfl, rfl, SqT.of er, rfl, rfl, _, rfl, itDP rfl ?_⟩
      have eg : DGet H o.ce (.str x) (some (.int nn)) := by
        have := DGet.k (k := .inr x) ma.ec.ed
        rw [look_ckv, hl] at this; exact this
      exact ⟨_, rfl, o.p, MC, dx, _, _, rfl, ob, T_Meaning.cl, T_Meaning.n3, f_cells o fy, _, rfl, r, _, _, _, rfl, rfl, SqT.of er, rfl, o.ce, _, rfl, eg, q H (Same.refl _)⟩
    | pl x e1 =>
      obtain ⟨r, u, rfl, er, hu⟩ := he
      obtain ⟨⟨a, ns, hl⟩, ek1⟩ := ek
      rcases hp with h | ⟨m, rfl, rfl⟩
      · rw [h] at hd; cases hd
      have hd : e1.dep ≤ m := Nat.le_of_succ_le_succ hd
      refine ⟨_, rfl, r, _, _, _, rfl, rfl, SqT.of er, rfl, rfl, _, rfl, itDN (tg er (by decide +kernel)) ?_⟩
      refine ⟨_, rfl, r, _, _, _, rfl, rfl, SqT.of er, rfl, rfl, _, rfl, itDN (tg er (by decide +kernel)) ?_⟩
      refine ⟨_, rfl, r, _, _, _, rfl, rfl, SqT.of er, rfl, rfl, _, rfl, itDN (tg er (by decide +kernel)) ?_⟩
      refine ⟨_, rfl, r, _, _, _, rfl, rfl, SqT.of er, rfl, rfl, _, rfl, itDP rfl ?_⟩
      refine ⟨_, rfl, o.p, dx, _, rfl, ob, f_no o fy (by decide +kernel), _, rfl, r, _, _, _, rfl, rfl, SqT.of er, rfl, _, rfl, r, _, _, _, rfl, rfl, SqT.of er, rfl, o, fy, cs, x, e1, u, rfl, ma, hu, ek1, ⟨a, ns, hl⟩, hd, fun H1 s1 => ?_⟩
      have hvq : valP cs (.pl x e1) = (plP cs x e1).map fun z => ns.getD z.toNat 0 := by
        unfold plP
        show (match valP cs e1, lookC cs x with | some v, some (.l _ ns) => (if 0 ≤ sgn v ∧ sgn v < ns.length then some (ns.getD v.toNat 0) else none) | _, _ => none) = _
        rw [hl]
        cases valP cs e1 with
        | none => rfl
        | some z =>
          show (if 0 ≤ sgn z ∧ sgn z < (ns.length : Int) then some (ns.getD z.toNat 0) else none) = Option.map _ (if 0 ≤ sgn z ∧ sgn z < (ns.length : Int) then some z else none)
          split <;> rfl
      rw [hvq] at q
      cases hpp : plP cs x e1 with
      | none =>
        rw [hpp] at q
        refine ⟨_, rfl, rfl, _, rfl, itDP rfl ?_⟩
        exact q H1 s1
      | some z =>
        rw [hpp] at q
        refine ⟨_, rfl, rfl, _, rfl, itDN (fun y => by cases y) ?_⟩
        have ma1 := ma.same s1
        obtain ⟨dx1, ob1⟩ := ma1.ob
        have hz : 0 ≤ z ∧ z < (ns.length : Int) := by
          unfold plP at hpp
          rw [hl] at hpp
          cases hv : valP cs e1 with
          | none => rw [hv] at hpp; cases hpp
          | some y =>
            rw [hv] at hpp
            have hpp : (if 0 ≤ sgn y ∧ sgn y < (ns.length : Int) then some y else none) = some z := hpp
            have hok := val_ok ma.ok hv
            split at hpp
            · rename_i hc
              cases hpp
              unfold sgn at hc
              split at hc <;> omega
            · cases hpp
        have eg : DGet H1 o.ce (.str x) (some (.ref a)) := by
          have := DGet.k (k := .inr x) ma1.ec.ed
          rw [look_ckv, hl] at this; exact this
        have ea := ma1.ec.ls x a ns (look_mem hl)
        refine ⟨_, rfl, o.p, MC, dx1, _, _, rfl, ob1, T_Meaning.cl, T_Meaning.n3, f_cells o fy, _, rfl, r, _, _, _, rfl, rfl, SqT.of (s1 _ _ er), rfl, o.ce, _, rfl, eg, _, rfl, a, _, _, _, rfl, rfl, SqL.of ea, ?_, q H1 s1⟩
        obtain ⟨j, rfl⟩ : ∃ j : Nat, z = (j : Int) := ⟨z.toNat, by omega⟩
        refine atI_nat ?_
        show _ = some (V.int (ns.getD (j : Int).toNat 0))
        rw [List.getElem?_map, List.getElem?_eq_getElem (show j < ns.length by omega), Int.toNat_natCast, List.getD_eq_getElem?_getD, List.getElem?_eq_getElem (show j < ns.length by omega)]; rfl
    | flg _ => exact ek.elim
    | nt _ => exact ek.elim
    | bin _ _ _ => exact ek.elim
theorem ok_value_of {f f1 f2 f3 fi MC : Addr} {fd d1 d2 d3 di : FuncData} (T : Bt mg) (C : Ct K mg) (T_signed : Fn K mg "signed" s_signed ["number"] f1 d1) (T_joined : Fn K mg "joined" s_joined ["op", "one", "another"] f3 d3) (T_Meaning : Mc K mg MC fi di) (T_Meaning_value_of : Mt K MC "value_of" "Meaning.value_of" s_Meaning_value_of ["self", "expr"] f fd) (T_Meaning_place_in : Mt K MC "place_in" "Meaning.place_in" s_Meaning_place_in ["self", "name", "expr"] f2 d2) :
    ∀ n : Nat, FnOk P w K mg base CX0 (2 * n + 3) f fd ["self", "expr"] (sp_val MC n)
  | 0 => val_step (n := 0) (k := 0) T C T_joined T_Meaning T_Meaning_value_of T_Meaning_place_in (.inl rfl) (T_Meaning_place_in.F.ok (k := 1) (sp := fun _ _ _ _ => False) sc_Meaning_place_in (fun _ _ _ _ h => h.elim) (fun _ _ _ _ _ _ _ _ _ h => h.elim))
  | n + 1 => val_step (n := n + 1) (k := 2 * n + 2) T C T_joined T_Meaning T_Meaning_value_of T_Meaning_place_in (.inr ⟨n, rfl, rfl⟩) (plc_step (k := 2 * n + 2) T C T_signed T_Meaning T_Meaning_value_of T_Meaning_place_in (ok_value_of T C T_signed T_joined T_Meaning T_Meaning_value_of T_Meaning_place_in n))
end
end K49

set_option Elab.async false
set_option linter.all false
set_option maxRecDepth 100000
set_option maxHeartbeats 4000000
namespace K49
open PySem L2
/-! ### a Meaning that goes through flat statements -/
structure Apx (o : Oa) (f0 en : Addr) : Prop where
  fl : o.fr ≠ o.le
  ft : o.fr ≠ o.to
  f0' : o.fr ≠ f0
  fe : o.fr ≠ en
  lt : o.le ≠ o.to
  l0 : o.le ≠ f0
  le' : o.le ≠ en
  t0 : o.to ≠ f0
  te : o.to ≠ en
  oe : f0 ≠ en
structure Ru (C : Addr) (H : Hp) (o : Oa) (f0 en : Addr) (la : List Addr) (es : List V) (fy : Bool) (cs : Cells) (left told : List Int) (pos : Nat) (on : Bool) : Prop where
  ma : Ma C H o fy cs
  el : H o.le = some (.lst (left.map V.int))
  et : H o.to = some (.lst (told.map V.int))
  ef : H o.fr = some (.lst (if on = true then [.ref f0] else []))
  e0 : H f0 = some (.lst [.ref en, .int (pos : Int)])
  ee : H en = some (.lst es)
  ax : Apx o f0 en
  cl : ∀ x a ns, (x, Cv.l a ns) ∈ cs → a ∈ la
  nl : ∀ a ∈ la, a ≠ o.fr ∧ a ≠ o.le ∧ a ≠ o.to ∧ a ≠ f0 ∧ a ≠ en
theorem Ru.same {C : Addr} {H H' : Hp} {o : Oa} {f0 en : Addr} {la : List Addr} {es : List V} {fy : Bool} {cs : Cells} {left told : List Int} {pos : Nat} {on : Bool} (h : Ru C H o f0 en la es fy cs left told pos on) (s : Same H H') : Ru C H' o f0 en la es fy cs left told pos on :=
  ⟨h.ma.same s, s _ _ h.el, s _ _ h.et, s _ _ h.ef, s _ _ h.e0, s _ _ h.ee, h.ax, h.cl, h.nl⟩
/-- all stays but the object's own -/
def Kx (o : Oa) (f0 : Addr) (la : List Addr) (H H' : Hp) : Prop := ∀ b u, H b = some u → b ≠ o.p → b ≠ o.fr → b ≠ o.le → b ≠ o.to → b ≠ o.ce → b ≠ f0 → b ∉ la → H' b = some u
theorem Kx.of {o : Oa} {f0 : Addr} {la : List Addr} {H H' : Hp} (s : Same H H') : Kx o f0 la H H' := fun _ _ e _ _ _ _ _ _ _ => s _ _ e
theorem Kx.trans {o : Oa} {f0 : Addr} {la : List Addr} {H H1 H2 : Hp} (a : Kx o f0 la H H1) (b : Kx o f0 la H1 H2) : Kx o f0 la H H2 := fun x u e n1 n2 n3 n4 n5 n6 n7 => b x u (a x u e n1 n2 n3 n4 n5 n6 n7) n1 n2 n3 n4 n5 n6 n7
/-- tuples stay -/
theorem Kx.tup {C : Addr} {H H' : Hp} {o : Oa} {f0 en : Addr} {la : List Addr} {es : List V} {fy : Bool} {cs : Cells} {left told : List Int} {pos : Nat} {on : Bool} (h : Ru C H o f0 en la es fy cs left told pos on) (hl : ∀ a ∈ la, ∃ ns, H a = some (.lst ns)) (k : Kx o f0 la H H') : ∀ b vs, H b = some (.tup vs) → H' b = some (.tup vs) := fun b vs e => by
  obtain ⟨dx, ob⟩ := h.ma.ob
  refine k b _ e (ne_of e ob (by intro z; cases z)) (ne_of e h.ef (by intro z; cases z)) (ne_of e h.el (by intro z; cases z)) (ne_of e h.et (by intro z; cases z)) (ne_of e h.ma.ec.ed (by intro z; cases z)) (ne_of e h.e0 (by intro z; cases z)) fun hb => ?_
  obtain ⟨ns, en⟩ := hl b hb
  rw [e] at en; cases en
def sp_ne (C : Addr) : Sp := fun vs H Q _ => ∃ (o : Oa) (f0 en : Addr) (la : List Addr) (es : List V) (fy : Bool) (cs : Cells) (left told : List Int) (pos : Nat) (v : V), vs = [.ref o.p] ∧ Ru C H o f0 en la es fy cs left told pos true ∧ es[pos]? = some v ∧ Q v H
def sp_going (C : Addr) : Sp := fun vs H Q _ => ∃ (o : Oa) (f0 en : Addr) (la : List Addr) (es : List V) (fy : Bool) (cs : Cells) (left told : List Int) (pos : Nat) (on : Bool), vs = [.ref o.p] ∧ Ru C H o f0 en la es fy cs left told pos on ∧ pos ≤ es.length ∧
  ∀ H', Kx o f0 la H H' → (∀ a, H a = none → H' a = none) → Ru C H' o f0 en la es fy cs left told pos (on && decide (pos ≠ es.length)) → (∀ a ∈ la, H' a = H a) → Q (.bl ((on && decide (pos ≠ es.length)) && !fy)) H'
section
variable {P : Program} {w : World} {K : PySem.W.Frag} {mg : Str → Option Value} {base : Heap}
theorem sc_Meaning_next_entry : FnScope ["self", "frame"] ["self"] (defScope s_Meaning_next_entry) := ⟨rfl, rfl, rfl, by decide +kernel, rfl, by decide +kernel, by decide +kernel⟩
theorem ok_next_entry {f fi MC : Addr} {fd di : FuncData} (T : Bt mg) (C : Ct K mg) (T_Meaning : Mc K mg MC fi di) (T_Meaning_next_entry : Mt K MC "next_entry" "Meaning.next_entry" s_Meaning_next_entry ["self"] f fd) : FnOk P w K mg base CX0 1 f fd ["self"] (sp_ne MC) := by
  refine T_Meaning_next_entry.F.ok sc_Meaning_next_entry (fun vs H Q E h => ?_) (fun cdv A outer s H vs Q E hr h => ?_)
  · obtain ⟨o, f0, en, la, es, fy, cs, left, told, pos, v, rfl, _⟩ := h; rfl
  · obtain ⟨o, f0, en, la, es, fy, cs, left, told, pos, v, rfl, ru, hv, q⟩ := h
    refine ⟨_, (pss_cons (ps_set (i := 1) sc_Meaning_next_entry.nd rfl (Or.inl rfl) (pe_ix ix_list (pe_fld (pv 0) rfl) (pe_un un_neg pe_int) (fun _ _ => rfl)))
      (pss_one (ps_ret (pe_ix ix_list (pe_ix ix_list (pv 1) pe_int (fun _ _ => rfl)) (pe_ix ix_list (pv 1) pe_int (fun _ _ => rfl)) (fun _ _ => rfl))))), ?_⟩
    obtain ⟨dx, ob⟩ := ru.ma.ob
    refine ⟨_, rfl, o.p, MC, dx, _, _, rfl, ob, T_Meaning.cl, T_Meaning.n2, f_frames o fy, _, rfl, o.fr, _, _, _, rfl, rfl, SqL.of ru.ef, rfl, ?_⟩
    refine ⟨_, rfl, f0, _, _, _, rfl, rfl, SqL.of ru.e0, rfl, _, rfl, f0, _, _, _, rfl, rfl, SqL.of ru.e0, rfl, en, _, _, _, rfl, rfl, SqL.of ru.ee, atI_nat hv, q⟩
theorem sc_Meaning_is_going : FnScope ["self"] ["self"] (defScope s_Meaning_is_going) := ⟨rfl, rfl, rfl, by decide +kernel, rfl, by decide +kernel, by decide +kernel⟩
theorem ok_is_going {f fi MC : Addr} {fd di : FuncData} (T : Bt mg) (C : Ct K mg) (T_Meaning : Mc K mg MC fi di) (T_Meaning_is_going : Mt K MC "is_going" "Meaning.is_going" s_Meaning_is_going ["self"] f fd) : FnOk P w K mg base CX0 1 f fd ["self"] (sp_going MC) := by
  refine T_Meaning_is_going.F.ok sc_Meaning_is_going (fun vs H Q E h => ?_) (fun cdv A outer s H vs Q E hr h => ?_)
  · obtain ⟨o, f0, en, la, es, fy, cs, left, told, pos, on, rfl, _⟩ := h; rfl
  · obtain ⟨o, f0, en, la, es, fy, cs, left, told, pos, on, rfl, ru, hp, q⟩ := h
    refine ⟨_, (pss_cons (ps_while PassesOwn.never (PW.pt (pw_and (pt_cmpR op_gt (pe_callB call_len_seq rfl T.b_len (by decide +kernel) (pa_consN (pe_fld (pv 0) rfl) pa_nil)) pe_int (nomark _)) (pw_and1 (pt_cmpR op_eq (pe_ix ix_list (pe_ix ix_list (pe_fld (pv 0) rfl) (pe_un un_neg pe_int) (fun _ _ => rfl)) pe_int (fun _ _ => rfl)) (pe_callB call_len_seq rfl T.b_len (by decide +kernel) (pa_consN (pe_ix ix_list (pe_ix ix_list (pe_fld (pv 0) rfl) (pe_un un_neg pe_int) (fun _ _ => rfl)) pe_int (fun _ _ => rfl)) pa_nil)) (nomark _)))))
        (pss_one (ps_expr (pe_bm0 PySem.F.plainAttrs_list PySem.F.slot_list_pop PySem.F.type_list_pop mt_pop (pe_fld (pv 0) rfl)))))
      (pss_one (ps_ret (pe_and (pe_cmpR op_gt (pe_callB call_len_seq rfl T.b_len (by decide +kernel) (pa_consN (pe_fld (pv 0) rfl) pa_nil)) pe_int (nomark _)) (pe_one (pe_not (pe_fld (pv 0) rfl))))))), ?_⟩
    obtain ⟨dx, ob⟩ := ru.ma.ob
    have ef := ru.ef
    cases on with
    | false =>
      refine ⟨fun m σ H2 => σ = [some (.ref o.p)] ∧ H2 = H, ⟨0, rfl, rfl⟩, ?_⟩
      rintro m σ H2 ⟨rfl, rfl⟩
      refine ⟨_, rfl, o.p, MC, dx, _, _, rfl, ob, T_Meaning.cl, T_Meaning.n2, f_frames o fy, o.fr, _, rfl, .inl (SqL.of ef), _, _, rfl, rfl, _, rfl, ?_⟩
      refine iteF ?_
      refine ⟨_, rfl, o.p, MC, dx, _, _, rfl, ob, T_Meaning.cl, T_Meaning.n2, f_frames o fy, o.fr, _, rfl, .inl (SqL.of ef), _, _, rfl, rfl, ?_⟩
      refine ⟨_, rfl, ?_⟩
      refine iteF ?_
      exact q _ (Kx.of (Same.refl _)) (fun a h => h) ru (fun a _ => rfl)
    | true =>
      have ef : H o.fr = some (.lst [V.ref f0]) := ef
      by_cases hpe : pos = es.length
      · have ke : Kx o f0 la H (upd H o.fr (.lst [])) := fun b u e _ n2 _ _ _ _ _ => by rw [upd_ne n2]; exact e
        have ed : (decide (pos ≠ es.length)) = false := decide_eq_false (fun z => z hpe)
        rw [ed] at q
        have ob2 : upd H o.fr (.lst []) o.p = some (.ins MC dx (mfl o fy)) := by rw [upd_ne (ne_of ob ef (by intro z; cases z))]; exact ob
        have ef2 : upd H o.fr (.lst []) o.fr = some (.lst []) := upd_same
        have ru2 : Ru MC (upd H o.fr (.lst [])) o f0 en la es fy cs left told pos false := by
          have hc := ru.ma.ec
          refine ⟨⟨⟨dx, ob2⟩, ⟨?_, fun x a ns h => ?_, hc.nd, hc.ap⟩, ru.ma.ok⟩, ?_, ?_, ef2, ?_, ?_, ru.ax, ru.cl, ru.nl⟩
          · rw [upd_ne (ne_of hc.ed ef (by intro z; cases z))]; exact hc.ed
          · rw [upd_ne (ru.nl a (ru.cl x a ns h)).1]; exact hc.ls x a ns h
          · rw [upd_ne ru.ax.fl.symm]; exact ru.el
          · rw [upd_ne ru.ax.ft.symm]; exact ru.et
          · rw [upd_ne ru.ax.f0'.symm]; exact ru.e0
          · rw [upd_ne ru.ax.fe.symm]; exact ru.ee
        have nn : ∀ a, H a = none → upd H o.fr (.lst []) a = none := fun a h => by rw [upd_ne (fun z => by rw [z, ef] at h; cases h)]; exact h
        have ka : ∀ a ∈ la, upd H o.fr (.lst []) a = H a := fun a h => upd_ne (ru.nl a h).1
        refine ⟨fun m σ H2 => σ = [some (.ref o.p)] ∧ ((m = 1 ∧ H2 = H) ∨ (m = 0 ∧ H2 = upd H o.fr (.lst []))), ⟨1, rfl, .inl ⟨rfl, rfl⟩⟩, ?_⟩
        rintro m σ H2 ⟨rfl, h2⟩
        rcases h2 with ⟨rfl, rfl⟩ | ⟨rfl, rfl⟩
        · refine ⟨_, rfl, o.p, MC, dx, _, _, rfl, ob, T_Meaning.cl, T_Meaning.n2, f_frames o fy, o.fr, _, rfl, .inl (SqL.of ef), _, _, rfl, rfl, _, rfl, ?_⟩
          refine iteT ?_
          refine ⟨_, rfl, o.p, MC, dx, _, _, rfl, ob, T_Meaning.cl, T_Meaning.n2, f_frames o fy, _, rfl, o.fr, _, _, _, rfl, rfl, SqL.of ef, rfl, f0, _, _, _, rfl, rfl, SqL.of ru.e0, rfl, ?_⟩
          refine ⟨_, rfl, o.p, MC, dx, _, _, rfl, ob, T_Meaning.cl, T_Meaning.n2, f_frames o fy, _, rfl, o.fr, _, _, _, rfl, rfl, SqL.of ef, rfl, f0, _, _, _, rfl, rfl, SqL.of ru.e0, rfl, en, _, rfl, .inl (SqL.of ru.ee), rfl, _, rfl, itDP (by rw [hpe]) ?_⟩
          refine ⟨fun σ' H' => σ' = [some (.ref o.p)] ∧ H' = upd H2 o.fr (.lst []), fun σ' H' h => ⟨0, by decide, h.1, .inr ⟨rfl, h.2⟩⟩, ?_⟩
          exact ⟨_, rfl, o.p, MC, dx, _, _, rfl, ob, T_Meaning.cl, T_Meaning.n2, f_frames o fy, .inl ⟨rfl, _, SqL.of ef⟩, o.fr, _, _, rfl, rfl, ef, rfl, rfl, rfl⟩
        · refine ⟨_, rfl, o.p, MC, dx, _, _, rfl, ob2, T_Meaning.cl, T_Meaning.n2, f_frames o fy, o.fr, _, rfl, .inl (SqL.of ef2), _, _, rfl, rfl, _, rfl, ?_⟩
          refine iteF ?_
          refine ⟨_, rfl, o.p, MC, dx, _, _, rfl, ob2, T_Meaning.cl, T_Meaning.n2, f_frames o fy, o.fr, _, rfl, .inl (SqL.of ef2), _, _, rfl, rfl, ?_⟩
          refine ⟨_, rfl, ?_⟩
          refine iteF ?_
          exact q _ ke nn ru2 ka
      · have ed : (decide (pos ≠ es.length)) = true := decide_eq_true hpe
        rw [ed] at q
        refine ⟨fun m σ H2 => σ = [some (.ref o.p)] ∧ H2 = H, ⟨0, rfl, rfl⟩, ?_⟩
        rintro m σ H2 ⟨rfl, rfl⟩
        refine ⟨_, rfl, o.p, MC, dx, _, _, rfl, ob, T_Meaning.cl, T_Meaning.n2, f_frames o fy, o.fr, _, rfl, .inl (SqL.of ef), _, _, rfl, rfl, _, rfl, ?_⟩
        refine iteT ?_
        refine ⟨_, rfl, o.p, MC, dx, _, _, rfl, ob, T_Meaning.cl, T_Meaning.n2, f_frames o fy, _, rfl, o.fr, _, _, _, rfl, rfl, SqL.of ef, rfl, f0, _, _, _, rfl, rfl, SqL.of ru.e0, rfl, ?_⟩
        refine ⟨_, rfl, o.p, MC, dx, _, _, rfl, ob, T_Meaning.cl, T_Meaning.n2, f_frames o fy, _, rfl, o.fr, _, _, _, rfl, rfl, SqL.of ef, rfl, f0, _, _, _, rfl, rfl, SqL.of ru.e0, rfl, en, _, rfl, .inl (SqL.of ru.ee), rfl, _, rfl, itDN (fun z => hpe (by have := V.int.inj z; omega)) ?_⟩
        refine ⟨_, rfl, o.p, MC, dx, _, _, rfl, ob, T_Meaning.cl, T_Meaning.n2, f_frames o fy, o.fr, _, rfl, .inl (SqL.of ef), _, _, rfl, rfl, ?_⟩
        refine ⟨_, rfl, ?_⟩
        refine iteT ?_
        exact ⟨_, rfl, o.p, MC, dx, _, _, rfl, ob, T_Meaning.cl, T_Meaning.n6, f_faulty o fy, _, rfl, q _ (Kx.of (Same.refl _)) (fun a h => h) ru (fun a _ => rfl)⟩
end
end K49

set_option Elab.async false
set_option linter.all false
set_option maxRecDepth 100000
set_option maxHeartbeats 4000000
namespace K49
open PySem L2
/-! ### the two cells of the law, and its statements -/
theorem putF_putF (f : Str) (u v : V) : ∀ l : List (Str × V), putF f v (putF f u l) = putF f v l
  | [] => by show putF f v [(f, u)] = [(f, v)]; show (if f = f then (f, v) :: [] else _) = _; rw [if_pos rfl]
  | (g, x) :: r => by
    show putF f v (if g = f then (g, u) :: r else (g, x) :: putF f u r) = if g = f then (g, v) :: r else (g, x) :: putF f v r
    by_cases h : g = f
    · rw [if_pos h, if_pos h]; show (if g = f then (g, v) :: r else _) = _; rw [if_pos h]
    · rw [if_neg h, if_neg h]; show (if g = f then _ else (g, x) :: putF f v (putF f u r)) = _; rw [if_neg h, putF_putF f u v r]
theorem seq0 (x : V) (l : List V) : seqIndex? 0 (x :: l).length = some 0 := (ixN_seq (n := (x :: l).length) (i := 0) (j := 0) (by unfold ixN; rw [if_pos (by decide), if_pos (by show (0 : Int) < ((l.length + 1 : Nat) : Int); omega)]; rfl)).1
theorem mfl_fault (o : Oa) (fy : Bool) : putF "faulty" (.bl true) (mfl o fy) = mfl o true := putF_putF _ _ _ _
def cs2 (x : Int) (L : Addr) (kept : List Int) : Cells := [("at", .i x), ("some", .l L kept)]
theorem look_cs2 (x : Int) (L : Addr) (kept : List Int) (y : Str) : lookC (cs2 x L kept) y = if ("at" : Str) = y then some (.i x) else if ("some" : Str) = y then some (.l L kept) else none := by
  show ((match decide (("at" : Str) = y) with | true => some (("at" : Str), Cv.i x) | false => (match decide (("some" : Str) = y) with | true => some (("some" : Str), Cv.l L kept) | false => none)) : Option (Str × Cv)).map (·.2) = _
  by_cases h : ("at" : Str) = y
  · rw [decide_eq_true h, if_pos h]; rfl
  · rw [decide_eq_false h, if_neg h]
    by_cases h2 : ("some" : Str) = y
    · rw [decide_eq_true h2, if_pos h2]; rfl
    · rw [decide_eq_false h2, if_neg h2]; rfl
theorem at_some : ¬ ("at" : Str) = "some" := by decide +kernel
theorem cs_at (x : Int) (L : Addr) (kept : List Int) : lookC (cs2 x L kept) "at" = some (.i x) := by rw [look_cs2, if_pos rfl]
theorem cs_some (x : Int) (L : Addr) (kept : List Int) : lookC (cs2 x L kept) "some" = some (.l L kept) := by rw [look_cs2, if_neg at_some, if_pos rfl]
theorem cs_put (x n : Int) (L : Addr) (kept : List Int) : putK (ckv (cs2 x L kept)) (.inr "at") (.int n) = ckv (cs2 n L kept) := by
  show putK [((.inr "at" : Key), V.int x), (.inr "some", V.ref L)] _ _ = [((.inr "at" : Key), V.int n), (.inr "some", V.ref L)]
  unfold putK
  rw [if_pos (by rw [List.any_cons, decide_eq_true rfl]; rfl)]
  show [if (Sum.inr "at" : Key) = .inr "at" then _ else _, if (Sum.inr "some" : Key) = .inr "at" then _ else _] = _
  rw [if_pos rfl, if_neg (fun z => at_some (Sum.inr.inj z).symm)]
inductive S9 where
  | ask
  | put (e1 e2 : Ex)
  | tell (e : Ex)
/-- an expression of the law: numbers, the cell, places -/
def E9 : Ex → Prop
  | .num _ => True
  | .nam x => x = "at"
  | .pl x e => x = "some" ∧ E9 e
  | _ => False
theorem e9_ek {x : Int} {L : Addr} {kept : List Int} : ∀ {e : Ex}, E9 e → Ek (cs2 x L kept) e
  | .num _, _ => trivial
  | .nam y, h => by
    have h : y = "at" := h
    subst h; exact ⟨x, cs_at x L kept⟩
  | .pl y e, h => by
    obtain ⟨h1, h2⟩ := h
    subst h1; exact ⟨⟨L, kept, cs_some x L kept⟩, e9_ek h2⟩
  | .flg _, h => h.elim
  | .nt _, h => h.elim
  | .bin _ _ _, h => h.elim
def S9At (H : Hp) (v : V) : S9 → Prop
  | .ask => ∃ r, v = .ref r ∧ H r = some (.tup [.str "ask", .str "at"])
  | .put e1 e2 => ∃ r v1 v2, v = .ref r ∧ H r = some (.tup [.str "put", .str "some", v1, v2]) ∧ ExAt H e1 v1 ∧ ExAt H e2 v2
  | .tell e => ∃ r v1, v = .ref r ∧ H r = some (.tup [.str "tell", v1]) ∧ ExAt H e v1
def S9.Ok : S9 → Prop
  | .ask => True
  | .put e1 e2 => E9 e1 ∧ E9 e2 ∧ e1.dep ≤ 2 ∧ e2.dep ≤ 2
  | .tell e => E9 e ∧ e.dep ≤ 2
theorem S9At.keep {H H' : Hp} (k : ∀ b vs, H b = some (.tup vs) → H' b = some (.tup vs)) {v : V} : ∀ {s : S9}, S9At H v s → S9At H' v s
  | .ask, ⟨r, e, h⟩ => ⟨r, e, k _ _ h⟩
  | .put _ _, ⟨r, v1, v2, e, h, a, b⟩ => ⟨r, v1, v2, e, k _ _ h, a.keep k, b.keep k⟩
  | .tell _, ⟨r, v1, e, h, a⟩ => ⟨r, v1, e, k _ _ h, a.keep k⟩
theorem S9At.fl {H : Hp} {v : V} : ∀ {s : S9}, S9At H v s → FlS H v
  | .ask, ⟨r, e, h⟩ => ⟨r, "ask", _, e, h, by decide +kernel, by decide +kernel⟩
  | .put _ _, ⟨r, v1, v2, e, h, _⟩ => ⟨r, "put", _, e, h, by decide +kernel, by decide +kernel⟩
  | .tell _, ⟨r, v1, e, h, _⟩ => ⟨r, "tell", _, e, h, by decide +kernel, by decide +kernel⟩
/-- what the law's Meaning has come to -/
structure M9 where
  x : Int
  kept : List Int
  left : List Int
  told : List Int
  fy : Bool
def stp (m : M9) : S9 → M9
  | .ask => match m.left with
    | [] => { m with x := 65535 }
    | n :: r => { m with x := n % 65536, left := r }
  | .put e1 e2 => match valP (cs2 m.x 0 m.kept) e2, plP (cs2 m.x 0 m.kept) "some" e1 with
    | some v, some p => { m with kept := m.kept.set p.toNat v }
    | _, _ => { m with fy := true }
  | .tell e => match valP (cs2 m.x 0 m.kept) e with
    | some v => { m with told := m.told ++ [v] }
    | none => { m with fy := true }
theorem val_L (x : Int) (kept : List Int) (L L' : Addr) : ∀ e : Ex, valP (cs2 x L kept) e = valP (cs2 x L' kept) e
  | .num _ => rfl
  | .nam y => by
    unfold valP
    rw [look_cs2, look_cs2]
    by_cases h : ("at" : Str) = y
    · rw [if_pos h, if_pos h]
    · rw [if_neg h, if_neg h]
      by_cases h2 : ("some" : Str) = y
      · rw [if_pos h2, if_pos h2]
      · rw [if_neg h2, if_neg h2]
  | .pl y e => by
    have ih := val_L x kept L L' e
    unfold valP
    rw [ih, look_cs2, look_cs2]
    cases valP (cs2 x L' kept) e with
    | none => rfl
    | some v =>
      by_cases h : ("at" : Str) = y
      · rw [if_pos h, if_pos h]
      · rw [if_neg h, if_neg h]
        by_cases h2 : ("some" : Str) = y
        · rw [if_pos h2, if_pos h2]
        · rw [if_neg h2, if_neg h2]
  | .flg _ => rfl
  | .nt _ => rfl
  | .bin _ _ _ => rfl
theorem pl_L (x : Int) (kept : List Int) (L L' : Addr) (e : Ex) : plP (cs2 x L kept) "some" e = plP (cs2 x L' kept) "some" e := by
  unfold plP
  rw [val_L x kept L L' e, cs_some, cs_some]
  cases valP (cs2 x L' kept) e <;> rfl
abbrev Rn (C : Addr) (H : Hp) (o : Oa) (f0 en L : Addr) (es : List V) (m : M9) (pos : Nat) (on : Bool) : Prop := Ru C H o f0 en [L] es m.fy (cs2 m.x L m.kept) m.left m.told pos on
section
variable {P : Program} {w : World} {K : PySem.W.Frag} {mg : Str → Option Value} {base : Heap}
theorem sc_Meaning_do_plain : FnScope ["self", "statement"] ["self", "statement"] (defScope s_Meaning_do_plain) := ⟨rfl, rfl, rfl, by decide +kernel, rfl, by decide +kernel, by decide +kernel⟩
theorem ok_do_plain {f fi MC : Addr} {fd di : FuncData} (T : Bt mg) (C : Ct K mg) (T_Meaning : Mc K mg MC fi di) (T_Meaning_do_plain : Mt K MC "do_plain" "Meaning.do_plain" s_Meaning_do_plain ["self", "statement"] f fd) : FnOk P w K mg base CX0 1 f fd ["self", "statement"] (fun vs H Q E => ∃ (h : ∃ o f0 en L es m pos v, vs = [V.ref o.p, v] ∧ Rn MC H o f0 en L es m pos true ∧ S9At H v .ask ∧ ∀ H', Kx o f0 [L] H H' → Rn MC H' o f0 en L es (stp m .ask) pos true → Q .non H'), True) := by
  refine T_Meaning_do_plain.F.ok sc_Meaning_do_plain (fun vs H Q E h => ?_) (fun cdv A outer s H vs Q E hr h => ?_)
  · obtain ⟨⟨o, f0, en, L, es, m, pos, v, rfl, _⟩, _⟩ := h; rfl
  · obtain ⟨⟨o, f0, en, L, es, m, pos, v, rfl, ru, ⟨r, rfl, er⟩, q⟩, _⟩ := h
    refine ⟨_, (pss_one (ps_if (pt_cmpR op_eq (pe_ix ix_tup (pv 1) pe_int (fun _ _ => rfl)) pe_str (nomark _))
        (pss_one (ps_dput (hu_of hr) (pe_fld (pv 0) rfl) (pe_ix ix_tup (pv 1) pe_int (fun _ _ => rfl)) (pe_ifExp (pt_cmpR op_gt (pe_callB call_len_seq rfl T.b_len (by decide +kernel) (pa_consN (pe_fld (pv 0) rfl) pa_nil)) pe_int (nomark _)) (pe_op op_mod (pe_bm PySem.F.plainAttrs_list PySem.F.slot_list_pop PySem.F.type_list_pop mt_popAt (pe_fld (pv 0) rfl) (pa_consN pe_int pa_nil)) (pe_glob (v := .int 65536) rfl C.k_WORDS.choose_spec ⟨_, rfl⟩)) (pe_glob (v := .int 65535) rfl C.k_NONE_LEFT.choose_spec ⟨_, rfl⟩)) rfl))
        (pss_one (ps_if (pt_cmpR op_eq (pe_ix ix_tup (pv 1) pe_int (fun _ _ => rfl)) pe_str (nomark _))
          (pss_one (ps_expr (pe_bm PySem.F.plainAttrs_list PySem.F.slot_list_append PySem.F.type_list_append mt_append (pe_fld (pv 0) rfl) (pa_consN (pe_lst (pa_consN (pe_dget (hu_of hr) (pe_fld (pv 0) rfl) (pe_ix ix_tup (pv 1) pe_int (fun _ _ => rfl)) (fun _ _ => rfl)) (pa_consN pe_int pa_nil))) pa_nil))))
          (pss_one (ps_if (pt_cmpR op_eq (pe_ix ix_tup (pv 1) pe_int (fun _ _ => rfl)) pe_str (nomark _))
            (pss_one (ps_expr (pe_bm0 PySem.F.plainAttrs_list PySem.F.slot_list_clear PySem.F.type_list_clear mt_clear (pe_fld (pv 0) rfl))))
            pss_nil)))))), ?_⟩
    obtain ⟨dx, ob⟩ := ru.ma.ob
    refine ⟨_, rfl, r, _, _, _, rfl, rfl, SqT.of er, rfl, rfl, _, rfl, itDP rfl ?_⟩
    obtain ⟨mx, kept, left, told, fy⟩ := m
    have ru : Ru MC H o f0 en [L] es fy (cs2 mx L kept) left told pos true := ru
    have hc := ru.ma.ec
    -- the cell is put, behind a change of `left`
    have fin : ∀ (n : Int) (left : List Int) (H2 : Hp), Kx o f0 [L] H H2 → Ru MC H2 o f0 en [L] es fy (cs2 mx L kept) left told pos true → 0 ≤ n → n < 65536 → (∀ H', Kx o f0 [L] H H' → Ru MC H' o f0 en [L] es fy (cs2 n L kept) left told pos true → Q .non H') → Q .non (upd H2 o.ce (.dK (putK (ckv (cs2 mx L kept)) (.inr "at") (.int n)))) := fun n left H2 k2 r2 n0 n1 q2 => by
      obtain ⟨dx2, ob2⟩ := r2.ma.ob
      have hc2 := r2.ma.ec
      have ne : ∀ {b : Addr} {xs : List V}, H2 b = some (.lst xs) → b ≠ o.ce := fun e => ne_of e hc2.ed (by intro z; cases z)
      refine q2 _ (fun b u e n1 n2 n3 n4 n5 n6 n7 => by rw [upd_ne n5]; exact k2 b u e n1 n2 n3 n4 n5 n6 n7) ⟨⟨⟨dx2, ?_⟩, ⟨by rw [upd_same, cs_put], fun x a ns h => ?_, ?_, ?_⟩, ?_⟩, ?_, ?_, ?_, ?_, ?_, r2.ax, fun x a ns h => ?_, r2.nl⟩
      · rw [upd_ne (ne_of ob2 hc2.ed (by intro z; cases z))]; exact ob2
      · have h' : (x, Cv.l a ns) ∈ cs2 mx L kept := by
          rcases List.mem_cons.mp h with z | z
          · cases z
          · exact List.mem_cons_of_mem _ z
        have := hc2.ls x a ns h'
        rw [upd_ne (ne this)]; exact this
      · exact hc2.nd
      · intro x a ns y ms h1 h2
        rcases List.mem_cons.mp h1 with z | z
        · cases z
        · rcases List.mem_cons.mp h2 with z2 | z2
          · cases z2
          · have e1 := List.mem_singleton.mp z
            have e2 := List.mem_singleton.mp z2
            cases e1; cases e2; rfl
      · intro p hp
        rcases List.mem_cons.mp hp with z | z
        · rw [z]; exact ⟨n0, n1⟩
        · exact r2.ma.ok p (List.mem_cons_of_mem _ z)
      · rw [upd_ne (ne r2.el)]; exact r2.el
      · rw [upd_ne (ne r2.et)]; exact r2.et
      · rw [upd_ne (ne r2.ef)]; exact r2.ef
      · rw [upd_ne (ne r2.e0)]; exact r2.e0
      · rw [upd_ne (ne r2.ee)]; exact r2.ee
      · rcases List.mem_cons.mp h with z | z
        · cases z
        · exact r2.cl x a ns (List.mem_cons_of_mem _ z)
    have s2 : (ckv (cs2 mx L kept)).length < sizeLine := by rw [ckv_len]; show 2 < sizeLine; rw [sizeLine_eq]; decide
    cases left with
    | nil =>
      refine ⟨_, rfl, o.p, MC, dx, _, _, rfl, ob, T_Meaning.cl, T_Meaning.n4, f_left o fy, o.le, _, rfl, .inl (SqL.of ru.el), _, _, rfl, rfl, _, rfl, ?_⟩
      refine iteF ?_
      refine ⟨_, rfl, o.p, MC, dx, _, _, rfl, ob, T_Meaning.cl, T_Meaning.n3, f_cells o fy, _, rfl, r, _, _, _, rfl, rfl, SqT.of er, rfl, o.ce, _, rfl, DPut.k (k := .inr "at") hc.ed s2, ?_⟩
      exact fin 65535 [] H (Kx.of (Same.refl _)) ru (by decide) (by decide) q
    | cons n0 rest =>
      refine ⟨_, rfl, o.p, MC, dx, _, _, rfl, ob, T_Meaning.cl, T_Meaning.n4, f_left o fy, o.le, _, rfl, .inl (SqL.of ru.el), _, _, rfl, rfl, _, rfl, itDP (by show (0 : Int) < (((rest.map V.int).length + 1 : Nat) : Int); omega) ?_⟩
      refine ⟨_, rfl, o.p, MC, dx, _, _, rfl, ob, T_Meaning.cl, T_Meaning.n4, f_left o fy, .inl ⟨rfl, _, SqL.of ru.el⟩, o.le, _, 0, 0, _, rfl, rfl, ru.el, by decide, by decide, seq0 _ _, rfl, ?_⟩
      have hk : ∀ b u, H b = some u → b ≠ o.le → upd H o.le (.lst (((n0 :: rest).map V.int).eraseIdx 0)) b = some u := fun b u e n => by rw [upd_ne n]; exact e
      have e2 : upd H o.le (.lst (((n0 :: rest).map V.int).eraseIdx 0)) o.le = some (.lst (rest.map V.int)) := upd_same
      generalize upd H o.le (.lst (((n0 :: rest).map V.int).eraseIdx 0)) = H2 at hk e2 ⊢
      have ob2 := hk _ _ ob (ne_of ob ru.el (by intro z; cases z))
      have ed2 := hk _ _ hc.ed (ne_of hc.ed ru.el (by intro z; cases z))
      have ru2 : Ru MC H2 o f0 en [L] es fy (cs2 mx L kept) rest told pos true :=
        ⟨⟨⟨dx, ob2⟩, ⟨ed2, fun x a ns h => hk _ _ (hc.ls x a ns h) (ru.nl a (ru.cl x a ns h)).2.1, hc.nd, hc.ap⟩, ru.ma.ok⟩, e2, hk _ _ ru.et ru.ax.lt.symm, hk _ _ ru.ef ru.ax.fl, hk _ _ ru.e0 ru.ax.l0.symm, hk _ _ ru.ee ru.ax.le'.symm, ru.ax, ru.cl, ru.nl⟩
      have er2 := hk _ _ er (ne_of er ru.el (by intro z; cases z))
      refine ⟨_, _, rfl, rfl, (by show (0 : Int) < 65536; decide), _, rfl, o.p, MC, dx, _, _, rfl, ob2, T_Meaning.cl, T_Meaning.n3, f_cells o fy, _, rfl, r, _, _, _, rfl, rfl, SqT.of er2, rfl, o.ce, _, rfl, DPut.k (k := .inr "at") ed2 s2, ?_⟩
      exact fin (n0 % 65536) rest H2 (fun b u e _ _ n3 _ _ _ _ => hk b u e n3) ru2 (Int.emod_nonneg _ (by decide)) (Int.emod_lt_of_pos _ (by decide)) q
end
end K49

set_option Elab.async false
set_option linter.all false
set_option maxRecDepth 100000
set_option maxHeartbeats 4000000
namespace K49
open PySem L2
def sp_dw (C : Addr) : Sp := fun vs H Q _ => ∃ (o : Oa) (f0 en L : Addr) (es : List V) (m : M9) (pos : Nat) (v : V) (s : S9), vs = [.ref o.p, v] ∧ Rn C H o f0 en L es m pos true ∧ S9At H v s ∧ s.Ok ∧ (∀ z, s = .ask → z = V.non) ∧ s ≠ .ask ∧ m.told.length ≤ 1000 ∧
  ∀ H', Kx o f0 [L] H H' → Rn C H' o f0 en L es (stp m s) pos true → Q .non H'
theorem mfl_len (o : Oa) (fy : Bool) : (mfl o fy).length < 1000 := by
  unfold mfl
  have h1 := length_putF "bodies" (.ref o.bd) []
  have h2 := length_putF "frames" (.ref o.fr) (putF "bodies" (.ref o.bd) [])
  have h3 := length_putF "cells" (.ref o.ce) (putF "frames" (.ref o.fr) (putF "bodies" (.ref o.bd) []))
  have h4 := length_putF "left" (.ref o.le) (putF "cells" (.ref o.ce) (putF "frames" (.ref o.fr) (putF "bodies" (.ref o.bd) [])))
  have h5 := length_putF "told" (.ref o.to) (putF "left" (.ref o.le) (putF "cells" (.ref o.ce) (putF "frames" (.ref o.fr) (putF "bodies" (.ref o.bd) []))))
  have h6 := length_putF "faulty" (.bl fy) (putF "told" (.ref o.to) (putF "left" (.ref o.le) (putF "cells" (.ref o.ce) (putF "frames" (.ref o.fr) (putF "bodies" (.ref o.bd) [])))))
  have h0 : ([] : List (Str × V)).length = 0 := rfl
  omega
/-- the object comes to a fault -/
theorem Ru.fault {C : Addr} {H : Hp} {o : Oa} {f0 en : Addr} {la : List Addr} {es : List V} {fy : Bool} {cs : Cells} {left told : List Int} {pos : Nat} {on : Bool} {dx : Addr} (h : Ru C H o f0 en la es fy cs left told pos on) (ob : H o.p = some (.ins C dx (mfl o fy))) :
    Kx o f0 la H (upd H o.p (.ins C dx (putF "faulty" (.bl true) (mfl o fy)))) ∧ Ru C (upd H o.p (.ins C dx (putF "faulty" (.bl true) (mfl o fy)))) o f0 en la es true cs left told pos on := by
  have ne : ∀ {b : Addr} {xs : List V}, H b = some (.lst xs) → b ≠ o.p := fun e => ne_of e ob (by intro z; cases z)
  have hc := h.ma.ec
  refine ⟨fun b u e n1 _ _ _ _ _ _ => by rw [upd_ne n1]; exact e, ⟨⟨⟨dx, by rw [upd_same, mfl_fault]⟩, ⟨?_, fun x a ns m => ?_, hc.nd, hc.ap⟩, h.ma.ok⟩, ?_, ?_, ?_, ?_, ?_, h.ax, h.cl, h.nl⟩⟩
  · rw [upd_ne (ne_of hc.ed ob (by intro z; cases z))]; exact hc.ed
  · rw [upd_ne (ne (hc.ls x a ns m))]; exact hc.ls x a ns m
  · rw [upd_ne (ne h.el)]; exact h.el
  · rw [upd_ne (ne h.et)]; exact h.et
  · rw [upd_ne (ne h.ef)]; exact h.ef
  · rw [upd_ne (ne h.e0)]; exact h.e0
  · rw [upd_ne (ne h.ee)]; exact h.ee
/-- it tells a number -/
theorem Ru.tell {C : Addr} {H : Hp} {o : Oa} {f0 en : Addr} {la : List Addr} {es : List V} {fy : Bool} {cs : Cells} {left told : List Int} {pos : Nat} {on : Bool} (h : Ru C H o f0 en la es fy cs left told pos on) (v : Int) :
    Kx o f0 la H (upd H o.to (.lst (told.map V.int ++ [V.int v]))) ∧ Ru C (upd H o.to (.lst (told.map V.int ++ [V.int v]))) o f0 en la es fy cs left (told ++ [v]) pos on := by
  have hc := h.ma.ec
  obtain ⟨dx, ob⟩ := h.ma.ob
  refine ⟨fun b u e _ _ _ n4 _ _ _ => by rw [upd_ne n4]; exact e, ⟨⟨⟨dx, ?_⟩, ⟨?_, fun x a ns m => ?_, hc.nd, hc.ap⟩, h.ma.ok⟩, ?_, by rw [upd_same, List.map_append]; rfl, ?_, ?_, ?_, h.ax, h.cl, h.nl⟩⟩
  · rw [upd_ne (ne_of ob h.et (by intro z; cases z))]; exact ob
  · rw [upd_ne (ne_of hc.ed h.et (by intro z; cases z))]; exact hc.ed
  · rw [upd_ne (h.nl a (h.cl x a ns m)).2.2.1]; exact hc.ls x a ns m
  · rw [upd_ne h.ax.lt]; exact h.el
  · rw [upd_ne h.ax.ft]; exact h.ef
  · rw [upd_ne h.ax.t0.symm]; exact h.e0
  · rw [upd_ne h.ax.te.symm]; exact h.ee
/-- a place of its list is changed -/
theorem Ru.put {C : Addr} {H : Hp} {o : Oa} {f0 en L : Addr} {es : List V} {fy : Bool} {x : Int} {kept left told : List Int} {pos : Nat} {on : Bool} (h : Ru C H o f0 en [L] es fy (cs2 x L kept) left told pos on) (p : Nat) {v : Int} (hv : 0 ≤ v ∧ v < 65536) :
    Kx o f0 [L] H (upd H L (.lst ((kept.map V.int).set p (V.int v)))) ∧ Ru C (upd H L (.lst ((kept.map V.int).set p (V.int v)))) o f0 en [L] es fy (cs2 x L (kept.set p v)) left told pos on := by
  have hc := h.ma.ec
  obtain ⟨dx, ob⟩ := h.ma.ob
  have eL := hc.ls "some" L kept (List.mem_cons_of_mem _ (List.mem_singleton.mpr rfl))
  obtain ⟨a1, a2, a3, a4, a5⟩ := h.nl L (List.mem_singleton.mpr rfl)
  have ck := h.ma.ok ("some", .l L kept) (List.mem_cons_of_mem _ (List.mem_singleton.mpr rfl))
  have mem : ∀ {y : Str} {a : Addr} {ns : List Int}, (y, Cv.l a ns) ∈ cs2 x L (kept.set p v) → y = "some" ∧ a = L ∧ ns = kept.set p v := fun m => by
    rcases List.mem_cons.mp m with z | z
    · cases z
    · have := List.mem_singleton.mp z
      cases this; exact ⟨rfl, rfl, rfl⟩
  refine ⟨fun b u e _ _ _ _ _ _ n7 => by rw [upd_ne (fun z => n7 (List.mem_singleton.mpr z))]; exact e, ⟨⟨⟨dx, ?_⟩, ⟨?_, fun y a ns m => ?_, hc.nd, fun y a ns z ms m1 m2 => by rw [(mem m1).1, (mem m2).1]⟩, fun q hq => ?_⟩, ?_, ?_, ?_, ?_, ?_, h.ax, fun y a ns m => ?_, h.nl⟩⟩
  · rw [upd_ne (ne_of ob eL (by intro z; cases z))]; exact ob
  · rw [upd_ne (ne_of hc.ed eL (by intro z; cases z))]; exact hc.ed
  · obtain ⟨_, rfl, rfl⟩ := mem m
    rw [upd_same, List.map_set]
  · rcases List.mem_cons.mp hq with z | z
    · rw [z]; exact h.ma.ok ("at", .i x) List.mem_cons_self
    · rw [List.mem_singleton.mp z]
      refine ⟨by rw [List.length_set]; exact ck.1, fun n hn => ?_⟩
      rcases List.mem_or_eq_of_mem_set hn with hn | hn
      · exact ck.2 n hn
      · rw [hn]; exact hv
  · rw [upd_ne a2.symm]; exact h.el
  · rw [upd_ne a3.symm]; exact h.et
  · rw [upd_ne a1.symm]; exact h.ef
  · rw [upd_ne a4.symm]; exact h.e0
  · rw [upd_ne a5.symm]; exact h.ee
  · rw [(mem m).2.1]; exact List.mem_singleton.mpr rfl
theorem pl_bd {cs : Cells} (h : COk cs) {x : Str} {a : Addr} {ns : List Int} (hl : lookC cs x = some (.l a ns)) {e : Ex} {z : Int} (hpp : plP cs x e = some z) : 0 ≤ z ∧ z < (ns.length : Int) := by
  unfold plP at hpp
  rw [hl] at hpp
  cases hv : valP cs e with
  | none => rw [hv] at hpp; cases hpp
  | some y =>
    rw [hv] at hpp
    have hpp : (if 0 ≤ sgn y ∧ sgn y < (ns.length : Int) then some y else none) = some z := hpp
    have hok := val_ok h hv
    split at hpp
    · rename_i hc
      cases hpp
      unfold sgn at hc
      split at hc <;> omega
    · cases hpp
section
variable {P : Program} {w : World} {K : PySem.W.Frag} {mg : Str → Option Value} {base : Heap}
theorem sc_Meaning_do_with_value : FnScope ["self", "statement", "value", "place"] ["self", "statement"] (defScope s_Meaning_do_with_value) := ⟨rfl, rfl, rfl, by decide +kernel, rfl, by decide +kernel, by decide +kernel⟩
theorem ok_do_with_value {f f1 f2 f3 f4 fi MC : Addr} {fd d1 d2 d3 d4 di : FuncData} (T : Bt mg) (C : Ct K mg) (T_signed : Fn K mg "signed" s_signed ["number"] f1 d1) (T_joined : Fn K mg "joined" s_joined ["op", "one", "another"] f3 d3) (T_Meaning : Mc K mg MC fi di) (T_Meaning_value_of : Mt K MC "value_of" "Meaning.value_of" s_Meaning_value_of ["self", "expr"] f4 d4) (T_Meaning_place_in : Mt K MC "place_in" "Meaning.place_in" s_Meaning_place_in ["self", "name", "expr"] f2 d2) (T_Meaning_do_with_value : Mt K MC "do_with_value" "Meaning.do_with_value" s_Meaning_do_with_value ["self", "statement"] f fd) : FnOk P w K mg base CX0 9 f fd ["self", "statement"] (sp_dw MC) := by
  have G_Meaning_value_of : FnOk P w K mg base CX0 7 _ _ ["self", "expr"] (sp_val MC 2) := ok_value_of (P := P) (w := w) (base := base) T C T_signed T_joined T_Meaning T_Meaning_value_of T_Meaning_place_in 2
  have G_Meaning_place_in : FnOk P w K mg base CX0 8 _ _ ["self", "name", "expr"] (sp_plc MC 2) := plc_step (k := 6) T C T_signed T_Meaning T_Meaning_value_of T_Meaning_place_in G_Meaning_value_of
  refine T_Meaning_do_with_value.F.ok (k := 8) sc_Meaning_do_with_value (fun vs H Q E h => ?_) (fun cdv A outer s H vs Q E hr h => ?_)
  · obtain ⟨o, f0, en, L, es, m, pos, v, s, rfl, _⟩ := h; rfl
  · obtain ⟨o, f0, en, L, es, ⟨mx, kept, left, told, fy⟩, pos, v, st, rfl, ru, hst, ok, _, na, htl, q⟩ := h
    have hs : sizeLine = 16777216 := sizeLine_eq
    have ru : Ru MC H o f0 en [L] es fy (cs2 mx L kept) left told pos true := ru
    have htl : told.length ≤ 1000 := htl
    refine ⟨_, (pss_cons (ps_set (i := 2) sc_Meaning_do_with_value.nd rfl (Or.inl rfl) (pe_meth (pv 0) T_Meaning.cl T_Meaning_value_of.me G_Meaning_value_of (hr.mono (by omega)) T_Meaning_value_of.b .nil pass0 (pa_consN (pe_ix ix_tup (pv 1) (pe_un un_neg pe_int) (fun _ _ => rfl)) pa_nil)))
      (pss_cons (ps_set (i := 3) sc_Meaning_do_with_value.nd rfl (Or.inl rfl) (pe_ifExp (pt_cmpR op_eq (pe_ix ix_tup (pv 1) pe_int (fun _ _ => rfl)) pe_str (nomark _)) (pe_meth (pv 0) T_Meaning.cl T_Meaning_place_in.me G_Meaning_place_in (hr.mono (by omega)) T_Meaning_place_in.b .nil pass0 (pa_consN (pe_ix ix_tup (pv 1) pe_int (fun _ _ => rfl)) (pa_consN (pe_ix ix_tup (pv 1) pe_int (fun _ _ => rfl)) pa_nil))) pe_int))
      (pss_one (ps_if (PW.pt (pw_or (pt_cmpR op_isN (pv 2) pe_non (nomark _)) (pw_or1 (pt_cmpR op_isN (pv 3) pe_non (nomark _)))))
        (pss_one (ps_fld (pv 0) pe_bl rfl))
        (pss_one (ps_if (pt_cmpR op_eq (pe_ix ix_tup (pv 1) pe_int (fun _ _ => rfl)) pe_str (nomark _))
          (pss_one (ps_dput (hu_of hr) (pe_fld (pv 0) rfl) (pe_ix ix_tup (pv 1) pe_int (fun _ _ => rfl)) (pv 2) rfl))
          (pss_one (ps_if (pt_cmpR op_eq (pe_ix ix_tup (pv 1) pe_int (fun _ _ => rfl)) pe_str (nomark _))
            (pss_one (ps_asg (pv 2) (pg_sub (pe_dget (hu_of hr) (pe_fld (pv 0) rfl) (pe_ix ix_tup (pv 1) pe_int (fun _ _ => rfl)) (fun _ _ => rfl)) (pv 3) set_list)))
            (pss_one (ps_expr (pe_bm PySem.F.plainAttrs_list PySem.F.slot_list_append PySem.F.type_list_append mt_append (pe_fld (pv 0) rfl) (pa_consN (pv 2) pa_nil)))))))))))), ?_⟩
    obtain ⟨dx, ob⟩ := ru.ma.ob
    cases st with
    | ask => exact absurd rfl na
    | tell e =>
      obtain ⟨r, v1, rfl, er, he⟩ := hst
      refine ⟨_, rfl, o.p, dx, _, rfl, ob, f_no o fy (by decide +kernel), _, rfl, _, rfl, r, _, _, _, rfl, rfl, SqT.of er, rfl, o, fy, cs2 mx L kept, e, v1, rfl, ru.ma, he, e9_ek ok.1, ok.2, fun H1 s1 => ?_⟩
      have er1 := s1 _ _ er
      have ru1 := ru.same s1
      have ob1 := s1 _ _ ob
      refine ⟨_, rfl, r, _, _, _, rfl, rfl, SqT.of er1, rfl, rfl, _, rfl, itDN (fun z => by have := V.str.inj z; revert this; decide +kernel) ?_⟩
      have q : ∀ H', Kx o f0 [L] H H' → Rn MC H' o f0 en L es (match valP (cs2 mx 0 kept) e with | some v => ⟨mx, kept, left, told ++ [v], fy⟩ | none => ⟨mx, kept, left, told, true⟩) pos true → Q .non H' := q
      rw [← val_L mx kept L 0 e] at q
      cases hv : valP (cs2 mx L kept) e with
      | none =>
        rw [hv] at q
        refine ⟨_, rfl, rfl, _, rfl, itDP rfl ?_⟩
        obtain ⟨k2, r2⟩ := ru1.fault ob1
        refine iteT ?_
        refine ⟨_, rfl, o.p, MC, dx, _, rfl, ob1, T_Meaning.cl, T_Meaning.n6, mfl_len o fy, ?_⟩
        exact q _ ((Kx.of s1).trans k2) r2
      | some n =>
        rw [hv] at q
        refine ⟨_, rfl, rfl, _, rfl, itDN (fun z => by cases z) ?_⟩
        refine ⟨_, rfl, rfl, _, rfl, itDN (fun z => by cases z) ?_⟩
        refine ⟨_, rfl, r, _, _, _, rfl, rfl, SqT.of er1, rfl, rfl, _, rfl, itDN (fun z => by have := V.str.inj z; revert this; decide +kernel) ?_⟩
        refine ⟨_, rfl, r, _, _, _, rfl, rfl, SqT.of er1, rfl, rfl, _, rfl, itDN (fun z => by have := V.str.inj z; revert this; decide +kernel) ?_⟩
        obtain ⟨k2, r2⟩ := ru1.tell n
        refine ⟨_, rfl, o.p, MC, dx, _, _, rfl, ob1, T_Meaning.cl, T_Meaning.n5, f_told o fy, .inl ⟨rfl, _, SqL.of ru1.et⟩, _, rfl, o.to, _, _, rfl, rfl, ru1.et, by rw [List.length_map]; omega, ?_⟩
        exact q _ ((Kx.of s1).trans k2) r2
    | put e1 e2 =>
      obtain ⟨r, v1, v2, rfl, er, he1, he2⟩ := hst
      obtain ⟨o1, o2, o3, o4⟩ := ok
      refine ⟨_, rfl, o.p, dx, _, rfl, ob, f_no o fy (by decide +kernel), _, rfl, _, rfl, r, _, _, _, rfl, rfl, SqT.of er, rfl, o, fy, cs2 mx L kept, e2, v2, rfl, ru.ma, he2, e9_ek o2, o4, fun H1 s1 => ?_⟩
      have er1 := s1 _ _ er
      have ru1 := ru.same s1
      have ob1 := s1 _ _ ob
      refine ⟨_, rfl, r, _, _, _, rfl, rfl, SqT.of er1, rfl, rfl, _, rfl, itDP rfl ?_⟩
      refine ⟨_, rfl, o.p, dx, _, rfl, ob1, f_no o fy (by decide +kernel), _, rfl, r, _, _, _, rfl, rfl, SqT.of er1, rfl, _, rfl, r, _, _, _, rfl, rfl, SqT.of er1, rfl, o, fy, cs2 mx L kept, "some", e1, v1, rfl, ru1.ma, he1.same s1, e9_ek o1, ⟨L, kept, cs_some mx L kept⟩, o3, fun H2 s2 => ?_⟩
      have s12 := s1.trans s2
      have er2 := s2 _ _ er1
      have ru2 := ru1.same s2
      have ob2 := s2 _ _ ob1
      have q : ∀ H', Kx o f0 [L] H H' → Rn MC H' o f0 en L es (match valP (cs2 mx 0 kept) e2, plP (cs2 mx 0 kept) "some" e1 with | some v, some p => ⟨mx, kept.set p.toNat v, left, told, fy⟩ | _, _ => ⟨mx, kept, left, told, true⟩) pos true → Q .non H' := q
      rw [← val_L mx kept L 0 e2, ← pl_L mx kept L 0 e1] at q
      cases hv : valP (cs2 mx L kept) e2 with
      | none =>
        rw [hv] at q
        refine ⟨_, rfl, rfl, _, rfl, itDP rfl ?_⟩
        obtain ⟨k2, r2⟩ := ru2.fault ob2
        refine iteT ?_
        refine ⟨_, rfl, o.p, MC, dx, _, rfl, ob2, T_Meaning.cl, T_Meaning.n6, mfl_len o fy, ?_⟩
        exact q _ ((Kx.of s12).trans k2) r2
      | some n =>
        rw [hv] at q
        refine ⟨_, rfl, rfl, _, rfl, itDN (fun z => by cases z) ?_⟩
        cases hpp : plP (cs2 mx L kept) "some" e1 with
        | none =>
          rw [hpp] at q
          refine ⟨_, rfl, rfl, _, rfl, itDP rfl ?_⟩
          obtain ⟨k2, r2⟩ := ru2.fault ob2
          refine ⟨_, rfl, o.p, MC, dx, _, rfl, ob2, T_Meaning.cl, T_Meaning.n6, mfl_len o fy, ?_⟩
          exact q _ ((Kx.of s12).trans k2) r2
        | some z =>
          rw [hpp] at q
          have hz := pl_bd ru.ma.ok (cs_some mx L kept) hpp
          have hn := val_ok ru.ma.ok hv
          refine ⟨_, rfl, rfl, _, rfl, itDN (fun z => by cases z) ?_⟩
          refine ⟨_, rfl, r, _, _, _, rfl, rfl, SqT.of er2, rfl, rfl, _, rfl, itDN (fun z => by have := V.str.inj z; revert this; decide +kernel) ?_⟩
          refine ⟨_, rfl, r, _, _, _, rfl, rfl, SqT.of er2, rfl, rfl, _, rfl, itDP rfl ?_⟩
          have eL := ru2.ma.ec.ls "some" L kept (List.mem_cons_of_mem _ (List.mem_singleton.mpr rfl))
          have eg : DGet H2 o.ce (.str "some") (some (.ref L)) := by
            have := DGet.k (k := .inr "some") ru2.ma.ec.ed
            rw [look_ckv, cs_some] at this; exact this
          obtain ⟨j, rfl⟩ : ∃ j : Nat, z = (j : Int) := ⟨z.toNat, by omega⟩
          obtain ⟨k2, r2⟩ := ru2.put j hn
          have hj : ixN (kept.map V.int).length (j : Int) = some j := by
            unfold ixN
            rw [List.length_map, if_pos (by omega), if_pos hz.2, Int.toNat_natCast]
          refine ⟨_, rfl, _, rfl, o.p, MC, dx, _, _, rfl, ob2, T_Meaning.cl, T_Meaning.n3, f_cells o fy, _, rfl, r, _, _, _, rfl, rfl, SqT.of er2, rfl, o.ce, _, rfl, eg, _, rfl, L, _, _, j, rfl, rfl, eL, hj, ?_⟩
          exact q _ ((Kx.of s12).trans k2) (by show Ru MC _ o f0 en [L] es fy (cs2 mx L (kept.set (j : Int).toNat n)) left told pos true; rw [Int.toNat_natCast]; exact r2)
end
end K49

set_option Elab.async false
set_option linter.all false
set_option maxRecDepth 100000
set_option maxHeartbeats 4000000
namespace K49
open PySem L2
def sp_dn (C : Addr) : Sp := fun vs H Q _ => ∃ (o : Oa) (f0 en L : Addr) (es : List V) (m : M9) (pos : Nat) (k : Int) (v sv : V) (s : S9), vs = [.ref o.p] ∧ Rn C H o f0 en L es m pos true ∧ es[pos]? = some v ∧ EnAt H v (k, sv) ∧ S9At H sv s ∧ s.Ok ∧ m.told.length ≤ 1000 ∧
  ∀ H', Kx o f0 [L] H H' → Rn C H' o f0 en L es (stp m s) (pos + 1) true → Q .non H'
def sp_sa (C : Addr) : Sp := fun vs H Q _ => ∃ (o : Oa) (f0 en L : Addr) (es : List V) (m : M9) (pos : Nat) (k : Int) (v sv : V), vs = [.ref o.p] ∧ Rn C H o f0 en L es m pos true ∧ es[pos]? = some v ∧ EnAt H v (k, sv) ∧
  ∀ (T a b : Addr) (H' : Hp), Same H H' → H' T = some (.tup [.int k, .ref a, .ref b]) → Q (.ref T) H'
def sp_esf (C : Addr) : Sp := fun vs H Q _ => ∃ (o : Oa) (f0 en L : Addr) (es : List V) (m : M9) (pos : Nat) (on : Bool), vs = [.ref o.p] ∧ Rn C H o f0 en L es m pos on ∧ pos ≤ es.length ∧
  ∀ H', Kx o f0 [L] H H' → Rn C H' o f0 en L es m pos (if m.fy = true then on else (on && decide (pos ≠ es.length))) → Q (.str (if m.fy = true then "fault" else if (on && decide (pos ≠ es.length)) = true then "going" else "ended")) H'
/-- the frame goes on by one -/
theorem Ru.adv {C : Addr} {H H1 : Hp} {o : Oa} {f0 en : Addr} {la : List Addr} {es : List V} {fy : Bool} {cs : Cells} {left told : List Int} {pos : Nat} {on : Bool} (h : Ru C H o f0 en la es fy cs left told pos on) (k : Kl f0 H H1) (e1 : H1 f0 = some (.lst [V.ref en, V.int ((pos : Int) + 1)])) :
    Kx o f0 la H H1 ∧ Ru C H1 o f0 en la es fy cs left told (pos + 1) on ∧ ∀ b vs, H b = some (.tup vs) → H1 b = some (.tup vs) := by
  have hc := h.ma.ec
  obtain ⟨dx, ob⟩ := h.ma.ob
  exact ⟨fun b u e _ _ _ _ _ n6 _ => k _ _ e n6, ⟨⟨⟨dx, k _ _ ob (ne_of ob h.e0 (by intro z; cases z))⟩, ⟨k _ _ hc.ed (ne_of hc.ed h.e0 (by intro z; cases z)), fun x a ns m => k _ _ (hc.ls x a ns m) (h.nl a (h.cl x a ns m)).2.2.2.1, hc.nd, hc.ap⟩, h.ma.ok⟩, k _ _ h.el h.ax.l0, k _ _ h.et h.ax.t0, k _ _ h.ef h.ax.f0', e1, k _ _ h.ee h.ax.oe.symm, h.ax, h.cl, h.nl⟩, fun b vs e => k _ _ e (ne_of e h.e0 (by intro z; cases z))⟩
theorem in3_no : (if false = true then !inV (V.str "ask") [V.str "set", V.str "put", V.str "tell"] else inV (V.str "ask") [V.str "set", V.str "put", V.str "tell"]) = false := by decide +kernel
theorem in3_put : (if false = true then !inV (V.str "put") [V.str "set", V.str "put", V.str "tell"] else inV (V.str "put") [V.str "set", V.str "put", V.str "tell"]) = true := by decide +kernel
theorem in3_tell : (if false = true then !inV (V.str "tell") [V.str "set", V.str "put", V.str "tell"] else inV (V.str "tell") [V.str "set", V.str "put", V.str "tell"]) = true := by decide +kernel
section
variable {P : Program} {w : World} {K : PySem.W.Frag} {mg : Str → Option Value} {base : Heap}
theorem sc_Meaning_step_ahead : FnScope ["self"] ["self"] (defScope s_Meaning_step_ahead) := ⟨rfl, rfl, rfl, by decide +kernel, rfl, by decide +kernel, by decide +kernel⟩
theorem ok_step_ahead {f f1 f2 fi MC : Addr} {fd d1 d2 di : FuncData} (T : Bt mg) (C : Ct K mg) (T_copied : Fn K mg "copied" s_copied ["cells"] f1 d1) (T_Meaning : Mc K mg MC fi di) (T_Meaning_next_entry : Mt K MC "next_entry" "Meaning.next_entry" s_Meaning_next_entry ["self"] f2 d2) (T_Meaning_step_ahead : Mt K MC "step_ahead" "Meaning.step_ahead" s_Meaning_step_ahead ["self"] f fd) : FnOk P w K mg base CX0 2 f fd ["self"] (sp_sa MC) := by
  have G_copied := ok_copied (P := P) (w := w) (base := base) T_copied.F T
  have G_Meaning_next_entry := ok_next_entry (P := P) (w := w) (base := base) T C T_Meaning T_Meaning_next_entry
  refine T_Meaning_step_ahead.F.ok (k := 1) sc_Meaning_step_ahead (fun vs H Q E h => ?_) (fun cdv A outer s H vs Q E hr h => ?_)
  · obtain ⟨o, f0, en, L, es, m, pos, k, v, sv, rfl, _⟩ := h; rfl
  · obtain ⟨o, f0, en, L, es, m, pos, k, v, sv, rfl, ru, hv, ⟨r, ib, rfl, er⟩, q⟩ := h
    have hs : sizeLine = 16777216 := sizeLine_eq
    refine ⟨_, (pss_one (ps_ret (pe_tup (pa_consN (pe_ix ix_tup (pe_meth0 (pv 0) T_Meaning.cl T_Meaning_next_entry.me G_Meaning_next_entry (hr.mono (by decide)) T_Meaning_next_entry.b .nil pass0) pe_int (fun _ _ => rfl)) (pa_consN (pe_call G_copied (hr.mono (by decide)) rfl T_copied.m T_copied.F.kp T_copied.b .nil pass0 (pa_consN (pe_fld (pv 0) rfl) pa_nil)) (pa_consN (pe_callTy call_list_of rfl T.b_list (by decide +kernel) (pa_consN (pe_fld (pv 0) rfl) pa_nil)) pa_nil)))))), ?_⟩
    obtain ⟨dx, ob⟩ := ru.ma.ob
    refine ⟨_, rfl, o.p, dx, _, rfl, ob, f_no o m.fy (by decide +kernel), o, f0, en, [L], es, m.fy, cs2 m.x L m.kept, m.left, m.told, pos, _, rfl, ru, hv, r, _, _, _, rfl, rfl, SqT.of er, rfl, ?_⟩
    refine ⟨_, rfl, o.p, MC, dx, _, _, rfl, ob, T_Meaning.cl, T_Meaning.n3, f_cells o m.fy, o.ce, _, rfl, ru.ma.ec, by show 2 ≤ 40; decide, fun d' cs' H1 s1 hd' _ _ => ?_⟩
    refine ⟨_, rfl, o.p, MC, dx, _, _, rfl, s1 _ _ ob, T_Meaning.cl, T_Meaning.n5, f_told o m.fy, o.to, _, rfl, .inl (SqL.of (s1 _ _ ru.et)), fun l hl => ⟨(by show 3 ≤ sizeLine; omega), fun T0 hT => ?_⟩⟩
    have y1 := Same.put (o := .lst (m.told.map V.int)) hl
    have y2 := Same.put (o := .tup [V.int k, V.ref d', V.ref l]) hT
    exact q T0 d' l _ ((s1.trans y1).trans y2) upd_same
theorem sc_Meaning_end_so_far : FnScope ["self"] ["self"] (defScope s_Meaning_end_so_far) := ⟨rfl, rfl, rfl, by decide +kernel, rfl, by decide +kernel, by decide +kernel⟩
theorem ok_end_so_far {f f1 fi MC : Addr} {fd d1 di : FuncData} (T : Bt mg) (C : Ct K mg) (T_Meaning : Mc K mg MC fi di) (T_Meaning_is_going : Mt K MC "is_going" "Meaning.is_going" s_Meaning_is_going ["self"] f1 d1) (T_Meaning_end_so_far : Mt K MC "end_so_far" "Meaning.end_so_far" s_Meaning_end_so_far ["self"] f fd) : FnOk P w K mg base CX0 2 f fd ["self"] (sp_esf MC) := by
  have G_Meaning_is_going := ok_is_going (P := P) (w := w) (base := base) T C T_Meaning T_Meaning_is_going
  refine T_Meaning_end_so_far.F.ok (k := 1) sc_Meaning_end_so_far (fun vs H Q E h => ?_) (fun cdv A outer s H vs Q E hr h => ?_)
  · obtain ⟨o, f0, en, L, es, m, pos, on, rfl, _⟩ := h; rfl
  · obtain ⟨o, f0, en, L, es, ⟨x, kept, left, told, fy⟩, pos, on, rfl, ru, hp, q⟩ := h
    have ru : Ru MC H o f0 en [L] es fy (cs2 x L kept) left told pos on := ru
    refine ⟨_, (pss_cons (ps_if (pt_val (pe_fld (pv 0) rfl))
        (pss_one (ps_ret pe_str))
        pss_nil)
      (pss_one (ps_ret (pe_ifExp (pt_val (pe_meth0 (pv 0) T_Meaning.cl T_Meaning_is_going.me G_Meaning_is_going (hr.mono (by decide)) T_Meaning_is_going.b .nil pass0)) pe_str pe_str)))), ?_⟩
    obtain ⟨dx, ob⟩ := ru.ma.ob
    cases fy with
    | true =>
      refine ⟨_, rfl, o.p, MC, dx, _, _, rfl, ob, T_Meaning.cl, T_Meaning.n6, f_faulty o true, _, rfl, ?_⟩
      refine iteT ?_
      exact q H (Kx.of (Same.refl _)) ru
    | false =>
      refine ⟨_, rfl, o.p, MC, dx, _, _, rfl, ob, T_Meaning.cl, T_Meaning.n6, f_faulty o false, _, rfl, ?_⟩
      refine iteF ?_
      refine ⟨_, rfl, o.p, dx, _, rfl, ob, f_no o false (by decide +kernel), o, f0, en, [L], es, false, cs2 x L kept, left, told, pos, on, rfl, ru, hp, fun H1 k1 _ r1 _ => ⟨_, rfl, ?_⟩⟩
      have q1 := q H1 k1
      cases hb : (on && decide (pos ≠ es.length)) with
      | true =>
        rw [hb] at r1
        refine iteT ?_
        have q1 : Ru MC H1 o f0 en [L] es false (cs2 x L kept) left told pos (on && decide (pos ≠ es.length)) → Q (.str (if (on && decide (pos ≠ es.length)) = true then "going" else "ended")) H1 := q1
        rw [hb] at q1
        exact q1 r1
      | false =>
        rw [hb] at r1
        refine iteF ?_
        have q1 : Ru MC H1 o f0 en [L] es false (cs2 x L kept) left told pos (on && decide (pos ≠ es.length)) → Q (.str (if (on && decide (pos ≠ es.length)) = true then "going" else "ended")) H1 := q1
        rw [hb] at q1
        exact q1 r1
theorem sc_Meaning_choose : FnScope ["self", "entry", "flag"] ["self", "entry"] (defScope s_Meaning_choose) := ⟨rfl, rfl, rfl, by decide +kernel, rfl, by decide +kernel, by decide +kernel⟩
theorem sc_Meaning_do_next : FnScope ["self", "entry"] ["self"] (defScope s_Meaning_do_next) := ⟨rfl, rfl, rfl, by decide +kernel, rfl, by decide +kernel, by decide +kernel⟩
theorem ok_do_next {f f1 f2 f3 f4 f5 f6 f7 f8 fi MC : Addr} {fd d1 d2 d3 d4 d5 d6 d7 d8 di : FuncData} (T : Bt mg) (C : Ct K mg) (T_signed : Fn K mg "signed" s_signed ["number"] f1 d1) (T_joined : Fn K mg "joined" s_joined ["op", "one", "another"] f3 d3) (T_Meaning : Mc K mg MC fi di) (T_Meaning_next_entry : Mt K MC "next_entry" "Meaning.next_entry" s_Meaning_next_entry ["self"] f5 d5) (T_Meaning_value_of : Mt K MC "value_of" "Meaning.value_of" s_Meaning_value_of ["self", "expr"] f4 d4) (T_Meaning_place_in : Mt K MC "place_in" "Meaning.place_in" s_Meaning_place_in ["self", "name", "expr"] f2 d2) (T_Meaning_choose : Mt K MC "choose" "Meaning.choose" s_Meaning_choose ["self", "entry"] f6 d6) (T_Meaning_do_with_value : Mt K MC "do_with_value" "Meaning.do_with_value" s_Meaning_do_with_value ["self", "statement"] f7 d7) (T_Meaning_do_plain : Mt K MC "do_plain" "Meaning.do_plain" s_Meaning_do_plain ["self", "statement"] f8 d8) (T_Meaning_do_next : Mt K MC "do_next" "Meaning.do_next" s_Meaning_do_next ["self"] f fd) : FnOk P w K mg base CX0 10 f fd ["self"] (sp_dn MC) := by
  have G_Meaning_next_entry := ok_next_entry (P := P) (w := w) (base := base) T C T_Meaning T_Meaning_next_entry
  have G_Meaning_do_with_value := ok_do_with_value (P := P) (w := w) (base := base) T C T_signed T_joined T_Meaning T_Meaning_value_of T_Meaning_place_in T_Meaning_do_with_value
  have G_Meaning_do_plain := ok_do_plain (P := P) (w := w) (base := base) T C T_Meaning T_Meaning_do_plain
  have G_Meaning_choose : FnOk P w K mg base CX0 1 f6 d6 ["self", "entry"] (fun _ _ _ _ => False) := T_Meaning_choose.F.ok (k := 0) (sp := fun _ _ _ _ => False) sc_Meaning_choose (fun _ _ _ _ h => h.elim) (fun _ _ _ _ _ _ _ _ _ h => h.elim)
  refine T_Meaning_do_next.F.ok (k := 9) sc_Meaning_do_next (fun vs H Q E h => ?_) (fun cdv A outer s H vs Q E hr h => ?_)
  · obtain ⟨o, f0, en, L, es, m, pos, k, v, sv, st, rfl, _⟩ := h; rfl
  · obtain ⟨o, f0, en, L, es, m, pos, k, v, sv, st, rfl, ru, hv, ⟨r, ib, rfl, er⟩, hst, ok, htl, q⟩ := h
    have hs : sizeLine = 16777216 := sizeLine_eq
    refine ⟨_, (pss_cons (ps_set (i := 1) sc_Meaning_do_next.nd rfl (Or.inl rfl) (pe_meth0 (pv 0) T_Meaning.cl T_Meaning_next_entry.me G_Meaning_next_entry (hr.mono (by decide)) T_Meaning_next_entry.b .nil pass0))
      (pss_cons (ps_asg (pe_op op_add (pe_ix ix_list (pe_ix ix_list (pe_fld (pv 0) rfl) (pe_un un_neg pe_int) (fun _ _ => rfl)) pe_int (fun _ _ => rfl)) pe_int) (pg_sub (pe_ix ix_list (pe_fld (pv 0) rfl) (pe_un un_neg pe_int) (fun _ _ => rfl)) pe_int set_list))
      (pss_one (ps_if (pt_cmpR op_in_seq (pe_ix ix_tup (pe_ix ix_tup (pv 1) pe_int (fun _ _ => rfl)) pe_int (fun _ _ => rfl)) (pe_tup (pa_consN pe_str (pa_consN pe_str pa_nil))) (by with_unfolding_all rfl))
        (pss_one (ps_expr (pe_meth (pv 0) T_Meaning.cl T_Meaning_choose.me G_Meaning_choose (hr.mono (by decide)) T_Meaning_choose.b .nil pass0 (pa_consN (pv 1) pa_nil))))
        (pss_one (ps_if (pt_cmpR op_in_seq (pe_ix ix_tup (pe_ix ix_tup (pv 1) pe_int (fun _ _ => rfl)) pe_int (fun _ _ => rfl)) (pe_tup (pa_consN pe_str (pa_consN pe_str (pa_consN pe_str pa_nil)))) (by with_unfolding_all rfl))
          (pss_one (ps_expr (pe_meth (pv 0) T_Meaning.cl T_Meaning_do_with_value.me G_Meaning_do_with_value (hr.mono (by decide)) T_Meaning_do_with_value.b .nil pass0 (pa_consN (pe_ix ix_tup (pv 1) pe_int (fun _ _ => rfl)) pa_nil))))
          (pss_one (ps_expr (pe_meth (pv 0) T_Meaning.cl T_Meaning_do_plain.me G_Meaning_do_plain (hr.mono (by decide)) T_Meaning_do_plain.b .nil pass0 (pa_consN (pe_ix ix_tup (pv 1) pe_int (fun _ _ => rfl)) pa_nil)))))))))), ?_⟩
    obtain ⟨dx, ob⟩ := ru.ma.ob
    refine ⟨_, rfl, o.p, dx, _, rfl, ob, f_no o m.fy (by decide +kernel), o, f0, en, [L], es, m.fy, cs2 m.x L m.kept, m.left, m.told, pos, _, rfl, ru, hv, ?_⟩
    refine ⟨_, rfl, o.p, MC, dx, _, _, rfl, ob, T_Meaning.cl, T_Meaning.n2, f_frames o m.fy, _, rfl, o.fr, _, _, _, rfl, rfl, SqL.of ru.ef, rfl, f0, _, _, _, rfl, rfl, SqL.of ru.e0, rfl, ?_⟩
    refine ⟨_, _, rfl, rfl, _, rfl, o.p, MC, dx, _, _, rfl, ob, T_Meaning.cl, T_Meaning.n2, f_frames o m.fy, _, rfl, o.fr, _, _, _, rfl, rfl, SqL.of ru.ef, rfl, f0, _, _, 1, rfl, rfl, ru.e0, rfl, ?_⟩
    refine take_go (q := fun H1 => _) (vs' := [V.ref en, V.int ((pos : Int) + 1)]) rfl ?_
    intro H1 k1 e1
    obtain ⟨ka, ra, ta⟩ := ru.adv k1 e1
    have er1 := ta _ _ er
    have st1 := hst.keep ta
    have ob1 : H1 o.p = some (.ins MC dx (mfl o m.fy)) := k1 _ _ ob (ne_of ob ru.e0 (by intro z; cases z))
    obtain ⟨rs, tag, us, rfl, et, t1, t2⟩ := st1.fl
    refine ⟨_, rfl, r, _, _, _, rfl, rfl, SqT.of er1, rfl, rs, _, _, _, rfl, rfl, SqT.of et, at_zero _ _, (by show 2 ≤ sizeLine; omega), fun p hp => ?_⟩
    have y2 := Same.put (o := .tup [V.str "if", V.str "while"]) hp
    have ep : upd H1 p (.tup [V.str "if", V.str "while"]) p = some (.tup [V.str "if", V.str "while"]) := upd_same
    generalize upd H1 p (.tup [V.str "if", V.str "while"]) = H2 at y2 ep ⊢
    refine ⟨p, _, rfl, .inr (SqT.of ep), rfl, rfl, _, rfl, ?_⟩
    rw [in_tag]
    refine itDN (fun z => z.elim t1 t2) ?_
    refine ⟨_, rfl, r, _, _, _, rfl, rfl, SqT.of (y2 _ _ er1), rfl, rs, _, _, _, rfl, rfl, SqT.of (y2 _ _ et), at_zero _ _, (by show 3 ≤ sizeLine; omega), fun p3 hp3 => ?_⟩
    have y3 := Same.put (o := .tup [V.str "set", V.str "put", V.str "tell"]) hp3
    have ep3 : upd H2 p3 (.tup [V.str "set", V.str "put", V.str "tell"]) p3 = some (.tup [V.str "set", V.str "put", V.str "tell"]) := upd_same
    generalize upd H2 p3 (.tup [V.str "set", V.str "put", V.str "tell"]) = H3 at y3 ep3 ⊢
    refine ⟨p3, _, rfl, .inr (SqT.of ep3), rfl, rfl, _, rfl, ?_⟩
    have y13 := y2.trans y3
    have r3 := ra.same y13
    have st3 := st1.keep (fun b vs e => y13 _ _ e)
    have ob3 := y13 _ _ ob1
    have er3 := y13 _ _ er1
    have kk := ka.trans (Kx.of y13)
    cases st with
    | ask =>
      obtain ⟨r', e', et'⟩ := st1
      cases e'
      rw [et] at et'
      cases et'
      rw [in3_no]
      refine iteF ?_
      refine ⟨_, rfl, o.p, dx, _, rfl, ob3, f_no o m.fy (by decide +kernel), _, rfl, r, _, _, _, rfl, rfl, SqT.of er3, rfl, ⟨o, f0, en, L, es, m, pos + 1, _, rfl, r3, st3, fun H' k' r' => ?_⟩, trivial⟩
      exact q H' (kk.trans k') r'
    | put a1 a2 =>
      obtain ⟨r', _, _, e', et', _⟩ := st1
      cases e'
      rw [et] at et'
      cases et'
      rw [in3_put]
      refine iteT ?_
      refine ⟨_, rfl, o.p, dx, _, rfl, ob3, f_no o m.fy (by decide +kernel), _, rfl, r, _, _, _, rfl, rfl, SqT.of er3, rfl, o, f0, en, L, es, m, pos + 1, _, .put a1 a2, rfl, r3, st3, ok, fun _ e => (by cases e), fun e => (by cases e), htl, fun H' k' r' => ?_⟩
      exact q H' (kk.trans k') r'
    | tell a1 =>
      obtain ⟨r', _, e', et', _⟩ := st1
      cases e'
      rw [et] at et'
      cases et'
      rw [in3_tell]
      refine iteT ?_
      refine ⟨_, rfl, o.p, dx, _, rfl, ob3, f_no o m.fy (by decide +kernel), _, rfl, r, _, _, _, rfl, rfl, SqT.of er3, rfl, o, f0, en, L, es, m, pos + 1, _, .tell a1, rfl, r3, st3, ok, fun _ e => (by cases e), fun e => (by cases e), htl, fun H' k' r' => ?_⟩
      exact q H' (kk.trans k') r'
end
end K49

set_option Elab.async false
set_option linter.all false
set_option maxRecDepth 100000
set_option maxHeartbeats 4000000
namespace K49
open PySem L2
structure Nw (H : Hp) (o : Oa) (f0 L : Addr) : Prop where
  fr : H o.fr = none
  ce : H o.ce = none
  le : H o.le = none
  to : H o.to = none
  f0' : H f0 = none
  l : H L = none
def sp_in (C : Addr) : Sp := fun vs H Q _ => ∃ (p dx t told pl ml g : Addr) (vv xs : List V) (given : List Int) (size : Nat), vs = [.ref p, .ref t, .ref g] ∧ H p = some (.ins C dx []) ∧ H t = some (.tup [.ref told, .ref pl, .ref ml]) ∧ H told = some (.lst vv) ∧ Paired (VarAt H) vv [("num", "at", 1), ("list", "some", (size : Int))] ∧ size ≤ 1000 ∧ H pl = some (.lst []) ∧ H ml = some (.lst xs) ∧ (∀ x ∈ xs, FlS H x) ∧ xs.length ≤ 1000 ∧ H g = some (.lst (given.map V.int)) ∧
  ∀ (o : Oa) (f0 en L : Addr) (es : List V) (H' : Hp), o.p = p → Ru C H' o f0 en [L] es false (cs2 0 L (List.replicate size 0)) given [] 0 true → Paired (EnAt H') es (ens 0 xs) → (∀ b u, H b = some u → b ≠ p → H' b = some u) → Nw H o f0 L → Q .non H'
theorem cells0 {H : Hp} {size : Nat} {cs : Cells} (h : Paired (Cell0 H) [("num", "at", 1), ("list", "some", (size : Int))] cs) : ∃ L, cs = cs2 0 L (List.replicate size 0) ∧ H L = none := by
  cases h with
  | cons a t =>
    cases t with
    | cons b t =>
      cases t
      rename_i c1 c2
      obtain ⟨a1, a2⟩ := a
      obtain ⟨b1, b2⟩ := b
      rw [if_neg (by decide +kernel)] at a2
      rw [if_pos rfl] at b2
      obtain ⟨L, hL, hn⟩ := b2
      rw [Int.toNat_natCast] at hL
      refine ⟨L, ?_, hn⟩
      obtain ⟨n1, v1⟩ := c1
      obtain ⟨n2, v2⟩ := c2
      have a1 : n1 = "at" := a1
      have a2 : v1 = .i 0 := a2
      have b1 : n2 = "some" := b1
      have hL : v2 = .l L (List.replicate size 0) := hL
      rw [a1, a2, b1, hL]; rfl
theorem fld_go {H : Hp} {p : Addr} {o o' : HO} {q : Hp → Prop} (e : H p = some o) (h : ∀ H1, (∀ b u, H b = some u → b ≠ p → H1 b = some u) → (∀ b, H1 b = none → H b = none) → H1 p = some o' → q H1) : q (upd H p o') :=
  h _ (fun b u e n => by rw [upd_ne n]; exact e) (fun b hb => by
    have : b ≠ p := fun z => by rw [z, upd_same] at hb; cases hb
    rw [upd_ne this] at hb; exact hb) upd_same
section
variable {P : Program} {w : World} {K : PySem.W.Frag} {mg : Str → Option Value} {base : Heap}
theorem sc_Meaning___init__ : FnScope ["self", "tree", "given", "counted"] ["self", "tree", "given"] (defScope s_Meaning___init__) := ⟨rfl, rfl, rfl, by decide +kernel, rfl, by decide +kernel, by decide +kernel⟩
theorem ok_init {f f1 f2 f3 f4 f5 MC : Addr} {fd d1 d2 d3 d4 d5 : FuncData} (T : Bt mg) (C : Ct K mg) (T_with_inner : Fn K mg "with_inner" s_with_inner ["body"] f1 d1) (T_inner_bodies : Fn K mg "inner_bodies" s_inner_bodies ["statement", "first"] f2 d2) (T_counted : Fn K mg "counted" s_counted ["body", "first"] f3 d3) (T_counted_tree : Fn K mg "counted_tree" s_counted_tree ["tree"] f4 d4) (T_first_cells : Fn K mg "first_cells" s_first_cells ["variables"] f5 d5) (T_Meaning : Mc K mg MC f fd) : FnOk P w K mg base CX0 6 f fd ["self", "tree", "given"] (sp_in MC) := by
  have G_counted_tree := ok_counted_tree (P := P) (w := w) (base := base) T_counted_tree.F T T_with_inner T_inner_bodies T_counted
  have G_first_cells := ok_first_cells (P := P) (w := w) (base := base) T_first_cells.F T
  refine T_Meaning.F.ok (k := 5) sc_Meaning___init__ (fun vs H Q E h => ?_) (fun cdv A outer s H vs Q E hr h => ?_)
  · obtain ⟨p, dx, t, told, pl, ml, g, vv, xs, given, size, rfl, _⟩ := h; rfl
  · obtain ⟨p, dx, t, told, pl, ml, g, vv, xs, given, size, rfl, ep, et, etl, hvv, hsz, epl, eml, fl, hxl, eg, q⟩ := h
    have hs : sizeLine = 16777216 := sizeLine_eq
    have one : 1 ≤ sizeLine := by omega
    have two : 2 ≤ sizeLine := by omega
    refine ⟨_, (pss_cons (ps_set (i := 3) sc_Meaning___init__.nd rfl (Or.inl rfl) (pe_call G_counted_tree (hr.mono (by decide)) rfl T_counted_tree.m T_counted_tree.F.kp T_counted_tree.b .nil pass0 (pa_consN (pv 1) pa_nil)))
      (pss_cons (ps_fld (pv 0) (pe_callTy (call_dpairs rfl) rfl T.b_dict (by decide +kernel) (pa_consN (pe_ix ix_tup (pv 3) pe_int (fun _ _ => rfl)) pa_nil)) rfl)
      (pss_cons (ps_fld (pv 0) (pe_lst (pa_consN (pe_lst (pa_consN (pe_ix ix_tup (pv 3) pe_int (fun _ _ => rfl)) (pa_consN pe_int pa_nil))) pa_nil)) rfl)
      (pss_cons (ps_fld (pv 0) (pe_call G_first_cells (hr.mono (by decide)) rfl T_first_cells.m T_first_cells.F.kp T_first_cells.b .nil pass0 (pa_consN (pe_ix ix_tup (pv 1) pe_int (fun _ _ => rfl)) pa_nil)) rfl)
      (pss_cons (ps_fld (pv 0) (pe_callTy call_list_of rfl T.b_list (by decide +kernel) (pa_consN (pv 2) pa_nil)) rfl)
      (pss_cons (ps_fld (pv 0) (pe_lst pa_nil) rfl)
      (pss_one (ps_fld (pv 0) pe_bl rfl)))))))), ?_⟩
    refine ⟨_, rfl, t, told, pl, ml, xs, rfl, et, epl, eml, fl, hxl, fun T0 pc lc es H1 s1 hpc hlc eT epc elc pe => ?_⟩
    refine ⟨_, rfl, T0, _, _, _, rfl, rfl, SqT.of eT, rfl, ?_⟩
    refine ⟨pc, [], [], rfl, SqL.of epc, .nil, List.nodup_nil, fun bd hbd => ?_⟩
    have y2 := Same.put (o := .dK []) hbd
    generalize upd H1 bd (.dK []) = H2 at y2 ⊢
    have s2 := s1.trans y2
    have ep2 := s2 _ _ ep
    refine ⟨_, rfl, p, MC, dx, _, rfl, ep2, T_Meaning.cl, T_Meaning.n1, (by show 0 < 1000; decide), ?_⟩
    refine fld_go (q := fun H1 => _) ep2 fun H3 k3 f3 ep3 => ?_
    have tp : t ≠ p := ne_of et ep (by intro z; cases z)
    have T0p : T0 ≠ p := ne_of (y2 _ _ eT) ep2 (by intro z; cases z)
    have k03 : ∀ b u, H b = some u → b ≠ p → H3 b = some u := fun b u e n => k3 _ _ (s2 _ _ e) n
    have f03 : ∀ b, H3 b = none → H b = none := fun b e => s2.free (f3 b e)
    have eT3 := k3 _ _ (y2 _ _ eT) T0p
    have lcp : lc ≠ p := ne_of (y2 _ _ elc) ep2 (by intro z; cases z)
    have elc3 := k3 _ _ (y2 _ _ elc) lcp
    have pe3 : Paired (EnAt H3) es (ens 0 xs) := Paired.mapP pe fun _ _ z => z.keep fun b vs e => k3 _ _ (y2 _ _ e) (ne_of (y2 _ _ e) ep2 (by intro z; cases z))
    refine ⟨_, rfl, T0, _, _, _, rfl, rfl, SqT.of eT3, rfl, two, fun f0 hf0 => ⟨one, fun fr hfr => ?_⟩⟩
    have y4 := Same.put (o := .lst [V.ref lc, V.int 0]) hf0
    have ef0 : upd H3 f0 (.lst [V.ref lc, V.int 0]) f0 = some (.lst [V.ref lc, V.int 0]) := upd_same
    generalize upd H3 f0 (.lst [V.ref lc, V.int 0]) = H4 at y4 ef0 hfr ⊢
    have y5 := Same.put (o := .lst [V.ref f0]) hfr
    have efr : upd H4 fr (.lst [V.ref f0]) fr = some (.lst [V.ref f0]) := upd_same
    generalize upd H4 fr (.lst [V.ref f0]) = H5 at y5 efr ⊢
    have s35 := y4.trans y5
    have ep5 := s35 _ _ ep3
    refine ⟨_, rfl, p, MC, dx, _, rfl, ep5, T_Meaning.cl, T_Meaning.n2, (by have := length_putF "bodies" (.ref bd) []; have h0 : ([] : List (Str × V)).length = 0 := rfl; omega), ?_⟩
    refine fld_go (q := fun H1 => _) ep5 fun H6 k6 f6 ep6 => ?_
    have k36 : ∀ b u, H3 b = some u → b ≠ p → H6 b = some u := fun b u e n => k6 _ _ (s35 _ _ e) n
    have k06 : ∀ b u, H b = some u → b ≠ p → H6 b = some u := fun b u e n => k36 _ _ (k03 _ _ e n) n
    have f36 : ∀ b, H6 b = none → H3 b = none := fun b e => s35.free (f6 b e)
    have f0p : f0 ≠ p := ne_of ef0 (y4 _ _ ep3) (by intro z; cases z)
    have frp : fr ≠ p := ne_of efr ep5 (by intro z; cases z)
    have ef06 := k6 _ _ (y5 _ _ ef0) f0p
    have efr6 := k6 _ _ efr frp
    have elc6 := k36 _ _ elc3 lcp
    have toldp : told ≠ p := ne_of etl ep (by intro z; cases z)
    have hvv6 : Paired (VarAt H6) vv [("num", "at", 1), ("list", "some", (size : Int))] := Paired.mapP hvv fun _ _ ⟨a, e1, e2⟩ => ⟨a, e1, k06 _ _ e2 (ne_of e2 ep (by intro z; cases z))⟩
    refine ⟨_, rfl, t, _, _, _, rfl, rfl, SqT.of (k06 _ _ et tp), rfl, told, vv, _, rfl, k06 _ _ etl toldp, hvv6, (by show 2 ≤ 40; decide), (by show ([("at" : Str), "some"]).Nodup; decide +kernel), ?_, fun ce cs H7 s7 hce ca pc0 nd => ?_⟩
    · intro z hz
      rcases List.mem_cons.mp hz with e | e
      · rw [e]; exact ⟨by decide, by decide⟩
      · rw [List.mem_singleton.mp e]; exact ⟨by show (0 : Int) ≤ (size : Int); omega, by show (size : Int) ≤ 1000; omega⟩
    obtain ⟨L, rfl, hL6⟩ := cells0 pc0
    have eL7 := ca.ls "some" L (List.replicate size 0) (List.mem_cons_of_mem _ (List.mem_singleton.mpr rfl))
    have ep7 := s7 _ _ ep6
    have l2 : (putF "frames" (.ref fr) (putF "bodies" (.ref bd) [])).length < 1000 := by
      have h1 := length_putF "bodies" (.ref bd) []
      have h2 := length_putF "frames" (.ref fr) (putF "bodies" (.ref bd) [])
      have h0 : ([] : List (Str × V)).length = 0 := rfl
      omega
    refine ⟨_, rfl, p, MC, dx, _, rfl, ep7, T_Meaning.cl, T_Meaning.n3, l2, ?_⟩
    refine fld_go (q := fun H1 => _) ep7 fun H8 k8 f8 ep8 => ?_
    have k68 : ∀ b u, H6 b = some u → b ≠ p → H8 b = some u := fun b u e n => k8 _ _ (s7 _ _ e) n
    have gp : g ≠ p := ne_of eg ep (by intro z; cases z)
    have eg8 := k68 _ _ (k06 _ _ eg gp) gp
    refine ⟨_, rfl, g, _, rfl, .inl (SqL.of eg8), fun le hle => ?_⟩
    have y9 := Same.put (o := .lst (given.map V.int)) hle
    have ele : upd H8 le (.lst (given.map V.int)) le = some (.lst (given.map V.int)) := upd_same
    generalize upd H8 le (.lst (given.map V.int)) = H9 at y9 ele ⊢
    have ep9 := y9 _ _ ep8
    have l3 : (putF "cells" (.ref ce) (putF "frames" (.ref fr) (putF "bodies" (.ref bd) []))).length < 1000 := by
      have h3 := length_putF "cells" (.ref ce) (putF "frames" (.ref fr) (putF "bodies" (.ref bd) []))
      have h1 := length_putF "bodies" (.ref bd) []
      have h2 := length_putF "frames" (.ref fr) (putF "bodies" (.ref bd) [])
      have h0 : ([] : List (Str × V)).length = 0 := rfl
      omega
    refine ⟨_, rfl, p, MC, dx, _, rfl, ep9, T_Meaning.cl, T_Meaning.n4, l3, ?_⟩
    refine fld_go (q := fun H1 => _) ep9 fun H10 k10 f10 ep10 => ?_
    refine ⟨Nat.zero_le _, fun to hto => ?_⟩
    have y11 := Same.put (o := .lst []) hto
    have eto : upd H10 to (.lst []) to = some (.lst []) := upd_same
    generalize upd H10 to (.lst []) = H11 at y11 eto ⊢
    have ep11 := y11 _ _ ep10
    have l4 : (putF "left" (.ref le) (putF "cells" (.ref ce) (putF "frames" (.ref fr) (putF "bodies" (.ref bd) [])))).length < 1000 := by
      have h4 := length_putF "left" (.ref le) (putF "cells" (.ref ce) (putF "frames" (.ref fr) (putF "bodies" (.ref bd) [])))
      have h3 := length_putF "cells" (.ref ce) (putF "frames" (.ref fr) (putF "bodies" (.ref bd) []))
      have h1 := length_putF "bodies" (.ref bd) []
      have h2 := length_putF "frames" (.ref fr) (putF "bodies" (.ref bd) [])
      have h0 : ([] : List (Str × V)).length = 0 := rfl
      omega
    refine ⟨_, rfl, p, MC, dx, _, rfl, ep11, T_Meaning.cl, T_Meaning.n5, l4, ?_⟩
    refine fld_go (q := fun H1 => _) ep11 fun H12 k12 f12 ep12 => ?_
    have l5 : (putF "told" (.ref to) (putF "left" (.ref le) (putF "cells" (.ref ce) (putF "frames" (.ref fr) (putF "bodies" (.ref bd) []))))).length < 1000 := by
      have h5 := length_putF "told" (.ref to) (putF "left" (.ref le) (putF "cells" (.ref ce) (putF "frames" (.ref fr) (putF "bodies" (.ref bd) []))))
      have h4 := length_putF "left" (.ref le) (putF "cells" (.ref ce) (putF "frames" (.ref fr) (putF "bodies" (.ref bd) [])))
      have h3 := length_putF "cells" (.ref ce) (putF "frames" (.ref fr) (putF "bodies" (.ref bd) []))
      have h1 := length_putF "bodies" (.ref bd) []
      have h2 := length_putF "frames" (.ref fr) (putF "bodies" (.ref bd) [])
      have h0 : ([] : List (Str × V)).length = 0 := rfl
      omega
    refine ⟨_, rfl, p, MC, dx, _, rfl, ep12, T_Meaning.cl, T_Meaning.n6, l5, ?_⟩
    refine fld_go (q := fun H1 => _) ep12 fun H13 k13 f13 ep13 => ?_
    -- all together
    have k1213 : ∀ b u, H11 b = some u → b ≠ p → H13 b = some u := fun b u e n => k13 _ _ (k12 _ _ e n) n
    have k1013 : ∀ b u, H10 b = some u → b ≠ p → H13 b = some u := fun b u e n => k1213 _ _ (y11 _ _ e) n
    have k913 : ∀ b u, H9 b = some u → b ≠ p → H13 b = some u := fun b u e n => k1013 _ _ (k10 _ _ e n) n
    have k813 : ∀ b u, H8 b = some u → b ≠ p → H13 b = some u := fun b u e n => k913 _ _ (y9 _ _ e) n
    have k713 : ∀ b u, H7 b = some u → b ≠ p → H13 b = some u := fun b u e n => k813 _ _ (k8 _ _ e n) n
    have k613 : ∀ b u, H6 b = some u → b ≠ p → H13 b = some u := fun b u e n => k713 _ _ (s7 _ _ e) n
    have lep : le ≠ p := ne_of ele ep9 (by intro z; cases z)
    have top : to ≠ p := ne_of eto ep11 (by intro z; cases z)
    have cep : ce ≠ p := ne_of ca.ed ep7 (by intro z; cases z)
    have Lp : L ≠ p := ne_of eL7 ep7 (by intro z; cases z)
    have f610 : ∀ b, H8 b = none → H6 b = none := fun b e => s7.free (f8 b e)
    have hle6 : H6 le = none := f610 _ hle
    have hto8 : H8 to = none := y9.free (f10 _ hto)
    have hto6 : H6 to = none := f610 _ hto8
    have f06 : ∀ b, H6 b = none → H b = none := fun b e => f03 b (f36 b e)
    have n1 : ∀ {a b : Addr} {u : HO}, H6 a = some u → H6 b = none → a ≠ b := fun e h z => by rw [z, h] at e; cases e
    have eL8 := k8 _ _ eL7 Lp
    have h7L : H7 le = none := f8 _ hle
    refine q ⟨p, bd, fr, ce, le, to⟩ f0 lc L es H13 rfl ⟨⟨⟨dx, ep13⟩, ⟨k713 _ _ ca.ed cep, fun x a ns m => ?_, ca.nd, ca.ap⟩, ?_⟩, k913 _ _ ele lep, k1213 _ _ eto top, k613 _ _ efr6 frp, k613 _ _ ef06 f0p, k613 _ _ elc6 lcp, ⟨n1 efr6 hle6, n1 efr6 hto6, ?_, ?_, ?_, (n1 ef06 hle6).symm, (n1 elc6 hle6).symm, (n1 ef06 hto6).symm, (n1 elc6 hto6).symm, ?_⟩, fun x a ns m => ?_, fun a ha => ?_⟩ (Paired.mapP pe3 fun _ _ z => z.keep fun b vs e => k613 _ _ (k36 _ _ e (ne_of e ep3 (by intro z; cases z))) (ne_of e ep3 (by intro z; cases z))) (fun b u e n => k613 _ _ (k06 _ _ e n) n) ⟨f03 _ (y4.free hfr), f06 _ hce, f06 _ hle6, f06 _ hto6, f03 _ hf0, f06 _ hL6⟩
    · exact k713 _ _ (ca.ls x a ns m) (ne_of (ca.ls x a ns m) ep7 (by intro z; cases z))
    · intro z hz
      rcases List.mem_cons.mp hz with e | e
      · rw [e]; exact ⟨by decide, by decide⟩
      · rw [List.mem_singleton.mp e]
        refine ⟨by rw [List.length_replicate]; exact hsz, fun n hn => ?_⟩
        rw [(List.mem_replicate.mp hn).2]; exact ⟨by decide, by decide⟩
    · exact fun (z : fr = f0) => by rw [z, ef0] at hfr; cases hfr
    · exact fun (z : fr = lc) => by rw [z, y4 _ _ elc3] at hfr; cases hfr
    · exact fun (z : le = to) => by rw [z] at ele; have := y9.free (f10 _ hto); have hh := f10 _ hto; rw [ele] at hh; cases hh
    · exact fun (z : f0 = lc) => by rw [z, elc3] at hf0; cases hf0
    · rcases List.mem_cons.mp m with z | z
      · cases z
      · have := List.mem_singleton.mp z
        cases this; exact List.mem_singleton.mpr rfl
    · rw [List.mem_singleton.mp ha]
      exact ⟨(n1 efr6 hL6).symm, fun (z : L = le) => (by rw [z, h7L] at eL7; cases eL7), fun (z : L = to) => (by rw [z, hto8] at eL8; cases eL8), (n1 ef06 hL6).symm, (n1 elc6 hL6).symm⟩
end
end K49

set_option Elab.async false
set_option linter.all false
set_option maxRecDepth 100000
set_option maxHeartbeats 4000000
namespace K49
open PySem L2
/-! ### a run -/
def runN (m : M9) : List S9 → Nat → M9 × Nat
  | [], n => (m, n)
  | s :: r, n => if m.fy = true then (m, n) else runN (stp m s) r (n + 1)
def sp_mt (K : PySem.W.Frag) : Sp := fun vs H Q _ => ∃ (t told pl ml g : Addr) (vv xs : List V) (ss : List S9) (given : List Int) (size : Nat), vs = [.ref t, .ref g, .int 200] ∧ H t = some (.tup [.ref told, .ref pl, .ref ml]) ∧ H told = some (.lst vv) ∧ Paired (VarAt H) vv [("num", "at", 1), ("list", "some", (size : Int))] ∧ size ≤ 1000 ∧ H pl = some (.lst []) ∧ H ml = some (.lst xs) ∧ Paired (S9At H) xs ss ∧ (∀ s ∈ ss, s.Ok) ∧ ss.length ≤ 100 ∧ H g = some (.lst (given.map V.int)) ∧
  ∀ (R a c st : Addr) (e : Str) (cs : Cells) (steps : List V) (H' : Hp), Same H H' → H' R = some (.tup [.ref a, .str e, .ref c, .ref st]) →
    H' a = some (.lst ((runN ⟨0, List.replicate size 0, given, [], false⟩ ss 0).1.told.map V.int)) → e = (if (runN ⟨0, List.replicate size 0, given, [], false⟩ ss 0).1.fy = true then "fault" else "ended") → CellsAt H' c cs → cvals cs = [(("at" : Str), Sum.inl (runN ⟨0, List.replicate size 0, given, [], false⟩ ss 0).1.x), (("some" : Str), Sum.inr (runN ⟨0, List.replicate size 0, given, [], false⟩ ss 0).1.kept)] →
    H' st = some (.lst steps) → Paired (fun v (k : Int) => ∃ (T x y : Addr), v = .ref T ∧ H' T = some (.tup [.int k, .ref x, .ref y])) steps ((List.range (runN ⟨0, List.replicate size 0, given, [], false⟩ ss 0).2).map fun n : Nat => (n : Int)) → Q (.ref R) H'
/-- none of the object's own places -/
structure Out (o : Oa) (f0 L b : Addr) : Prop where
  p : b ≠ o.p
  fr : b ≠ o.fr
  le : b ≠ o.le
  to : b ≠ o.to
  ce : b ≠ o.ce
  f0' : b ≠ f0
  l : b ∉ [L]
theorem Ru.out {C : Addr} {H : Hp} {o : Oa} {f0 en L : Addr} {es : List V} {fy : Bool} {x : Int} {kept left told : List Int} {pos : Nat} {on : Bool} (h : Ru C H o f0 en [L] es fy (cs2 x L kept) left told pos on) {b : Addr} (hb : H b = none) : Out o f0 L b := by
  obtain ⟨dx, ob⟩ := h.ma.ob
  have n : ∀ {a : Addr} {u : HO}, H a = some u → b ≠ a := fun e z => by rw [z, e] at hb; cases hb
  have eL := h.ma.ec.ls "some" L kept (List.mem_cons_of_mem _ (List.mem_singleton.mpr rfl))
  exact ⟨n ob, n h.ef, n h.el, n h.et, n h.ma.ec.ed, n h.e0, fun z => n eL (List.mem_singleton.mp z)⟩
theorem Kx.keep {o : Oa} {f0 L b : Addr} {H H' : Hp} (k : Kx o f0 [L] H H') (n : Out o f0 L b) {u : HO} (e : H b = some u) : H' b = some u := k b u e n.p n.fr n.le n.to n.ce n.f0' n.l
theorem Ru.tups {C : Addr} {H H' : Hp} {o : Oa} {f0 en L : Addr} {es : List V} {fy : Bool} {x : Int} {kept left told : List Int} {pos : Nat} {on : Bool} (h : Ru C H o f0 en [L] es fy (cs2 x L kept) left told pos on) (k : Kx o f0 [L] H H') : ∀ b vs, H b = some (.tup vs) → H' b = some (.tup vs) :=
  Kx.tup h (fun a ha => by rw [List.mem_singleton.mp ha]; exact ⟨_, h.ma.ec.ls "some" L kept (List.mem_cons_of_mem _ (List.mem_singleton.mpr rfl))⟩) k
/-- what was there ahead of the object stays -/
theorem Kx.same {o : Oa} {f0 L : Addr} {H0 H H' : Hp} (s : Same H0 H) (n : Nw H0 o f0 L) (np : H0 o.p = none) (k : Kx o f0 [L] H H') : Same H0 H' := fun b u e =>
  k b u (s b u e) (ne_of_none e np) (ne_of_none e n.fr) (ne_of_none e n.le) (ne_of_none e n.to) (ne_of_none e n.ce) (ne_of_none e n.f0') (fun z => ne_of_none e n.l (List.mem_singleton.mp z))
def StAt (H : Hp) (v : V) (k : Int) : Prop := ∃ (T x y : Addr), v = .ref T ∧ H T = some (.tup [.int k, .ref x, .ref y])
theorem ens_get {xs : List V} {k : Int} {j : Nat} {v : V} (h : xs[j]? = some v) : (ens k xs)[j]? = some (k + (j : Int), v) := by
  induction xs generalizing k j with
  | nil => cases h
  | cons x r ih =>
    cases j with
    | zero => cases h; show some (k, v) = _; rw [Int.natCast_zero, Int.add_zero]
    | succ j =>
      have := ih (k := k + 1) (j := j) h
      show (ens (k + 1) r)[j]? = _
      rw [this, show k + 1 + (j : Int) = k + ((j + 1 : Nat) : Int) by omega]
theorem ens_len : ∀ (k : Int) (xs : List V), (ens k xs).length = xs.length
  | _, [] => rfl
  | k, x :: r => congrArg Nat.succ (ens_len (k + 1) r)
theorem stp_told (m : M9) (s : S9) : (stp m s).told.length ≤ m.told.length + 1 := by
  unfold stp
  split
  · split <;> exact Nat.le_succ _
  · split <;> exact Nat.le_succ _
  · split
    · show (m.told ++ [_]).length ≤ _; rw [List.length_append]; exact Nat.le_refl _
    · exact Nat.le_succ _
theorem run_end {m : M9} {ss : List S9} {n : Nat} (h : ss = [] ∨ m.fy = true) : runN m ss n = (m, n) := by
  rcases h with h | h
  · rw [h]; rfl
  · cases ss with
    | nil => rfl
    | cons s r => show (if m.fy = true then (m, n) else _) = _; rw [if_pos h]
section
variable {P : Program} {w : World} {K : PySem.W.Frag} {mg : Str → Option Value} {base : Heap}
theorem sc_meant : FnScope ["tree", "given", "most", "meaning", "steps"] ["tree", "given", "most"] (defScope s_meant) := ⟨rfl, rfl, rfl, by decide +kernel, rfl, by decide +kernel, by decide +kernel⟩
theorem ok_meant {x0 x1 x2 x3 x4 x5 x6 x7 x8 x9 x10 x11 x12 x13 fi MC : Addr} {e0 e1 e2 e3 e4 e5 e6 e7 e8 e9 e10 e11 e12 e13 di : FuncData} {g1 g2 g3 g4 g5 g6 g7 g8 g9 g10 : Addr} {c1 c2 c3 c4 c5 c6 c7 c8 c9 c10 : FuncData} (T : Bt mg) (C : Ct K mg) (T_with_inner : Fn K mg "with_inner" s_with_inner ["body"] x0 e0) (T_inner_bodies : Fn K mg "inner_bodies" s_inner_bodies ["statement", "first"] x1 e1) (T_counted : Fn K mg "counted" s_counted ["body", "first"] x2 e2) (T_counted_tree : Fn K mg "counted_tree" s_counted_tree ["tree"] x3 e3) (T_signed : Fn K mg "signed" s_signed ["number"] x4 e4) (T_joined : Fn K mg "joined" s_joined ["op", "one", "another"] x5 e5) (T_first_cells : Fn K mg "first_cells" s_first_cells ["variables"] x6 e6) (T_copied : Fn K mg "copied" s_copied ["cells"] x7 e7) (T_meant : Fn K mg "meant" s_meant ["tree", "given", "most"] x8 e8) (T_law_cell_at : Fn K mg "_law_cell_at" s_law_cell_at ["_law_script", "_law_k"] x9 e9) (T_law_mixed : Fn K mg "_law_mixed" s_law_mixed ["_law_number", "_law_k"] x10 e10) (T_law_stream : Fn K mg "_law_stream" s_law_stream ["_law_cell"] x11 e11) (T_law_take : Fn K mg "_law_take" s_law_take ["_law_stream_here", "_law_size"] x12 e12) (T_law_deed : Fn K mg "_law_deed" s_law_deed ["_law_stream_here", "_law_size"] x13 e13) (T_Meaning : Mc K mg MC fi di) (T_Meaning_is_going : Mt K MC "is_going" "Meaning.is_going" s_Meaning_is_going ["self"] g1 c1) (T_Meaning_end_so_far : Mt K MC "end_so_far" "Meaning.end_so_far" s_Meaning_end_so_far ["self"] g2 c2) (T_Meaning_next_entry : Mt K MC "next_entry" "Meaning.next_entry" s_Meaning_next_entry ["self"] g3 c3) (T_Meaning_step_ahead : Mt K MC "step_ahead" "Meaning.step_ahead" s_Meaning_step_ahead ["self"] g4 c4) (T_Meaning_value_of : Mt K MC "value_of" "Meaning.value_of" s_Meaning_value_of ["self", "expr"] g5 c5) (T_Meaning_place_in : Mt K MC "place_in" "Meaning.place_in" s_Meaning_place_in ["self", "name", "expr"] g6 c6) (T_Meaning_do_next : Mt K MC "do_next" "Meaning.do_next" s_Meaning_do_next ["self"] g7 c7) (T_Meaning_choose : Mt K MC "choose" "Meaning.choose" s_Meaning_choose ["self", "entry"] g8 c8) (T_Meaning_do_with_value : Mt K MC "do_with_value" "Meaning.do_with_value" s_Meaning_do_with_value ["self", "statement"] g9 c9) (T_Meaning_do_plain : Mt K MC "do_plain" "Meaning.do_plain" s_Meaning_do_plain ["self", "statement"] g10 c10) : FnOk P w K mg base CX0 11 x8 e8 ["tree", "given", "most"] (sp_mt K) := by
  have G_Meaning___init__ := ok_init (P := P) (w := w) (base := base) T C T_with_inner T_inner_bodies T_counted T_counted_tree T_first_cells T_Meaning
  have G_Meaning_is_going := ok_is_going (P := P) (w := w) (base := base) T C T_Meaning T_Meaning_is_going
  have G_Meaning_step_ahead := ok_step_ahead (P := P) (w := w) (base := base) T C T_copied T_Meaning T_Meaning_next_entry T_Meaning_step_ahead
  have G_Meaning_do_next := ok_do_next (P := P) (w := w) (base := base) T C T_signed T_joined T_Meaning T_Meaning_next_entry T_Meaning_value_of T_Meaning_place_in T_Meaning_choose T_Meaning_do_with_value T_Meaning_do_plain T_Meaning_do_next
  have G_Meaning_end_so_far := ok_end_so_far (P := P) (w := w) (base := base) T C T_Meaning T_Meaning_is_going T_Meaning_end_so_far
  have G_copied := ok_copied (P := P) (w := w) (base := base) T_copied.F T
  refine T_meant.F.ok (k := 10) sc_meant (fun vs H Q E h => ?_) (fun cdv A outer s H vs Q E hr h => ?_)
  · obtain ⟨t, told, pl, ml, g, vv, xs, ss, given, size, rfl, _⟩ := h; rfl
  · obtain ⟨t, told, pl, ml, g, vv, xs, ss, given, size, rfl, et, etl, hvv, hsz, epl, eml, hxs, hok, hlen, eg, q⟩ := h
    have hs : sizeLine = 16777216 := sizeLine_eq
    refine ⟨_, (pss_cons (ps_set (i := 3) sc_meant.nd rfl (Or.inl rfl) (pe_make T_Meaning.mks G_Meaning___init__ (hr.mono (by decide)) rfl T_Meaning.mg T_Meaning.b .nil pass0 (pa_consN (pv 0) (pa_consN (pv 1) pa_nil))))
      (pss_cons (ps_set (i := 4) sc_meant.nd rfl (Or.inl rfl) (pe_lst pa_nil))
      (pss_cons (ps_while PassesOwn.never (PW.pt (pw_and (pt_cmpR op_lt (pe_callB call_len_seq rfl T.b_len (by decide +kernel) (pa_consN (pv 4) pa_nil)) (pv 2) (nomark _)) (pw_and1 (pt_val (pe_meth0 (pv 3) T_Meaning.cl T_Meaning_is_going.me G_Meaning_is_going (hr.mono (by decide)) T_Meaning_is_going.b .nil pass0)))))
        (pss_cons (ps_expr (pe_bm PySem.F.plainAttrs_list PySem.F.slot_list_append PySem.F.type_list_append mt_append (pv 4) (pa_consN (pe_meth0 (pv 3) T_Meaning.cl T_Meaning_step_ahead.me G_Meaning_step_ahead (hr.mono (by decide)) T_Meaning_step_ahead.b .nil pass0) pa_nil)))
        (pss_one (ps_expr (pe_meth0 (pv 3) T_Meaning.cl T_Meaning_do_next.me G_Meaning_do_next (hr.mono (by decide)) T_Meaning_do_next.b .nil pass0)))))
      (pss_one (ps_ret (pe_tup (pa_consN (pe_callTy call_list_of rfl T.b_list (by decide +kernel) (pa_consN (pe_fld (pv 3) rfl) pa_nil)) (pa_consN (pe_meth0 (pv 3) T_Meaning.cl T_Meaning_end_so_far.me G_Meaning_end_so_far (hr.mono (by decide)) T_Meaning_end_so_far.b .nil pass0) (pa_consN (pe_call G_copied (hr.mono (by decide)) rfl T_copied.m T_copied.F.kp T_copied.b .nil pass0 (pa_consN (pe_fld (pv 3) rfl) pa_nil)) (pa_consN (pv 4) pa_nil)))))))))), ?_⟩
    have lxs : xs.length = ss.length := hxs.length
    refine ⟨_, rfl, _, rfl, fun p dx hp hdx hne => ?_⟩
    have y0 : Same H (upd (upd H dx (.own p)) p (.ins MC dx [])) := fun b u e => by rw [upd_ne (ne_of_none e hp), upd_ne (ne_of_none e hdx)]; exact e
    have ep0 : upd (upd H dx (.own p)) p (.ins MC dx []) p = some (.ins MC dx []) := upd_same
    generalize upd (upd H dx (.own p)) p (.ins MC dx []) = H0 at y0 ep0 ⊢
    refine ⟨p, dx, t, told, pl, ml, g, vv, xs, given, size, rfl, ep0, y0 _ _ et, y0 _ _ etl, Paired.mapP hvv fun _ _ ⟨a, e1, e2⟩ => ⟨a, e1, y0 _ _ e2⟩, hsz, y0 _ _ epl, y0 _ _ eml, ?_, by omega, y0 _ _ eg, fun o f0 en L es H1 hop ru0 pe0 k01 nw => ⟨rfl, ?_⟩⟩
    · intro x hx
      obtain ⟨j, hj⟩ := List.getElem?_of_mem hx
      obtain ⟨s9, _, h9⟩ := paired_at hxs hj
      exact (h9.keep fun b vs e => y0 _ _ e).fl
    have s01 : Same H H1 := fun b u e => k01 _ _ (y0 _ _ e) (ne_of_none e hp)
    have nwH : Nw H o f0 L := ⟨y0.free nw.fr, y0.free nw.ce, y0.free nw.le, y0.free nw.to, y0.free nw.f0', y0.free nw.l⟩
    have npH : H o.p = none := by rw [hop]; exact hp
    have les : es.length = xs.length := by rw [pe0.length, ens_len]
    refine ⟨Nat.zero_le _, fun st hst => ?_⟩
    have y2 := Same.put (o := .lst []) hst
    have est : upd H1 st (.lst []) st = some (.lst []) := upd_same
    have outS := ru0.out hst
    generalize upd H1 st (.lst []) = H2 at y2 est ⊢
    obtain ⟨m0, hm0⟩ : ∃ z : M9, z = ⟨0, List.replicate size 0, given, [], false⟩ := ⟨_, rfl⟩
    rw [← hm0] at q
    have ru2 : Rn MC H2 o f0 en L es m0 0 true := by rw [hm0]; exact ru0.same y2
    have stn : H st = none := s01.free hst
    rw [← hop]
    refine ⟨fun k σ H3 => ∃ (j : Nat) (m : M9) (steps : List V), σ = [some (.ref t), some (.ref g), some (.int 200), some (.ref o.p), some (.ref st)] ∧ k + j = ss.length ∧ runN m0 ss 0 = runN m (ss.drop j) j ∧ Rn MC H3 o f0 en L es m j true ∧ H3 st = some (.lst steps) ∧ Paired (StAt H3) steps ((List.range j).map fun n : Nat => (n : Int)) ∧ Paired (EnAt H3) es (ens 0 xs) ∧ Paired (S9At H3) xs ss ∧ Same H H3 ∧ m.told.length ≤ j, ⟨ss.length, 0, m0, [], rfl, rfl, rfl, ru2, est, .nil, Paired.mapP pe0 fun _ _ z => z.keep fun b vs e => y2 _ _ e, Paired.mapP hxs fun _ _ z => z.keep fun b vs e => y2 _ _ (s01 _ _ e), s01.trans y2, by rw [hm0]; exact Nat.zero_le _⟩, ?_⟩
    rintro k σ H3 ⟨j, m, steps, rfl, hkj, hrun, ru3, es3, ps3, pe3, px3, s3, ht3⟩
    have lst : steps.length = j := by rw [ps3.length, List.length_map, List.length_range]
    obtain ⟨dx3, ob3⟩ := ru3.ma.ob
    refine ⟨_, rfl, st, _, rfl, .inl (SqL.of es3), _, rfl, _, _, rfl, rfl, _, rfl, itDP (by show ((steps.length : Nat) : Int) < 200; omega) ?_⟩
    refine ⟨_, rfl, o.p, dx3, _, rfl, ob3, f_no o m.fy (by decide +kernel), o, f0, en, [L], es, m.fy, cs2 m.x L m.kept, m.left, m.told, j, true, rfl, ru3, by omega, fun H4 k4 _ r4 _ => ⟨_, rfl, ?_⟩⟩
    have s4 := Kx.same s3 nwH npH k4
    have tp4 := ru3.tups k4
    have pe4 : Paired (EnAt H4) es (ens 0 xs) := Paired.mapP pe3 fun _ _ z => z.keep tp4
    have px4 : Paired (S9At H4) xs ss := Paired.mapP px3 fun _ _ z => z.keep tp4
    have ps4 : Paired (StAt H4) steps ((List.range j).map fun n : Nat => (n : Int)) := Paired.mapP ps3 fun _ _ ⟨T, x, y, e1, e2⟩ => ⟨T, x, y, e1, tp4 _ _ e2⟩
    have es4 := k4.keep outS es3
    obtain ⟨bb, hbb⟩ : ∃ z, ((true && decide (j ≠ es.length)) && !m.fy) = z := ⟨_, rfl⟩
    rw [hbb]
    cases bb with
    | true =>
      obtain ⟨h1, h2⟩ := Bool.and_eq_true _ _ ▸ hbb
      have hj : j ≠ es.length := of_decide_eq_true ((Bool.true_and _).symm.trans h1)
      have hfy : m.fy = false := by cases hm : m.fy with | false => rfl | true => rw [hm] at h2; cases h2
      have hjl : j < ss.length := by omega
      rw [h1] at r4
      refine iteT ?_
      -- the step
      have hjx : xs[j]? = some xs[j] := List.getElem?_eq_getElem (by omega)
      have hje : es[j]? = some es[j] := List.getElem?_eq_getElem (by omega)
      obtain ⟨pr, hpr, hen⟩ := paired_at pe4 hje
      rw [ens_get hjx] at hpr
      cases hpr
      obtain ⟨s9, hs9, hat⟩ := paired_at px4 hjx
      have hdr : ss.drop j = s9 :: ss.drop (j + 1) := by
        rw [List.drop_eq_getElem_cons hjl]
        rw [List.getElem?_eq_getElem hjl] at hs9
        cases hs9; rfl
      have hrun2 : runN m0 ss 0 = runN (stp m s9) (ss.drop (j + 1)) (j + 1) := by
        rw [hrun, hdr]
        show (if m.fy = true then _ else _) = _
        rw [hfy]; rfl
      refine ⟨fun σ' H' => ∃ (steps : List V), σ' = [some (.ref t), some (.ref g), some (.int 200), some (.ref o.p), some (.ref st)] ∧ Rn MC H' o f0 en L es (stp m s9) (j + 1) true ∧ H' st = some (.lst steps) ∧ Paired (StAt H') steps ((List.range (j + 1)).map fun n : Nat => (n : Int)) ∧ Paired (EnAt H') es (ens 0 xs) ∧ Paired (S9At H') xs ss ∧ Same H H', ?_, ?_⟩
      · rintro σ' H' ⟨steps', rfl, r', e', p', pe', px', s'⟩
        exact ⟨k - 1, by omega, j + 1, stp m s9, steps', rfl, by omega, hrun2, r', e', p', pe', px', s', by have := stp_told m s9; omega⟩
      obtain ⟨dx4, ob4⟩ := r4.ma.ob
      refine ⟨_, rfl, .inl ⟨rfl, _, SqL.of es4⟩, _, rfl, o.p, dx4, _, rfl, ob4, f_no o m.fy (by decide +kernel), o, f0, en, L, es, m, j, _, _, _, rfl, r4, hje, hen, fun T0 a0 b0 H5 s5 eT0 => ?_⟩
      have es5 := s5 _ _ es4
      refine ⟨st, _, _, rfl, rfl, es5, by omega, ?_⟩
      have r5 := r4.same s5
      have k6 : Kl st H5 (upd H5 st (.lst (steps ++ [V.ref T0]))) := Kl.one
      have e6 : upd H5 st (.lst (steps ++ [V.ref T0])) st = some (.lst (steps ++ [V.ref T0])) := upd_same
      generalize upd H5 st (.lst (steps ++ [V.ref T0])) = H6 at k6 e6 ⊢
      have r6 : Rn MC H6 o f0 en L es m j true := by
        obtain ⟨dx5, ob5⟩ := r5.ma.ob
        have hc := r5.ma.ec
        exact ⟨⟨⟨dx5, k6 _ _ ob5 outS.p.symm⟩, ⟨k6 _ _ hc.ed outS.ce.symm, fun x a ns h => k6 _ _ (hc.ls x a ns h) (fun z => outS.l (z ▸ r5.cl x a ns h)), hc.nd, hc.ap⟩, r5.ma.ok⟩, k6 _ _ r5.el outS.le.symm, k6 _ _ r5.et outS.to.symm, k6 _ _ r5.ef outS.fr.symm, k6 _ _ r5.e0 outS.f0'.symm, k6 _ _ r5.ee (fun z => by have := ru0.ee; rw [z, hst] at this; cases this), r5.ax, r5.cl, r5.nl⟩
      have tp6 : ∀ b vs, H4 b = some (.tup vs) → H6 b = some (.tup vs) := fun b vs e => k6 _ _ (s5 _ _ e) (ne_of (s5 _ _ e) es5 (by intro z; cases z))
      have s6 : Same H H6 := Kl.same (s4.trans s5) stn k6
      obtain ⟨dx6, ob6⟩ := r6.ma.ob
      have hen6 : EnAt H6 es[j] ((0 : Int) + (j : Int), xs[j]) := hen.keep tp6
      have hok9 := hok s9 (List.mem_of_getElem? hs9)
      refine ⟨_, rfl, o.p, dx6, _, rfl, ob6, f_no o m.fy (by decide +kernel), o, f0, en, L, es, m, j, _, _, _, s9, rfl, r6, hje, hen6, hat.keep tp6, hok9, by omega, fun H7 k7 r7 => ?_⟩
      have tp7 := r6.tups k7
      refine ⟨steps ++ [V.ref T0], rfl, r7, k7.keep outS e6, ?_, Paired.mapP pe4 fun _ _ z => (z.keep tp6).keep tp7, Paired.mapP px4 fun _ _ z => (z.keep tp6).keep tp7, Kx.same s6 nwH npH k7⟩
      rw [List.range_succ, List.map_append]
      refine Paired.app (Paired.mapP ps4 fun _ _ ⟨T, x, y, e1, e2⟩ => ⟨T, x, y, e1, tp7 _ _ (tp6 _ _ e2)⟩) (.cons ⟨T0, a0, b0, rfl, ?_⟩ .nil)
      have eT6 := k6 _ _ eT0 (ne_of eT0 es5 (by intro z; cases z))
      have e7 := tp7 _ _ eT6
      rw [Int.zero_add] at e7
      exact e7
    | false =>
      refine iteF ?_
      have hend : runN m0 ss 0 = (m, j) := by
        rw [hrun]
        refine run_end ?_
        cases hm : m.fy with
        | true => exact .inr rfl
        | false =>
          rw [hm] at hbb
          have : decide (j ≠ es.length) = false := by simpa using hbb
          have hje : j = es.length := by
            have := of_decide_eq_false this
            exact Decidable.of_not_not this
          exact .inl (List.drop_eq_nil_of_le (by omega))
      rw [hend] at q
      obtain ⟨dx4, ob4⟩ := r4.ma.ob
      refine ⟨_, rfl, o.p, MC, dx4, _, _, rfl, ob4, T_Meaning.cl, T_Meaning.n5, f_told o m.fy, o.to, _, rfl, .inl (SqL.of r4.et), fun a ha => ?_⟩
      have y5 := Same.put (o := .lst (m.told.map V.int)) ha
      have ea5 : upd H4 a (.lst (m.told.map V.int)) a = some (.lst (m.told.map V.int)) := upd_same
      have outA := r4.out ha
      generalize upd H4 a (.lst (m.told.map V.int)) = H5 at y5 ea5 ⊢
      have r5 := r4.same y5
      refine ⟨_, rfl, o.p, dx4, _, rfl, y5 _ _ ob4, f_no o m.fy (by decide +kernel), o, f0, en, L, es, m, j, _, rfl, r5, by omega, fun H6 k6 r6 => ?_⟩
      have tp6 := r5.tups k6
      obtain ⟨dx6, ob6⟩ := r6.ma.ob
      refine ⟨_, rfl, o.p, MC, dx6, _, _, rfl, ob6, T_Meaning.cl, T_Meaning.n3, f_cells o m.fy, o.ce, _, rfl, r6.ma.ec, by show 2 ≤ 40; decide, fun c cs H7 s7 hc7 ca7 hw7 => ⟨_, rfl, (by show 4 ≤ sizeLine; omega), fun R hR => ?_⟩⟩
      have y8 := Same.put (o := .tup [V.ref a, V.str (if m.fy = true then "fault" else if ((true && decide (j ≠ es.length)) && decide (j ≠ es.length)) = true then "going" else "ended"), V.ref c, V.ref st]) hR
      have s68 := s7.trans y8
      refine q R a c st _ cs steps _ ((Kx.same (s4.trans y5) nwH npH k6).trans s68) upd_same (s68 _ _ (k6.keep outA ea5)) ?_ (ca7.same y8) hw7 (s68 _ _ (k6.keep outS (y5 _ _ es4))) (Paired.mapP ps4 fun _ _ ⟨T, x, y, e1, e2⟩ => ⟨T, x, y, e1, s68 _ _ (tp6 _ _ (y5 _ _ e2))⟩)
      cases hm : m.fy with
      | true => rfl
      | false =>
        rw [hm] at hbb
        have hd : decide (j ≠ es.length) = false := by simpa using hbb
        rw [hd]; rfl
end
end K49

set_option Elab.async false
set_option linter.all false
set_option maxRecDepth 100000
set_option maxHeartbeats 4000000
namespace K49
open PySem L2
/-! ### a deed -/
structure D9 where
  pt : Bool
  far : Bool
  pl : Int
  num : Int
def whE (size : Int) (far : Bool) : Ex := if far = true then .pl "some" (.num (size - 1)) else .nam "at"
def row2 (size : Int) (d : D9) : S9 := if d.pt = true then .put (whE size d.far) (.num d.num) else .tell (.pl "some" (whE size d.far))
structure DdAt (H : Hp) (size : Int) (R : Addr) (d : D9) (rr : Addr) (v1 v2 : V) (dd wr : Addr) : Prop where
  eR : H R = some (.tup [.ref rr, .int d.pl, .ref dd])
  er : H rr = some (.lst [v1, v2])
  s1 : S9At H v1 .ask
  s2 : S9At H v2 (row2 size d)
  ed : H dd = some (.tup [.str (if d.pt = true then "put" else "tell"), .ref wr, .int (if d.pt = true then d.num else 0)])
  ew : ∃ us, H wr = some (.tup (.str (if d.far = true then "at" else "name") :: us))
structure D9.Ok (d : D9) : Prop where
  p0 : 0 ≤ d.pl
  p1 : d.pl < 65536
  n0 : 0 ≤ d.num
  n1 : d.num < 4096
def sp_deed : Sp := fun vs H Q _ => ∃ (a : Addr) (size : Int), vs = [.ref a, .int size] ∧ Stm H a 0 ∧ 1 ≤ size ∧ size ≤ 99 ∧ ∀ (d : D9) (R rr : Addr) (v1 v2 : V) (dd wr : Addr) (H' : Hp), Kl a H H' → DdAt H' size R d rr v1 v2 dd wr → d.Ok → Q (.ref R) H'
theorem row2_ok (size : Int) (d : D9) : (row2 size d).Ok := by
  unfold row2 whE
  cases d.pt <;> cases d.far
  · exact ⟨⟨rfl, rfl⟩, by show 1 ≤ 2; decide⟩
  · exact ⟨⟨rfl, rfl, trivial⟩, by show 2 ≤ 2; decide⟩
  · exact ⟨rfl, trivial, by show 0 ≤ 2; decide, by show 0 ≤ 2; decide⟩
  · exact ⟨⟨rfl, trivial⟩, trivial, by show 1 ≤ 2; decide, by show 0 ≤ 2; decide⟩
def ns19 (v size : Int) : List Int := List.replicate 12 v ++ [size - 1, size, size + 1, 32767, 32768, 65535, 65536 - size]
theorem ns_bd {v size : Int} (h0 : 0 ≤ v) (h1 : v < size) (z1 : 1 ≤ size) (z2 : size ≤ 99) : ∀ n ∈ ns19 v size, 0 ≤ n ∧ n < 65536 := by
  intro n hn
  rcases List.mem_append.mp hn with h | h
  · rw [(List.mem_replicate.mp h).2]; omega
  · simp only [List.mem_cons, List.not_mem_nil, or_false] at h
    rcases h with rfl | rfl | rfl | rfl | rfl | rfl | rfl <;> omega
theorem ns_at {ns : List Int} {i : Int} (h0 : 0 ≤ i) (h1 : i < (ns.length : Int)) : ∃ n ∈ ns, atI (ns.map V.int) i = some (.int n) := by
  obtain ⟨j, rfl⟩ : ∃ j : Nat, i = (j : Int) := ⟨i.toNat, by omega⟩
  have hj : j < ns.length := by omega
  exact ⟨ns[j], List.getElem_mem _, atI_nat (by rw [List.getElem?_map, List.getElem?_eq_getElem hj]; rfl)⟩
section
variable {P : Program} {w : World} {K : PySem.W.Frag} {mg : Str → Option Value} {base : Heap}
theorem sc_law_deed : FnScope ["_law_stream_here", "_law_size", "_law_some", "_law_place", "_law_number", "_law_which", "_law_where"] ["_law_stream_here", "_law_size"] (defScope s_law_deed) := ⟨rfl, rfl, rfl, by decide +kernel, rfl, by decide +kernel, by decide +kernel⟩
theorem deed_C {f : Addr} {cdv : Value} {A : Around} {outer : List Env} {s : Shared} {H0 : Hp} {E : XK} (hr : Room 2 (A.deeper (PyProof.Rows.envOfC "_law_deed" (defScope s_law_deed) s.heap.objs.size f cdv))) :
    ∃ u, PSs (cxOf CX0 P w K mg base ["_law_stream_here", "_law_size", "_law_some", "_law_place", "_law_number", "_law_which", "_law_where"] "_law_deed" (defScope s_law_deed) f cdv A outer s H0 E).nox ((defBody s_law_deed).drop 6) u ∧
      ∀ (D : Ends) (v2 : Option V) (a wr : Addr) (size pl num which : Int) (far : Bool) (H : Hp), ExAt H (whE size far) (.ref wr) → (∃ us, H wr = some (.tup (.str (if far = true then "at" else "name") :: us))) → (∀ (d : D9) (R rr : Addr) (v1 v2 : V) (dd wr : Addr) (H' : Hp), Same H H' → DdAt H' size R d rr v1 v2 dd wr → d.pl = pl → d.num = num → D.rt (.ref R) H') →
        u D [some (.ref a), some (.int size), v2, some (.int pl), some (.int num), some (.int which), some (.ref wr)] H := by
  refine ⟨_, (@pss_cons _ _ _ _ _ (@ps_if _ _ _ _ _ _ _ _ (pt_cmpR op_lt (pv 5) pe_int (nomark _))
        (@pss_one _ _ _ (@ps_ret _ _ _ _ (@pe_tup _ _ _ _ _ (@pa_consN _ _ _ _ _ (@pe_lst _ _ _ _ (@pa_consN _ _ _ _ _ (@pe_tup _ _ _ _ _ (@pa_consN _ _ _ _ _ pe_str (@pa_consN _ _ _ _ _ pe_str pa_nil rfl) rfl)) (@pa_consN _ _ _ _ _ (@pe_tup _ _ _ _ _ (@pa_consN _ _ _ _ _ pe_str (@pa_consN _ _ _ _ _ pe_str (@pa_consN _ _ _ _ _ (pv 6) (@pa_consN _ _ _ _ _ (@pe_tup _ _ _ _ _ (@pa_consN _ _ _ _ _ pe_str (@pa_consN _ _ _ _ _ (pv 4) pa_nil rfl) rfl)) pa_nil rfl) rfl) rfl) rfl)) pa_nil rfl) rfl)) (@pa_consN _ _ _ _ _ (pv 3) (@pa_consN _ _ _ _ _ (@pe_tup _ _ _ _ _ (@pa_consN _ _ _ _ _ pe_str (@pa_consN _ _ _ _ _ (pv 6) (@pa_consN _ _ _ _ _ (pv 4) pa_nil rfl) rfl) rfl)) pa_nil rfl) rfl) rfl))))
        pss_nil)
      (@pss_one _ _ _ (@ps_ret _ _ _ _ (@pe_tup _ _ _ _ _ (@pa_consN _ _ _ _ _ (@pe_lst _ _ _ _ (@pa_consN _ _ _ _ _ (@pe_tup _ _ _ _ _ (@pa_consN _ _ _ _ _ pe_str (@pa_consN _ _ _ _ _ pe_str pa_nil rfl) rfl)) (@pa_consN _ _ _ _ _ (@pe_tup _ _ _ _ _ (@pa_consN _ _ _ _ _ pe_str (@pa_consN _ _ _ _ _ (@pe_tup _ _ _ _ _ (@pa_consN _ _ _ _ _ pe_str (@pa_consN _ _ _ _ _ pe_str (@pa_consN _ _ _ _ _ (pv 6) pa_nil rfl) rfl) rfl)) pa_nil rfl) rfl)) pa_nil rfl) rfl)) (@pa_consN _ _ _ _ _ (pv 3) (@pa_consN _ _ _ _ _ (@pe_tup _ _ _ _ _ (@pa_consN _ _ _ _ _ pe_str (@pa_consN _ _ _ _ _ (pv 6) (@pa_consN _ _ _ _ _ pe_int pa_nil rfl) rfl) rfl)) pa_nil rfl) rfl) rfl))))), ?_⟩
  intro D v2 a wr size pl num which far H hw ⟨us, ew⟩ q
  have hs : sizeLine = 16777216 := sizeLine_eq
  have two : 2 ≤ sizeLine := by omega
  have three : 3 ≤ sizeLine := by omega
  have four : 4 ≤ sizeLine := by omega
  refine ⟨_, rfl, _, _, rfl, rfl, _, rfl, ite2 (fun h => ?_) (fun h => ?_)⟩
  · refine ⟨two, fun p1 h1 => ?_⟩
    have y1 := Same.put (o := .tup [V.str "ask", V.str "at"]) h1
    have e1 : upd H p1 (.tup [V.str "ask", V.str "at"]) p1 = some (.tup [V.str "ask", V.str "at"]) := upd_same
    generalize upd H p1 (.tup [V.str "ask", V.str "at"]) = H1 at y1 e1 ⊢
    refine ⟨_, rfl, _, rfl, two, fun p2 h2 => ?_⟩
    have y2 := Same.put (o := .tup [V.str "num", V.int num]) h2
    have e2 : upd H1 p2 (.tup [V.str "num", V.int num]) p2 = some (.tup [V.str "num", V.int num]) := upd_same
    generalize upd H1 p2 (.tup [V.str "num", V.int num]) = H2 at y2 e2 ⊢
    refine ⟨four, fun p3 h3 => ?_⟩
    have y3 := Same.put (o := .tup [V.str "put", V.str "some", V.ref wr, V.ref p2]) h3
    have e3 : upd H2 p3 (.tup [V.str "put", V.str "some", V.ref wr, V.ref p2]) p3 = some (.tup [V.str "put", V.str "some", V.ref wr, V.ref p2]) := upd_same
    generalize upd H2 p3 (.tup [V.str "put", V.str "some", V.ref wr, V.ref p2]) = H3 at y3 e3 ⊢
    refine ⟨two, fun l4 h4 => ?_⟩
    have y4 := Same.put (o := .lst [V.ref p1, V.ref p3]) h4
    have e4 : upd H3 l4 (.lst [V.ref p1, V.ref p3]) l4 = some (.lst [V.ref p1, V.ref p3]) := upd_same
    generalize upd H3 l4 (.lst [V.ref p1, V.ref p3]) = H4 at y4 e4 ⊢
    refine ⟨_, rfl, _, rfl, _, rfl, three, fun p5 h5 => ?_⟩
    have y5 := Same.put (o := .tup [V.str "put", V.ref wr, V.int num]) h5
    have e5 : upd H4 p5 (.tup [V.str "put", V.ref wr, V.int num]) p5 = some (.tup [V.str "put", V.ref wr, V.int num]) := upd_same
    generalize upd H4 p5 (.tup [V.str "put", V.ref wr, V.int num]) = H5 at y5 e5 ⊢
    refine ⟨three, fun R h6 => ?_⟩
    have y6 := Same.put (o := .tup [V.ref l4, V.int pl, V.ref p5]) h6
    have z5 := y5.trans y6
    have z4 := y4.trans z5
    have z3 := y3.trans z4
    have z2 := y2.trans z3
    exact q ⟨true, far, pl, num⟩ R l4 (.ref p1) (.ref p3) p5 wr _ (y1.trans z2) ⟨upd_same, z5 _ _ e4, ⟨p1, rfl, z2 _ _ e1⟩, ⟨p3, _, _, rfl, z4 _ _ e3, hw.same (y1.trans z2), ⟨p2, rfl, z3 _ _ e2⟩⟩, y6 _ _ e5, ⟨us, (y1.trans z2) _ _ ew⟩⟩ rfl rfl
  · refine ⟨two, fun p1 h1 => ?_⟩
    have y1 := Same.put (o := .tup [V.str "ask", V.str "at"]) h1
    have e1 : upd H p1 (.tup [V.str "ask", V.str "at"]) p1 = some (.tup [V.str "ask", V.str "at"]) := upd_same
    generalize upd H p1 (.tup [V.str "ask", V.str "at"]) = H1 at y1 e1 ⊢
    refine ⟨_, rfl, three, fun p2 h2 => ?_⟩
    have y2 := Same.put (o := .tup [V.str "at", V.str "some", V.ref wr]) h2
    have e2 : upd H1 p2 (.tup [V.str "at", V.str "some", V.ref wr]) p2 = some (.tup [V.str "at", V.str "some", V.ref wr]) := upd_same
    generalize upd H1 p2 (.tup [V.str "at", V.str "some", V.ref wr]) = H2 at y2 e2 ⊢
    refine ⟨two, fun p3 h3 => ?_⟩
    have y3 := Same.put (o := .tup [V.str "tell", V.ref p2]) h3
    have e3 : upd H2 p3 (.tup [V.str "tell", V.ref p2]) p3 = some (.tup [V.str "tell", V.ref p2]) := upd_same
    generalize upd H2 p3 (.tup [V.str "tell", V.ref p2]) = H3 at y3 e3 ⊢
    refine ⟨two, fun l4 h4 => ?_⟩
    have y4 := Same.put (o := .lst [V.ref p1, V.ref p3]) h4
    have e4 : upd H3 l4 (.lst [V.ref p1, V.ref p3]) l4 = some (.lst [V.ref p1, V.ref p3]) := upd_same
    generalize upd H3 l4 (.lst [V.ref p1, V.ref p3]) = H4 at y4 e4 ⊢
    refine ⟨_, rfl, _, rfl, three, fun p5 h5 => ?_⟩
    have y5 := Same.put (o := .tup [V.str "tell", V.ref wr, V.int 0]) h5
    have e5 : upd H4 p5 (.tup [V.str "tell", V.ref wr, V.int 0]) p5 = some (.tup [V.str "tell", V.ref wr, V.int 0]) := upd_same
    generalize upd H4 p5 (.tup [V.str "tell", V.ref wr, V.int 0]) = H5 at y5 e5 ⊢
    refine ⟨three, fun R h6 => ?_⟩
    have y6 := Same.put (o := .tup [V.ref l4, V.int pl, V.ref p5]) h6
    have z5 := y5.trans y6
    have z4 := y4.trans z5
    have z3 := y3.trans z4
    have z2 := y2.trans z3
    exact q ⟨false, far, pl, num⟩ R l4 (.ref p1) (.ref p3) p5 wr _ (y1.trans z2) ⟨upd_same, z5 _ _ e4, ⟨p1, rfl, z2 _ _ e1⟩, ⟨p3, _, rfl, z4 _ _ e3, p2, _, rfl, z3 _ _ e2, hw.same (y1.trans z2)⟩, y6 _ _ e5, ⟨us, (y1.trans z2) _ _ ew⟩⟩ rfl rfl
theorem deed_B {f : Addr} {cdv : Value} {A : Around} {outer : List Env} {s : Shared} {H0 : Hp} {E : XK} (hr : Room 2 (A.deeper (PyProof.Rows.envOfC "_law_deed" (defScope s_law_deed) s.heap.objs.size f cdv))) :
    ∃ u, PSs (cxOf CX0 P w K mg base ["_law_stream_here", "_law_size", "_law_some", "_law_place", "_law_number", "_law_which", "_law_where"] "_law_deed" (defScope s_law_deed) f cdv A outer s H0 E).nox ((defBody s_law_deed).drop 4) u ∧
      ∀ (D : Ends) (v2 v6 : Option V) (a : Addr) (size pl num which : Int) (H : Hp), (∀ (d : D9) (R rr : Addr) (v1 v2 : V) (dd wr : Addr) (H' : Hp), Same H H' → DdAt H' size R d rr v1 v2 dd wr → d.pl = pl → d.num = num → D.rt (.ref R) H') →
        u D [some (.ref a), some (.int size), v2, some (.int pl), some (.int num), some (.int which), v6] H := by
  obtain ⟨uC, hC, kC⟩ := deed_C (P := P) (w := w) (K := K) (mg := mg) (base := base) (f := f) (cdv := cdv) (outer := outer) (H0 := H0) (E := E) hr
  refine ⟨_, (@pss_cons _ _ _ _ _ (ps_set (i := 6) sc_law_deed.nd rfl (Or.inl rfl) (@pe_tup _ _ _ _ _ (@pa_consN _ _ _ _ _ pe_str (@pa_consN _ _ _ _ _ pe_str pa_nil rfl) rfl)))
      (@pss_cons _ _ _ _ _ (@ps_if _ _ _ _ _ _ _ _ (pt_cmpR op_eq (pv 5) pe_int (nomark _))
        (@pss_one _ _ _ (ps_set (i := 6) sc_law_deed.nd rfl (Or.inl rfl) (@pe_tup _ _ _ _ _ (@pa_consN _ _ _ _ _ pe_str (@pa_consN _ _ _ _ _ pe_str (@pa_consN _ _ _ _ _ (@pe_tup _ _ _ _ _ (@pa_consN _ _ _ _ _ pe_str (@pa_consN _ _ _ _ _ (pe_op op_sub (pv 1) pe_int) pa_nil rfl) rfl)) pa_nil rfl) rfl) rfl))))
        pss_nil)
      hC)), ?_⟩
  intro D v2 v6 a size pl num which H q
  have hs : sizeLine = 16777216 := sizeLine_eq
  have two : 2 ≤ sizeLine := by omega
  have three : 3 ≤ sizeLine := by omega
  refine ⟨two, fun w0 h0 => ?_⟩
  have y0 := Same.put (o := .tup [V.str "name", V.str "at"]) h0
  have e0 : upd H w0 (.tup [V.str "name", V.str "at"]) w0 = some (.tup [V.str "name", V.str "at"]) := upd_same
  generalize upd H w0 (.tup [V.str "name", V.str "at"]) = H1 at y0 e0 ⊢
  refine ⟨_, rfl, rfl, _, rfl, ite2 (fun h => ?_) (fun h => ?_)⟩
  · refine ⟨_, rfl, _, _, rfl, rfl, two, fun p1 h1 => ?_⟩
    have y1 := Same.put (o := .tup [V.str "num", V.int (size - 1)]) h1
    have e1 : upd H1 p1 (.tup [V.str "num", V.int (size - 1)]) p1 = some (.tup [V.str "num", V.int (size - 1)]) := upd_same
    generalize upd H1 p1 (.tup [V.str "num", V.int (size - 1)]) = H2 at y1 e1 ⊢
    refine ⟨three, fun w1 h2 => ?_⟩
    have y2 := Same.put (o := .tup [V.str "at", V.str "some", V.ref p1]) h2
    have e2 : upd H2 w1 (.tup [V.str "at", V.str "some", V.ref p1]) w1 = some (.tup [V.str "at", V.str "some", V.ref p1]) := upd_same
    generalize upd H2 w1 (.tup [V.str "at", V.str "some", V.ref p1]) = H3 at y2 e2 ⊢
    exact kC D _ a w1 size pl num which true H3 ⟨w1, _, rfl, e2, p1, rfl, y2 _ _ e1⟩ ⟨_, e2⟩ fun d R rr v1 v2 dd wr H' s' da h1 h2 => q d R rr v1 v2 dd wr H' ((y0.trans (y1.trans y2)).trans s') da h1 h2
  · exact kC D _ a w0 size pl num which false H1 ⟨w0, rfl, e0⟩ ⟨_, e0⟩ fun d R rr v1 v2 dd wr H' s' da h1 h2 => q d R rr v1 v2 dd wr H' (y0.trans s') da h1 h2
theorem ok_law_deed {f f1 f2 : Addr} {fd d1 d2 : FuncData} (F : Fun K "_law_deed" "_law_deed" s_law_deed f fd) (T : Bt mg) (T_law_mixed : Fn K mg "_law_mixed" s_law_mixed ["_law_number", "_law_k"] f1 d1) (T_law_take : Fn K mg "_law_take" s_law_take ["_law_stream_here", "_law_size"] f2 d2) : FnOk P w K mg base CX0 3 f fd ["_law_stream_here", "_law_size"] sp_deed := by
  have G_law_take := ok_law_take (P := P) (w := w) (mg := mg) (base := base) T_law_take.F T_law_mixed
  refine F.ok (k := 2) sc_law_deed (fun vs H Q E h => ?_) (fun cdv A outer s H vs Q E hr h => ?_)
  · obtain ⟨a, size, rfl, _⟩ := h; rfl
  · obtain ⟨a, size, rfl, st, z1, z2, q⟩ := h
    have hs : sizeLine = 16777216 := sizeLine_eq
    obtain ⟨uB, hB, kB⟩ := deed_B (P := P) (w := w) (K := K) (mg := mg) (base := base) (f := f) (cdv := cdv) (outer := outer) (H0 := H) (E := E) hr
    refine ⟨_, (@pss_cons _ _ _ _ _ (ps_set (i := 2) sc_law_deed.nd rfl (Or.inl rfl) (pe_op op_cat (pe_op op_repL1 (@pe_lst _ _ _ _ (@pa_consN _ _ _ _ _ (pe_call G_law_take (hr.mono (by decide)) rfl T_law_take.m T_law_take.F.kp T_law_take.b .nil pass0 (@pa_consN _ _ _ _ _ (pv 0) (@pa_consN _ _ _ _ _ (pv 1) pa_nil rfl) rfl)) pa_nil rfl)) pe_int) (@pe_lst _ _ _ _ (@pa_consN _ _ _ _ _ (pe_op op_sub (pv 1) pe_int) (@pa_consN _ _ _ _ _ (pv 1) (@pa_consN _ _ _ _ _ (pe_op op_add (pv 1) pe_int) (@pa_consN _ _ _ _ _ pe_int (@pa_consN _ _ _ _ _ pe_int (@pa_consN _ _ _ _ _ pe_int (@pa_consN _ _ _ _ _ (pe_op op_sub pe_int (pv 1)) pa_nil rfl) rfl) rfl) rfl) rfl) rfl) rfl))))
      (@pss_cons _ _ _ _ _ (ps_set (i := 3) sc_law_deed.nd rfl (Or.inl rfl) (pe_ix ix_list (pv 2) (pe_call G_law_take (hr.mono (by decide)) rfl T_law_take.m T_law_take.F.kp T_law_take.b .nil pass0 (@pa_consN _ _ _ _ _ (pv 0) (@pa_consN _ _ _ _ _ (pe_callB call_len_seq rfl T.b_len (by decide +kernel) (@pa_consN _ _ _ _ _ (pv 2) pa_nil rfl)) pa_nil rfl) rfl)) (fun _ _ => rfl)))
      (@pss_cons _ _ _ _ _ (ps_set (i := 4) sc_law_deed.nd rfl (Or.inl rfl) (pe_call G_law_take (hr.mono (by decide)) rfl T_law_take.m T_law_take.F.kp T_law_take.b .nil pass0 (@pa_consN _ _ _ _ _ (pv 0) (@pa_consN _ _ _ _ _ pe_int pa_nil rfl) rfl)))
      (@pss_cons _ _ _ _ _ (ps_set (i := 5) sc_law_deed.nd rfl (Or.inl rfl) (pe_call G_law_take (hr.mono (by decide)) rfl T_law_take.m T_law_take.F.kp T_law_take.b .nil pass0 (@pa_consN _ _ _ _ _ (pv 0) (@pa_consN _ _ _ _ _ pe_int pa_nil rfl) rfl)))
      hB)))), ?_⟩
    refine ⟨_, rfl, _, rfl, a, 0, size, rfl, st, by decide, by omega, by omega, fun v H1 k1 st1 v0 v1 => ⟨(by show 1 ≤ sizeLine; omega), fun l1 h1 => ?_⟩⟩
    have y1 := Same.put (o := .lst [V.int v]) h1
    have e1 : upd H1 l1 (.lst [V.int v]) l1 = some (.lst [V.int v]) := upd_same
    generalize upd H1 l1 (.lst [V.int v]) = H2 at y1 e1 ⊢
    refine ⟨l1, 12, _, rfl, rfl, e1, by decide, by decide, fun r1 hr1 => ?_⟩
    have y2 := Same.put (o := .lst (List.replicate (Int.toNat 12) (V.int v))) hr1
    have e2 : upd H2 r1 (.lst (List.replicate (Int.toNat 12) (V.int v))) r1 = some (.lst (List.replicate 12 (V.int v))) := upd_same
    generalize upd H2 r1 (.lst (List.replicate (Int.toNat 12) (V.int v))) = H3 at y2 e2 ⊢
    refine ⟨_, rfl, _, _, rfl, rfl, _, rfl, _, rfl, _, _, rfl, rfl, _, rfl, _, _, rfl, rfl, (by show 7 ≤ sizeLine; omega), fun r2 hr2 => ?_⟩
    have y3 := Same.put (o := .lst [V.int (size - 1), V.int size, V.int (size + 1), V.int 32767, V.int 32768, V.int 65535, V.int (65536 - size)]) hr2
    have e3 : upd H3 r2 (.lst [V.int (size - 1), V.int size, V.int (size + 1), V.int 32767, V.int 32768, V.int 65535, V.int (65536 - size)]) r2 = some (.lst [V.int (size - 1), V.int size, V.int (size + 1), V.int 32767, V.int 32768, V.int 65535, V.int (65536 - size)]) := upd_same
    generalize upd H3 r2 (.lst [V.int (size - 1), V.int size, V.int (size + 1), V.int 32767, V.int 32768, V.int 65535, V.int (65536 - size)]) = H4 at y3 e3 ⊢
    refine ⟨r1, r2, _, _, rfl, rfl, y3 _ _ e2, e3, (by show 12 + 7 ≤ sizeLine; omega), fun sm hsm => ?_⟩
    have y4 := Same.put (o := .lst (List.replicate 12 (V.int v) ++ [V.int (size - 1), V.int size, V.int (size + 1), V.int 32767, V.int 32768, V.int 65535, V.int (65536 - size)])) hsm
    have e4 : upd H4 sm (.lst (List.replicate 12 (V.int v) ++ [V.int (size - 1), V.int size, V.int (size + 1), V.int 32767, V.int 32768, V.int 65535, V.int (65536 - size)])) sm = some (.lst ((ns19 v size).map V.int)) := by
      rw [upd_same]; unfold ns19; rw [List.map_append, List.map_replicate]; rfl
    generalize upd H4 sm (.lst (List.replicate 12 (V.int v) ++ [V.int (size - 1), V.int size, V.int (size + 1), V.int 32767, V.int 32768, V.int 65535, V.int (65536 - size)])) = H5 at y4 e4 ⊢
    have y15 := ((y1.trans y2).trans y3).trans y4
    have st5 := st1.same y15
    have sma : sm ≠ a := fun z => by
      obtain ⟨x, fl, y, ea⟩ := st1.same ((y1.trans y2).trans y3)
      rw [z, ea] at hsm; cases hsm
    refine ⟨_, rfl, _, rfl, _, rfl, sm, _, rfl, .inl (SqL.of e4), ?_⟩
    have l19 : (((ns19 v size).map V.int).length : Int) = 19 := by rw [List.length_map]; unfold ns19; rw [List.length_append, List.length_replicate]; rfl
    rw [l19]
    refine ⟨a, 1, 19, rfl, st5, by decide, by decide, by decide, fun i H6 k6 st6 i0 i1 => ?_⟩
    obtain ⟨pl, hpl, hat⟩ := ns_at (ns := ns19 v size) i0 (by rw [List.length_map] at l19; omega)
    have hb := ns_bd v0 v1 z1 z2 pl hpl
    refine ⟨sm, _, _, _, rfl, rfl, SqL.of (k6 _ _ e4 sma), hat, ?_⟩
    refine ⟨_, rfl, a, 2, 4096, rfl, st6, by decide, by decide, by decide, fun num H7 k7 st7 n0 n1 => ?_⟩
    refine ⟨_, rfl, a, 3, 4, rfl, st7, by decide, by decide, by decide, fun which H8 k8 st8 w0 w1 => ?_⟩
    refine kB _ _ _ a size pl num which H8 fun d R rr v1 v2 dd wr H' s' da hp hn => ?_
    have kk : Kl a H H' := (((k1.trans (Kl.of y15)).trans k6).trans (k7.trans k8)).trans (Kl.of s')
    exact q d R rr v1 v2 dd wr H' kk da ⟨by rw [hp]; exact hb.1, by rw [hp]; exact hb.2, by rw [hn]; exact n0, by rw [hn]; exact n1⟩
end
end K49

set_option Elab.async false
set_option linter.all false
set_option maxRecDepth 100000
set_option maxHeartbeats 4000000
namespace K49
open PySem L2
/-! ### the law's own reckoning, and the Meaning's -/
structure Lw where
  kept : List Int
  told : List Int
  bad : Bool
  begun : Nat
def plL (size : Nat) (l : Lw) (d : D9) : Int := if d.far = true then l.kept.getD (size - 1) 0 else d.pl
def lws (size : Nat) (l : Lw) (d : D9) : Lw :=
  if l.bad = true then l
  else if (size : Int) ≤ plL size l d then ⟨l.kept, l.told, true, l.begun + 2⟩
  else if d.pt = true then ⟨l.kept.set (plL size l d).toNat d.num, l.told, false, l.begun + 2⟩
  else ⟨l.kept, l.told ++ [l.kept.getD (plL size l d).toNat 0], false, l.begun + 2⟩
def rowsD (size : Nat) : List D9 → List S9
  | [] => []
  | d :: r => .ask :: row2 (size : Int) d :: rowsD size r
theorem bad_stays (size : Nat) : ∀ (ds : List D9) {l : Lw}, l.bad = true → ds.foldl (lws size) l = l
  | [], _, _ => rfl
  | d :: r, l, h => by
    have : lws size l d = l := by unfold lws; rw [if_pos h]
    rw [List.foldl_cons, this]; exact bad_stays size r h
structure KOk (size : Nat) (kept : List Int) : Prop where
  len : kept.length = size
  bd : ∀ n ∈ kept, 0 ≤ n ∧ n < 65536
theorem getD_bd {size : Nat} {kept : List Int} (h : KOk size kept) (i : Nat) : 0 ≤ kept.getD i 0 ∧ kept.getD i 0 < 65536 := by
  rw [List.getD_eq_getElem?_getD]
  cases hi : kept[i]? with
  | none => exact ⟨by decide, by decide⟩
  | some n => exact h.bd n (List.mem_of_getElem? hi)
theorem plL_bd {size : Nat} {l : Lw} {d : D9} (h : KOk size l.kept) (ok : d.Ok) : 0 ≤ plL size l d ∧ plL size l d < 65536 := by
  unfold plL
  split
  · exact getD_bd h _
  · exact ⟨ok.p0, ok.p1⟩
theorem val_wh {size : Nat} {l : Lw} {d : D9} (h : KOk size l.kept) (ok : d.Ok) (z1 : 1 ≤ size) (z2 : size ≤ 99) : valP (cs2 d.pl 0 l.kept) (whE (size : Int) d.far) = some (plL size l d) := by
  unfold whE plL
  cases d.far with
  | false =>
    show (match lookC (cs2 d.pl 0 l.kept) "at" with | some (.i n) => some n | _ => none) = _
    rw [cs_at]; rfl
  | true =>
    show (match valP (cs2 d.pl 0 l.kept) (.num ((size : Int) - 1)), lookC (cs2 d.pl 0 l.kept) "some" with | some v, some (.l _ ns) => (if 0 ≤ sgn v ∧ sgn v < ns.length then some (ns.getD v.toNat 0) else none) | _, _ => none) = _
    rw [cs_some]
    show (if 0 ≤ sgn (((size : Int) - 1) % 65536) ∧ sgn (((size : Int) - 1) % 65536) < (l.kept.length : Int) then some (l.kept.getD (((size : Int) - 1) % 65536).toNat 0) else none) = some (l.kept.getD (size - 1) 0)
    have e : ((size : Int) - 1) % 65536 = (size : Int) - 1 := Int.emod_eq_of_lt (by omega) (by omega)
    rw [e]
    have es : sgn ((size : Int) - 1) = (size : Int) - 1 := by unfold sgn; rw [if_neg (by omega)]
    rw [es, if_pos ⟨by omega, by have := h.len; omega⟩, show ((size : Int) - 1).toNat = size - 1 by omega]
theorem sgn_lt {v : Int} {size : Nat} (h0 : 0 ≤ v) (h1 : v < 65536) (z2 : size ≤ 99) : (0 ≤ sgn v ∧ sgn v < (size : Int)) ↔ ¬ (size : Int) ≤ v := by
  unfold sgn
  split <;> omega
theorem step2 {size : Nat} {l : Lw} {d : D9} {left : List Int} (hb : l.bad = false) (h : KOk size l.kept) (ok : d.Ok) (z1 : 1 ≤ size) (z2 : size ≤ 99) :
    stp ⟨d.pl, l.kept, left, l.told, false⟩ (row2 (size : Int) d) = ⟨d.pl, (lws size l d).kept, left, (lws size l d).told, (lws size l d).bad⟩ := by
  have hv := val_wh h ok z1 z2
  have hp := plL_bd h ok
  have hs := sgn_lt hp.1 hp.2 z2
  have hlen := h.len
  have hpl : plP (cs2 d.pl 0 l.kept) "some" (whE (size : Int) d.far) = if (size : Int) ≤ plL size l d then none else some (plL size l d) := by
    unfold plP
    rw [hv, cs_some]
    show (if 0 ≤ sgn (plL size l d) ∧ sgn (plL size l d) < (l.kept.length : Int) then some (plL size l d) else none) = _
    rw [hlen]
    by_cases hc : (size : Int) ≤ plL size l d
    · rw [if_pos hc, if_neg (fun z => hs.mp z hc)]
    · rw [if_neg hc, if_pos (hs.mpr hc)]
  have hpv : valP (cs2 d.pl 0 l.kept) (.pl "some" (whE (size : Int) d.far)) = if (size : Int) ≤ plL size l d then none else some (l.kept.getD (plL size l d).toNat 0) := by
    show (match valP (cs2 d.pl 0 l.kept) (whE (size : Int) d.far), lookC (cs2 d.pl 0 l.kept) "some" with | some v, some (.l _ ns) => (if 0 ≤ sgn v ∧ sgn v < ns.length then some (ns.getD v.toNat 0) else none) | _, _ => none) = _
    rw [hv, cs_some]
    show (if 0 ≤ sgn (plL size l d) ∧ sgn (plL size l d) < (l.kept.length : Int) then some (l.kept.getD (plL size l d).toNat 0) else none) = _
    rw [hlen]
    by_cases hc : (size : Int) ≤ plL size l d
    · rw [if_pos hc, if_neg (fun z => hs.mp z hc)]
    · rw [if_neg hc, if_pos (hs.mpr hc)]
  have hn : valP (cs2 d.pl 0 l.kept) (.num d.num) = some d.num := by
    show some (d.num % 65536) = some d.num
    rw [Int.emod_eq_of_lt ok.n0 (by have := ok.n1; omega)]
  have el : lws size l d = if (size : Int) ≤ plL size l d then ⟨l.kept, l.told, true, l.begun + 2⟩ else if d.pt = true then ⟨l.kept.set (plL size l d).toNat d.num, l.told, false, l.begun + 2⟩ else ⟨l.kept, l.told ++ [l.kept.getD (plL size l d).toNat 0], false, l.begun + 2⟩ := by
    unfold lws
    rw [if_neg (by rw [hb]; decide)]
  rw [el]
  unfold row2
  cases hpt : d.pt with
  | true =>
    rw [if_pos rfl]
    show (match valP (cs2 d.pl 0 l.kept) (.num d.num), plP (cs2 d.pl 0 l.kept) "some" (whE (size : Int) d.far) with | some v, some p => (⟨d.pl, l.kept.set p.toNat v, left, l.told, false⟩ : M9) | _, _ => ⟨d.pl, l.kept, left, l.told, true⟩) = _
    rw [hn, hpl]
    by_cases hc : (size : Int) ≤ plL size l d
    · rw [if_pos hc, if_pos hc]
    · rw [if_neg hc, if_neg hc, if_pos rfl]
  | false =>
    rw [if_neg (by decide)]
    show (match valP (cs2 d.pl 0 l.kept) (.pl "some" (whE (size : Int) d.far)) with | some v => (⟨d.pl, l.kept, left, l.told ++ [v], false⟩ : M9) | none => ⟨d.pl, l.kept, left, l.told, true⟩) = _
    rw [hpv]
    by_cases hc : (size : Int) ≤ plL size l d
    · rw [if_pos hc, if_pos hc]
    · rw [if_neg hc, if_neg hc, if_neg (by decide)]
theorem lws_ok {size : Nat} {l : Lw} {d : D9} (h : KOk size l.kept) (ok : d.Ok) : KOk size (lws size l d).kept := by
  unfold lws
  split
  · exact h
  split
  · exact h
  split
  · refine ⟨by show (l.kept.set _ _).length = _; rw [List.length_set]; exact h.len, fun n hn => ?_⟩
    rcases List.mem_or_eq_of_mem_set hn with hn | hn
    · exact h.bd n hn
    · rw [hn]; have := ok.n0; have := ok.n1; omega
  · exact h
theorem lws_bg {size : Nat} {l : Lw} {d : D9} (hb : l.bad = false) : (lws size l d).begun = l.begun + 2 := by
  unfold lws
  rw [if_neg (by rw [hb]; decide)]
  split
  · rfl
  split <;> rfl
theorem sim {size : Nat} (z1 : 1 ≤ size) (z2 : size ≤ 99) : ∀ (ds : List D9) (l : Lw) (x : Int) (n : Nat), l.bad = false → KOk size l.kept → (∀ d ∈ ds, d.Ok) →
    (runN ⟨x, l.kept, ds.map (·.pl), l.told, false⟩ (rowsD size ds) n).1.kept = (ds.foldl (lws size) l).kept ∧ (runN ⟨x, l.kept, ds.map (·.pl), l.told, false⟩ (rowsD size ds) n).1.told = (ds.foldl (lws size) l).told ∧ (runN ⟨x, l.kept, ds.map (·.pl), l.told, false⟩ (rowsD size ds) n).1.fy = (ds.foldl (lws size) l).bad ∧ (runN ⟨x, l.kept, ds.map (·.pl), l.told, false⟩ (rowsD size ds) n).2 + l.begun = n + (ds.foldl (lws size) l).begun
  | [], l, x, n, hb, _, _ => ⟨rfl, rfl, hb.symm, rfl⟩
  | d :: r, l, x, n, hb, hk, hok => by
    have ok := hok d List.mem_cons_self
    have e1 : runN ⟨x, l.kept, (d :: r).map (·.pl), l.told, false⟩ (rowsD size (d :: r)) n = runN (stp ⟨d.pl, l.kept, r.map (·.pl), l.told, false⟩ (row2 (size : Int) d)) (rowsD size r) (n + 1 + 1) := by
      show runN ⟨d.pl % 65536, l.kept, r.map (·.pl), l.told, false⟩ (row2 (size : Int) d :: rowsD size r) (n + 1) = _
      rw [Int.emod_eq_of_lt ok.p0 ok.p1]; rfl
    rw [e1, step2 hb hk ok z1 z2, List.foldl_cons]
    have bg := lws_bg (size := size) (d := d) hb
    cases hbad : (lws size l d).bad with
    | true =>
      rw [run_end (.inr rfl), bad_stays size r hbad]
      exact ⟨rfl, rfl, hbad.symm, by show n + 1 + 1 + l.begun = _; omega⟩
    | false =>
      have ih := sim z1 z2 r (lws size l d) d.pl (n + 1 + 1) hbad (lws_ok hk ok) (fun z hz => hok z (List.mem_cons_of_mem _ hz))
      exact ⟨ih.1, ih.2.1, ih.2.2.1, by have := ih.2.2.2; omega⟩
end K49

set_option Elab.async false
set_option linter.all false
set_option maxRecDepth 100000
set_option maxHeartbeats 4000000
namespace K49
open PySem L2
def l0 (size : Nat) : Lw := ⟨List.replicate size 0, [], false, 0⟩
theorem l0_ok (size : Nat) : KOk size (l0 size).kept := ⟨List.length_replicate .., fun n hn => by rw [(List.mem_replicate.mp hn).2]; exact ⟨by decide, by decide⟩⟩
theorem rowsD_ok (size : Nat) : ∀ (ds : List D9), ∀ s ∈ rowsD size ds, s.Ok
  | [], s, h => by cases h
  | d :: r, s, h => by
    rcases List.mem_cons.mp h with rfl | h
    · trivial
    rcases List.mem_cons.mp h with rfl | h
    · exact row2_ok _ _
    · exact rowsD_ok size r s h
theorem rowsD_len (size : Nat) : ∀ (ds : List D9), (rowsD size ds).length = 2 * ds.length
  | [] => rfl
  | d :: r => by show (rowsD size r).length + 1 + 1 = 2 * (r.length + 1); rw [rowsD_len size r]; omega
theorem rowsD_app (size : Nat) : ∀ (a b : List D9), rowsD size (a ++ b) = rowsD size a ++ rowsD size b
  | [], _ => rfl
  | d :: r, b => by show .ask :: row2 (size : Int) d :: rowsD size (r ++ b) = _; rw [rowsD_app size r b]; rfl
theorem bg_le (size : Nat) : ∀ (ds : List D9) (l : Lw), (ds.foldl (lws size) l).begun ≤ 2 * ds.length + l.begun
  | [], l => by show l.begun ≤ _; omega
  | d :: r, l => by
    have := bg_le size r (lws size l d)
    have h2 : (lws size l d).begun ≤ l.begun + 2 := by
      unfold lws
      split
      · omega
      split
      · exact Nat.le_refl _
      split <;> exact Nat.le_refl _
    rw [List.foldl_cons]
    show _ ≤ 2 * (r.length + 1) + l.begun
    omega
def eW (l : Lw) : Str := if l.bad = true then "fault" else "ended"
/-- what stands behind the law's loop -/
structure L8 (H : Hp) (size : Nat) (ds : List D9) (r g k t : Addr) (xs : List V) : Prop where
  er : H r = some (.lst xs)
  px : Paired (S9At H) xs (rowsD size ds)
  eg : H g = some (.lst ((ds.map (·.pl)).map V.int))
  ek : H k = some (.lst ((ds.foldl (lws size) (l0 size)).kept.map V.int))
  et : H t = some (.lst ((ds.foldl (lws size) (l0 size)).told.map V.int))
  ok : ∀ d ∈ ds, d.Ok
  ln : ds.length ≤ 40
  z1 : 1 ≤ size
  z2 : size ≤ 99
theorem cv_two {cs : Cells} {x : Int} {ns : List Int} (h : cvals cs = [(("at" : Str), Sum.inl x), (("some" : Str), Sum.inr ns)]) : ∃ a, cs = cs2 x a ns := by
  have hl : cs.length = 2 := by
    have := congrArg List.length h
    unfold cvals at this
    rw [List.length_map] at this; exact this
  cases cs with
  | nil => cases hl
  | cons p r =>
    cases r with
    | nil => cases hl
    | cons p2 r =>
      cases r with
      | cons q r2 => exact absurd hl (by show ¬ (r2.length + 1 + 1 + 1 = 2); omega)
      | nil =>
        obtain ⟨n1, c1⟩ := p
        obtain ⟨n2, c2⟩ := p2
        have h : [(n1, c1.w), (n2, c2.w)] = [(("at" : Str), Sum.inl x), (("some" : Str), Sum.inr ns)] := h
        injection h with h1 h2
        injection h2 with h2 _
        injection h1 with h1 h1'
        injection h2 with h2 h2'
        subst h1 h2
        cases c1 with
        | l a l => cases h1'
        | i n =>
          cases c2 with
          | i n => cases h2'
          | l a l =>
            cases h1'; cases h2'
            exact ⟨a, rfl⟩
section
variable {P : Program} {w : World} {K : PySem.W.Frag} {mg : Str → Option Value} {base : Heap}
theorem sc_law : FnScope ["_law_script", "_law_first", "_law_size", "_law_rows", "_law_given", "_law_kept", "_law_told", "_law_end", "_law_begun", "_law_cell", "_law_more", "_law_word", "_law_deed_here", "_law_place", "_law_tree", "_law_found"] ["_law_script"] (defScope s_law) := ⟨rfl, rfl, rfl, by decide +kernel, rfl, by decide +kernel, by decide +kernel⟩
theorem law_C {x0 x1 x2 x3 x4 x5 x6 x7 x8 x9 x10 x11 x12 x13 f fi MC : Addr} {e0 e1 e2 e3 e4 e5 e6 e7 e8 e9 e10 e11 e12 e13 di : FuncData} {g1 g2 g3 g4 g5 g6 g7 g8 g9 g10 : Addr} {c1 c2 c3 c4 c5 c6 c7 c8 c9 c10 : FuncData} (T : Bt mg) (C : Ct K mg) (T_with_inner : Fn K mg "with_inner" s_with_inner ["body"] x0 e0) (T_inner_bodies : Fn K mg "inner_bodies" s_inner_bodies ["statement", "first"] x1 e1) (T_counted : Fn K mg "counted" s_counted ["body", "first"] x2 e2) (T_counted_tree : Fn K mg "counted_tree" s_counted_tree ["tree"] x3 e3) (T_signed : Fn K mg "signed" s_signed ["number"] x4 e4) (T_joined : Fn K mg "joined" s_joined ["op", "one", "another"] x5 e5) (T_first_cells : Fn K mg "first_cells" s_first_cells ["variables"] x6 e6) (T_copied : Fn K mg "copied" s_copied ["cells"] x7 e7) (T_meant : Fn K mg "meant" s_meant ["tree", "given", "most"] x8 e8) (T_law_cell_at : Fn K mg "_law_cell_at" s_law_cell_at ["_law_script", "_law_k"] x9 e9) (T_law_mixed : Fn K mg "_law_mixed" s_law_mixed ["_law_number", "_law_k"] x10 e10) (T_law_stream : Fn K mg "_law_stream" s_law_stream ["_law_cell"] x11 e11) (T_law_take : Fn K mg "_law_take" s_law_take ["_law_stream_here", "_law_size"] x12 e12) (T_law_deed : Fn K mg "_law_deed" s_law_deed ["_law_stream_here", "_law_size"] x13 e13) (T_Meaning : Mc K mg MC fi di) (T_Meaning_is_going : Mt K MC "is_going" "Meaning.is_going" s_Meaning_is_going ["self"] g1 c1) (T_Meaning_end_so_far : Mt K MC "end_so_far" "Meaning.end_so_far" s_Meaning_end_so_far ["self"] g2 c2) (T_Meaning_next_entry : Mt K MC "next_entry" "Meaning.next_entry" s_Meaning_next_entry ["self"] g3 c3) (T_Meaning_step_ahead : Mt K MC "step_ahead" "Meaning.step_ahead" s_Meaning_step_ahead ["self"] g4 c4) (T_Meaning_value_of : Mt K MC "value_of" "Meaning.value_of" s_Meaning_value_of ["self", "expr"] g5 c5) (T_Meaning_place_in : Mt K MC "place_in" "Meaning.place_in" s_Meaning_place_in ["self", "name", "expr"] g6 c6) (T_Meaning_do_next : Mt K MC "do_next" "Meaning.do_next" s_Meaning_do_next ["self"] g7 c7) (T_Meaning_choose : Mt K MC "choose" "Meaning.choose" s_Meaning_choose ["self", "entry"] g8 c8) (T_Meaning_do_with_value : Mt K MC "do_with_value" "Meaning.do_with_value" s_Meaning_do_with_value ["self", "statement"] g9 c9) (T_Meaning_do_plain : Mt K MC "do_plain" "Meaning.do_plain" s_Meaning_do_plain ["self", "statement"] g10 c10) {cdv : Value} {A : Around} {outer : List Env} {s : Shared} {H00 : Hp} {E : XK} (hr : Room 11 (A.deeper (PyProof.Rows.envOfC "law" (defScope s_law) s.heap.objs.size f cdv))) :
    ∃ u, PSs (cxOf CX0 P w K mg base ["_law_script", "_law_first", "_law_size", "_law_rows", "_law_given", "_law_kept", "_law_told", "_law_end", "_law_begun", "_law_cell", "_law_more", "_law_word", "_law_deed_here", "_law_place", "_law_tree", "_law_found"] "law" (defScope s_law) f cdv A outer s H00 E).nox ((defBody s_law).drop 9) u ∧
      ∀ (D : Ends) (v0 v1 v9 v10 v11 v12 v13 v14 v15 : Option V) (size : Nat) (ds : List D9) (r g k t : Addr) (xs : List V) (H : Hp), L8 H size ds r g k t xs →
        (∀ H', D.rt (.bl true) H') →
        u D [v0, v1, some (.int (size : Int)), some (.ref r), some (.ref g), some (.ref k), some (.ref t), some (.str (eW (ds.foldl (lws size) (l0 size)))), some (.int ((ds.foldl (lws size) (l0 size)).begun : Int)), v9, v10, v11, v12, v13, v14, v15] H := by
  have G_meant := ok_meant (P := P) (w := w) (base := base) T C T_with_inner T_inner_bodies T_counted T_counted_tree T_signed T_joined T_first_cells T_copied T_meant T_law_cell_at T_law_mixed T_law_stream T_law_take T_law_deed T_Meaning T_Meaning_is_going T_Meaning_end_so_far T_Meaning_next_entry T_Meaning_step_ahead T_Meaning_value_of T_Meaning_place_in T_Meaning_do_next T_Meaning_choose T_Meaning_do_with_value T_Meaning_do_plain
  refine ⟨_, (@pss_cons _ _ _ _ _ (ps_set (i := 14) sc_law.nd rfl (Or.inl rfl) (@pe_tup _ _ _ _ _ (@pa_consN _ _ _ _ _ (@pe_lst _ _ _ _ (@pa_consN _ _ _ _ _ (@pe_tup _ _ _ _ _ (@pa_consN _ _ _ _ _ pe_str (@pa_consN _ _ _ _ _ pe_str (@pa_consN _ _ _ _ _ pe_int pa_nil rfl) rfl) rfl)) (@pa_consN _ _ _ _ _ (@pe_tup _ _ _ _ _ (@pa_consN _ _ _ _ _ pe_str (@pa_consN _ _ _ _ _ pe_str (@pa_consN _ _ _ _ _ (pv 2) pa_nil rfl) rfl) rfl)) pa_nil rfl) rfl)) (@pa_consN _ _ _ _ _ (@pe_lst _ _ _ _ pa_nil) (@pa_consN _ _ _ _ _ (pv 3) pa_nil rfl) rfl) rfl)))
      (@pss_cons _ _ _ _ _ (ps_set (i := 15) sc_law.nd rfl (Or.inl rfl) (pe_call G_meant (hr.mono (by decide)) rfl T_meant.m T_meant.F.kp T_meant.b .nil pass0 (@pa_consN _ _ _ _ _ (pv 14) (@pa_consN _ _ _ _ _ (pv 4) (@pa_consN _ _ _ _ _ pe_int pa_nil rfl) rfl) rfl)))
      (@pss_cons _ _ _ _ _ (@ps_if _ _ _ _ _ _ _ _ (PW.pt (pw_or (pt_cmpR (op_neD (hr.units)) (pe_ix ix_tup (pv 15) pe_int (fun _ _ => rfl)) (pv 6) (nomark _)) (pw_or (pt_cmpR op_ne (pe_ix ix_tup (pv 15) pe_int (fun _ _ => rfl)) (pv 7) (nomark _)) (pw_or1 (pt_cmpR (op_neD (hr.units)) (pe_dget (hu_of hr) (pe_ix ix_tup (pv 15) pe_int (fun _ _ => rfl)) pe_str (fun _ _ => rfl)) (pv 5) (nomark _))))))
        (@pss_one _ _ _ (@ps_ret _ _ _ _ pe_bl))
        pss_nil)
      (@pss_one _ _ _ (@ps_ret _ _ _ _ (pe_cmpR (op_eqD (hr.units)) (pe_comp rfl (blk_of (sc0 := defScope s_law) (N0 := ["_law_script", "_law_first", "_law_size", "_law_rows", "_law_given", "_law_kept", "_law_told", "_law_end", "_law_begun", "_law_cell", "_law_more", "_law_word", "_law_deed_here", "_law_place", "_law_tree", "_law_found"]) (N' := ["_law_step"]) (own := 1) (fv := []) (by decide +kernel) rfl rfl) (pi_list (pe_ix ix_tup (pv 15) pe_int (fun _ _ => rfl))) (fun _ _ _ _ => (pg_name (i := 0) (by show List.Nodup (["_law_step"] : List Str); decide +kernel) rfl (Or.inl rfl))) (fun _ _ _ _ => (pe_ix (ix_tupK (K := K)) (pv 0) pe_int (fun _ _ => rfl)))) (pe_callTy (call_list_rng rfl) rfl T.b_list (by decide +kernel) (@pa_consN _ _ _ _ _ (pe_callTy call_rng1 rfl T.b_range (by decide +kernel) (@pa_consN _ _ _ _ _ (pv 8) pa_nil rfl)) pa_nil rfl)) (nomark _))))))), ?_⟩
  intro D v0 v1 v9 v10 v11 v12 v13 v14 v15 size ds r g k t xs H l8 q
  have hs : sizeLine = 16777216 := sizeLine_eq
  have two : 2 ≤ sizeLine := by omega
  have three : 3 ≤ sizeLine := by omega
  obtain ⟨e, he⟩ : ∃ z, ds.foldl (lws size) (l0 size) = z := ⟨_, rfl⟩
  have sm := sim l8.z1 l8.z2 ds (l0 size) 0 0 rfl (l0_ok size) l8.ok
  have ek := l8.ek
  have et := l8.et
  rw [he] at sm ek et ⊢
  obtain ⟨m, n, hm⟩ : ∃ m n, runN ⟨0, (l0 size).kept, ds.map (·.pl), (l0 size).told, false⟩ (rowsD size ds) 0 = (m, n) := ⟨_, _, rfl⟩
  rw [hm] at sm
  obtain ⟨s1, s2, s3, s4⟩ := sm
  have s1 : m.kept = e.kept := s1
  have s2 : m.told = e.told := s2
  have s3 : m.fy = e.bad := s3
  have s4 : n + 0 = 0 + e.begun := s4
  have z1 := l8.z1
  have z2 := l8.z2
  have ln := l8.ln
  refine ⟨three, fun p1 h1 => ?_⟩
  have y1 := Same.put (o := .tup [V.str "num", V.str "at", V.int 1]) h1
  have e1 : upd H p1 (.tup [V.str "num", V.str "at", V.int 1]) p1 = some (.tup [V.str "num", V.str "at", V.int 1]) := upd_same
  generalize upd H p1 (.tup [V.str "num", V.str "at", V.int 1]) = H1 at y1 e1 ⊢
  refine ⟨_, rfl, three, fun p2 h2 => ?_⟩
  have y2 := Same.put (o := .tup [V.str "list", V.str "some", V.int (size : Int)]) h2
  have e2 : upd H1 p2 (.tup [V.str "list", V.str "some", V.int (size : Int)]) p2 = some (.tup [V.str "list", V.str "some", V.int (size : Int)]) := upd_same
  generalize upd H1 p2 (.tup [V.str "list", V.str "some", V.int (size : Int)]) = H2 at y2 e2 ⊢
  refine ⟨two, fun l3 h3 => ?_⟩
  have y3 := Same.put (o := .lst [V.ref p1, V.ref p2]) h3
  have e3 : upd H2 l3 (.lst [V.ref p1, V.ref p2]) l3 = some (.lst [V.ref p1, V.ref p2]) := upd_same
  generalize upd H2 l3 (.lst [V.ref p1, V.ref p2]) = H3 at y3 e3 ⊢
  refine ⟨Nat.zero_le _, fun l4 h4 => ?_⟩
  have y4 := Same.put (o := .lst []) h4
  have e4 : upd H3 l4 (.lst []) l4 = some (.lst []) := upd_same
  generalize upd H3 l4 (.lst []) = H4 at y4 e4 ⊢
  refine ⟨_, rfl, three, fun tr h5 => ?_⟩
  have y5 := Same.put (o := .tup [V.ref l3, V.ref l4, V.ref r]) h5
  have e5 : upd H4 tr (.tup [V.ref l3, V.ref l4, V.ref r]) tr = some (.tup [V.ref l3, V.ref l4, V.ref r]) := upd_same
  generalize upd H4 tr (.tup [V.ref l3, V.ref l4, V.ref r]) = H5 at y5 e5 ⊢
  have z45 := y4.trans y5
  have z35 := y3.trans z45
  have z25 := y2.trans z35
  have z05 := y1.trans z25
  refine ⟨_, rfl, _, rfl, tr, l3, l4, r, g, [V.ref p1, V.ref p2], xs, rowsD size ds, ds.map (·.pl), size, rfl, e5, z45 _ _ e3, .cons ⟨p1, rfl, z25 _ _ e1⟩ (.cons ⟨p2, rfl, z35 _ _ e2⟩ .nil), by omega, y5 _ _ e4, z05 _ _ l8.er, Paired.mapP l8.px fun _ _ z => z.keep fun b vs e => z05 _ _ e, rowsD_ok size ds, by rw [rowsD_len]; omega, z05 _ _ l8.eg, ?_⟩
  intro R a c st ew cs steps H6 s6 eR ea hew ca hcv est pst
  have hm' : runN ⟨0, List.replicate size 0, ds.map (·.pl), [], false⟩ (rowsD size ds) 0 = (m, n) := hm
  rw [hm'] at ea hew hcv pst
  have ea : H6 a = some (.lst (m.told.map V.int)) := ea
  have hew : ew = if m.fy = true then "fault" else "ended" := hew
  have hcv : cvals cs = [(("at" : Str), Sum.inl m.x), (("some" : Str), Sum.inr m.kept)] := hcv
  have pst : Paired (fun v (k : Int) => ∃ (T x y : Addr), v = .ref T ∧ H6 T = some (.tup [.int k, .ref x, .ref y])) steps ((List.range n).map fun n : Nat => (n : Int)) := pst
  rw [s2] at ea
  rw [s3] at hew
  rw [s1] at hcv
  have z06 := z05.trans s6
  -- the three comparisons
  have li : ∀ ns : List Int, (PyData.list (ns.map PyData.int)).canLay0 = true := fun ns => lay_ints ns
  have di : ∀ ns : List Int, (PyData.list (ns.map PyData.int)).depth ≤ 64 := fun ns => by show PyData.depthAll _ + 1 ≤ 64; have := dep_ints ns; omega
  have ei : ∀ ns : List Int, PyData.eqv (.list (ns.map PyData.int)) (.list (ns.map PyData.int)) = true := fun ns => SeqAt.eqv_refl _ (li ns)
  refine ⟨_, rfl, R, _, _, _, rfl, rfl, SqT.of eR, rfl, _, rfl, .list (e.told.map .int), .list (e.told.map .int), .lst (SqL.of ea) (rep_ints K _ _), .lst (SqL.of (z06 _ _ et)) (rep_ints K _ _), li _, li _, di _, _, rfl, ?_⟩
  rw [ei]
  refine iteF ?_
  refine ⟨_, rfl, R, _, _, _, rfl, rfl, SqT.of eR, rfl, _, rfl, rfl, _, rfl, ?_⟩
  have hweq : V.str ew = V.str (eW e) := by rw [hew]; unfold eW; split <;> rfl
  refine ite2 (fun h => by rw [decide_eq_true hweq] at h; cases h) (fun _ => ?_)
  obtain ⟨a2, rfl⟩ := cv_two hcv
  have eg2 : DGet H6 c (.str "some") (some (.ref a2)) := by
    have := DGet.k (k := .inr "some") ca.ed
    rw [look_ckv, cs_some] at this; exact this
  have ea2 := ca.ls "some" a2 e.kept (List.mem_cons_of_mem _ (List.mem_singleton.mpr rfl))
  refine ⟨_, rfl, R, _, _, _, rfl, rfl, SqT.of eR, rfl, c, _, rfl, eg2, _, rfl, .list (e.kept.map .int), .list (e.kept.map .int), .lst (SqL.of ea2) (rep_ints K _ _), .lst (SqL.of (z06 _ _ ek)) (rep_ints K _ _), li _, li _, di _, _, rfl, ?_⟩
  rw [ei]
  refine iteF ?_
  have lst : steps.length = n := by rw [pst.length, List.length_map, List.length_range]
  have hn160 : n ≤ 200 := by
    have h1 : e.begun ≤ 2 * ds.length := by have := bg_le size ds (l0 size); rw [he] at this; exact this
    omega
  refine ⟨_, rfl, R, _, _, _, rfl, rfl, SqT.of eR, rfl, st, rfl, ⟨_, SqL.of est⟩, comp_inv (K := K) (a := st) (xs := steps) (fvals := []) (fun acc i H7 => H6 acc = none ∧ Same H6 H7 ∧ H7 acc = some (.lst (((List.range i).map fun n : Nat => (n : Int)).map V.int))) ?_ ?_ ?_ ?_⟩
  · rintro acc i H7 ⟨_, s7, _⟩
    exact SqL.of (s7 _ _ est)
  · intro acc hacc
    exact ⟨hacc, Same.put hacc, upd_same⟩
  · rintro acc i x H7 RR hx ⟨hacc, s7, e7⟩ hRR
    obtain ⟨kk, hkk, T0, x', y', rfl, eT⟩ := paired_at pst hx
    have hi : i < steps.length := (List.getElem?_eq_some_iff.mp hx).1
    rw [List.getElem?_map, List.getElem?_range (by omega)] at hkk
    cases hkk
    refine ⟨_, rfl, T0, _, _, _, rfl, rfl, SqT.of (s7 _ _ eT), rfl, hRR _ _ ⟨_, e7, by rw [List.length_map, List.length_map, List.length_range]; omega, hacc, Kl.same s7 hacc Kl.one, ?_⟩⟩
    rw [upd_same, List.range_succ, List.map_append, List.map_append]; rfl
  · rintro acc H7 hacc ⟨_, s7, e7⟩
    rw [lst] at e7
    refine ⟨_, rfl, _, rfl, fun p hp => ?_⟩
    have y8 := Same.put (o := .rng 0 (e.begun : Int)) hp
    have e8 : upd H7 p (.rng 0 (e.begun : Int)) p = some (.rng 0 (e.begun : Int)) := upd_same
    generalize upd H7 p (.rng 0 (e.begun : Int)) = H8 at y8 e8 ⊢
    have hbn : e.begun = n := by omega
    refine ⟨p, _, _, rfl, e8, ⟨by decide, by decide, by omega, by omega⟩, by omega, fun l2 hl2 => ?_⟩
    have y9 := Same.put (o := .lst (rngV 0 ((e.begun : Int) - 0).toNat)) hl2
    have e9 : upd H8 l2 (.lst (rngV 0 ((e.begun : Int) - 0).toNat)) l2 = some (.lst (((List.range n).map fun n : Nat => (n : Int)).map V.int)) := by
      rw [upd_same, Int.sub_zero, Int.toNat_natCast, hbn]
      unfold rngV
      rw [List.map_map]
      refine congrArg (fun z => some (HO.lst z)) (List.map_congr_left fun i _ => ?_)
      show V.int (0 + (i : Int)) = V.int (i : Int)
      rw [Int.zero_add]
    generalize upd H8 l2 (.lst (rngV 0 ((e.begun : Int) - 0).toNat)) = H9 at y9 e9 ⊢
    refine ⟨.list (((List.range n).map fun n : Nat => (n : Int)).map .int), .list (((List.range n).map fun n : Nat => (n : Int)).map .int), .lst (SqL.of (y9 _ _ (y8 _ _ e7))) (rep_ints K _ _), .lst (SqL.of e9) (rep_ints K _ _), li _, li _, di _, ?_⟩
    rw [if_neg (by decide), ei]
    exact q H9
end
end K49

set_option Elab.async false
set_option linter.all false
set_option maxRecDepth 100000
set_option maxHeartbeats 4000000
namespace K49
open PySem L2
def forBody : Stmt → List Stmt
  | .For _ _ b _ _ => b
  | _ => []
abbrev lawLoop : List Stmt := forBody ((defBody s_law).getD 8 (.Pass ⟨0, 0, 0, 0⟩))
def K2 (k t : Addr) (H H' : Hp) : Prop := ∀ b u, H b = some u → b ≠ k → b ≠ t → H' b = some u
theorem kept_at {size : Nat} {kept : List Int} (h : KOk size kept) {i : Int} (h0 : 0 ≤ i) (h1 : i < (size : Int)) : atI (kept.map V.int) i = some (.int (kept.getD i.toNat 0)) := by
  obtain ⟨j, rfl⟩ : ∃ j : Nat, i = (j : Int) := ⟨i.toNat, by omega⟩
  have hj : j < kept.length := by rw [h.len]; omega
  rw [Int.toNat_natCast, List.getD_eq_getElem?_getD, List.getElem?_eq_getElem hj]
  exact atI_nat (by rw [List.getElem?_map, List.getElem?_eq_getElem hj]; rfl)
section
variable {P : Program} {w : World} {K : PySem.W.Frag} {mg : Str → Option Value} {base : Heap}
theorem law_U {f : Addr} {cdv : Value} {A : Around} {outer : List Env} {s : Shared} {H00 : Hp} {E : XK} (T : Bt mg) (hr : Room 11 (A.deeper (PyProof.Rows.envOfC "law" (defScope s_law) s.heap.objs.size f cdv))) :
    ∃ u, PSs (cxOf CX0 P w K mg base ["_law_script", "_law_first", "_law_size", "_law_rows", "_law_given", "_law_kept", "_law_told", "_law_end", "_law_begun", "_law_cell", "_law_more", "_law_word", "_law_deed_here", "_law_place", "_law_tree", "_law_found"] "law" (defScope s_law) f cdv A outer s H00 E).nox (lawLoop.drop 5) u ∧
      ∀ (D : Ends) (v0 v1 v3 v4 v9 v10 v11 v14 v15 : Option V) (size : Nat) (e : Lw) (d : D9) (k t dd wr : Addr) (H : Hp), H k = some (.lst (e.kept.map V.int)) → H t = some (.lst (e.told.map V.int)) → k ≠ t → KOk size e.kept → e.told.length ≤ 1000 → d.Ok → H dd = some (.tup [.str (if d.pt = true then "put" else "tell"), .ref wr, .int (if d.pt = true then d.num else 0)]) →
        (∀ (H' : Hp), K2 k t H H' → H' k = some (.lst ((lws size e d).kept.map V.int)) → H' t = some (.lst ((lws size e d).told.map V.int)) → D.nx [v0, v1, some (.int (size : Int)), v3, v4, some (.ref k), some (.ref t), some (.str (eW (lws size e d))), some (.int ((lws size e d).begun : Int)), v9, v10, v11, some (.ref dd), some (.int (plL size e d)), v14, v15] H') →
        u D [v0, v1, some (.int (size : Int)), v3, v4, some (.ref k), some (.ref t), some (.str (eW e)), some (.int (e.begun : Int)), v9, v10, v11, some (.ref dd), some (.int (plL size e d)), v14, v15] H := by
  refine ⟨_, (@pss_one _ _ _ (@ps_if _ _ _ _ _ _ _ _ (pt_cmpR op_eq (pv 7) pe_str (nomark _))
          (@pss_cons _ _ _ _ _ (ps_set (i := 8) sc_law.nd rfl (Or.inl rfl) (pe_op op_add (pv 8) pe_int))
          (@pss_one _ _ _ (@ps_if _ _ _ _ _ _ _ _ (pt_cmpR op_ge (pv 13) (pv 2) (nomark _))
            (@pss_one _ _ _ (ps_set (i := 7) sc_law.nd rfl (Or.inl rfl) pe_str))
            (@pss_one _ _ _ (@ps_if _ _ _ _ _ _ _ _ (pt_cmpR op_eq (pe_ix ix_tup (pv 12) pe_int (fun _ _ => rfl)) pe_str (nomark _))
              (@pss_one _ _ _ (ps_asg (pe_ix ix_tup (pv 12) pe_int (fun _ _ => rfl)) (pg_sub (pv 5) (pv 13) set_list)))
              (@pss_one _ _ _ (ps_expr (pe_bm PySem.F.plainAttrs_list PySem.F.slot_list_append PySem.F.type_list_append mt_append (pv 6) (@pa_consN _ _ _ _ _ (pe_ix ix_list (pv 5) (pv 13) (fun _ _ => rfl)) pa_nil rfl)))))))))
          pss_nil)), ?_⟩
  intro D v0 v1 v3 v4 v9 v10 v11 v14 v15 size e d k t dd wr H ek et kt hk htl ok ed q
  have hs : sizeLine = 16777216 := sizeLine_eq
  have hp := plL_bd hk ok
  obtain ⟨p, hpp⟩ : ∃ z, plL size e d = z := ⟨_, rfl⟩
  rw [hpp] at hp q ⊢
  unfold lws at q
  rw [hpp] at q
  obtain ⟨kept, told, bad, begun⟩ := e
  cases bad with
  | true =>
    rw [if_pos rfl] at q
    refine ⟨_, rfl, rfl, _, rfl, itDN (fun z => by have h : ("fault" : Str) = "ended" := V.str.inj z; revert h; decide +kernel) ?_⟩
    exact q H (fun b u e _ _ => e) ek et
  | false =>
    rw [if_neg (by show ¬ false = true; decide)] at q
    refine ⟨_, rfl, rfl, _, rfl, itDP rfl ?_⟩
    refine ⟨_, rfl, _, _, rfl, rfl, ?_⟩
    have hb2 : (begun : Int) + 2 = ((begun + 2 : Nat) : Int) := by omega
    refine ⟨_, rfl, _, rfl, _, _, rfl, rfl, _, rfl, ite2 (fun h => ?_) (fun h => ?_)⟩
    · have h : (size : Int) ≤ p := of_decide_eq_true h
      rw [if_pos h] at q
      have q1 := q H (fun b u e _ _ => e) ek et
      have q1 : D.nx [v0, v1, some (.int (size : Int)), v3, v4, some (.ref k), some (.ref t), some (.str "fault"), some (.int ((begun + 2 : Nat) : Int)), v9, v10, v11, some (.ref dd), some (.int p), v14, v15] H := q1
      rw [← hb2] at q1
      exact q1
    · have h : ¬ (size : Int) ≤ p := fun z => h (decide_eq_true z)
      rw [if_neg h] at q
      cases hpt : d.pt with
      | true =>
        rw [hpt] at q ed
        rw [if_pos rfl] at q
        refine ⟨_, rfl, dd, _, _, _, rfl, rfl, SqT.of ed, rfl, rfl, _, rfl, itDP rfl ?_⟩
        have hj : ixN (kept.map V.int).length p = some p.toNat := by
          unfold ixN
          have := hk.len
          have this : kept.length = size := this
          rw [List.length_map, if_pos hp.1, if_pos (by omega)]
        refine ⟨_, rfl, dd, _, _, _, rfl, rfl, SqT.of ed, rfl, _, rfl, _, rfl, k, _, _, _, rfl, rfl, ek, hj, ?_⟩
        have q1 := q (upd H k (.lst ((kept.map V.int).set p.toNat (V.int d.num)))) (fun b u e n1 _ => by rw [upd_ne n1]; exact e) (by rw [upd_same, List.map_set]) (by rw [upd_ne kt.symm]; exact et)
        have q1 : D.nx [v0, v1, some (.int (size : Int)), v3, v4, some (.ref k), some (.ref t), some (.str "ended"), some (.int ((begun + 2 : Nat) : Int)), v9, v10, v11, some (.ref dd), some (.int p), v14, v15] (upd H k (.lst ((kept.map V.int).set p.toNat (V.int d.num)))) := q1
        rw [← hb2] at q1
        exact q1
      | false =>
        rw [hpt] at q ed
        rw [if_neg (by decide)] at q
        refine ⟨_, rfl, dd, _, _, _, rfl, rfl, SqT.of ed, rfl, rfl, _, rfl, itDN (fun z => by have := V.str.inj z; revert this; decide +kernel) ?_⟩
        have hat := kept_at hk hp.1 (show p < (size : Int) by omega)
        refine ⟨_, rfl, .inl ⟨rfl, _, SqL.of et⟩, _, rfl, _, rfl, k, _, _, _, rfl, rfl, SqL.of ek, hat, t, _, _, rfl, rfl, et, by rw [List.length_map]; show told.length < _; have : told.length ≤ 1000 := htl; omega, ?_⟩
        have q1 := q (upd H t (.lst (told.map V.int ++ [V.int (kept.getD p.toNat 0)]))) (fun b u e _ n2 => by rw [upd_ne n2]; exact e) (by rw [upd_ne kt]; exact ek) (by rw [upd_same, List.map_append]; rfl)
        have q1 : D.nx [v0, v1, some (.int (size : Int)), v3, v4, some (.ref k), some (.ref t), some (.str "ended"), some (.int ((begun + 2 : Nat) : Int)), v9, v10, v11, some (.ref dd), some (.int p), v14, v15] (upd H t (.lst (told.map V.int ++ [V.int (kept.getD p.toNat 0)]))) := q1
        rw [← hb2] at q1
        exact q1
theorem law_T {f : Addr} {cdv : Value} {A : Around} {outer : List Env} {s : Shared} {H00 : Hp} {E : XK} (T : Bt mg) (hr : Room 11 (A.deeper (PyProof.Rows.envOfC "law" (defScope s_law) s.heap.objs.size f cdv))) :
    ∃ u, PSs (cxOf CX0 P w K mg base ["_law_script", "_law_first", "_law_size", "_law_rows", "_law_given", "_law_kept", "_law_told", "_law_end", "_law_begun", "_law_cell", "_law_more", "_law_word", "_law_deed_here", "_law_place", "_law_tree", "_law_found"] "law" (defScope s_law) f cdv A outer s H00 E).nox (lawLoop.drop 4) u ∧
      ∀ (D : Ends) (v0 v1 v3 v4 v9 v10 v11 v14 v15 : Option V) (size : Nat) (e : Lw) (d : D9) (k t dd wr : Addr) (us : List V) (H : Hp), H k = some (.lst (e.kept.map V.int)) → H t = some (.lst (e.told.map V.int)) → k ≠ t → KOk size e.kept → 1 ≤ size → e.told.length ≤ 1000 → d.Ok → H dd = some (.tup [.str (if d.pt = true then "put" else "tell"), .ref wr, .int (if d.pt = true then d.num else 0)]) → H wr = some (.tup (.str (if d.far = true then "at" else "name") :: us)) →
        (∀ (H' : Hp) (v13 : Option V), K2 k t H H' → H' k = some (.lst ((lws size e d).kept.map V.int)) → H' t = some (.lst ((lws size e d).told.map V.int)) → D.nx [v0, v1, some (.int (size : Int)), v3, v4, some (.ref k), some (.ref t), some (.str (eW (lws size e d))), some (.int ((lws size e d).begun : Int)), v9, v10, v11, some (.ref dd), v13, v14, v15] H') →
        u D [v0, v1, some (.int (size : Int)), v3, v4, some (.ref k), some (.ref t), some (.str (eW e)), some (.int (e.begun : Int)), v9, v10, v11, some (.ref dd), some (.int d.pl), v14, v15] H := by
  obtain ⟨uU, hU, kU⟩ := law_U (P := P) (w := w) (K := K) (mg := mg) (base := base) (f := f) (cdv := cdv) (outer := outer) (H00 := H00) (E := E) T hr
  refine ⟨_, (@pss_cons _ _ _ _ _ (@ps_if _ _ _ _ _ _ _ _ (pt_cmpR op_eq (pe_ix ix_tup (pe_ix ix_tup (pv 12) pe_int (fun _ _ => rfl)) pe_int (fun _ _ => rfl)) pe_str (nomark _))
          (@pss_one _ _ _ (ps_set (i := 13) sc_law.nd rfl (Or.inl rfl) (pe_ix ix_list (pv 5) (pe_op op_sub (pv 2) pe_int) (fun _ _ => rfl))))
          pss_nil)
        hU), ?_⟩
  intro D v0 v1 v3 v4 v9 v10 v11 v14 v15 size e d k t dd wr us H ek et kt hk z1 htl ok ed ew q
  have hq := kU D v0 v1 v3 v4 v9 v10 v11 v14 v15 size e d k t dd wr H ek et kt hk htl ok ed fun H' h1 h2 h3 => q H' _ h1 h2 h3
  unfold plL at hq
  cases hf : d.far with
  | true =>
    rw [hf] at ew hq
    rw [if_pos rfl] at hq
    refine ⟨_, rfl, dd, _, _, _, rfl, rfl, SqT.of ed, rfl, wr, _, _, _, rfl, rfl, SqT.of ew, at_zero _ _, rfl, _, rfl, itDP rfl ?_⟩
    have hat := kept_at hk (i := (size : Int) - 1) (by omega) (by omega)
    rw [show ((size : Int) - 1).toNat = size - 1 by omega] at hat
    exact ⟨_, rfl, _, rfl, _, _, rfl, rfl, k, _, _, _, rfl, rfl, SqL.of ek, hat, hq⟩
  | false =>
    rw [hf] at ew hq
    rw [if_neg (by decide)] at hq
    refine ⟨_, rfl, dd, _, _, _, rfl, rfl, SqT.of ed, rfl, wr, _, _, _, rfl, rfl, SqT.of ew, at_zero _ _, rfl, _, rfl, itDN (fun z => by have := V.str.inj z; revert this; decide +kernel) ?_⟩
    exact hq
end
end K49

set_option Elab.async false
set_option linter.all false
set_option maxRecDepth 100000
set_option maxHeartbeats 4000000
namespace K49
open PySem L2
def sp_law (K : PySem.W.Frag) : Sp := fun vs H Q _ => ∃ (a : Addr) (ns : List Int), vs = [.ref a] ∧ SqL K H a (ns.map V.int) ∧ ns.length ≤ 63 ∧ ∀ H', Q (.bl true) H'
theorem size_at {v i : Int} (h0 : 0 ≤ v) (h1 : v < 99) (i0 : 0 ≤ i) (i1 : i < 5) : ∃ z : Nat, 1 ≤ z ∧ z ≤ 99 ∧ atI [V.int 1, V.int 2, V.int 3, V.int (1 + v), V.int 99] i = some (.int (z : Int)) := by
  have : i = 0 ∨ i = 1 ∨ i = 2 ∨ i = 3 ∨ i = 4 := by omega
  rcases this with rfl | rfl | rfl | rfl | rfl
  · exact ⟨1, by decide, by decide, rfl⟩
  · exact ⟨2, by decide, by decide, rfl⟩
  · exact ⟨3, by decide, by decide, rfl⟩
  · refine ⟨(1 + v).toNat, by omega, by omega, ?_⟩
    rw [show (((1 + v).toNat : Nat) : Int) = 1 + v by omega]; rfl
  · exact ⟨99, by decide, by decide, rfl⟩
theorem cut41 (ns : List Int) : ∃ cs : List Int, cutV (ns.map V.int) (some 1) (some 41) = cs.map V.int ∧ cs.length ≤ 40 := by
  refine ⟨(ns.drop (HT.sIx (ns.map V.int).length 0 (some 1))).take (HT.sIx (ns.map V.int).length (ns.map V.int).length (some 41) - HT.sIx (ns.map V.int).length 0 (some 1)), ?_, ?_⟩
  · unfold cutV; rw [List.map_take, List.map_drop]
  · have h1 : HT.sIx (ns.map V.int).length 0 (some 1) = min 1 (ns.map V.int).length := HT.sIx_nat _ _ 1
    have h2 : HT.sIx (ns.map V.int).length (ns.map V.int).length (some 41) = min 41 (ns.map V.int).length := HT.sIx_nat _ _ 41
    rw [List.length_take, h1, h2]; omega
def K3 (g k t : Addr) (H H' : Hp) : Prop := ∀ b u, H b = some u → b ≠ g → b ≠ k → b ≠ t → H' b = some u
theorem fold_ok {size : Nat} : ∀ {ds : List D9} {l : Lw}, KOk size l.kept → (∀ d ∈ ds, d.Ok) → KOk size (ds.foldl (lws size) l).kept
  | [], _, h, _ => h
  | d :: r, l, h, ok => by rw [List.foldl_cons]; exact fold_ok (ds := r) (lws_ok h (ok d List.mem_cons_self)) fun z hz => ok z (List.mem_cons_of_mem _ hz)
theorem fold_told {size : Nat} : ∀ (ds : List D9) (l : Lw), (ds.foldl (lws size) l).told.length ≤ ds.length + l.told.length
  | [], l => by show l.told.length ≤ _; omega
  | d :: r, l => by
    have := fold_told (size := size) r (lws size l d)
    have h2 : (lws size l d).told.length ≤ l.told.length + 1 := by
      unfold lws
      split
      · omega
      split
      · exact Nat.le_succ _
      split
      · exact Nat.le_succ _
      · show (l.told ++ [_]).length ≤ _; rw [List.length_append]; exact Nat.le_refl _
    rw [List.foldl_cons]
    show _ ≤ r.length + 1 + l.told.length
    omega
section
variable {P : Program} {w : World} {K : PySem.W.Frag} {mg : Str → Option Value} {base : Heap}
theorem ok_law {x0 x1 x2 x3 x4 x5 x6 x7 x8 x9 x10 x11 x12 x13 f fi MC : Addr} {e0 e1 e2 e3 e4 e5 e6 e7 e8 e9 e10 e11 e12 e13 fd di : FuncData} {g1 g2 g3 g4 g5 g6 g7 g8 g9 g10 : Addr} {c1 c2 c3 c4 c5 c6 c7 c8 c9 c10 : FuncData} (F : Fun K "law" "law" s_law f fd) (T : Bt mg) (C : Ct K mg) (T_with_inner : Fn K mg "with_inner" s_with_inner ["body"] x0 e0) (T_inner_bodies : Fn K mg "inner_bodies" s_inner_bodies ["statement", "first"] x1 e1) (T_counted : Fn K mg "counted" s_counted ["body", "first"] x2 e2) (T_counted_tree : Fn K mg "counted_tree" s_counted_tree ["tree"] x3 e3) (T_signed : Fn K mg "signed" s_signed ["number"] x4 e4) (T_joined : Fn K mg "joined" s_joined ["op", "one", "another"] x5 e5) (T_first_cells : Fn K mg "first_cells" s_first_cells ["variables"] x6 e6) (T_copied : Fn K mg "copied" s_copied ["cells"] x7 e7) (T_meant : Fn K mg "meant" s_meant ["tree", "given", "most"] x8 e8) (T_law_cell_at : Fn K mg "_law_cell_at" s_law_cell_at ["_law_script", "_law_k"] x9 e9) (T_law_mixed : Fn K mg "_law_mixed" s_law_mixed ["_law_number", "_law_k"] x10 e10) (T_law_stream : Fn K mg "_law_stream" s_law_stream ["_law_cell"] x11 e11) (T_law_take : Fn K mg "_law_take" s_law_take ["_law_stream_here", "_law_size"] x12 e12) (T_law_deed : Fn K mg "_law_deed" s_law_deed ["_law_stream_here", "_law_size"] x13 e13) (T_Meaning : Mc K mg MC fi di) (T_Meaning_is_going : Mt K MC "is_going" "Meaning.is_going" s_Meaning_is_going ["self"] g1 c1) (T_Meaning_end_so_far : Mt K MC "end_so_far" "Meaning.end_so_far" s_Meaning_end_so_far ["self"] g2 c2) (T_Meaning_next_entry : Mt K MC "next_entry" "Meaning.next_entry" s_Meaning_next_entry ["self"] g3 c3) (T_Meaning_step_ahead : Mt K MC "step_ahead" "Meaning.step_ahead" s_Meaning_step_ahead ["self"] g4 c4) (T_Meaning_value_of : Mt K MC "value_of" "Meaning.value_of" s_Meaning_value_of ["self", "expr"] g5 c5) (T_Meaning_place_in : Mt K MC "place_in" "Meaning.place_in" s_Meaning_place_in ["self", "name", "expr"] g6 c6) (T_Meaning_do_next : Mt K MC "do_next" "Meaning.do_next" s_Meaning_do_next ["self"] g7 c7) (T_Meaning_choose : Mt K MC "choose" "Meaning.choose" s_Meaning_choose ["self", "entry"] g8 c8) (T_Meaning_do_with_value : Mt K MC "do_with_value" "Meaning.do_with_value" s_Meaning_do_with_value ["self", "statement"] g9 c9) (T_Meaning_do_plain : Mt K MC "do_plain" "Meaning.do_plain" s_Meaning_do_plain ["self", "statement"] g10 c10) : FnOk P w K mg base CX0 12 f fd ["_law_script"] (sp_law K) := by
  have G_law_cell_at := ok_law_cell_at (P := P) (w := w) (base := base) T_law_cell_at.F T
  have G_law_stream := ok_law_stream (P := P) (w := w) (base := base) T_law_stream.F T
  have G_law_take := ok_law_take (P := P) (w := w) (mg := mg) (base := base) T_law_take.F T_law_mixed
  have G_law_deed := ok_law_deed (P := P) (w := w) (base := base) T_law_deed.F T T_law_mixed T_law_take
  refine F.ok (k := 11) sc_law (fun vs H Q E h => ?_) (fun cdv A outer s H vs Q E hr h => ?_)
  · obtain ⟨a, ns, rfl, _⟩ := h; rfl
  · obtain ⟨a, ns, rfl, hq, hn63, q⟩ := h
    have hs : sizeLine = 16777216 := sizeLine_eq
    obtain ⟨uC, hC, kC⟩ := law_C (P := P) (w := w) (base := base) (f := f) (cdv := cdv) (outer := outer) (H00 := H) (E := E) T C T_with_inner T_inner_bodies T_counted T_counted_tree T_signed T_joined T_first_cells T_copied T_meant T_law_cell_at T_law_mixed T_law_stream T_law_take T_law_deed T_Meaning T_Meaning_is_going T_Meaning_end_so_far T_Meaning_next_entry T_Meaning_step_ahead T_Meaning_value_of T_Meaning_place_in T_Meaning_do_next T_Meaning_choose T_Meaning_do_with_value T_Meaning_do_plain hr
    obtain ⟨uT, hT, kT⟩ := law_T (P := P) (w := w) (K := K) (mg := mg) (base := base) (f := f) (cdv := cdv) (outer := outer) (H00 := H) (E := E) T hr
    refine ⟨_, (@pss_cons _ _ _ _ _ (ps_set (i := 1) sc_law.nd rfl (Or.inl rfl) (pe_call G_law_stream (hr.mono (by decide)) rfl T_law_stream.m T_law_stream.F.kp T_law_stream.b .nil pass0 (@pa_consN _ _ _ _ _ (pe_call G_law_cell_at (hr.mono (by decide)) rfl T_law_cell_at.m T_law_cell_at.F.kp T_law_cell_at.b .nil pass0 (@pa_consN _ _ _ _ _ (pv 0) (@pa_consN _ _ _ _ _ pe_int pa_nil rfl) rfl)) pa_nil rfl)))
      (@pss_cons _ _ _ _ _ (ps_set (i := 2) sc_law.nd rfl (Or.inl rfl) (pe_ix ix_list (@pe_lst _ _ _ _ (@pa_consN _ _ _ _ _ pe_int (@pa_consN _ _ _ _ _ pe_int (@pa_consN _ _ _ _ _ pe_int (@pa_consN _ _ _ _ _ (pe_op op_add pe_int (pe_call G_law_take (hr.mono (by decide)) rfl T_law_take.m T_law_take.F.kp T_law_take.b .nil pass0 (@pa_consN _ _ _ _ _ (pv 1) (@pa_consN _ _ _ _ _ pe_int pa_nil rfl) rfl))) (@pa_consN _ _ _ _ _ pe_int pa_nil rfl) rfl) rfl) rfl) rfl)) (pe_call G_law_take (hr.mono (by decide)) rfl T_law_take.m T_law_take.F.kp T_law_take.b .nil pass0 (@pa_consN _ _ _ _ _ (pv 1) (@pa_consN _ _ _ _ _ pe_int pa_nil rfl) rfl)) (fun _ _ => rfl)))
      (@pss_cons _ _ _ _ _ (ps_set (i := 3) sc_law.nd rfl (Or.inl rfl) (@pe_lst _ _ _ _ pa_nil))
      (@pss_cons _ _ _ _ _ (ps_set (i := 4) sc_law.nd rfl (Or.inl rfl) (@pe_lst _ _ _ _ pa_nil))
      (@pss_cons _ _ _ _ _ (ps_set (i := 5) sc_law.nd rfl (Or.inl rfl) (pe_op op_repL1 (@pe_lst _ _ _ _ (@pa_consN _ _ _ _ _ pe_int pa_nil rfl)) (pv 2)))
      (@pss_cons _ _ _ _ _ (ps_set (i := 6) sc_law.nd rfl (Or.inl rfl) (@pe_lst _ _ _ _ pa_nil))
      (@pss_cons _ _ _ _ _ (ps_set (i := 7) sc_law.nd rfl (Or.inl rfl) pe_str)
      (@pss_cons _ _ _ _ _ (ps_set (i := 8) sc_law.nd rfl (Or.inl rfl) pe_int)
      (@pss_cons _ _ _ _ _ (ps_for PassesOwn.never rfl (pi_list (pe_slice sl_list (pv 0) (po_some pe_int) (po_some pe_int))) (pg_name (i := 9) sc_law.nd rfl (Or.inl rfl))
        (@pss_cons _ _ _ _ _ (ps_asg (pe_call G_law_deed (hr.mono (by decide)) rfl T_law_deed.m T_law_deed.F.kp T_law_deed.b .nil pass0 (@pa_consN _ _ _ _ _ (pe_call G_law_stream (hr.mono (by decide)) rfl T_law_stream.m T_law_stream.F.kp T_law_stream.b .nil pass0 (@pa_consN _ _ _ _ _ (pv 9) pa_nil rfl)) (@pa_consN _ _ _ _ _ (pv 2) pa_nil rfl) rfl)) (pg_tup rfl (pgs_cons (pg_name (i := 10) sc_law.nd rfl (Or.inl rfl)) (pgs_cons (pg_name (i := 11) sc_law.nd rfl (Or.inl rfl)) (pgs_cons (pg_name (i := 12) sc_law.nd rfl (Or.inl rfl)) pgs_nil)))))
        (@pss_cons _ _ _ _ _ (ps_set (i := 3) sc_law.nd rfl (Or.inl rfl) (pe_op op_cat (pv 3) (pv 10)))
        (@pss_cons _ _ _ _ _ (ps_expr (pe_bm PySem.F.plainAttrs_list PySem.F.slot_list_append PySem.F.type_list_append mt_append (pv 4) (@pa_consN _ _ _ _ _ (pv 11) pa_nil rfl)))
        (@pss_cons _ _ _ _ _ (ps_set (i := 13) sc_law.nd rfl (Or.inl rfl) (pv 11))
        hT)))))
      hC))))))))), ?_⟩
    refine ⟨_, rfl, a, ns, 0, rfl, hq, _, rfl, fun fs H1 hfs y1 st1 => ?_⟩
    refine ⟨_, rfl, fs, 0, 99, rfl, st1, by decide, by decide, by decide, fun v H2 k2 st2 v0 v1 => ⟨_, _, rfl, rfl, (by show 5 ≤ sizeLine; omega), fun zl hzl => ?_⟩⟩
    have y3 := Same.put (o := .lst [V.int 1, V.int 2, V.int 3, V.int (1 + v), V.int 99]) hzl
    have ezl : upd H2 zl (.lst [V.int 1, V.int 2, V.int 3, V.int (1 + v), V.int 99]) zl = some (.lst [V.int 1, V.int 2, V.int 3, V.int (1 + v), V.int 99]) := upd_same
    generalize upd H2 zl (.lst [V.int 1, V.int 2, V.int 3, V.int (1 + v), V.int 99]) = H3 at y3 ezl ⊢
    have zlf : zl ≠ fs := fun z => by
      obtain ⟨x, fl, y, ea⟩ := st2
      rw [z, ea] at hzl; cases hzl
    refine ⟨_, rfl, fs, 1, 5, rfl, st2.same y3, by decide, by decide, by decide, fun i H4 k4 st4 i0 i1 => ?_⟩
    obtain ⟨size, z1, z2, hat⟩ := size_at v0 v1 i0 i1
    refine ⟨zl, _, _, _, rfl, rfl, SqL.of (k4 _ _ ezl zlf), hat, ?_⟩
    have s4 : Same H H4 := Kl.same y1 hfs ((k2.trans (Kl.of y3)).trans k4)
    refine ⟨Nat.zero_le _, fun r0 hr0 => ?_⟩
    have y5 := Same.put (o := .lst []) hr0
    have er0 : upd H4 r0 (.lst []) r0 = some (.lst []) := upd_same
    generalize upd H4 r0 (.lst []) = H5 at y5 er0 ⊢
    refine ⟨Nat.zero_le _, fun g hg => ?_⟩
    have y6 := Same.put (o := .lst []) hg
    have eg : upd H5 g (.lst []) g = some (.lst []) := upd_same
    generalize upd H5 g (.lst []) = H6 at y6 eg ⊢
    refine ⟨(by show 1 ≤ sizeLine; omega), fun q0 hq0 => ?_⟩
    have y7 := Same.put (o := .lst [V.int 0]) hq0
    have eq0 : upd H6 q0 (.lst [V.int 0]) q0 = some (.lst [V.int 0]) := upd_same
    generalize upd H6 q0 (.lst [V.int 0]) = H7 at y7 eq0 ⊢
    refine ⟨_, rfl, q0, _, _, rfl, rfl, eq0, by omega, by omega, fun k hk => ?_⟩
    have y8 := Same.put (o := .lst (List.replicate (size : Int).toNat (V.int 0))) hk
    have ek : upd H7 k (.lst (List.replicate (size : Int).toNat (V.int 0))) k = some (.lst ((List.replicate size (0 : Int)).map V.int)) := by rw [upd_same, Int.toNat_natCast, List.map_replicate]
    generalize upd H7 k (.lst (List.replicate (size : Int).toNat (V.int 0))) = H8 at y8 ek ⊢
    refine ⟨Nat.zero_le _, fun t ht => ?_⟩
    have y9 := Same.put (o := .lst []) ht
    have et : upd H8 t (.lst []) t = some (.lst []) := upd_same
    generalize upd H8 t (.lst []) = H9 at y9 et ⊢
    have s9 : Same H H9 := s4.trans (y5.trans (y6.trans (y7.trans (y8.trans y9))))
    have hq9 : SqL K H9 a (ns.map V.int) := s9.seq hq
    obtain ⟨cs, hcs, lcs⟩ := cut41 ns
    refine ⟨_, rfl, _, rfl, _, rfl, a, _, rfl, hq9, fun sl hsl => ?_⟩
    rw [hcs]
    have y10 := Same.put (o := .lst (cs.map V.int)) hsl
    have esl : upd H9 sl (.lst (cs.map V.int)) sl = some (.lst (cs.map V.int)) := upd_same
    generalize upd H9 sl (.lst (cs.map V.int)) = Hs at y10 esl ⊢
    have yg : Same H6 Hs := y7.trans (y8.trans (y9.trans y10))
    have ekS := y10 _ _ (y9 _ _ ek)
    have egS := yg _ _ eg
    have etS := y10 _ _ et
    have gk : g ≠ k := ne_of_none (y7 _ _ eg) hk
    have gt : g ≠ t := ne_of_none (y8 _ _ (y7 _ _ eg)) ht
    have kt : k ≠ t := ne_of_none ek ht
    have slg : sl ≠ g := fun z => by rw [z, y9 _ _ (y8 _ _ (y7 _ _ eg))] at hsl; cases hsl
    have slk : sl ≠ k := fun z => by rw [z, y9 _ _ ek] at hsl; cases hsl
    have slt : sl ≠ t := fun z => by rw [z, et] at hsl; cases hsl
    refine ⟨sl, rfl, ⟨_, SqL.of esl⟩, for_list (K := K) (a := sl) (xs := cs.map V.int) (fun i σ H5 => ∃ (v9 v10 v11 v12 v13 : Option V) (r : Addr) (xs : List V) (ds : List D9), σ = [some (.ref a), some (.ref fs), some (.int (size : Int)), some (.ref r), some (.ref g), some (.ref k), some (.ref t), some (.str (eW (ds.foldl (lws size) (l0 size)))), some (.int ((ds.foldl (lws size) (l0 size)).begun : Int)), v9, v10, v11, v12, v13, none, none] ∧ L8 H5 size ds r g k t xs ∧ ds.length = i ∧ K3 g k t Hs H5)
      ⟨_, _, _, _, _, r0, [], [], rfl, ⟨(y6.trans yg) _ _ er0, .nil, egS, ekS, etS, fun d h => (by cases h), Nat.zero_le _, z1, z2⟩, rfl, fun b u e _ _ _ => e⟩ ?_ ?_ ?_⟩
    · rintro i σ H5 _ ⟨v9, v10, v11, v12, v13, r, xs, ds, rfl, l8, _, k5⟩
      exact SqL.of (k5 _ _ esl slg slk slt)
    · rintro i x σ H5 hx ⟨v9, v10, v11, v12, v13, r, xs, ds, rfl, l8, hdl, k5⟩
      have hi : i < cs.length := by have := (List.getElem?_eq_some_iff.mp hx).1; rwa [List.length_map] at this
      rw [List.getElem?_map, List.getElem?_eq_getElem hi] at hx
      cases hx
      have lx : xs.length = 2 * ds.length := by rw [l8.px.length, rowsD_len]
      refine ⟨_, rfl, _, rfl, fun s2 Ha hs2 ya sta => ?_⟩
      refine ⟨_, rfl, s2, (size : Int), rfl, sta, by omega, by omega, fun d R rr v1 v2 dd wr Hb kb da ok => ?_⟩
      have l8a : ∀ {b : Addr} {u : HO}, H5 b = some u → Hb b = some u := fun e => kb _ _ (ya _ _ e) (ne_of_none e hs2)
      have s5b : Same H5 Hb := fun b u e => l8a e
      refine ⟨R, _, rfl, SqT.of da.eR, rfl, _, _, rfl, _, _, rfl, _, _, rfl, rfl, ?_⟩
      refine ⟨_, rfl, _, rfl, r, rr, _, _, rfl, rfl, l8a l8.er, da.er, by rw [show [v1, v2].length = 2 from rfl]; omega, fun r' hr' => ?_⟩
      have yc := Same.put (o := .lst (xs ++ [v1, v2])) hr'
      have er' : upd Hb r' (.lst (xs ++ [v1, v2])) r' = some (.lst (xs ++ [v1, v2])) := upd_same
      generalize upd Hb r' (.lst (xs ++ [v1, v2])) = Hc at yc er' ⊢
      have s5c := s5b.trans yc
      have egc := s5c _ _ l8.eg
      refine ⟨_, rfl, .inl ⟨rfl, _, SqL.of egc⟩, _, rfl, g, _, _, rfl, rfl, egc, by rw [List.length_map, List.length_map]; omega, ?_⟩
      have kg : Kl g Hc (upd Hc g (.lst ((ds.map (·.pl)).map V.int ++ [V.int d.pl]))) := Kl.one
      have eg' : upd Hc g (.lst ((ds.map (·.pl)).map V.int ++ [V.int d.pl])) g = some (.lst (((ds ++ [d]).map (·.pl)).map V.int)) := by rw [upd_same, List.map_append, List.map_append]; rfl
      generalize upd Hc g (.lst ((ds.map (·.pl)).map V.int ++ [V.int d.pl])) = Hd at kg eg' ⊢
      refine ⟨_, rfl, ?_⟩
      have tg : ∀ {b : Addr} {vs : List V}, Hc b = some (.tup vs) → Hd b = some (.tup vs) := fun e => kg _ _ e (ne_of e egc (by intro z; cases z))
      have ekd := kg _ _ (s5c _ _ l8.ek) gk.symm
      have etd := kg _ _ (s5c _ _ l8.et) gt.symm
      have r'g : r' ≠ g := fun z => by rw [z, l8a l8.eg] at hr'; cases hr'
      have r'k : r' ≠ k := fun z => by rw [z, l8a l8.ek] at hr'; cases hr'
      have r't : r' ≠ t := fun z => by rw [z, l8a l8.et] at hr'; cases hr'
      have erd := kg _ _ er' r'g
      obtain ⟨us, ew⟩ := da.ew
      have hko := fold_ok (size := size) (l0_ok size) l8.ok
      have htl := fold_told (size := size) ds (l0 size)
      have ht0 : (l0 size).told.length = 0 := rfl
      refine kT _ _ _ _ _ _ _ _ _ _ size (ds.foldl (lws size) (l0 size)) d k t dd wr us Hd ekd etd kt hko z1 (by omega) ok (tg (yc _ _ da.ed)) (tg (yc _ _ ew)) fun He v13' k2' ek' et' => ?_
      have hfo : (ds ++ [d]).foldl (lws size) (l0 size) = lws size (ds.foldl (lws size) (l0 size)) d := by rw [List.foldl_append]; rfl
      have te : ∀ {b : Addr} {vs : List V}, Hc b = some (.tup vs) → He b = some (.tup vs) := fun e => k2' _ _ (tg e) (ne_of (tg e) ekd (by intro z; cases z)) (ne_of (tg e) etd (by intro z; cases z))
      refine ⟨_, _, _, _, v13', r', xs ++ [v1, v2], ds ++ [d], by rw [hfo], ⟨k2' _ _ erd r'k r't, ?_, k2' _ _ eg' gk gt, by rw [hfo]; exact ek', by rw [hfo]; exact et', fun z hz => ?_, by rw [List.length_append]; show ds.length + 1 ≤ 40; omega, z1, z2⟩, by rw [List.length_append, hdl]; rfl, fun b u e n1 n2 n3 => k2' _ _ (kg _ _ (s5c _ _ (k5 _ _ e n1 n2 n3)) n1) n2 n3⟩
      · rw [rowsD_app]
        exact Paired.app (Paired.mapP l8.px fun _ _ z => z.keep fun b vs e => te (s5c _ _ e)) (.cons (da.s1.keep fun b vs e => te (yc _ _ e)) (.cons (da.s2.keep fun b vs e => te (yc _ _ e)) .nil))
      · rcases List.mem_append.mp hz with h | h
        · exact l8.ok z h
        · rw [List.mem_singleton.mp h]; exact ok
    · rintro σ H5 ⟨v9, v10, v11, v12, v13, r, xs, ds, rfl, l8, hdl, k5⟩
      exact kC _ _ _ _ _ _ _ _ _ _ size ds r g k t xs H5 l8 q
end
end K49

set_option Elab.async false
set_option linter.all false
set_option maxRecDepth 100000
set_option maxHeartbeats 4000000
namespace K49
open PySem L2
theorem all_mk {l : PySem.W.OpenLaw} {w : World} {K : PySem.W.Frag} {h : Heap} {mg : Str → Option Value} {fz : Addr} {tk : Tok} (X : K.In h) (G : h.Ns mainGlobals mg) (hfa : mg "law" = some (.ref fz))
    {f0 : Addr} {od0 an0 : Option Addr} {sl0 : Array (Option Value)} {oc0 kV0 dc0 pm0 cd0 ct0 : Value}
    {f1 : Addr} {od1 an1 : Option Addr} {sl1 : Array (Option Value)} {oc1 kV1 dc1 pm1 cd1 ct1 : Value}
    {f2 : Addr} {od2 an2 : Option Addr} {sl2 : Array (Option Value)} {oc2 kV2 dc2 pm2 cd2 ct2 : Value}
    {f3 : Addr} {od3 an3 : Option Addr} {sl3 : Array (Option Value)} {oc3 kV3 dc3 pm3 cd3 ct3 : Value}
    {f4 : Addr} {od4 an4 : Option Addr} {sl4 : Array (Option Value)} {oc4 kV4 dc4 pm4 cd4 ct4 : Value}
    {f5 : Addr} {od5 an5 : Option Addr} {sl5 : Array (Option Value)} {oc5 kV5 dc5 pm5 cd5 ct5 : Value}
    {f6 : Addr} {od6 an6 : Option Addr} {sl6 : Array (Option Value)} {oc6 kV6 dc6 pm6 cd6 ct6 : Value}
    {f7 : Addr} {od7 an7 : Option Addr} {sl7 : Array (Option Value)} {oc7 kV7 dc7 pm7 cd7 ct7 : Value}
    {f8 : Addr} {od8 an8 : Option Addr} {sl8 : Array (Option Value)} {oc8 kV8 dc8 pm8 cd8 ct8 : Value}
    {f9 : Addr} {od9 an9 : Option Addr} {sl9 : Array (Option Value)} {oc9 kV9 dc9 pm9 cd9 ct9 : Value}
    {f10 : Addr} {od10 an10 : Option Addr} {sl10 : Array (Option Value)} {oc10 kV10 dc10 pm10 cd10 ct10 : Value}
    {f11 : Addr} {od11 an11 : Option Addr} {sl11 : Array (Option Value)} {oc11 kV11 dc11 pm11 cd11 ct11 : Value}
    {f12 : Addr} {od12 an12 : Option Addr} {sl12 : Array (Option Value)} {oc12 kV12 dc12 pm12 cd12 ct12 : Value}
    {f13 : Addr} {od13 an13 : Option Addr} {sl13 : Array (Option Value)} {oc13 kV13 dc13 pm13 cd13 ct13 : Value}
    {f14 : Addr} {od14 an14 : Option Addr} {sl14 : Array (Option Value)} {oc14 kV14 dc14 pm14 cd14 ct14 : Value}
    (a0 : PySem.W.nsIn K mainGlobals "with_inner" = some (some (.ref f0))) (l0 : K.lookup f0 = some ⟨oc0, od0, .func (PySem.W.fnOf "with_inner" "with_inner" (defArgs s_with_inner) (defBody s_with_inner) (defScope s_with_inner) .none kV0 dc0 pm0 an0 cd0 ct0), sl0⟩) (c0 : PySem.W.codeIn K cd0 "with_inner" = true) (k0 : PySem.W.keepIn K (.ref f0) = true)
    (a1 : PySem.W.nsIn K mainGlobals "inner_bodies" = some (some (.ref f1))) (l1 : K.lookup f1 = some ⟨oc1, od1, .func (PySem.W.fnOf "inner_bodies" "inner_bodies" (defArgs s_inner_bodies) (defBody s_inner_bodies) (defScope s_inner_bodies) .none kV1 dc1 pm1 an1 cd1 ct1), sl1⟩) (c1 : PySem.W.codeIn K cd1 "inner_bodies" = true) (k1 : PySem.W.keepIn K (.ref f1) = true)
    (a2 : PySem.W.nsIn K mainGlobals "counted" = some (some (.ref f2))) (l2 : K.lookup f2 = some ⟨oc2, od2, .func (PySem.W.fnOf "counted" "counted" (defArgs s_counted) (defBody s_counted) (defScope s_counted) .none kV2 dc2 pm2 an2 cd2 ct2), sl2⟩) (c2 : PySem.W.codeIn K cd2 "counted" = true) (k2 : PySem.W.keepIn K (.ref f2) = true)
    (a3 : PySem.W.nsIn K mainGlobals "counted_tree" = some (some (.ref f3))) (l3 : K.lookup f3 = some ⟨oc3, od3, .func (PySem.W.fnOf "counted_tree" "counted_tree" (defArgs s_counted_tree) (defBody s_counted_tree) (defScope s_counted_tree) .none kV3 dc3 pm3 an3 cd3 ct3), sl3⟩) (c3 : PySem.W.codeIn K cd3 "counted_tree" = true) (k3 : PySem.W.keepIn K (.ref f3) = true)
    (a4 : PySem.W.nsIn K mainGlobals "signed" = some (some (.ref f4))) (l4 : K.lookup f4 = some ⟨oc4, od4, .func (PySem.W.fnOf "signed" "signed" (defArgs s_signed) (defBody s_signed) (defScope s_signed) .none kV4 dc4 pm4 an4 cd4 ct4), sl4⟩) (c4 : PySem.W.codeIn K cd4 "signed" = true) (k4 : PySem.W.keepIn K (.ref f4) = true)
    (a5 : PySem.W.nsIn K mainGlobals "joined" = some (some (.ref f5))) (l5 : K.lookup f5 = some ⟨oc5, od5, .func (PySem.W.fnOf "joined" "joined" (defArgs s_joined) (defBody s_joined) (defScope s_joined) .none kV5 dc5 pm5 an5 cd5 ct5), sl5⟩) (c5 : PySem.W.codeIn K cd5 "joined" = true) (k5 : PySem.W.keepIn K (.ref f5) = true)
    (a6 : PySem.W.nsIn K mainGlobals "first_cells" = some (some (.ref f6))) (l6 : K.lookup f6 = some ⟨oc6, od6, .func (PySem.W.fnOf "first_cells" "first_cells" (defArgs s_first_cells) (defBody s_first_cells) (defScope s_first_cells) .none kV6 dc6 pm6 an6 cd6 ct6), sl6⟩) (c6 : PySem.W.codeIn K cd6 "first_cells" = true) (k6 : PySem.W.keepIn K (.ref f6) = true)
    (a7 : PySem.W.nsIn K mainGlobals "copied" = some (some (.ref f7))) (l7 : K.lookup f7 = some ⟨oc7, od7, .func (PySem.W.fnOf "copied" "copied" (defArgs s_copied) (defBody s_copied) (defScope s_copied) .none kV7 dc7 pm7 an7 cd7 ct7), sl7⟩) (c7 : PySem.W.codeIn K cd7 "copied" = true) (k7 : PySem.W.keepIn K (.ref f7) = true)
    (a8 : PySem.W.nsIn K mainGlobals "meant" = some (some (.ref f8))) (l8 : K.lookup f8 = some ⟨oc8, od8, .func (PySem.W.fnOf "meant" "meant" (defArgs s_meant) (defBody s_meant) (defScope s_meant) .none kV8 dc8 pm8 an8 cd8 ct8), sl8⟩) (c8 : PySem.W.codeIn K cd8 "meant" = true) (k8 : PySem.W.keepIn K (.ref f8) = true)
    (a9 : PySem.W.nsIn K mainGlobals "_law_cell_at" = some (some (.ref f9))) (l9 : K.lookup f9 = some ⟨oc9, od9, .func (PySem.W.fnOf "_law_cell_at" "_law_cell_at" (defArgs s_law_cell_at) (defBody s_law_cell_at) (defScope s_law_cell_at) .none kV9 dc9 pm9 an9 cd9 ct9), sl9⟩) (c9 : PySem.W.codeIn K cd9 "_law_cell_at" = true) (k9 : PySem.W.keepIn K (.ref f9) = true)
    (a10 : PySem.W.nsIn K mainGlobals "_law_mixed" = some (some (.ref f10))) (l10 : K.lookup f10 = some ⟨oc10, od10, .func (PySem.W.fnOf "_law_mixed" "_law_mixed" (defArgs s_law_mixed) (defBody s_law_mixed) (defScope s_law_mixed) .none kV10 dc10 pm10 an10 cd10 ct10), sl10⟩) (c10 : PySem.W.codeIn K cd10 "_law_mixed" = true) (k10 : PySem.W.keepIn K (.ref f10) = true)
    (a11 : PySem.W.nsIn K mainGlobals "_law_stream" = some (some (.ref f11))) (l11 : K.lookup f11 = some ⟨oc11, od11, .func (PySem.W.fnOf "_law_stream" "_law_stream" (defArgs s_law_stream) (defBody s_law_stream) (defScope s_law_stream) .none kV11 dc11 pm11 an11 cd11 ct11), sl11⟩) (c11 : PySem.W.codeIn K cd11 "_law_stream" = true) (k11 : PySem.W.keepIn K (.ref f11) = true)
    (a12 : PySem.W.nsIn K mainGlobals "_law_take" = some (some (.ref f12))) (l12 : K.lookup f12 = some ⟨oc12, od12, .func (PySem.W.fnOf "_law_take" "_law_take" (defArgs s_law_take) (defBody s_law_take) (defScope s_law_take) .none kV12 dc12 pm12 an12 cd12 ct12), sl12⟩) (c12 : PySem.W.codeIn K cd12 "_law_take" = true) (k12 : PySem.W.keepIn K (.ref f12) = true)
    (a13 : PySem.W.nsIn K mainGlobals "_law_deed" = some (some (.ref f13))) (l13 : K.lookup f13 = some ⟨oc13, od13, .func (PySem.W.fnOf "_law_deed" "_law_deed" (defArgs s_law_deed) (defBody s_law_deed) (defScope s_law_deed) .none kV13 dc13 pm13 an13 cd13 ct13), sl13⟩) (c13 : PySem.W.codeIn K cd13 "_law_deed" = true) (k13 : PySem.W.keepIn K (.ref f13) = true)
    (a14 : PySem.W.nsIn K mainGlobals "law" = some (some (.ref f14))) (l14 : K.lookup f14 = some ⟨oc14, od14, .func (PySem.W.fnOf "law" "law" (defArgs s_law) (defBody s_law) (defScope s_law) .none kV14 dc14 pm14 an14 cd14 ct14), sl14⟩) (c14 : PySem.W.codeIn K cd14 "law" = true) (k14 : PySem.W.keepIn K (.ref f14) = true)
    {C_Meaning : Addr} (aC_Meaning : PySem.W.nsIn K mainGlobals "Meaning" = some (some (.ref C_Meaning)))
    {f_Meaning___init__ : Addr} {od_Meaning___init__ an_Meaning___init__ : Option Addr} {sl_Meaning___init__ : Array (Option Value)} {oc_Meaning___init__ kV_Meaning___init__ dc_Meaning___init__ pm_Meaning___init__ cd_Meaning___init__ ct_Meaning___init__ : Value}
    (a_Meaning___init__ : PySem.W.findIn K (.ref C_Meaning) "__init__" = some (some (.ref f_Meaning___init__))) (i_Meaning___init__ : PySem.W.isFn K (.ref f_Meaning___init__) = true) (l_Meaning___init__ : K.lookup f_Meaning___init__ = some ⟨oc_Meaning___init__, od_Meaning___init__, .func (PySem.W.fnOf "__init__" "Meaning.__init__" (defArgs s_Meaning___init__) (defBody s_Meaning___init__) (defScope s_Meaning___init__) .none kV_Meaning___init__ dc_Meaning___init__ pm_Meaning___init__ an_Meaning___init__ cd_Meaning___init__ ct_Meaning___init__), sl_Meaning___init__⟩) (c_Meaning___init__ : PySem.W.codeIn K cd_Meaning___init__ "Meaning.__init__" = true) (k_Meaning___init__ : PySem.W.keepIn K (.ref f_Meaning___init__) = true)
    {f_Meaning_is_going : Addr} {od_Meaning_is_going an_Meaning_is_going : Option Addr} {sl_Meaning_is_going : Array (Option Value)} {oc_Meaning_is_going kV_Meaning_is_going dc_Meaning_is_going pm_Meaning_is_going cd_Meaning_is_going ct_Meaning_is_going : Value}
    (a_Meaning_is_going : PySem.W.findIn K (.ref C_Meaning) "is_going" = some (some (.ref f_Meaning_is_going))) (i_Meaning_is_going : PySem.W.isFn K (.ref f_Meaning_is_going) = true) (l_Meaning_is_going : K.lookup f_Meaning_is_going = some ⟨oc_Meaning_is_going, od_Meaning_is_going, .func (PySem.W.fnOf "is_going" "Meaning.is_going" (defArgs s_Meaning_is_going) (defBody s_Meaning_is_going) (defScope s_Meaning_is_going) .none kV_Meaning_is_going dc_Meaning_is_going pm_Meaning_is_going an_Meaning_is_going cd_Meaning_is_going ct_Meaning_is_going), sl_Meaning_is_going⟩) (c_Meaning_is_going : PySem.W.codeIn K cd_Meaning_is_going "Meaning.is_going" = true) (k_Meaning_is_going : PySem.W.keepIn K (.ref f_Meaning_is_going) = true)
    {f_Meaning_end_so_far : Addr} {od_Meaning_end_so_far an_Meaning_end_so_far : Option Addr} {sl_Meaning_end_so_far : Array (Option Value)} {oc_Meaning_end_so_far kV_Meaning_end_so_far dc_Meaning_end_so_far pm_Meaning_end_so_far cd_Meaning_end_so_far ct_Meaning_end_so_far : Value}
    (a_Meaning_end_so_far : PySem.W.findIn K (.ref C_Meaning) "end_so_far" = some (some (.ref f_Meaning_end_so_far))) (i_Meaning_end_so_far : PySem.W.isFn K (.ref f_Meaning_end_so_far) = true) (l_Meaning_end_so_far : K.lookup f_Meaning_end_so_far = some ⟨oc_Meaning_end_so_far, od_Meaning_end_so_far, .func (PySem.W.fnOf "end_so_far" "Meaning.end_so_far" (defArgs s_Meaning_end_so_far) (defBody s_Meaning_end_so_far) (defScope s_Meaning_end_so_far) .none kV_Meaning_end_so_far dc_Meaning_end_so_far pm_Meaning_end_so_far an_Meaning_end_so_far cd_Meaning_end_so_far ct_Meaning_end_so_far), sl_Meaning_end_so_far⟩) (c_Meaning_end_so_far : PySem.W.codeIn K cd_Meaning_end_so_far "Meaning.end_so_far" = true) (k_Meaning_end_so_far : PySem.W.keepIn K (.ref f_Meaning_end_so_far) = true)
    {f_Meaning_next_entry : Addr} {od_Meaning_next_entry an_Meaning_next_entry : Option Addr} {sl_Meaning_next_entry : Array (Option Value)} {oc_Meaning_next_entry kV_Meaning_next_entry dc_Meaning_next_entry pm_Meaning_next_entry cd_Meaning_next_entry ct_Meaning_next_entry : Value}
    (a_Meaning_next_entry : PySem.W.findIn K (.ref C_Meaning) "next_entry" = some (some (.ref f_Meaning_next_entry))) (i_Meaning_next_entry : PySem.W.isFn K (.ref f_Meaning_next_entry) = true) (l_Meaning_next_entry : K.lookup f_Meaning_next_entry = some ⟨oc_Meaning_next_entry, od_Meaning_next_entry, .func (PySem.W.fnOf "next_entry" "Meaning.next_entry" (defArgs s_Meaning_next_entry) (defBody s_Meaning_next_entry) (defScope s_Meaning_next_entry) .none kV_Meaning_next_entry dc_Meaning_next_entry pm_Meaning_next_entry an_Meaning_next_entry cd_Meaning_next_entry ct_Meaning_next_entry), sl_Meaning_next_entry⟩) (c_Meaning_next_entry : PySem.W.codeIn K cd_Meaning_next_entry "Meaning.next_entry" = true) (k_Meaning_next_entry : PySem.W.keepIn K (.ref f_Meaning_next_entry) = true)
    {f_Meaning_step_ahead : Addr} {od_Meaning_step_ahead an_Meaning_step_ahead : Option Addr} {sl_Meaning_step_ahead : Array (Option Value)} {oc_Meaning_step_ahead kV_Meaning_step_ahead dc_Meaning_step_ahead pm_Meaning_step_ahead cd_Meaning_step_ahead ct_Meaning_step_ahead : Value}
    (a_Meaning_step_ahead : PySem.W.findIn K (.ref C_Meaning) "step_ahead" = some (some (.ref f_Meaning_step_ahead))) (i_Meaning_step_ahead : PySem.W.isFn K (.ref f_Meaning_step_ahead) = true) (l_Meaning_step_ahead : K.lookup f_Meaning_step_ahead = some ⟨oc_Meaning_step_ahead, od_Meaning_step_ahead, .func (PySem.W.fnOf "step_ahead" "Meaning.step_ahead" (defArgs s_Meaning_step_ahead) (defBody s_Meaning_step_ahead) (defScope s_Meaning_step_ahead) .none kV_Meaning_step_ahead dc_Meaning_step_ahead pm_Meaning_step_ahead an_Meaning_step_ahead cd_Meaning_step_ahead ct_Meaning_step_ahead), sl_Meaning_step_ahead⟩) (c_Meaning_step_ahead : PySem.W.codeIn K cd_Meaning_step_ahead "Meaning.step_ahead" = true) (k_Meaning_step_ahead : PySem.W.keepIn K (.ref f_Meaning_step_ahead) = true)
    {f_Meaning_value_of : Addr} {od_Meaning_value_of an_Meaning_value_of : Option Addr} {sl_Meaning_value_of : Array (Option Value)} {oc_Meaning_value_of kV_Meaning_value_of dc_Meaning_value_of pm_Meaning_value_of cd_Meaning_value_of ct_Meaning_value_of : Value}
    (a_Meaning_value_of : PySem.W.findIn K (.ref C_Meaning) "value_of" = some (some (.ref f_Meaning_value_of))) (i_Meaning_value_of : PySem.W.isFn K (.ref f_Meaning_value_of) = true) (l_Meaning_value_of : K.lookup f_Meaning_value_of = some ⟨oc_Meaning_value_of, od_Meaning_value_of, .func (PySem.W.fnOf "value_of" "Meaning.value_of" (defArgs s_Meaning_value_of) (defBody s_Meaning_value_of) (defScope s_Meaning_value_of) .none kV_Meaning_value_of dc_Meaning_value_of pm_Meaning_value_of an_Meaning_value_of cd_Meaning_value_of ct_Meaning_value_of), sl_Meaning_value_of⟩) (c_Meaning_value_of : PySem.W.codeIn K cd_Meaning_value_of "Meaning.value_of" = true) (k_Meaning_value_of : PySem.W.keepIn K (.ref f_Meaning_value_of) = true)
    {f_Meaning_place_in : Addr} {od_Meaning_place_in an_Meaning_place_in : Option Addr} {sl_Meaning_place_in : Array (Option Value)} {oc_Meaning_place_in kV_Meaning_place_in dc_Meaning_place_in pm_Meaning_place_in cd_Meaning_place_in ct_Meaning_place_in : Value}
    (a_Meaning_place_in : PySem.W.findIn K (.ref C_Meaning) "place_in" = some (some (.ref f_Meaning_place_in))) (i_Meaning_place_in : PySem.W.isFn K (.ref f_Meaning_place_in) = true) (l_Meaning_place_in : K.lookup f_Meaning_place_in = some ⟨oc_Meaning_place_in, od_Meaning_place_in, .func (PySem.W.fnOf "place_in" "Meaning.place_in" (defArgs s_Meaning_place_in) (defBody s_Meaning_place_in) (defScope s_Meaning_place_in) .none kV_Meaning_place_in dc_Meaning_place_in pm_Meaning_place_in an_Meaning_place_in cd_Meaning_place_in ct_Meaning_place_in), sl_Meaning_place_in⟩) (c_Meaning_place_in : PySem.W.codeIn K cd_Meaning_place_in "Meaning.place_in" = true) (k_Meaning_place_in : PySem.W.keepIn K (.ref f_Meaning_place_in) = true)
    {f_Meaning_do_next : Addr} {od_Meaning_do_next an_Meaning_do_next : Option Addr} {sl_Meaning_do_next : Array (Option Value)} {oc_Meaning_do_next kV_Meaning_do_next dc_Meaning_do_next pm_Meaning_do_next cd_Meaning_do_next ct_Meaning_do_next : Value}
    (a_Meaning_do_next : PySem.W.findIn K (.ref C_Meaning) "do_next" = some (some (.ref f_Meaning_do_next))) (i_Meaning_do_next : PySem.W.isFn K (.ref f_Meaning_do_next) = true) (l_Meaning_do_next : K.lookup f_Meaning_do_next = some ⟨oc_Meaning_do_next, od_Meaning_do_next, .func (PySem.W.fnOf "do_next" "Meaning.do_next" (defArgs s_Meaning_do_next) (defBody s_Meaning_do_next) (defScope s_Meaning_do_next) .none kV_Meaning_do_next dc_Meaning_do_next pm_Meaning_do_next an_Meaning_do_next cd_Meaning_do_next ct_Meaning_do_next), sl_Meaning_do_next⟩) (c_Meaning_do_next : PySem.W.codeIn K cd_Meaning_do_next "Meaning.do_next" = true) (k_Meaning_do_next : PySem.W.keepIn K (.ref f_Meaning_do_next) = true)
    {f_Meaning_choose : Addr} {od_Meaning_choose an_Meaning_choose : Option Addr} {sl_Meaning_choose : Array (Option Value)} {oc_Meaning_choose kV_Meaning_choose dc_Meaning_choose pm_Meaning_choose cd_Meaning_choose ct_Meaning_choose : Value}
    (a_Meaning_choose : PySem.W.findIn K (.ref C_Meaning) "choose" = some (some (.ref f_Meaning_choose))) (i_Meaning_choose : PySem.W.isFn K (.ref f_Meaning_choose) = true) (l_Meaning_choose : K.lookup f_Meaning_choose = some ⟨oc_Meaning_choose, od_Meaning_choose, .func (PySem.W.fnOf "choose" "Meaning.choose" (defArgs s_Meaning_choose) (defBody s_Meaning_choose) (defScope s_Meaning_choose) .none kV_Meaning_choose dc_Meaning_choose pm_Meaning_choose an_Meaning_choose cd_Meaning_choose ct_Meaning_choose), sl_Meaning_choose⟩) (c_Meaning_choose : PySem.W.codeIn K cd_Meaning_choose "Meaning.choose" = true) (k_Meaning_choose : PySem.W.keepIn K (.ref f_Meaning_choose) = true)
    {f_Meaning_do_with_value : Addr} {od_Meaning_do_with_value an_Meaning_do_with_value : Option Addr} {sl_Meaning_do_with_value : Array (Option Value)} {oc_Meaning_do_with_value kV_Meaning_do_with_value dc_Meaning_do_with_value pm_Meaning_do_with_value cd_Meaning_do_with_value ct_Meaning_do_with_value : Value}
    (a_Meaning_do_with_value : PySem.W.findIn K (.ref C_Meaning) "do_with_value" = some (some (.ref f_Meaning_do_with_value))) (i_Meaning_do_with_value : PySem.W.isFn K (.ref f_Meaning_do_with_value) = true) (l_Meaning_do_with_value : K.lookup f_Meaning_do_with_value = some ⟨oc_Meaning_do_with_value, od_Meaning_do_with_value, .func (PySem.W.fnOf "do_with_value" "Meaning.do_with_value" (defArgs s_Meaning_do_with_value) (defBody s_Meaning_do_with_value) (defScope s_Meaning_do_with_value) .none kV_Meaning_do_with_value dc_Meaning_do_with_value pm_Meaning_do_with_value an_Meaning_do_with_value cd_Meaning_do_with_value ct_Meaning_do_with_value), sl_Meaning_do_with_value⟩) (c_Meaning_do_with_value : PySem.W.codeIn K cd_Meaning_do_with_value "Meaning.do_with_value" = true) (k_Meaning_do_with_value : PySem.W.keepIn K (.ref f_Meaning_do_with_value) = true)
    {f_Meaning_do_plain : Addr} {od_Meaning_do_plain an_Meaning_do_plain : Option Addr} {sl_Meaning_do_plain : Array (Option Value)} {oc_Meaning_do_plain kV_Meaning_do_plain dc_Meaning_do_plain pm_Meaning_do_plain cd_Meaning_do_plain ct_Meaning_do_plain : Value}
    (a_Meaning_do_plain : PySem.W.findIn K (.ref C_Meaning) "do_plain" = some (some (.ref f_Meaning_do_plain))) (i_Meaning_do_plain : PySem.W.isFn K (.ref f_Meaning_do_plain) = true) (l_Meaning_do_plain : K.lookup f_Meaning_do_plain = some ⟨oc_Meaning_do_plain, od_Meaning_do_plain, .func (PySem.W.fnOf "do_plain" "Meaning.do_plain" (defArgs s_Meaning_do_plain) (defBody s_Meaning_do_plain) (defScope s_Meaning_do_plain) .none kV_Meaning_do_plain dc_Meaning_do_plain pm_Meaning_do_plain an_Meaning_do_plain cd_Meaning_do_plain ct_Meaning_do_plain), sl_Meaning_do_plain⟩) (c_Meaning_do_plain : PySem.W.codeIn K cd_Meaning_do_plain "Meaning.do_plain" = true) (k_Meaning_do_plain : PySem.W.keepIn K (.ref f_Meaning_do_plain) = true)
    (pg_Meaning : PySem.W.plainGet K C_Meaning Str.empty = true) (hd_Meaning : PySem.W.hasDictIn K C_Meaning = true) (po_Meaning : PySem.W.plainOver K C_Meaning = true) (sa_Meaning : PySem.W.findIn K (.ref C_Meaning) "__setattr__" = some (some (.builtin "object.__setattr__"))) (mk_Meaning : PySem.W.makesIn K C_Meaning = true) (kc_Meaning : PySem.W.keepIn K (.ref C_Meaning) = true)
    (n_Meaning_bodies : PySem.W.findIn K (.ref C_Meaning) "bodies" = some none)
    (n_Meaning_frames : PySem.W.findIn K (.ref C_Meaning) "frames" = some none)
    (n_Meaning_cells : PySem.W.findIn K (.ref C_Meaning) "cells" = some none)
    (n_Meaning_left : PySem.W.findIn K (.ref C_Meaning) "left" = some none)
    (n_Meaning_told : PySem.W.findIn K (.ref C_Meaning) "told" = some none)
    (n_Meaning_faulty : PySem.W.findIn K (.ref C_Meaning) "faulty" = some none)
    {tk_WORDS : Tok} (fw_WORDS : PySem.W.nsIn K mainGlobals "WORDS" = some (some (.int 65536 tk_WORDS)))
    {tk_FIRST_BELOW : Tok} (fw_FIRST_BELOW : PySem.W.nsIn K mainGlobals "FIRST_BELOW" = some (some (.int 32768 tk_FIRST_BELOW)))
    {tk_NONE_LEFT : Tok} (fw_NONE_LEFT : PySem.W.nsIn K mainGlobals "NONE_LEFT" = some (some (.int 65535 tk_NONE_LEFT)))
    (z_len : PySem.W.nsIn K mainGlobals "len" = some none)
    (z_range : PySem.W.nsIn K mainGlobals "range" = some none)
    (z_list : PySem.W.nsIn K mainGlobals "list" = some none)
    (z_isinstance : PySem.W.nsIn K mainGlobals "isinstance" = some none)
    (z_int : PySem.W.nsIn K mainGlobals "int" = some none)
    (z_abs : PySem.W.nsIn K mainGlobals "abs" = some none)
    (z_dict : PySem.W.nsIn K mainGlobals "dict" = some none)
    : ∃ fd : FuncData, (∀ (s : Shared) (v : Value), BindsTo s fd ⟨[v], []⟩ [("_law_script", v)]) ∧ ∀ base : Heap, K.In base → base.Ns mainGlobals mg → FnOk l.prog w K mg base CX0 12 fz fd ["_law_script"] (sp_law K) := by
  have e := hfa.symm.trans (PySem.W.mg_of X G a14)
  cases e
  have T : Bt mg := ⟨PySem.W.mg_none_of X G z_len, PySem.W.mg_none_of X G z_range, PySem.W.mg_none_of X G z_list, PySem.W.mg_none_of X G z_isinstance, PySem.W.mg_none_of X G z_int, PySem.W.mg_none_of X G z_abs, PySem.W.mg_none_of X G z_dict⟩
  have C : Ct K mg := ⟨⟨_, PySem.W.mg_of X G fw_WORDS⟩, ⟨_, PySem.W.mg_of X G fw_FIRST_BELOW⟩, ⟨_, PySem.W.mg_of X G fw_NONE_LEFT⟩⟩
  have F0 := fun_mk (st := s_with_inner) l0 c0 k0
  have b0 := F0.binds (ps := ["body"]) fun _ _ _ _ _ _ us hl => match us, hl with | [_], _ => rfl
  have F1 := fun_mk (st := s_inner_bodies) l1 c1 k1
  have b1 := F1.binds (ps := ["statement", "first"]) fun _ _ _ _ _ _ us hl => match us, hl with | [_, _], _ => rfl
  have F2 := fun_mk (st := s_counted) l2 c2 k2
  have b2 := F2.binds (ps := ["body", "first"]) fun _ _ _ _ _ _ us hl => match us, hl with | [_, _], _ => rfl
  have F3 := fun_mk (st := s_counted_tree) l3 c3 k3
  have b3 := F3.binds (ps := ["tree"]) fun _ _ _ _ _ _ us hl => match us, hl with | [_], _ => rfl
  have F4 := fun_mk (st := s_signed) l4 c4 k4
  have b4 := F4.binds (ps := ["number"]) fun _ _ _ _ _ _ us hl => match us, hl with | [_], _ => rfl
  have F5 := fun_mk (st := s_joined) l5 c5 k5
  have b5 := F5.binds (ps := ["op", "one", "another"]) fun _ _ _ _ _ _ us hl => match us, hl with | [_, _, _], _ => rfl
  have F6 := fun_mk (st := s_first_cells) l6 c6 k6
  have b6 := F6.binds (ps := ["variables"]) fun _ _ _ _ _ _ us hl => match us, hl with | [_], _ => rfl
  have F7 := fun_mk (st := s_copied) l7 c7 k7
  have b7 := F7.binds (ps := ["cells"]) fun _ _ _ _ _ _ us hl => match us, hl with | [_], _ => rfl
  have F8 := fun_mk (st := s_meant) l8 c8 k8
  have b8 := F8.binds (ps := ["tree", "given", "most"]) fun _ _ _ _ _ _ us hl => match us, hl with | [_, _, _], _ => rfl
  have F9 := fun_mk (st := s_law_cell_at) l9 c9 k9
  have b9 := F9.binds (ps := ["_law_script", "_law_k"]) fun _ _ _ _ _ _ us hl => match us, hl with | [_, _], _ => rfl
  have F10 := fun_mk (st := s_law_mixed) l10 c10 k10
  have b10 := F10.binds (ps := ["_law_number", "_law_k"]) fun _ _ _ _ _ _ us hl => match us, hl with | [_, _], _ => rfl
  have F11 := fun_mk (st := s_law_stream) l11 c11 k11
  have b11 := F11.binds (ps := ["_law_cell"]) fun _ _ _ _ _ _ us hl => match us, hl with | [_], _ => rfl
  have F12 := fun_mk (st := s_law_take) l12 c12 k12
  have b12 := F12.binds (ps := ["_law_stream_here", "_law_size"]) fun _ _ _ _ _ _ us hl => match us, hl with | [_, _], _ => rfl
  have F13 := fun_mk (st := s_law_deed) l13 c13 k13
  have b13 := F13.binds (ps := ["_law_stream_here", "_law_size"]) fun _ _ _ _ _ _ us hl => match us, hl with | [_, _], _ => rfl
  have F14 := fun_mk (st := s_law) l14 c14 k14
  have F_Meaning___init__ := fun_mk (st := s_Meaning___init__) l_Meaning___init__ c_Meaning___init__ k_Meaning___init__
  have b_Meaning___init__ := F_Meaning___init__.binds (ps := ["self", "tree", "given"]) fun _ _ _ _ _ _ us hl => match us, hl with | [_, _, _], _ => rfl
  have F_Meaning_is_going := fun_mk (st := s_Meaning_is_going) l_Meaning_is_going c_Meaning_is_going k_Meaning_is_going
  have b_Meaning_is_going := F_Meaning_is_going.binds (ps := ["self"]) fun _ _ _ _ _ _ us hl => match us, hl with | [_], _ => rfl
  have F_Meaning_end_so_far := fun_mk (st := s_Meaning_end_so_far) l_Meaning_end_so_far c_Meaning_end_so_far k_Meaning_end_so_far
  have b_Meaning_end_so_far := F_Meaning_end_so_far.binds (ps := ["self"]) fun _ _ _ _ _ _ us hl => match us, hl with | [_], _ => rfl
  have F_Meaning_next_entry := fun_mk (st := s_Meaning_next_entry) l_Meaning_next_entry c_Meaning_next_entry k_Meaning_next_entry
  have b_Meaning_next_entry := F_Meaning_next_entry.binds (ps := ["self"]) fun _ _ _ _ _ _ us hl => match us, hl with | [_], _ => rfl
  have F_Meaning_step_ahead := fun_mk (st := s_Meaning_step_ahead) l_Meaning_step_ahead c_Meaning_step_ahead k_Meaning_step_ahead
  have b_Meaning_step_ahead := F_Meaning_step_ahead.binds (ps := ["self"]) fun _ _ _ _ _ _ us hl => match us, hl with | [_], _ => rfl
  have F_Meaning_value_of := fun_mk (st := s_Meaning_value_of) l_Meaning_value_of c_Meaning_value_of k_Meaning_value_of
  have b_Meaning_value_of := F_Meaning_value_of.binds (ps := ["self", "expr"]) fun _ _ _ _ _ _ us hl => match us, hl with | [_, _], _ => rfl
  have F_Meaning_place_in := fun_mk (st := s_Meaning_place_in) l_Meaning_place_in c_Meaning_place_in k_Meaning_place_in
  have b_Meaning_place_in := F_Meaning_place_in.binds (ps := ["self", "name", "expr"]) fun _ _ _ _ _ _ us hl => match us, hl with | [_, _, _], _ => rfl
  have F_Meaning_do_next := fun_mk (st := s_Meaning_do_next) l_Meaning_do_next c_Meaning_do_next k_Meaning_do_next
  have b_Meaning_do_next := F_Meaning_do_next.binds (ps := ["self"]) fun _ _ _ _ _ _ us hl => match us, hl with | [_], _ => rfl
  have F_Meaning_choose := fun_mk (st := s_Meaning_choose) l_Meaning_choose c_Meaning_choose k_Meaning_choose
  have b_Meaning_choose := F_Meaning_choose.binds (ps := ["self", "entry"]) fun _ _ _ _ _ _ us hl => match us, hl with | [_, _], _ => rfl
  have F_Meaning_do_with_value := fun_mk (st := s_Meaning_do_with_value) l_Meaning_do_with_value c_Meaning_do_with_value k_Meaning_do_with_value
  have b_Meaning_do_with_value := F_Meaning_do_with_value.binds (ps := ["self", "statement"]) fun _ _ _ _ _ _ us hl => match us, hl with | [_, _], _ => rfl
  have F_Meaning_do_plain := fun_mk (st := s_Meaning_do_plain) l_Meaning_do_plain c_Meaning_do_plain k_Meaning_do_plain
  have b_Meaning_do_plain := F_Meaning_do_plain.binds (ps := ["self", "statement"]) fun _ _ _ _ _ _ us hl => match us, hl with | [_, _], _ => rfl
  have T_Meaning : Mc K mg C_Meaning f_Meaning___init__ _ := ⟨⟨pg_Meaning, hd_Meaning, po_Meaning, sa_Meaning⟩, ⟨mk_Meaning, a_Meaning___init__, i_Meaning___init__, kc_Meaning⟩, F_Meaning___init__, b_Meaning___init__, PySem.W.mg_of X G aC_Meaning, n_Meaning_bodies, n_Meaning_frames, n_Meaning_cells, n_Meaning_left, n_Meaning_told, n_Meaning_faulty⟩
  exact ⟨PySem.W.fnOf "law" "law" (defArgs s_law) (defBody s_law) (defScope s_law) .none kV14 dc14 pm14 an14 cd14 ct14, fun s v => .of_eq rfl, fun base _ _ => ok_law F14 T C ⟨F0, PySem.W.mg_of X G a0, b0⟩ ⟨F1, PySem.W.mg_of X G a1, b1⟩ ⟨F2, PySem.W.mg_of X G a2, b2⟩ ⟨F3, PySem.W.mg_of X G a3, b3⟩ ⟨F4, PySem.W.mg_of X G a4, b4⟩ ⟨F5, PySem.W.mg_of X G a5, b5⟩ ⟨F6, PySem.W.mg_of X G a6, b6⟩ ⟨F7, PySem.W.mg_of X G a7, b7⟩ ⟨F8, PySem.W.mg_of X G a8, b8⟩ ⟨F9, PySem.W.mg_of X G a9, b9⟩ ⟨F10, PySem.W.mg_of X G a10, b10⟩ ⟨F11, PySem.W.mg_of X G a11, b11⟩ ⟨F12, PySem.W.mg_of X G a12, b12⟩ ⟨F13, PySem.W.mg_of X G a13, b13⟩ T_Meaning ⟨F_Meaning_is_going, ⟨a_Meaning_is_going, i_Meaning_is_going, k_Meaning_is_going⟩, b_Meaning_is_going⟩ ⟨F_Meaning_end_so_far, ⟨a_Meaning_end_so_far, i_Meaning_end_so_far, k_Meaning_end_so_far⟩, b_Meaning_end_so_far⟩ ⟨F_Meaning_next_entry, ⟨a_Meaning_next_entry, i_Meaning_next_entry, k_Meaning_next_entry⟩, b_Meaning_next_entry⟩ ⟨F_Meaning_step_ahead, ⟨a_Meaning_step_ahead, i_Meaning_step_ahead, k_Meaning_step_ahead⟩, b_Meaning_step_ahead⟩ ⟨F_Meaning_value_of, ⟨a_Meaning_value_of, i_Meaning_value_of, k_Meaning_value_of⟩, b_Meaning_value_of⟩ ⟨F_Meaning_place_in, ⟨a_Meaning_place_in, i_Meaning_place_in, k_Meaning_place_in⟩, b_Meaning_place_in⟩ ⟨F_Meaning_do_next, ⟨a_Meaning_do_next, i_Meaning_do_next, k_Meaning_do_next⟩, b_Meaning_do_next⟩ ⟨F_Meaning_choose, ⟨a_Meaning_choose, i_Meaning_choose, k_Meaning_choose⟩, b_Meaning_choose⟩ ⟨F_Meaning_do_with_value, ⟨a_Meaning_do_with_value, i_Meaning_do_with_value, k_Meaning_do_with_value⟩, b_Meaning_do_with_value⟩ ⟨F_Meaning_do_plain, ⟨a_Meaning_do_plain, i_Meaning_do_plain, k_Meaning_do_plain⟩, b_Meaning_do_plain⟩⟩
theorem walk {l : PySem.W.OpenLaw} {q : Program} {loose : List Str} {XP : (Str → Option Value) → Heap → Prop} {YP : World → Heap → Prop} {d : DefRec} {K : Params → PySem.W.Frag} (hn : l.most = some 63) (hdf : d.params.defaults = [])
    (hY : ∀ (w : World) (h : Heap), YP w h → (K w.params).In h)
    (F : ∀ (w : World) (mg : Str → Option Value) (fa : Addr) (h : Heap), (K w.params).In h → h.Ns mainGlobals mg → mg d.name = some (.ref fa) →
      ∃ fd : FuncData, (∀ (s : Shared) (u : Value), BindsTo s fd ⟨[u], []⟩ [("_law_script", u)]) ∧ ∀ base : Heap, (K w.params).In base → base.Ns mainGlobals mg → FnOk l.prog w (K w.params) mg base CX0 12 fa fd ["_law_script"] (sp_law (K w.params))) :
    PySem.W.WalkO q loose XP YP l.row.toRowW d [] (fun f vs => PySem.call f vs) :=
  L2.walk_of (n := 63) (k := 12) (x := "_law_script") (CX := fun _ => CX0) (sp := fun w => sp_law (K w.params)) hn (by decide) hdf ⟨rfl, by decide, by decide⟩ hY F (fun _ _ a ns hl _ hS => ⟨a, ns, rfl, hS, hl, fun _ => rfl⟩) fun _ _ _ _ _ z => z
end K49
open PySem PySem.W PyProof.Rows
set_option maxRecDepth 100000 in
set_option maxHeartbeats 0 in
theorem PySem.Challenge.cw_gatetown_k49_places_of_lists_holds : PySem.Challenge.rw_gatetown_k49_places_of_lists.Holds := by
  w_on; o_law; k_head; (case hw => w_witness2)
  k_fill
  refine K49.walk (l := PySem.Challenge.rw_gatetown_k49_places_of_lists) rfl rfl (fun w h Y => PySem.W.kIn_of Y) ?F
  case F =>
    intro w mg fa h KX G hmg
    refine' K49.all_mk (tk := 0) KX G hmg ?a0 ?l0 ?c0 ?k0 ?a1 ?l1 ?c1 ?k1 ?a2 ?l2 ?c2 ?k2 ?a3 ?l3 ?c3 ?k3 ?a4 ?l4 ?c4 ?k4 ?a5 ?l5 ?c5 ?k5 ?a6 ?l6 ?c6 ?k6 ?a7 ?l7 ?c7 ?k7 ?a8 ?l8 ?c8 ?k8 ?a9 ?l9 ?c9 ?k9 ?a10 ?l10 ?c10 ?k10 ?a11 ?l11 ?c11 ?k11 ?a12 ?l12 ?c12 ?k12 ?a13 ?l13 ?c13 ?k13 ?a14 ?l14 ?c14 ?k14 ?aC_Meaning ?a_Meaning___init__ ?i_Meaning___init__ ?l_Meaning___init__ ?c_Meaning___init__ ?k_Meaning___init__ ?a_Meaning_is_going ?i_Meaning_is_going ?l_Meaning_is_going ?c_Meaning_is_going ?k_Meaning_is_going ?a_Meaning_end_so_far ?i_Meaning_end_so_far ?l_Meaning_end_so_far ?c_Meaning_end_so_far ?k_Meaning_end_so_far ?a_Meaning_next_entry ?i_Meaning_next_entry ?l_Meaning_next_entry ?c_Meaning_next_entry ?k_Meaning_next_entry ?a_Meaning_step_ahead ?i_Meaning_step_ahead ?l_Meaning_step_ahead ?c_Meaning_step_ahead ?k_Meaning_step_ahead ?a_Meaning_value_of ?i_Meaning_value_of ?l_Meaning_value_of ?c_Meaning_value_of ?k_Meaning_value_of ?a_Meaning_place_in ?i_Meaning_place_in ?l_Meaning_place_in ?c_Meaning_place_in ?k_Meaning_place_in ?a_Meaning_do_next ?i_Meaning_do_next ?l_Meaning_do_next ?c_Meaning_do_next ?k_Meaning_do_next ?a_Meaning_choose ?i_Meaning_choose ?l_Meaning_choose ?c_Meaning_choose ?k_Meaning_choose ?a_Meaning_do_with_value ?i_Meaning_do_with_value ?l_Meaning_do_with_value ?c_Meaning_do_with_value ?k_Meaning_do_with_value ?a_Meaning_do_plain ?i_Meaning_do_plain ?l_Meaning_do_plain ?c_Meaning_do_plain ?k_Meaning_do_plain ?pg_Meaning ?hd_Meaning ?po_Meaning ?sa_Meaning ?mk_Meaning ?kc_Meaning ?n_Meaning_bodies ?n_Meaning_frames ?n_Meaning_cells ?n_Meaning_left ?n_Meaning_told ?n_Meaning_faulty ?fw_WORDS ?fw_FIRST_BELOW ?fw_NONE_LEFT ?z_len ?z_range ?z_list ?z_isinstance ?z_int ?z_abs ?z_dict
    (case a0 => k_is)
    (case l0 => k_is)
    (case c0 => k_is)
    (case k0 => k_is)
    (case a1 => k_is)
    (case l1 => k_is)
    (case c1 => k_is)
    (case k1 => k_is)
    (case a2 => k_is)
    (case l2 => k_is)
    (case c2 => k_is)
    (case k2 => k_is)
    (case a3 => k_is)
    (case l3 => k_is)
    (case c3 => k_is)
    (case k3 => k_is)
    (case a4 => k_is)
    (case l4 => k_is)
    (case c4 => k_is)
    (case k4 => k_is)
    (case a5 => k_is)
    (case l5 => k_is)
    (case c5 => k_is)
    (case k5 => k_is)
    (case a6 => k_is)
    (case l6 => k_is)
    (case c6 => k_is)
    (case k6 => k_is)
    (case a7 => k_is)
    (case l7 => k_is)
    (case c7 => k_is)
    (case k7 => k_is)
    (case a8 => k_is)
    (case l8 => k_is)
    (case c8 => k_is)
    (case k8 => k_is)
    (case a9 => k_is)
    (case l9 => k_is)
    (case c9 => k_is)
    (case k9 => k_is)
    (case a10 => k_is)
    (case l10 => k_is)
    (case c10 => k_is)
    (case k10 => k_is)
    (case a11 => k_is)
    (case l11 => k_is)
    (case c11 => k_is)
    (case k11 => k_is)
    (case a12 => k_is)
    (case l12 => k_is)
    (case c12 => k_is)
    (case k12 => k_is)
    (case a13 => k_is)
    (case l13 => k_is)
    (case c13 => k_is)
    (case k13 => k_is)
    (case a14 => k_is)
    (case l14 => k_is)
    (case c14 => k_is)
    (case k14 => k_is)
    (case aC_Meaning => k_is)
    (case a_Meaning___init__ => k_is)
    (case i_Meaning___init__ => k_is)
    (case l_Meaning___init__ => k_is)
    (case c_Meaning___init__ => k_is)
    (case k_Meaning___init__ => k_is)
    (case a_Meaning_is_going => k_is)
    (case i_Meaning_is_going => k_is)
    (case l_Meaning_is_going => k_is)
    (case c_Meaning_is_going => k_is)
    (case k_Meaning_is_going => k_is)
    (case a_Meaning_end_so_far => k_is)
    (case i_Meaning_end_so_far => k_is)
    (case l_Meaning_end_so_far => k_is)
    (case c_Meaning_end_so_far => k_is)
    (case k_Meaning_end_so_far => k_is)
    (case a_Meaning_next_entry => k_is)
    (case i_Meaning_next_entry => k_is)
    (case l_Meaning_next_entry => k_is)
    (case c_Meaning_next_entry => k_is)
    (case k_Meaning_next_entry => k_is)
    (case a_Meaning_step_ahead => k_is)
    (case i_Meaning_step_ahead => k_is)
    (case l_Meaning_step_ahead => k_is)
    (case c_Meaning_step_ahead => k_is)
    (case k_Meaning_step_ahead => k_is)
    (case a_Meaning_value_of => k_is)
    (case i_Meaning_value_of => k_is)
    (case l_Meaning_value_of => k_is)
    (case c_Meaning_value_of => k_is)
    (case k_Meaning_value_of => k_is)
    (case a_Meaning_place_in => k_is)
    (case i_Meaning_place_in => k_is)
    (case l_Meaning_place_in => k_is)
    (case c_Meaning_place_in => k_is)
    (case k_Meaning_place_in => k_is)
    (case a_Meaning_do_next => k_is)
    (case i_Meaning_do_next => k_is)
    (case l_Meaning_do_next => k_is)
    (case c_Meaning_do_next => k_is)
    (case k_Meaning_do_next => k_is)
    (case a_Meaning_choose => k_is)
    (case i_Meaning_choose => k_is)
    (case l_Meaning_choose => k_is)
    (case c_Meaning_choose => k_is)
    (case k_Meaning_choose => k_is)
    (case a_Meaning_do_with_value => k_is)
    (case i_Meaning_do_with_value => k_is)
    (case l_Meaning_do_with_value => k_is)
    (case c_Meaning_do_with_value => k_is)
    (case k_Meaning_do_with_value => k_is)
    (case a_Meaning_do_plain => k_is)
    (case i_Meaning_do_plain => k_is)
    (case l_Meaning_do_plain => k_is)
    (case c_Meaning_do_plain => k_is)
    (case k_Meaning_do_plain => k_is)
    (case pg_Meaning => k_is)
    (case hd_Meaning => k_is)
    (case po_Meaning => k_is)
    (case sa_Meaning => k_is)
    (case mk_Meaning => k_is)
    (case kc_Meaning => k_is)
    (case n_Meaning_bodies => k_is)
    (case n_Meaning_frames => k_is)
    (case n_Meaning_cells => k_is)
    (case n_Meaning_left => k_is)
    (case n_Meaning_told => k_is)
    (case n_Meaning_faulty => k_is)
    (case fw_WORDS => k_is)
    (case fw_FIRST_BELOW => k_is)
    (case fw_NONE_LEFT => k_is)
    (case z_len => k_is)
    (case z_range => k_is)
    (case z_list => k_is)
    (case z_isinstance => k_is)
    (case z_int => k_is)
    (case z_abs => k_is)
    (case z_dict => k_is)
