import PyProof.Rows.All
import Wide.All
import OpenK.AllK
import Wide.FinOn
import Lean
import PyProof.EqAt
import PyProof.EqKinds
import PyProof.TupleCall
import PyProof.NeData
import PyProof.Draws
import PyProof.EnumMake
import PySem.Challenge.RW_gatetown_k09_whole_counting_nets
-- CHANGE: your row's module here, as the last of these rows
set_option Elab.async false
set_option linter.all false
set_option maxRecDepth 100000
/-! THE HAND LAYER, for ints, bools, texts, own classes, LISTS and tuples (index, slices, in, append, pop ..), calls, loops. Paste it whole ahead of your own text; what your proof does not reach may be deleted. -/
namespace L2
open PySem PySem.Spec PyProof.Rows

/-- a key: an int or a str -/
abbrev Key := Sum Int Str
def keyIs : Key → Value → Bool
  | .inl k, v => Value.isInt k v
  | .inr x, v => Value.isStrOf x v
def keyH (w : World) : Key → Int
  | .inl k => hashInt k
  | .inr x => hashStr w x
theorem keyIs_shape : ∀ {k : Key} {v : Value}, keyIs k v = true → (∃ i t, k = Sum.inl i ∧ v = Value.int i t) ∨ (∃ x t, k = Sum.inr x ∧ v = Value.str x t)
  | .inl i, v, h => by
    obtain ⟨t, e⟩ := Value.isInt_shape (k := i) (v := v) h
    exact .inl ⟨i, t, rfl, e⟩
  | .inr x, v, h => by
    obtain ⟨t, e⟩ := Value.isStrOf_shape (x := x) (v := v) h
    exact .inr ⟨x, t, rfl, e⟩
theorem key_ll (a b : Int) : decide ((Sum.inl a : Key) = Sum.inl b) = (a == b) := by
  by_cases e : a = b
  · subst e; simp
  · have h : ¬ (Sum.inl a : Key) = Sum.inl b := fun q => e (Sum.inl.inj q)
    rw [decide_eq_false h]
    exact (beq_eq_false_iff_ne.mpr e).symm
theorem key_rr (a b : Str) : decide ((Sum.inr a : Key) = Sum.inr b) = decide (a = b) := by
  by_cases e : a = b
  · subst e; simp
  · have h : ¬ (Sum.inr a : Key) = Sum.inr b := fun q => e (Sum.inr.inj q)
    rw [decide_eq_false h, decide_eq_false e]
theorem key_lr (a : Int) (b : Str) : decide ((Sum.inl a : Key) = Sum.inr b) = false := decide_eq_false (fun q => nomatch q)
theorem key_rl (a : Str) (b : Int) : decide ((Sum.inr a : Key) = Sum.inl b) = false := decide_eq_false (fun q => nomatch q)

def mixKind (prog : Program) (w : World) : PySem.KeyKind prog w Key where
  is := keyIs
  hash := keyH w
  inj := fun v a b ha hb => by
    rcases keyIs_shape ha with ⟨i, t, rfl, rfl⟩ | ⟨x, t, rfl, rfl⟩
    · rcases keyIs_shape hb with ⟨j, u, rfl, e⟩ | ⟨y, u, rfl, e⟩
      · injection e with e1 _; rw [e1]
      · exact nomatch e
    · rcases keyIs_shape hb with ⟨j, u, rfl, e⟩ | ⟨y, u, rfl, e⟩
      · exact nomatch e
      · injection e with e1 _; rw [e1]
  byValue := fun k v h => by
    rcases keyIs_shape h with ⟨i, t, rfl, rfl⟩ | ⟨x, t, rfl, rfl⟩ <;> rfl
  pyHash := fun hv h => by
    rcases keyIs_shape hv with ⟨i, t, rfl, rfl⟩ | ⟨x, t, rfl, rfl⟩
    · exact wpAny_pyHash_int h
    · exact wpAny_pyHash_str h
  eqBool := fun hu hv h => by
    rcases keyIs_shape hu with ⟨i, t, rfl, rfl⟩ | ⟨x, t, rfl, rfl⟩
    · rcases keyIs_shape hv with ⟨j, u, rfl, rfl⟩ | ⟨y, u, rfl, rfl⟩
      · rw [key_ll] at h; exact wpAny_eqBool_int h
      · rw [key_lr] at h; exact SeqAt.EqAt.int_str i t y u _ _ _ _ h
    · rcases keyIs_shape hv with ⟨j, u, rfl, rfl⟩ | ⟨y, u, rfl, rfl⟩
      · rw [key_rl] at h; exact SeqAt.EqAt.str_int x t j u _ _ _ _ h
      · rw [key_rr] at h; exact wpAny_eqBool_str h
  «strs» := fun k x t v h => by
    rcases keyIs_shape h with ⟨i, u, rfl, e⟩ | ⟨y, u, rfl, e⟩
    · exact nomatch e
    · injection e with e1 _
      subst e1
      cases v <;> rfl

end L2

namespace L2
open PySem PySem.Spec PyProof.Rows

/-- a value, without the heap -/
inductive V where
  | non | bl (b : Bool) | int (i : Int) | str (x : Str) | byt (b : Array UInt8) | flt (b : UInt64) | ref (a : Addr) | ty (n : String)
  deriving DecidableEq

def RelV : V → Value → Prop
  | .non, u => u = Value.none
  | .bl b, u => u = Value.bool b
  | .int i, u => ∃ t, u = Value.int i t
  | .str x, u => ∃ t, u = Value.str x t
  | .byt b, u => ∃ t, u = Value.bytes b t
  | .flt b, u => ∃ t, u = Value.float b t
  | .ref a, u => u = Value.ref a
  | .ty n, u => u = Value.type n

abbrev Vals : List V → List Value → Prop := Paired RelV
theorem Vals.length {xs : List V} {us : List Value} (r : Vals xs us) : xs.length = us.length := Paired.length r
theorem Vals.get : ∀ {xs : List V} {us : List Value} {i : Nat} {x : V}, Vals xs us → xs[i]? = some x → ∃ u, us[i]? = some u ∧ RelV x u
  | _, _, _, _, .nil, e => by simp at e
  | _, _, 0, _, .cons r _, e => by simp at e; subst e; exact ⟨_, rfl, r⟩
  | _, _, i + 1, x, .cons _ t, e => by
    obtain ⟨u, h1, h2⟩ := Vals.get (i := i) (x := x) t (by simpa using e)
    exact ⟨u, by simpa using h1, h2⟩
theorem Vals.append : ∀ {xs ys : List V} {us ws : List Value}, Vals xs us → Vals ys ws → Vals (xs ++ ys) (us ++ ws)
  | _, _, _, _, .nil, s => s
  | _, _, _, _, .cons r t, s => .cons r (Vals.append t s)
theorem Vals.take : ∀ {xs : List V} {us : List Value} (n : Nat), Vals xs us → Vals (xs.take n) (us.take n)
  | _, _, 0, _ => .nil
  | _, _, _ + 1, .nil => .nil
  | _, _, n + 1, .cons r t => .cons r (Vals.take n t)
theorem Vals.drop : ∀ {xs : List V} {us : List Value} (n : Nat), Vals xs us → Vals (xs.drop n) (us.drop n)
  | _, _, 0, r => r
  | _, _, _ + 1, .nil => .nil
  | _, _, n + 1, .cons _ t => Vals.drop n t

def RelO : Option V → Option Value → Prop
  | some v, some u => RelV v u
  | none, none => True
  | _, _ => False
def KV {κ : Type} : List (κ × V) → List (κ × Value) → Prop := Paired fun (p : κ × V) (q : κ × Value) => p.1 = q.1 ∧ RelV p.2 q.2

/-- a key of a dict (00_mix): an int or a text -/
def kV : Key → V
  | .inl i => .int i
  | .inr x => .str x

/-- what stands at a tracked address -/
inductive HO where
  /-- a list -/
  | lst (xs : List V)
  /-- a tuple (never changes) -/
  | tup (xs : List V)
  /-- a dict whose keys are ints and texts; one whose keys are tuples of ints and texts (the empty one is both) -/
  | dK (kvs : List (Key × V)) | dT (kvs : List (List Key × V))
  /-- a set of ints: its members, its size -/
  | set (S : Int → Bool) (n : Nat)
  /-- an instance of the class at C, its dict at dx, its attributes -/
  | ins (C dx : Addr) (fs : List (Str × V))
  /-- the dict of the instance at x -/
  | own (x : Addr)
  /-- the dict of an exception -/
  | xd (fs : List (Str × V))
  /-- a bound method, f of x -/
  | met (f x : Addr)
  /-- a range object lo, lo + 1, .. below hi -/
  | rng (lo hi : Int)
  /-- a thing that is known to the object (the script; a dict while a loop walks it): read, never written while it is so -/
  | frz (o : Obj) (u : HO)
  /-- a code object's table -/
  | tbl (ps : Array Value)
  /-- any other thing, by what is true of its one object (a def of one's own: SetO a S n := HO.ext fun h => ..) -/
  | ext (φ : Heap → Prop)

abbrev Hp := Addr → Option HO
def upd (H : Hp) (a : Addr) (o : HO) : Hp := fun b => if b = a then some o else H b
theorem upd_same {H : Hp} {a : Addr} {o : HO} : upd H a o a = some o := by unfold upd; rw [if_pos rfl]
theorem upd_ne {H : Hp} {a b : Addr} {o : HO} (h : b ≠ a) : upd H a o b = H b := by unfold upd; rw [if_neg h]
theorem upd_upd {H : Hp} {a : Addr} {o u : HO} : upd (upd H a o) a u = upd H a u := by
  funext b; unfold upd; split <;> rfl
/-- two objects of different content stand apart -/
theorem ne_of {H : Hp} {a b : Addr} {o u : HO} (h : H a = some o) (h' : H b = some u) (d : o ≠ u) : a ≠ b := by
  intro e; subst e; rw [h] at h'; exact d (Option.some.inj h')
theorem ne_of_none {H : Hp} {a b : Addr} {o : HO} (h : H a = some o) (h' : H b = none) : a ≠ b := by
  intro e; subst e; rw [h] at h'; cases h'

section
variable (P : Program) (w : World)
def ObjOk (H : Hp) (h : Heap) (a : Addr) : HO → Prop
  | .lst xs => xs.length ≤ sizeLine ∧ ∃ (its : List Value) (n : Nat), Vals xs its ∧ h.get? a = some { cls := .type "list", data := .seq its.toArray n }
  | .tup xs => xs.length ≤ sizeLine ∧ ∃ its : List Value, Vals xs its ∧ IsTup h a its.toArray
  | .dK kvs => kvs.length ≤ sizeLine ∧ (a == sysModules) = false ∧ ∃ vs, KV kvs vs ∧ h.DictOf (mixKind P w) a vs
  | .dT kvs => kvs.length ≤ sizeLine ∧ (a == sysModules) = false ∧ ∃ xs : List (List Key × Addr × Value),
      Paired (fun (p : List Key × V) (q : List Key × Addr × Value) => p.1 = q.1 ∧ H q.2.1 = some (.tup (p.1.map kV)) ∧ RelV p.2 q.2.2) kvs xs ∧
      ∃ o es ep, h.get? a = some o ∧ o.ExactDict ∧ o.data = .dict es ep ∧ es.toList = xs.map (entryOfKey (tupleKind (mixKind P w))) ∧ (xs.map (·.1)).Nodup
  | .set S n => h.SetOf (intKind P w) a S n
  | .ins C dx fs => H dx = some (.own a) ∧ fs.length ≤ 1000 ∧ dx ≠ a ∧ h.get? a = some (PySem.W.instObj C dx) ∧
      ∃ mA, h.Ns1 dx mA ∧ (∀ f, RelO (fs.lookup f) (mA f)) ∧ PySem.Within mA (fs.map (·.1))
  | .own _ => ∃ o, h.get? a = some o
  | .xd fs => ∃ mA, h.Ns1 a mA ∧ ∀ f, RelO (fs.lookup f) (mA f)
  | .rng lo hi => ∃ t u v, h.get? a = some { cls := .type "range", data := .fields #[.int lo t, .int hi u, .int 1 v] }
  | .frz o u => h.get? a = some o ∧ ObjOk H h a u
  | .tbl ps => h.get? a = some { cls := .none, data := .fields ps }
  | .met f x => h.get? a = some (PySem.W.methodObj (.ref f) (.ref x))
  | .ext φ => φ h ∧ (∃ o, h.get? a = some o) ∧ ∀ h1 h2 : Heap, φ h1 → (∀ o, h1.get? a = some o → h2.get? a = some o) → φ h2
/-- the abstract heap is held -/
def HOk (H : Hp) (h : Heap) : Prop := ∀ a o, H a = some o → ObjOk P w H h a o
end

section
variable {P : Program} {w : World} {H H' : Hp} {h h' : Heap} {a : Addr} {o : HO}
theorem ObjOk.lt (x : ObjOk P w H h a o) : a < h.objs.size := by
  cases o with
  | lst xs => obtain ⟨_, _, _, _, e⟩ := x; exact Heap.lt_size e
  | tup xs => obtain ⟨_, _, _, p⟩ := x; exact p.lt
  | dK kvs => obtain ⟨_, _, _, _, o, _, _, e, _⟩ := x; exact Heap.lt_size e
  | dT kvs => obtain ⟨_, _, _, _, o, _, _, e, _⟩ := x; exact Heap.lt_size e
  | set S n => obtain ⟨o, _, _, _, e, _⟩ := x; exact Heap.lt_size e
  | ins C dx fs => obtain ⟨_, _, _, e, _⟩ := x; exact Heap.lt_size e
  | own y => obtain ⟨_, e⟩ := x; exact Heap.lt_size e
  | xd fs => obtain ⟨_, ⟨_, _, _, e, _⟩, _⟩ := x; exact Heap.lt_size e
  | rng lo hi => obtain ⟨_, _, _, e⟩ := x; exact Heap.lt_size e
  | frz ob u => obtain ⟨e, _⟩ := x; exact Heap.lt_size e
  | tbl ps => exact Heap.lt_size (show h.get? a = some _ from x)
  | met f y => exact Heap.lt_size (show h.get? a = some _ from x)
  | ext φ => obtain ⟨_, ⟨_, e⟩, _⟩ := x; exact Heap.lt_size e
theorem Paired.mapP {α β : Type} {F G : α → β → Prop} : ∀ {l₁ : List α} {l₂ : List β}, Paired F l₁ l₂ → (∀ a b, F a b → G a b) → Paired G l₁ l₂
  | _, _, .nil, _ => .nil
  | _, _, .cons r t, f => .cons (f _ _ r) (Paired.mapP t f)
/-- what an object's description leans on: its own object, its own dict, the tuples -/
theorem ObjOk.stay (x : ObjOk P w H h a o) (k : ∀ b u, (b = a ∨ H b = some (.own a)) → h.get? b = some u → h'.get? b = some u)
    (ho : ∀ b, H b = some (.own a) → H' b = some (.own a)) (ht : ∀ b xs, H b = some (.tup xs) → H' b = some (.tup xs)) : ObjOk P w H' h' a o := by
  induction o with
  | lst xs => obtain ⟨z, its, n, r, e⟩ := x; exact ⟨z, its, n, r, k _ _ (.inl rfl) e⟩
  | tup xs => obtain ⟨z, its, r, ob, e, c⟩ := x; exact ⟨z, its, r, ob, k _ _ (.inl rfl) e, c⟩
  | dK kvs => obtain ⟨z, y, vs, r, ob, es, ep, e, c⟩ := x; exact ⟨z, y, vs, r, ob, es, ep, k _ _ (.inl rfl) e, c⟩
  | dT kvs =>
    obtain ⟨z, y, xs, r, ob, es, ep, e, c⟩ := x
    exact ⟨z, y, xs, Paired.mapP r fun p q z => ⟨z.1, ht _ _ z.2.1, z.2.2⟩, ob, es, ep, k _ _ (.inl rfl) e, c⟩
  | set S n => obtain ⟨ob, es, ep, t, e, c⟩ := x; exact ⟨ob, es, ep, t, k _ _ (.inl rfl) e, c⟩
  | ins C dx fs =>
    obtain ⟨d, z, ne, e, mA, ⟨od, es, ep, e2, c⟩, r⟩ := x
    exact ⟨ho _ d, z, ne, k _ _ (.inl rfl) e, mA, ⟨od, es, ep, k _ _ (.inr d) e2, c⟩, r⟩
  | own y => obtain ⟨ob, e⟩ := x; exact ⟨ob, k _ _ (.inl rfl) e⟩
  | xd fs => obtain ⟨mA, ⟨od, es, ep, e, c⟩, r⟩ := x; exact ⟨mA, ⟨od, es, ep, k _ _ (.inl rfl) e, c⟩, r⟩
  | rng lo hi => obtain ⟨t, u, v, e⟩ := x; exact ⟨t, u, v, k _ _ (.inl rfl) e⟩
  | frz ob u ih => obtain ⟨e, q⟩ := x; exact ⟨k _ _ (.inl rfl) e, ih q⟩
  | tbl ps =>
    have e : h.get? a = some { cls := .none, data := .fields ps } := x
    show h'.get? a = some { cls := .none, data := .fields ps }
    exact k a _ (.inl rfl) e
  | met f y =>
    have e : h.get? a = some (PySem.W.methodObj (.ref f) (.ref y)) := x
    show h'.get? a = some (PySem.W.methodObj (.ref f) (.ref y))
    exact k a _ (.inl rfl) e
  | ext φ => obtain ⟨p, ⟨o, e⟩, st⟩ := x; exact ⟨st _ _ p fun o q => k _ _ (.inl rfl) q, ⟨o, k _ _ (.inl rfl) e⟩, st⟩
theorem HOk.lt (x : HOk P w H h) (e : H a = some o) : a < h.objs.size := (x a o e).lt
theorem HOk.fresh (x : HOk P w H h) (e : h.objs.size ≤ a) : H a = none := by
  cases q : H a with
  | none => rfl
  | some u => exact absurd (Nat.lt_of_lt_of_le (x.lt q) e) (Nat.lt_irrefl _)
/-- every object of the heap is kept -/
theorem HOk.kept (x : HOk P w H h) (k : ∀ b u, h.get? b = some u → h'.get? b = some u) : HOk P w H h' := fun a o e =>
  (x a o e).stay (fun b u _ q => k b u q) (fun _ q => q) fun _ _ q => q
/-- a new object is laid and tracked -/
theorem HOk.laid (x : HOk P w H h) (k : ∀ b u, h.get? b = some u → h'.get? b = some u) (hp : h.objs.size ≤ a) (new : ObjOk P w (upd H a o) h' a o) : HOk P w (upd H a o) h' := fun b u e => by
  have hn := x.fresh hp
  by_cases hb : b = a
  · subst hb; rw [upd_same] at e; cases e; exact new
  · rw [upd_ne hb] at e
    exact (x b u e).stay (fun c v _ q => k c v q) (fun c q => by rw [upd_ne (ne_of_none q hn)]; exact q) fun c xs q => by rw [upd_ne (ne_of_none q hn)]; exact q
end

/-- what may be read as u: it is u, or a known u -/
def Rd (H : Hp) (a : Addr) (u : HO) : Prop := H a = some u ∨ ∃ o, H a = some (.frz o u)
theorem Rd.ok {P : Program} {w : World} {H : Hp} {h : Heap} {a : Addr} {u : HO} (r : Rd H a u) (x : HOk P w H h) : ObjOk P w H h a u := by
  rcases r with r | ⟨o, r⟩
  · exact x a u r
  · obtain ⟨_, q⟩ := x a _ r
    exact q
/-- what may be written -/
def Mut : Option HO → Prop
  | some (.lst _) => True
  | some (.dK _) => True
  | some (.dT _) => True
  | some (.set _ _) => True
  | some (.ins _ _ _) => True
  | some (.ext _) => True
  | _ => False
section
variable {P : Program} {w : World} {H : Hp} {h h' : Heap} {x e : Addr} {o' : HO}
/-- the object at e is changed: x itself, or the dict of the instance x -/
theorem HOk.write (ok : HOk P w H h) (mu : Mut (H x)) (he : e = x ∨ H e = some (.own x)) (k : ∀ b u, b ≠ e → h.get? b = some u → h'.get? b = some u) (heo : ∃ u, h'.get? e = some u)
    (new : ObjOk P w (upd H x o') h' x o') : HOk P w (upd H x o') h' := fun b u q => by
  have nown : ∀ c y, H c = some (.own y) → c ≠ x := fun c y r z => by subst z; rw [r] at mu; exact mu
  have ntup : ∀ c xs, H c = some (.tup xs) → c ≠ x := fun c xs r z => by subst z; rw [r] at mu; exact mu
  by_cases hb : b = x
  · subst hb; rw [upd_same] at q; cases q; exact new
  · rw [upd_ne hb] at q
    by_cases hbe : b = e
    · have q' : H b = some (.own x) := by
        rcases he with z | z
        · exact absurd (hbe.trans z) hb
        · rw [hbe]; exact z
      rw [q] at q'; cases q'
      obtain ⟨v, hv⟩ := heo
      exact ⟨v, by rw [hbe]; exact hv⟩
    · refine (ok b u q).stay (fun c v hc r => k c v ?_ r) (fun c r => by rw [upd_ne (nown c b r)]; exact r) fun c xs r => by rw [upd_ne (ntup c xs r)]; exact r
      rcases hc with rfl | hc
      · exact hbe
      · rintro rfl
        rcases he with z | z
        · exact nown c b hc z
        · rw [hc] at z; cases z; exact hb rfl
end

/-! ### kept unless tracked; of the frames at fs (the callers') the slots may change (an exception that passes writes there); of the records at ex (iterators) nothing is said -/
structure Un (fs ex : List Addr) (H H' : Hp) (h h' : Heap) : Prop where
  keep : ∀ b o, h.get? b = some o → H b = none → b ∉ fs → b ∉ ex → h'.get? b = some o
  slot : ∀ b o, h.get? b = some o → H b = none → b ∈ fs → b ∉ ex → ∃ sl, h'.get? b = some { o with slots := sl }
  free : ∀ b o, h.get? b = some o → H b = none → b ∉ ex → H' b = none
  there : ∀ b o, h.get? b = some o → b ∉ ex → ∃ o', h'.get? b = some o'
  tups : ∀ b xs, H b = some (.tup xs) → H' b = some (.tup xs)
  frzs : ∀ b o u, H b = some (.frz o u) → H' b = some (.frz o u)
  tbls : ∀ b ps, H b = some (.tbl ps) → ∃ more, H' b = some (.tbl (ps ++ more))
section
variable {fs fs' ex ex' : List Addr} {H H1 H2 : Hp} {h h1 h2 h' : Heap} {a x e : Addr} {o : HO}
theorem Un.any (u : Un fs ex H H1 h h1) {b : Addr} {ob : Obj} (q : h.get? b = some ob) (n : H b = none) (hx : b ∉ ex) : ∃ sl, h1.get? b = some { ob with slots := sl } := by
  by_cases hb : b ∈ fs
  · exact u.slot b ob q n hb hx
  · exact ⟨ob.slots, u.keep b ob q n hb hx⟩
theorem Un.kept (k : ∀ b u, h.get? b = some u → h'.get? b = some u) : Un fs ex H H h h' :=
  ⟨fun b ob q _ _ _ => k b ob q, fun b ob q _ _ _ => ⟨ob.slots, k b ob q⟩, fun _ _ _ n _ => n, fun b ob q _ => ⟨ob, k b ob q⟩, fun _ _ q => q, fun _ _ _ q => q, fun _ ps q => ⟨#[], by rw [q]; simp⟩⟩
theorem Un.refl : Un fs ex H H h h := Un.kept fun _ _ q => q
theorem Un.laid (k : ∀ b u, h.get? b = some u → h'.get? b = some u) (hp : h.objs.size ≤ a) (hn : H a = none) : Un fs ex H (upd H a o) h h' where
  keep := fun b u q _ _ _ => k b u q
  slot := fun b u q _ _ _ => ⟨u.slots, k b u q⟩
  free := fun b u q n _ => by rw [upd_ne (Nat.ne_of_lt (Nat.lt_of_lt_of_le (Heap.lt_size q) hp))]; exact n
  there := fun b u q _ => ⟨u, k b u q⟩
  tups := fun b xs q => by rw [upd_ne (ne_of_none q hn)]; exact q
  frzs := fun b u xs q => by rw [upd_ne (ne_of_none q hn)]; exact q
  tbls := fun b ps q => ⟨#[], by rw [upd_ne (ne_of_none q hn), q]; simp⟩
theorem Un.write (mu : Mut (H x)) (he : e = x ∨ H e = some (.own x)) (k : ∀ b u, b ≠ e → h.get? b = some u → h'.get? b = some u) (heo : ∃ u, h'.get? e = some u) : Un fs ex H (upd H x o) h h' := by
  have hx : ∀ b, H b = none → b ≠ x := fun b n z => by subst z; rw [n] at mu; exact mu
  have hb : ∀ b, H b = none → b ≠ e := fun b n z => by
    subst z
    rcases he with r | r
    · exact hx b n r
    · rw [n] at r; cases r
  have hm : ∀ b u, H b = some u → ¬ Mut (some u) → b ≠ x := fun b u q nm z => by subst z; rw [q] at mu; exact nm mu
  refine ⟨fun b u q n _ _ => k b u (hb b n) q, fun b u q n _ _ => ⟨u.slots, k b u (hb b n) q⟩, fun b u q n _ => by rw [upd_ne (hx b n)]; exact n, fun b u q _ => ?_,
    fun b xs q => by rw [upd_ne (hm b _ q fun z => z)]; exact q, fun b u xs q => by rw [upd_ne (hm b _ q fun z => z)]; exact q, fun b ps q => ⟨#[], by rw [upd_ne (hm b _ q fun z => z), q]; simp⟩⟩
  by_cases hbe : b = e
  · subst hbe; exact heo
  · exact ⟨u, k b u hbe q⟩
end

/-! ### the heap without what is tracked -/
def trk (h : Heap) (H : Hp) : List Addr := (List.range h.objs.size).filter fun a => (H a).isSome
def hidT (h : Heap) (H : Hp) : Heap := PySem.W.hideAll h (trk h H)
theorem hidT_size (h : Heap) (H : Hp) : (hidT h H).objs.size = h.objs.size := PySem.W.hideAll_size _ _
theorem hidT_get {h : Heap} {H : Hp} {b : Addr} {o : Obj} (e : h.get? b = some o) (n : H b = none) : (hidT h H).get? b = some o :=
  PySem.W.hideAll_get _ e fun hm => by
    have q : (H b).isSome = true := (List.mem_filter.mp hm).2
    rw [n] at q; simp at q
theorem of_hidT {h : Heap} {H : Hp} {b : Addr} {o : Obj} (e : (hidT h H).get? b = some o) : h.get? b = some o ∧ H b = none := by
  have e' : h.get? b = some o := PySem.W.of_hideAll (trk h H) e
  refine ⟨e', ?_⟩
  cases q : H b with
  | none => rfl
  | some x =>
    have hm : b ∈ trk h H := List.mem_filter.mpr ⟨List.mem_range.mpr (Heap.lt_size e'), by simp [q]⟩
    have z : (hidT h H).get? b = none := PySem.W.hideAll_none (trk h H) hm
    rw [z] at e; cases e

/-! ### OpenK's ledger, filled with every new object but one -/
end L2

namespace L2
open PySem PySem.Spec PyProof.Rows

/-- the module's facts, over the base: the heap at the law's entry without what is tracked there -/
structure Mod (K : PySem.W.Frag) (mg : Str → Option Value) (base : Heap) : Prop where
  kin : K.In base
  glob : base.Ns mainGlobals mg
  blt : ∃ mb, base.Ns builtinsNs mb ∧ ∀ x : Str, x ≠ "__name__" → mb x = bootBuiltins x
  nolimit : base.NoLimit

/-- the context: a def's body (or a comprehension's block) running. base: fixed through the whole law; s₀, H₀: the entry; outer: the frames whose slots others may change (a def's callers); stack: all frames that run;
   ex: iterators that were made ahead of the entry and are walked here (a comprehension's); fn: the names whose cells were made at the entry (a def: all; a comprehension's block: its own); calm: not within an except suite; pn: pins that every state bears; xe: what is wanted of an exception that leaves the code -/
structure Cx where
  prog : Program
  w : World
  K : PySem.W.Frag
  mg : Str → Option Value
  base : Heap
  A : Around
  N : List Str
  s₀ : Shared
  H₀ : Hp
  env : Env
  outer : List Env
  stack : List Env
  ex : List Addr
  fn : Str → Bool
  calm : Bool
  pn : List (Addr × Obj)
  xe : Value → Shared → Prop
/-- the callers' frames -/
def frs (l : List Env) : List Addr := l.filterMap (·.frame)
abbrev Cx.fs (X : Cx) : List Addr := frs X.outer

def Vis (sc : Scope) (x : Str) : Prop := sc.names.lookup x = some .local ∨ sc.names.lookup x = some .cell ∨ sc.names.lookup x = some .free
def Loc (sc : Scope) (x : Str) : Prop := sc.names.lookup x = some .local ∨ sc.names.lookup x = some .cell
def Look (env : Env) (h : Heap) (m : Str → Option Value) (x : Str) (u : Value) : Prop :=
  (env.kindOf x = some .local ∧ m x = some u) ∨ ((env.kindOf x = some .cell ∨ env.kindOf x = some .free) ∧ ∃ c, env.cells.lookup x = some c ∧ h.IsCell c (some u))

structure Cx.Ok (X : Cx) : Prop where
  mod : Mod X.K X.mg X.base
  kind : X.env.scope.kind = .function
  glob : X.env.globals = mainGlobals
  blt : X.env.builtins = builtinsNs
  above : X.s₀.heap.objs.size ≤ X.env.locals
  inj : ∀ x y c, X.env.cells.lookup x = some c → X.env.cells.lookup y = some c → x = y
  has : ∀ x, (X.env.kindOf x = some .cell ∨ X.env.kindOf x = some .free) → ∃ c, X.env.cells.lookup x = some c
  cab : ∀ x c, X.fn x = true → X.env.cells.lookup x = some c → X.s₀.heap.objs.size ≤ c
  hd : X.calm = true → X.A.handled = none
  frames : X.A.frames = some X.stack
  stk : X.stack = X.outer ∨ (X.stack = X.env :: X.outer ∧ X.env.frame = some X.env.locals)
  exf : ∀ b ∈ X.ex, b ≠ X.env.locals ∧ ∀ x c, X.env.cells.lookup x = some c → c ≠ b
  bs : ∀ b o, X.base.get? b = some o → X.s₀.heap.get? b = some o ∧ X.H₀ b = none
  bsz : X.base.objs.size ≤ X.s₀.heap.objs.size
  noex : ∀ b o, X.base.get? b = some o → b ∉ X.ex
  exfs : ∀ b ∈ X.ex, b ∉ X.fs
  funs : X.s₀.heap.FunFrames X.base X.outer
  frf : ∀ b ∈ X.fs, X.H₀ b = none

structure Inv (X : Cx) (pins : List (Addr × Obj)) (σ : List (Option V)) (H : Hp) (s : Shared) : Prop where
  ok : X.Ok
  os : s.os = X.s₀.os
  bare : AllBare s.gens
  base : Un X.fs X.ex X.H₀ H X.s₀.heap s.heap
  loc : ∃ m, s.heap.Ns X.env.locals m ∧ ∀ (i : Nat) (x : Str) (v : V), X.N[i]? = some x → σ[i]? = some (some v) → Vis X.env.scope x → ∃ u, RelV v u ∧ Look X.env s.heap m x u
  cell : ∀ x c, X.env.cells.lookup x = some c → ∃ v, s.heap.IsCell c v
  free : H X.env.locals = none
  freeC : ∀ x c, X.env.cells.lookup x = some c → H c = none
  pin : ∀ p ∈ X.pn ++ pins, s.heap.get? p.1 = some p.2 ∧ H p.1 = none ∧ p.1 ≠ X.env.locals ∧ p.1 ∉ X.fs ∧ ∀ v, p.2.data ≠ .cell v
  hok : HOk X.prog X.w H s.heap
  len : σ.length = X.N.length

section
variable {X : Cx} {pins : List (Addr × Obj)} {σ : List (Option V)} {H H' : Hp} {s : Shared} {h' : Heap}

theorem Cx.Ok.nofr (ok : X.Ok) {b : Addr} {o : Obj} (e : X.base.get? b = some o) : b ∉ X.fs := fun hb => by
  have := (ok.funs.mem hb).1
  rw [e] at this; cases this
theorem Inv.bs (I : Inv X pins σ H s) : ∀ b o, X.base.get? b = some o → s.heap.get? b = some o ∧ H b = none := fun b o e =>
  ⟨I.base.keep b o (I.ok.bs b o e).1 (I.ok.bs b o e).2 (I.ok.nofr e) (I.ok.noex b o e), I.base.free b o (I.ok.bs b o e).1 (I.ok.bs b o e).2 (I.ok.noex b o e)⟩
theorem Inv.bk (I : Inv X pins σ H s) : ∀ b o, X.base.get? b = some o → s.heap.get? b = some o := fun b o e => (I.bs b o e).1
theorem Inv.mod (I : Inv X pins σ H s) : Mod X.K X.mg X.base := I.ok.mod
theorem Inv.kIn (I : Inv X pins σ H s) : X.K.In s.heap := I.ok.mod.kin.keeps I.bk
theorem Inv.lt (I : Inv X pins σ H s) : X.env.locals < s.heap.objs.size := let ⟨_, hn, _⟩ := I.loc; hn.lt
theorem Inv.sz (I : Inv X pins σ H s) : X.s₀.heap.objs.size ≤ s.heap.objs.size := Nat.le_trans I.ok.above (Nat.le_of_lt I.lt)
theorem Inv.nofs (I : Inv X pins σ H s) {a : Addr} (h : s.heap.objs.size ≤ a) : a ∉ X.fs := fun hb => by
  obtain ⟨_, o, ho, _⟩ := I.ok.funs.mem hb
  exact absurd (Nat.lt_of_lt_of_le (Heap.lt_size ho) (Nat.le_trans I.sz h)) (Nat.lt_irrefl _)
theorem Inv.cne (I : Inv X pins σ H s) : ∀ x c, X.env.cells.lookup x = some c → c ≠ X.env.locals := fun x c e z => by
  obtain ⟨v, o, ho, hd⟩ := I.cell x c e
  obtain ⟨m, ⟨o', es, ep, ho', hd', _⟩, _⟩ := I.loc
  rw [z, ho'] at ho; cases ho; rw [hd'] at hd; cases hd
theorem Inv.funs (I : Inv X pins σ H s) : s.heap.FunFrames X.base X.outer := by
  have all : ∀ (l : List Env), (∀ b ∈ frs l, b ∈ X.fs) → X.s₀.heap.FunFrames X.base l → s.heap.FunFrames X.base l := by
    intro l
    induction l with
    | nil => intro _ _; trivial
    | cons env r ih =>
      intro hs hl
      obtain ⟨hk, ⟨L, o, hf, hn, ho, hd⟩, hr⟩ := hl
      have hL : L ∈ X.fs := hs L (by unfold frs; rw [List.filterMap_cons, hf]; exact List.mem_cons_self)
      obtain ⟨sl, e⟩ := I.base.slot L o ho (I.ok.frf L hL) hL fun z => I.ok.exfs L z hL
      exact ⟨hk, ⟨L, _, hf, hn, e, hd⟩, ih (fun b hb => hs b (by unfold frs; rw [List.filterMap_cons, hf]; exact List.mem_cons_of_mem _ hb)) hr⟩
  exact all X.outer (fun _ hb => hb) I.ok.funs

/-- the frames that run, for a call -/
theorem Inv.stack (I : Inv X pins σ H s) : s.heap.FunFrames X.base X.stack := by
  rcases I.ok.stk with e | ⟨e, hf⟩
  · rw [e]; exact I.funs
  · rw [e]
    obtain ⟨m, hn, _⟩ := I.loc
    refine .cons (by rw [I.ok.kind]; decide) hf hn ?_ I.funs
    exact Heap.get?_none_of_le (Nat.le_trans I.ok.bsz I.ok.above)
theorem Inv.stkSub (I : Inv X pins σ H s) : ∀ b ∈ frs X.stack, b ∈ X.env.locals :: X.fs := fun b hb => by
  rcases I.ok.stk with e | ⟨e, hf⟩
  · rw [e] at hb; exact List.mem_cons_of_mem _ hb
  · rw [e] at hb
    unfold frs at hb
    rw [List.filterMap_cons, hf] at hb
    exact hb
theorem Inv.stkFree (I : Inv X pins σ H s) : ∀ b ∈ frs X.stack, H b = none := fun b hb => by
  rcases List.mem_cons.mp (I.stkSub b hb) with e | hb
  · rw [e]; exact I.free
  · obtain ⟨_, o, ho, _⟩ := I.ok.funs.mem hb
    exact I.base.free b o ho (I.ok.frf b hb) fun z => I.ok.exfs b z hb

/-- THE STEP: the untracked objects but the frame and the records at ch are kept (the callers' frames up to slots), the frame's map is kept, the new abstract heap is held -/
theorem Inv.step {g' : Array GenState} {t' : Nat} {d' : Drawn} {ch : List Addr} (I : Inv X pins σ H s)
    (hch : ∀ b ∈ ch, (b ∈ X.ex ∨ X.s₀.heap.objs.size ≤ b) ∧ b ≠ X.env.locals ∧ (∀ x c, X.env.cells.lookup x = some c → c ≠ b) ∧ ∀ p ∈ X.pn ++ pins, p.1 ≠ b)
    (keep : ∀ b o, b ≠ X.env.locals → b ∉ X.fs → b ∉ ch → s.heap.get? b = some o → H b = none → h'.get? b = some o)
    (slot : ∀ b o, b ≠ X.env.locals → b ∈ X.fs → b ∉ ch → s.heap.get? b = some o → H b = none → ∃ sl, h'.get? b = some { o with slots := sl }) (free : ∀ b o, b ∉ ch → s.heap.get? b = some o → H b = none → H' b = none)
    (there : ∀ b o, b ∉ ch → s.heap.get? b = some o → ∃ o', h'.get? b = some o')
    (tups : ∀ b xs, H b = some (.tup xs) → H' b = some (.tup xs)) (frzs : ∀ b o u, H b = some (.frz o u) → H' b = some (.frz o u)) (tbls : ∀ b ps, H b = some (.tbl ps) → ∃ more, H' b = some (.tbl (ps ++ more)))
    (ns : ∀ m, s.heap.Ns X.env.locals m → h'.Ns X.env.locals m) (hok : HOk X.prog X.w H' h') (hg : AllBare g') :
    Inv X pins σ H' { s with heap := h', gens := g', drawn := d', toks := t' } := by
  have neL : ∀ b o, X.s₀.heap.get? b = some o → b ≠ X.env.locals := fun b o e => Nat.ne_of_lt (Nat.lt_of_lt_of_le (Heap.lt_size e) I.ok.above)
  have neC : ∀ b o, X.s₀.heap.get? b = some o → b ∉ X.ex → b ∉ ch := fun b o e hx hb => by
    rcases (hch b hb).1 with z | z
    · exact hx z
    · exact absurd (Nat.lt_of_lt_of_le (Heap.lt_size e) z) (Nat.lt_irrefl _)
  have cellK : ∀ x c, X.env.cells.lookup x = some c → ∀ v, s.heap.IsCell c v → h'.IsCell c v := fun x c e v ⟨o, ho, hd⟩ => by
    have nch : c ∉ ch := fun z => (hch c z).2.2.1 x c e rfl
    by_cases hc : c ∈ X.fs
    · obtain ⟨sl, q⟩ := slot c o (I.cne x c e) hc nch ho (I.freeC x c e)
      exact ⟨_, q, hd⟩
    · exact ⟨o, keep c o (I.cne x c e) hc nch ho (I.freeC x c e), hd⟩
  refine ⟨I.ok, I.os, hg, ⟨fun b o e n hb hx => ?_, fun b o e n hb hx => ?_, fun b o e n hx => ?_, fun b o e hx => ?_, fun b xs e => tups b xs (I.base.tups b xs e), fun b o xs e => frzs b o xs (I.base.frzs b o xs e), fun b ps e => ?_⟩, ?_, fun x c e => ?_, ?_, fun x c e => ?_, fun p hp => ?_, hok, I.len⟩
  · exact keep b o (neL b o e) hb (neC b o e hx) (I.base.keep b o e n hb hx) (I.base.free b o e n hx)
  · obtain ⟨sl, e1⟩ := I.base.slot b o e n hb hx
    obtain ⟨sl', e2⟩ := slot b _ (neL b o e) hb (neC b o e hx) e1 (I.base.free b o e n hx)
    exact ⟨sl', e2⟩
  · obtain ⟨o', e1⟩ := I.base.there b o e hx
    exact free b o' (neC b o e hx) e1 (I.base.free b o e n hx)
  · obtain ⟨o', e1⟩ := I.base.there b o e hx
    exact there b o' (neC b o e hx) e1
  · obtain ⟨m1, e1⟩ := I.base.tbls b ps e
    obtain ⟨m2, e2⟩ := tbls b _ e1
    exact ⟨m1 ++ m2, by rw [e2, Array.append_assoc]⟩
  · obtain ⟨m, hn, hl⟩ := I.loc
    refine ⟨m, ns m hn, fun i x v e1 e2 e3 => ?_⟩
    obtain ⟨u, r, l⟩ := hl i x v e1 e2 e3
    refine ⟨u, r, ?_⟩
    rcases l with l | ⟨k, c, e, z⟩
    · exact .inl l
    · exact .inr ⟨k, c, e, cellK x c e _ z⟩
  · obtain ⟨v, z⟩ := I.cell x c e
    exact ⟨v, cellK x c e v z⟩
  · obtain ⟨m, ⟨o, _, _, ho, _⟩, _⟩ := I.loc
    exact free _ o (fun z => (hch _ z).2.1 rfl) ho I.free
  · obtain ⟨v, o, ho, hd⟩ := I.cell x c e
    exact free c o (fun z => (hch c z).2.2.1 x c e rfl) ho (I.freeC x c e)
  · obtain ⟨e, n, ne, nf, d⟩ := I.pin p hp
    have nch : p.1 ∉ ch := fun z => (hch p.1 z).2.2.2 p hp rfl
    exact ⟨keep p.1 p.2 ne nf nch e n, free p.1 p.2 nch e n, ne, nf, d⟩
/-- .. where the frame's own object is kept too -/
theorem Inv.un {t' : Nat} (I : Inv X pins σ H s) (u : Un X.fs [] H H' s.heap h') (hok : HOk X.prog X.w H' h') : Inv X pins σ H' { s with heap := h', toks := t' } := by
  obtain ⟨m, ⟨o, es, ep, ho, r⟩, _⟩ := id I.loc
  obtain ⟨sl, hL⟩ := u.any ho I.free (by simp)
  exact I.step (g' := s.gens) (d' := s.drawn) (ch := []) (fun _ z => nomatch z) (fun b o _ hb _ e n => u.keep b o e n hb (by simp)) (fun b o _ hb _ e n => u.slot b o e n hb (by simp)) (fun b o _ e n => u.free b o e n (by simp)) (fun b o _ e => u.there b o e (by simp)) u.tups u.frzs u.tbls (fun m' hm => by
    obtain ⟨o', es', ep', ho', r'⟩ := hm
    rw [ho] at ho'; cases ho'
    exact ⟨_, es', ep', hL, r'⟩) hok I.bare
/-- behind a call (or a comprehension's block): the slots of this frame may have changed too, the records at ch may have turned -/
theorem Inv.call {g' : Array GenState} {t' : Nat} {d' : Drawn} {ch : List Addr} (I : Inv X pins σ H s) (u : Un (frs X.stack) ch H H' s.heap h') (hok : HOk X.prog X.w H' h') (hg : AllBare g')
    (hch : ∀ b ∈ ch, (b ∈ X.ex ∨ X.s₀.heap.objs.size ≤ b) ∧ b ≠ X.env.locals ∧ (∀ x c, X.env.cells.lookup x = some c → c ≠ b) ∧ ∀ p ∈ X.pn ++ pins, p.1 ≠ b) :
    Inv X pins σ H' { s with heap := h', gens := g', drawn := d', toks := t' } := by
  obtain ⟨m, ⟨o, es, ep, ho, r⟩, _⟩ := id I.loc
  obtain ⟨sl, hL⟩ := u.any ho I.free fun z => (hch _ z).2.1 rfl
  exact I.step (ch := ch) hch (fun b o hL hb hc e n => u.keep b o e n (fun z => (List.mem_cons.mp (I.stkSub b z)).elim hL hb) hc) (fun b o _ _ hc e n => u.any e n hc) (fun b o hc e n => u.free b o e n hc) (fun b o hc e => u.there b o e hc) u.tups u.frzs u.tbls (fun m' hm => by
    obtain ⟨o', es', ep', ho', r'⟩ := hm
    rw [ho] at ho'; cases ho'
    exact ⟨_, es', ep', hL, r'⟩) hok hg
/-- an untracked record of ours (an iterator) has turned -/
theorem Inv.turned {t' : Nat} {it : Addr} (I : Inv X pins σ H s) (k : ∀ b o, b ≠ it → s.heap.get? b = some o → h'.get? b = some o) (hn : H it = none) (hL : it ≠ X.env.locals)
    (h1 : it ∈ X.ex ∨ X.s₀.heap.objs.size ≤ it) (h2 : ∀ x c, X.env.cells.lookup x = some c → c ≠ it) (h3 : ∀ p ∈ X.pn ++ pins, p.1 ≠ it) : Inv X pins σ H { s with heap := h', toks := t' } := by
  have nit : ∀ b u, H b = some u → b ≠ it := fun b u e z => by rw [z, hn] at e; cases e
  refine I.step (g' := s.gens) (d' := s.drawn) (ch := [it]) (fun b hb => ?_) (fun b o _ _ hc e _ => k b o (fun z => hc (by simp [z])) e) (fun b o _ _ hc e _ => ⟨o.slots, k b o (fun z => hc (by simp [z])) e⟩) (fun _ _ _ _ n => n)
    (fun b o hc e => ⟨o, k b o (fun z => hc (by simp [z])) e⟩) (fun _ _ e => e) (fun _ _ _ e => e) (fun b ps e => ⟨#[], by rw [e]; simp⟩) (fun m hm => ?_) (fun b u e => ?_) I.bare
  · have e : b = it := by simpa using hb
    subst e
    exact ⟨h1, hL, h2, h3⟩
  · obtain ⟨o, es, ep, ho, r⟩ := hm
    exact ⟨o, es, ep, k _ o (Ne.symm hL) ho, r⟩
  · refine (I.hok b u e).stay (fun c v hc q => k c v ?_ q) (fun _ q => q) fun _ _ q => q
    rcases hc with z | z
    · rw [z]; exact nit b u e
    · exact nit c _ z
theorem Inv.tok (I : Inv X pins σ H s) (t : Nat) : Inv X pins σ H { s with toks := t } := I.un (h' := s.heap) (t' := t) Un.refl I.hok
/-- all objects kept -/
theorem Inv.kept {t' : Nat} (I : Inv X pins σ H s) (k : ∀ b u, s.heap.get? b = some u → h'.get? b = some u) : Inv X pins σ H { s with heap := h', toks := t' } := I.un (Un.kept k) (I.hok.kept k)
/-- a new object laid and tracked -/
theorem Inv.laid {a : Addr} {o : HO} {t' : Nat} (I : Inv X pins σ H s) (k : ∀ b u, s.heap.get? b = some u → h'.get? b = some u) (hp : s.heap.objs.size ≤ a) (new : ObjOk X.prog X.w (upd H a o) h' a o) :
    Inv X pins σ (upd H a o) { s with heap := h', toks := t' } := I.un (Un.laid k hp (I.hok.fresh hp)) (I.hok.laid k hp new)
/-- an object written -/
theorem Inv.write {x e : Addr} {o : HO} {t' : Nat} (I : Inv X pins σ H s) (mu : Mut (H x)) (he : e = x ∨ H e = some (.own x)) (k : ∀ b u, b ≠ e → s.heap.get? b = some u → h'.get? b = some u) (heo : ∃ u, h'.get? e = some u)
    (new : ObjOk X.prog X.w (upd H x o) h' x o) : Inv X pins σ (upd H x o) { s with heap := h', toks := t' } := I.un (Un.write mu he k heo) (I.hok.write mu he k heo new)
theorem Inv.pins_of {pins' : List (Addr × Obj)} (I : Inv X pins σ H s) (h : ∀ p ∈ pins', s.heap.get? p.1 = some p.2 ∧ H p.1 = none ∧ p.1 ≠ X.env.locals ∧ p.1 ∉ X.fs ∧ ∀ v, p.2.data ≠ .cell v) : Inv X pins' σ H s :=
  ⟨I.ok, I.os, I.bare, I.base, I.loc, I.cell, I.free, I.freeC, fun p hp => (List.mem_append.mp hp).elim (fun z => I.pin p (List.mem_append_left _ z)) (h p), I.hok, I.len⟩

theorem nodup_ix {N : List Str} (hN : N.Nodup) {i j : Nat} {x : Str} (a : N[i]? = some x) (b : N[j]? = some x) : i = j := by
  obtain ⟨h1, e1⟩ := List.getElem?_eq_some_iff.mp a
  obtain ⟨h2, e2⟩ := List.getElem?_eq_some_iff.mp b
  exact (List.getElem_inj hN).mp (e1.trans e2.symm)

/-- a name is stored; what changed -/
theorem store_ok2 {M : Model} {A : Around} {E : Value → Shared → Prop} {i : Nat} {x : Str} {v : V} {u : Value} {Q : Unit → Shared → Prop} (I : Inv X pins σ H s) (hN : X.N.Nodup) (hi : X.N[i]? = some x) (hx : Loc X.env.scope x) (r : RelV v u)
    (h : ∀ s', Inv X pins (σ.set i (some v)) H s' → (∃ a, Heap.SameBut a s.heap s'.heap ∧ (a = X.env.locals ∨ X.env.cells.lookup x = some a)) → Q () s') (hf : X.fn x = true ∨ X.env.scope.names.lookup x = some .local := by first | exact .inl rfl | exact .inr rfl | assumption) : wpAny M A (storeName X.env x u) Q E s := by
  obtain ⟨m, hn, hl⟩ := id I.loc
  have hcls : (X.env.scope.kind == .class || (X.env.scope.kind == .module && X.env.locals != X.env.globals)) = false := by rw [I.ok.kind]; rfl
  have hiσ : i < σ.length := by rw [I.len]; exact (List.getElem?_eq_some_iff.mp hi).1
  have cne := I.cne
  have tracked : ∀ {a : Addr} {h' : Heap}, (∃ o, s.heap.get? a = some o ∧ H a = none) → Heap.SameBut a s.heap h' → HOk X.prog X.w H h' := fun {a h'} ha hs b ob e => by
    obtain ⟨_, _, hfree⟩ := ha
    refine (I.hok b ob e).stay (fun c w' hc q => (hs.2 c ?_).trans q) (fun _ q => q) fun _ _ q => q
    rintro rfl
    rcases hc with rfl | hc
    · rw [hfree] at e; cases e
    · rw [hfree] at hc; cases hc
  rcases hx with hk | hk
  · refine wpAny_storeName_local hk hn (fun h' hn' hs => ?_) hcls
    obtain ⟨oL, _, _, hoL, _⟩ := id hn
    refine h _ ⟨I.ok, I.os, I.bare, ⟨fun b o e n hb hx => ?_, fun b o e n hb hx => ?_, I.base.free, fun b o e hx => ?_, I.base.tups, I.base.frzs, I.base.tbls⟩, ⟨_, hn', fun j y v' e1 e2 e3 => ?_⟩, fun y c e => ?_, I.free, I.freeC, fun p hp => ?_, tracked ⟨oL, hoL, I.free⟩ hs, by simpa using I.len⟩ ⟨_, hs, .inl rfl⟩
    · exact (hs.2 b (Nat.ne_of_lt (Nat.lt_of_lt_of_le (Heap.lt_size e) I.ok.above))).trans (I.base.keep b o e n hb hx)
    · obtain ⟨sl, e1⟩ := I.base.slot b o e n hb hx
      exact ⟨sl, (hs.2 b (Nat.ne_of_lt (Nat.lt_of_lt_of_le (Heap.lt_size e) I.ok.above))).trans e1⟩
    · obtain ⟨o', e1⟩ := I.base.there b o e hx
      exact ⟨o', (hs.2 b (Nat.ne_of_lt (Nat.lt_of_lt_of_le (Heap.lt_size e) I.ok.above))).trans e1⟩
    · by_cases hj : j = i
      · subst hj
        rw [hi] at e1; cases e1
        rw [List.getElem?_set_self hiσ] at e2
        cases e2
        exact ⟨u, r, .inl ⟨hk, by simp⟩⟩
      · rw [List.getElem?_set_ne (Ne.symm hj)] at e2
        obtain ⟨u', r', q⟩ := hl j y v' e1 e2 e3
        refine ⟨u', r', ?_⟩
        rcases q with ⟨k, e⟩ | ⟨k, c, e, z⟩
        · refine .inl ⟨k, ?_⟩
          have : y ≠ x := fun e => hj (nodup_ix hN e1 (e ▸ hi))
          simp [this, e]
        · exact .inr ⟨k, c, e, z.sameBut hs (cne y c e)⟩
    · obtain ⟨w', z⟩ := I.cell y c e
      exact ⟨w', z.sameBut hs (cne y c e)⟩
    · obtain ⟨e, n, ne, nf, d⟩ := I.pin p hp
      exact ⟨(hs.2 p.1 ne).trans e, n, ne, nf, d⟩
  · have hfn : X.fn x = true := by
      rcases hf with z | z
      · exact z
      · rw [z] at hk; cases hk
    obtain ⟨c, hc⟩ := I.ok.has x (.inl hk)
    obtain ⟨w', z⟩ := I.cell x c hc
    refine wpAny_storeName_cell I.ok.kind hk hc z (fun h' hc' hs => ?_)
    obtain ⟨oc, hoc, hocd⟩ := id z
    refine h { s with heap := h' } ⟨I.ok, I.os, I.bare, ⟨fun b o e n hb hx => ?_, fun b o e n hb hx => ?_, I.base.free, fun b o e hx => ?_, I.base.tups, I.base.frzs, I.base.tbls⟩, ⟨m, hn.sameBut hs (Ne.symm (cne x c hc)), fun j y v' e1 e2 e3 => ?_⟩, fun y c' e => ?_, I.free, I.freeC, fun p hp => ?_, tracked ⟨oc, hoc, I.freeC x c hc⟩ hs, by simpa using I.len⟩ ⟨c, hs, .inr hc⟩
    · exact (hs.2 b (Nat.ne_of_lt (Nat.lt_of_lt_of_le (Heap.lt_size e) (I.ok.cab x c hfn hc)))).trans (I.base.keep b o e n hb hx)
    · obtain ⟨sl, e1⟩ := I.base.slot b o e n hb hx
      exact ⟨sl, (hs.2 b (Nat.ne_of_lt (Nat.lt_of_lt_of_le (Heap.lt_size e) (I.ok.cab x c hfn hc)))).trans e1⟩
    · obtain ⟨o', e1⟩ := I.base.there b o e hx
      exact ⟨o', (hs.2 b (Nat.ne_of_lt (Nat.lt_of_lt_of_le (Heap.lt_size e) (I.ok.cab x c hfn hc)))).trans e1⟩
    · by_cases hj : j = i
      · subst hj
        rw [hi] at e1; cases e1
        rw [List.getElem?_set_self hiσ] at e2
        cases e2
        exact ⟨u, r, .inr ⟨.inl hk, c, hc, hc'⟩⟩
      · rw [List.getElem?_set_ne (Ne.symm hj)] at e2
        obtain ⟨u', r', q⟩ := hl j y v' e1 e2 e3
        refine ⟨u', r', ?_⟩
        rcases q with q | ⟨k, c', e, z'⟩
        · exact .inl q
        · refine .inr ⟨k, c', e, z'.sameBut hs ?_⟩
          rintro rfl
          exact hj (nodup_ix hN e1 (I.ok.inj _ _ _ e hc ▸ hi))
    · by_cases hcc : c' = c
      · subst hcc; exact ⟨_, hc'⟩
      · obtain ⟨w2, z2⟩ := I.cell y c' e
        exact ⟨w2, z2.sameBut hs hcc⟩
    · obtain ⟨e, n, ne, nf, d⟩ := I.pin p hp
      refine ⟨(hs.2 p.1 ?_).trans e, n, ne, nf, d⟩
      intro q
      rw [q, hoc] at e
      have q' : oc = p.2 := Option.some.inj e
      exact d w' (by rw [← q']; exact hocd)
theorem store_ok {M : Model} {A : Around} {E : Value → Shared → Prop} {i : Nat} {x : Str} {v : V} {u : Value} {Q : Unit → Shared → Prop} (I : Inv X pins σ H s) (hN : X.N.Nodup) (hi : X.N[i]? = some x) (hx : Loc X.env.scope x) (r : RelV v u)
    (h : ∀ s', Inv X pins (σ.set i (some v)) H s' → Q () s') (hf : X.fn x = true ∨ X.env.scope.names.lookup x = some .local := by first | exact .inl rfl | exact .inr rfl | assumption) : wpAny M A (storeName X.env x u) Q E s :=
  store_ok2 I hN hi hx r (fun s' I' _ => h s' I') hf
/-- behind a call or a block, the state as it is -/
theorem Inv.call' {s' : Shared} {ch : List Addr} (I : Inv X pins σ H s) (ho : s'.os = s.os) (u : Un (frs X.stack) ch H H' s.heap s'.heap) (hok : HOk X.prog X.w H' s'.heap) (hg : AllBare s'.gens)
    (hch : ∀ b ∈ ch, (b ∈ X.ex ∨ X.s₀.heap.objs.size ≤ b) ∧ b ≠ X.env.locals ∧ (∀ x c, X.env.cells.lookup x = some c → c ≠ b) ∧ ∀ p ∈ X.pn ++ pins, p.1 ≠ b) : Inv X pins σ H' s' := by
  obtain ⟨h', g', d', t', o'⟩ := s'
  have e : o' = s.os := ho
  subst e
  exact I.call (g' := g') (t' := t') (d' := d') u hok hg hch
end

/-! ### the judgements -/
/-- an exception: its class, its own dict's address (where it has one), the abstract heap behind it -/
abbrev XK := Value → Option Addr → Hp → Prop
abbrev St := List (Option V)
abbrev VK := V → Hp → Prop
/-- an expression's reading; a test's; an argument list's -/
abbrev TE := St → Hp → VK → Prop
abbrev TT := St → Hp → (Bool → Hp → Prop) → Prop
abbrev TA := St → Hp → (List V → Hp → Prop) → Prop
/-- what is wanted behind a statement -/
structure Ends where
  nx : St → Hp → Prop
  rt : VK
  bk : St → Hp → Prop := fun _ _ => False
  ct : St → Hp → Prop := fun _ _ => False
abbrev TS := Ends → St → Hp → Prop

def EP (X : Cx) (pins : List (Addr × Obj)) (σ : St) (Q : VK) (u : Value) (s' : Shared) : Prop := ∃ v H', Inv X pins σ H' s' ∧ RelV v u ∧ Q v H'
def TP (X : Cx) (pins : List (Addr × Obj)) (σ : St) (Q : Bool → Hp → Prop) (b : Bool) (s' : Shared) : Prop := ∃ H', Inv X pins σ H' s' ∧ Q b H'
def AP (X : Cx) (pins : List (Addr × Obj)) (σ : St) (Q : List V → Hp → Prop) (us : List Value) (s' : Shared) : Prop := ∃ vs H', Inv X pins σ H' s' ∧ Vals vs us ∧ Q vs H'
def SP (X : Cx) (pins : List (Addr × Obj)) (D : Ends) (f : Flow) (s' : Shared) : Prop :=
  match f with
  | .next => ∃ σ' H', Inv X pins σ' H' s' ∧ D.nx σ' H'
  | .brk => ∃ σ' H', Inv X pins σ' H' s' ∧ D.bk σ' H'
  | .cont => ∃ σ' H', Inv X pins σ' H' s' ∧ D.ct σ' H'
  | .ret u => ∃ v σ' H', Inv X pins σ' H' s' ∧ RelV v u ∧ D.rt v H'

def PE (X : Cx) (e : Expr) (t : TE) : Prop :=
  ∀ (pins : List (Addr × Obj)) (s : Shared) (σ : St) (H : Hp) (Q : VK), Inv X pins σ H s → t σ H Q → wpAny (model X.prog X.w) X.A (eval e X.env) (EP X pins σ Q) X.xe s
def PT (X : Cx) (e : Expr) (t : TT) : Prop :=
  ∀ (pins : List (Addr × Obj)) (s : Shared) (σ : St) (H : Hp) (Q : Bool → Hp → Prop), Inv X pins σ H s → t σ H Q → wpAny (model X.prog X.w) X.A (isTrue e X.env (eval e X.env)) (TP X pins σ Q) X.xe s
/-- a test whatever its 'whole' is (and, or) -/
def PW (X : Cx) (e : Expr) (t : TT) : Prop :=
  ∀ (whole : Sem Value) (pins : List (Addr × Obj)) (s : Shared) (σ : St) (H : Hp) (Q : Bool → Hp → Prop), Inv X pins σ H s → t σ H Q → wpAny (model X.prog X.w) X.A (isTrue e X.env whole) (TP X pins σ Q) X.xe s
theorem PW.pt {X : Cx} {e : Expr} {t : TT} (h : PW X e t) : PT X e t := h _
/-- an argument list (no star), from the left -/
def PA (X : Cx) (es : List Expr) (t : TA) : Prop :=
  ∀ (pos : Pos) (pins : List (Addr × Obj)) (s : Shared) (σ : St) (H : Hp) (Q : List V → Hp → Prop), Inv X pins σ H s → t σ H Q → wpAny (model X.prog X.w) X.A (spliced (backTo pos (starEach es X.env))) (AP X pins σ Q) X.xe s
def PS (X : Cx) (st : Stmt) (t : TS) : Prop :=
  ∀ (pins : List (Addr × Obj)) (s : Shared) (σ : St) (H : Hp) (D : Ends), Inv X pins σ H s → t D σ H → wpAny (model X.prog X.w) X.A (exec st X.env) (SP X pins D) X.xe s
def PSs (X : Cx) (st : List Stmt) (t : TS) : Prop :=
  ∀ (pins : List (Addr × Obj)) (s : Shared) (σ : St) (H : Hp) (D : Ends), Inv X pins σ H s → t D σ H → wpAny (model X.prog X.w) X.A (execs st X.env) (SP X pins D) X.xe s
/-- weaken the end -/
theorem thn {α : Type} {t : Sem α} {Q Q' : α → Shared → Prop} {M : Model} {A : Around} {E : Value → Shared → Prop} {s : Shared} (h : wpAny M A t Q E s) (hQ : ∀ a s, Q a s → Q' a s) : wpAny M A t Q' E s := wpAny_mono h hQ fun _ _ x => x
end L2

namespace L2
open PySem PySem.Spec PyProof.Rows
section
variable {X : Cx}

/-- two expressions in a row -/
theorem bin {a b : Expr} {ta tb : TE} (ha : PE X a ta) (hb : PE X b tb) {pins : List (Addr × Obj)} {s : Shared} {σ : St} {H : Hp} {R : V → V → Hp → Prop} (I : Inv X pins σ H s) (h : ta σ H fun x H1 => tb σ H1 fun y H2 => R x y H2)
    {α : Type} {Q : α → Shared → Prop} {f : Value → Value → Sem α}
    (hf : ∀ v u s2 x y H2, Inv X pins σ H2 s2 → RelV x v → RelV y u → R x y H2 → wpAny (model X.prog X.w) X.A (f v u) Q X.xe s2) :
    wpAny (model X.prog X.w) X.A (eval a X.env) (fun v s₁ => wpAny (model X.prog X.w) X.A (eval b X.env) (fun u s₂ => wpAny (model X.prog X.w) X.A (f v u) Q X.xe s₂) X.xe s₁) X.xe s := by
  refine thn (ha pins s σ H _ I h) fun v s1 ⟨x, H1, I1, r1, q1⟩ => ?_
  refine thn (hb pins s1 σ H1 _ I1 q1) fun u s2 ⟨y, H2, I2, r2, q2⟩ => ?_
  exact hf v u s2 x y H2 I2 r1 r2 q2

/-! ### names and constants -/
def tVar (i : Nat) : TE := fun σ H Q => ∃ v, σ[i]? = some (some v) ∧ Q v H
def tC (v : V) : TE := fun _ H Q => Q v H
theorem pe_var {i : Nat} {x : Str} {pos : Pos} (hN : X.N[i]? = some x) (hv : Vis X.env.scope x) (hd : (x == ("__debug__" : Str)) = false := by decide) (hcd : (x == ("__classdict__" : Str)) = false := by decide) : PE X (.Name x pos) (tVar i) := by
  intro pins s σ H Q I h
  obtain ⟨v, e, h⟩ := h
  obtain ⟨m, hn, hl⟩ := I.loc
  obtain ⟨u, r, l⟩ := hl i x v hN e hv
  have fin : EP X pins σ Q u s := ⟨v, H, I, r, h⟩
  rcases l with ⟨hk, hm⟩ | ⟨hk, c, hc, hcell⟩
  · exact wpAny_Name (wpAny_loadName_local I.ok.kind hk hn hm fin) hd
  · rcases hk with hk | hk
    · exact wpAny_Name (wpAny_loadName_cell I.ok.kind hk hc hcell fin) hd
    · exact wpAny_Name (wpAny_loadName_free I.ok.kind hk hc hcell fin hcd) hd
theorem pe_int {i j pos} : PE X (.Constant (.int i) j pos) (tC (.int i)) := fun _ _ _ H _ I h => wpAny_Constant_int ⟨.int i, H, I.tok _, ⟨_, rfl⟩, h⟩
theorem pe_bl {b j pos} : PE X (.Constant (.bool b) j pos) (tC (.bl b)) := fun _ _ _ H _ I h => Constant_bool ⟨.bl b, H, I, rfl, h⟩

/-- a global name of the def -/
def Gl (X : Cx) (x : Str) : Prop := X.env.kindOf x = some .globalImplicit
theorem ld_glob {E : Value → Shared → Prop} {pins : List (Addr × Obj)} {s : Shared} {σ : St} {H : Hp} {x : Str} {u : Value} {pos : Pos} {Q : Value → Shared → Prop} (I : Inv X pins σ H s) (hg : Gl X x) (hm : X.mg x = some u) (h : Q u s)
    (hd : (x == ("__debug__" : Str)) = false := by decide) : wpAny (model X.prog X.w) X.A (eval (.Name x pos) X.env) Q E s :=
  Calls.Name_function_global I.ok.kind hg (Calls.loadGlobal_global (by rw [I.ok.glob]; exact I.mod.glob.keeps I.bk) hm h) hd
theorem ld_blt {E : Value → Shared → Prop} {pins : List (Addr × Obj)} {s : Shared} {σ : St} {H : Hp} {x : Str} {u : Value} {pos : Pos} {Q : Value → Shared → Prop} (I : Inv X pins σ H s) (hg : Gl X x) (hm : X.mg x = none) (hv : bootBuiltins x = some u) (h : Q u s)
    (hn : x ≠ "__name__" := by decide) (hd : (x == ("__debug__" : Str)) = false := by decide) : wpAny (model X.prog X.w) X.A (eval (.Name x pos) X.env) Q E s := by
  obtain ⟨mb, h1, h2⟩ := I.mod.blt
  exact Calls.Name_function_global I.ok.kind hg (Calls.loadGlobal_builtin (by rw [I.ok.glob]; exact I.mod.glob.keeps I.bk) hm (by rw [I.ok.blt]; exact h1.keeps I.bk) ((h2 x hn).trans hv) h) hd
/-- a module's constant, a class, a function, as a value -/
theorem pe_glob {x : Str} {v : V} {u : Value} {pos : Pos} (hg : Gl X x) (hm : X.mg x = some u) (r : RelV v u) (hd : (x == ("__debug__" : Str)) = false := by decide) : PE X (.Name x pos) (tC v) :=
  fun _ _ _ H _ I h => ld_glob I hg hm ⟨v, H, I, r, h⟩ hd

/-! ### arithmetic -/
variable {a b : Expr} {ta tb : TE} {pos : Pos}

/-! ### comparisons -/
def PC (X : Cx) (op : CmpOp) (a b : Expr) (t : TE) : Prop :=
  ∀ (pins : List (Addr × Obj)) (s : Shared) (σ : St) (H : Hp) (Q : VK), Inv X pins σ H s → t σ H Q →
    wpAny (model X.prog X.w) X.A (eval a X.env) (fun v s₁ => wpAny (model X.prog X.w) X.A (eval b X.env) (fun u s₂ => wpAny (model X.prog X.w) X.A (compareOp op v u) (EP X pins σ Q) X.xe s₂) X.xe s₁) X.xe s
/-- a comparison as a value, as a test -/
def tB (t : TE) : TT := fun σ H Q => t σ H fun x H1 => ∃ c, x = .bl c ∧ Q c H1
theorem pt_cmp {op : CmpOp} {t : TE} (h : PC X op a b t) (h1 : behindInMarks op b = false := by first | exact nobehind _ (by decide) (by decide) | rfl) : PT X (.Compare a [op] [b] pos) (tB t) := by
  intro pins s σ H Q I hw
  refine wpAny_isTrue_Compare1 (thn (h pins s σ H _ I hw) fun v s1 h1 => thn h1 fun u s2 h2 => thn h2 fun c s3 ⟨x, H1, I1, r1, q1⟩ => ?_) h1
  obtain ⟨d, rfl, q⟩ := q1
  cases r1
  exact wpAny_truthy_bool ⟨H1, I1, q⟩
/-- an expression whose value is a bool, as a test -/
theorem pt_val {e : Expr} {t : TE} (h : PE X e t) (he : ∀ whole, isTrue e X.env whole = (do let v ← whole; standAt e.pos; holding [v] (truthy v)) := by intro _; rfl) : PT X e (tB t) := by
  intro pins s σ H Q I hw
  refine isTrue_plain (thn (h pins s σ H _ I hw) fun v s1 ⟨x, H1, I1, r1, q1⟩ => ?_) (he _)
  obtain ⟨d, rfl, q⟩ := q1
  cases r1
  exact wpAny_truthy_bool ⟨H1, I1, q⟩

/-! ### and, or, not -/
variable {tA tB' : TT} {rest : List Expr}
def tAnd (t u : TT) : TT := fun σ H Q => t σ H fun c H1 => if c = true then u σ H1 Q else Q false H1
def tOr (t u : TT) : TT := fun σ H Q => t σ H fun c H1 => if c = true then Q true H1 else u σ H1 Q
def tNot (t : TT) : TT := fun σ H Q => t σ H fun c H1 => Q (!c) H1
theorem pw_and1 (ha : PT X a tA) : PW X (.BoolOp .And [a] pos) tA := by
  intro wh pins s σ H Q I h
  refine isTrue_and (thn (ha pins s σ H Q I h) fun c s1 e => ?_)
  cases c with
  | true => exact isTrue_and_nil e
  | false => exact e
theorem pw_or1 (ha : PT X a tA) : PW X (.BoolOp .Or [a] pos) tA := by
  intro wh pins s σ H Q I h
  refine isTrue_or (thn (ha pins s σ H Q I h) fun c s1 e => ?_)
  cases c with
  | false => exact isTrue_or_nil e
  | true => exact e
theorem pw_and (ha : PT X a tA) (hb : PW X (.BoolOp .And (b :: rest) pos) tB') : PW X (.BoolOp .And (a :: b :: rest) pos) (tAnd tA tB') := by
  intro wh pins s σ H Q I h
  refine isTrue_and (thn (ha pins s σ H _ I h) fun c s1 ⟨H1, I1, q1⟩ => ?_)
  cases c with
  | true => exact hb wh pins s1 σ H1 Q I1 q1
  | false => exact ⟨H1, I1, q1⟩
theorem pw_or (ha : PT X a tA) (hb : PW X (.BoolOp .Or (b :: rest) pos) tB') : PW X (.BoolOp .Or (a :: b :: rest) pos) (tOr tA tB') := by
  intro wh pins s σ H Q I h
  refine isTrue_or (thn (ha pins s σ H _ I h) fun c s1 ⟨H1, I1, q1⟩ => ?_)
  cases c with
  | true => exact ⟨H1, I1, q1⟩
  | false => exact hb wh pins s1 σ H1 Q I1 q1
theorem pt_not (ha : PT X a tA) : PT X (.UnaryOp .Not a pos) (tNot tA) := by
  intro pins s σ H Q I h
  exact isTrue_not (ha pins s σ H (fun c H1 => Q (!c) H1) I h)
/-- .. as values (bools) -/
def tAndV (ta tb : TE) : TE := fun σ H Q => ta σ H fun x H1 => ∃ c, x = .bl c ∧ if c = true then tb σ H1 Q else Q (.bl false) H1
theorem pe_one {op} {t : TE} (h : PE X a t) : PE X (.BoolOp op [a] pos) t := fun pins s σ H Q I hw => BoolOp_one (h pins s σ H Q I hw)
theorem pe_and (ha : PE X a ta) (hb : PE X (.BoolOp .And (b :: rest) pos) tb) : PE X (.BoolOp .And (a :: b :: rest) pos) (tAndV ta tb) := by
  intro pins s σ H Q I h
  refine BoolOp_and (thn (ha pins s σ H _ I h) fun v s1 ⟨x, H1, I1, r1, q1⟩ => ?_)
  obtain ⟨c, rfl, q1⟩ := q1
  cases r1
  refine wpAny_truthy_bool ?_
  cases c with
  | true => exact hb pins s1 σ H1 Q I1 q1
  | false => exact ⟨.bl false, H1, I1, rfl, q1⟩
end
end L2

namespace L2
open PySem PySem.Spec PyProof.Rows

/-! ### a list, a tuple that is read: tracked, frozen, or an object of the module -/
def SqL (K : PySem.W.Frag) (H : Hp) (a : Addr) (xs : List V) : Prop :=
  Rd H a (.lst xs) ∨
    ∃ (o : Obj) (its : Array Value) (n : Nat), K.lookup a = some o ∧ o.cls = .type "list" ∧ o.dict = none ∧ o.data = .seq its n ∧ its.size ≤ sizeLine ∧ Vals xs its.toList
def SqT (K : PySem.W.Frag) (H : Hp) (a : Addr) (xs : List V) : Prop :=
  Rd H a (.tup xs) ∨
    ∃ (o : Obj) (its : Array Value) (n : Nat), K.lookup a = some o ∧ o.cls = .type "tuple" ∧ o.data = .seq its n ∧ its.size ≤ sizeLine ∧ Vals xs its.toList
def absV : Value → Option V
  | .none => some .non
  | .bool b => some (.bl b)
  | .int i _ => some (.int i)
  | .str x _ => some (.str x)
  | .bytes b _ => some (.byt b)
  | .float b _ => some (.flt b)
  | .ref a => some (.ref a)
  | .type n => some (.ty n)
  | _ => none
theorem RelV.abs {x : V} {u : Value} (r : RelV x u) : absV u = some x := by
  cases x with
  | non => cases r; rfl
  | bl _ => cases r; rfl
  | int _ => obtain ⟨t, rfl⟩ := r; rfl
  | str _ => obtain ⟨t, rfl⟩ := r; rfl
  | byt _ => obtain ⟨t, rfl⟩ := r; rfl
  | flt _ => obtain ⟨t, rfl⟩ := r; rfl
  | ref _ => cases r; rfl
  | ty _ => cases r; rfl
theorem RelV.inj {x y : V} {u : Value} (r : RelV x u) (q : RelV y u) : x = y := Option.some.inj (r.abs.symm.trans q.abs)
theorem Vals.inj : ∀ {xs ys : List V} {us : List Value}, Vals xs us → Vals ys us → xs = ys
  | _, _, _, .nil, .nil => rfl
  | _, _, _, .cons r t, .cons r' t' => by rw [r.inj r', Vals.inj t t']
section
variable {X : Cx} {pins : List (Addr × Obj)} {σ : St} {H : Hp} {s : Shared} {a : Addr} {xs ys : List V}
theorem SqL.of {K : PySem.W.Frag} (h : H a = some (.lst xs)) : SqL K H a xs := .inl (.inl h)
theorem SqT.of {K : PySem.W.Frag} (h : H a = some (.tup xs)) : SqT K H a xs := .inl (.inl h)
theorem Inv.list (I : Inv X pins σ H s) (h : SqL X.K H a xs) : ∃ its : List Value, Vals xs its ∧ PlainL s.heap a its.toArray ∧ xs.length ≤ sizeLine := by
  rcases h with h | ⟨o, its, n, hk, hc, hd, hs, hz, r⟩
  · obtain ⟨z, its, n, r, e⟩ := h.ok I.hok
    exact ⟨its, r, ⟨_, n, e, rfl, rfl, rfl⟩, z⟩
  · refine ⟨its.toList, r, ⟨o, n, I.kIn a o hk, hc, hd, by simpa using hs⟩, ?_⟩
    have e := r.length
    simp only [Array.length_toList] at e
    omega
theorem Inv.tuple (I : Inv X pins σ H s) (h : SqT X.K H a xs) : ∃ its : List Value, Vals xs its ∧ IsTup s.heap a its.toArray ∧ xs.length ≤ sizeLine := by
  rcases h with h | ⟨o, its, n, hk, hc, hs, hz, r⟩
  · obtain ⟨z, its, r, p⟩ := h.ok I.hok
    exact ⟨its, r, p, z⟩
  · refine ⟨its.toList, r, ⟨o, I.kIn a o hk, hc, n, by simpa using hs⟩, ?_⟩
    have e := r.length
    simp only [Array.length_toList] at e
    omega
theorem Inv.list_inj (I : Inv X pins σ H s) (h : SqL X.K H a xs) (h' : SqL X.K H a ys) : xs = ys := by
  obtain ⟨its, r, ⟨o, n, e, _, _, d⟩, _⟩ := I.list h
  obtain ⟨its', r', ⟨o', n', e', _, _, d'⟩, _⟩ := I.list h'
  rw [e] at e'; cases e'
  rw [d] at d'
  injection d' with d1 _
  have : its = its' := by simpa using congrArg Array.toList d1
  subst this
  exact r.inj r'
theorem Inv.tuple_inj (I : Inv X pins σ H s) (h : SqT X.K H a xs) (h' : SqT X.K H a ys) : xs = ys := by
  obtain ⟨its, r, ⟨o, e, _, n, d⟩, _⟩ := I.tuple h
  obtain ⟨its', r', ⟨o', e', _, n', d'⟩, _⟩ := I.tuple h'
  rw [e] at e'; cases e'
  rw [d] at d'
  injection d' with d1 _
  have : its = its' := by simpa using congrArg Array.toList d1
  subst this
  exact r.inj r'
end

/-! ### another wish about exceptions -/
abbrev Cx.wish (X : Cx) (E : Value → Shared → Prop) : Cx := { X with xe := E }
/-- no exception leaves -/
abbrev Cx.nox (X : Cx) : Cx := X.wish fun _ _ => False
theorem Cx.Ok.wish {X : Cx} (ok : X.Ok) (E : Value → Shared → Prop) : (X.wish E).Ok :=
  ⟨ok.mod, ok.kind, ok.glob, ok.blt, ok.above, ok.inj, ok.has, ok.cab, ok.hd, ok.frames, ok.stk, ok.exf, ok.bs, ok.bsz, ok.noex, ok.exfs, ok.funs, ok.frf⟩
theorem Cx.Ok.unwish {X : Cx} {E : Value → Shared → Prop} (ok : (X.wish E).Ok) : X.Ok :=
  ⟨ok.mod, ok.kind, ok.glob, ok.blt, ok.above, ok.inj, ok.has, ok.cab, ok.hd, ok.frames, ok.stk, ok.exf, ok.bs, ok.bsz, ok.noex, ok.exfs, ok.funs, ok.frf⟩
section
variable {X : Cx} {pins : List (Addr × Obj)} {σ : St} {H : Hp} {s : Shared} {E : Value → Shared → Prop}
theorem Inv.wish (I : Inv X pins σ H s) (E : Value → Shared → Prop) : Inv (X.wish E) pins σ H s := ⟨I.ok.wish E, I.os, I.bare, I.base, I.loc, I.cell, I.free, I.freeC, I.pin, I.hok, I.len⟩
theorem Inv.unwish (I : Inv (X.wish E) pins σ H s) : Inv X pins σ H s := ⟨I.ok.unwish, I.os, I.bare, I.base, I.loc, I.cell, I.free, I.freeC, I.pin, I.hok, I.len⟩
theorem SP.unwish {D : Ends} {f : Flow} {s' : Shared} (h : SP (X.wish E) pins D f s') : SP X pins D f s' := by
  cases f with
  | next => obtain ⟨σ', H', I, q⟩ := h; exact ⟨σ', H', I.unwish, q⟩
  | brk => obtain ⟨σ', H', I, q⟩ := h; exact ⟨σ', H', I.unwish, q⟩
  | cont => obtain ⟨σ', H', I, q⟩ := h; exact ⟨σ', H', I.unwish, q⟩
  | ret u => obtain ⟨v, σ', H', I, r, q⟩ := h; exact ⟨v, σ', H', I.unwish, r, q⟩
theorem PSs.nox {st : List Stmt} {t : TS} (h : PSs X.nox st t) : PSs X st t := fun pins s σ H D I hw =>
  wpAny_mono (h pins s σ H D (I.wish _) hw) (fun _ _ q => q.unwish) fun _ _ z => False.elim z
end

/-! ### blocks and small statements -/
section
variable {X : Cx} {st : Stmt} {rest : List Stmt} {t u : TS} {e : Expr} {te : TE} {pos : Pos}
def tNext : TS := fun D σ H => D.nx σ H
def tSeq (t u : TS) : TS := fun D σ H => t { D with nx := u D } σ H
theorem pss_nil : PSs X [] tNext := fun _ _ σ H _ I h => wpAny_execs_nil ⟨σ, H, I, h⟩
theorem pss_cons (h1 : PS X st t) (h2 : PSs X rest u) : PSs X (st :: rest) (tSeq t u) := by
  intro pins s σ H D I h
  refine wpAny_execs_cons (thn (h1 pins s σ H { D with nx := u D } I h) fun f s1 q => ?_)
  cases f with
  | next =>
    obtain ⟨σ', H', I', q⟩ := q
    exact h2 pins s1 σ' H' D I' q
  | ret v => exact q
  | brk => exact q
  | cont => exact q
theorem pss_one (h1 : PS X st t) : PSs X [st] t := by
  intro pins s σ H D I h
  refine wpAny_execs_cons (thn (h1 pins s σ H D I h) fun f s1 q => ?_)
  cases f with
  | next => exact wpAny_execs_nil q
  | ret v => exact q
  | brk => exact q
  | cont => exact q
/-- in a def's body nothing is shown -/
theorem Inv.quiet {pins : List (Addr × Obj)} {σ : St} {H : Hp} {s : Shared} (I : Inv X pins σ H s) : interactive X.env = false := by simp [interactive, I.ok.kind]
/-- an expression whose value is dropped -/
def tDrop (te : TE) : TS := fun D σ H => te σ H fun _ H1 => D.nx σ H1
theorem ps_expr (he : PE X e te) (hs : swapsWith e none pos.line X.env = pure false := by rfl) : PS X (.Expr e pos) (tDrop te) := by
  intro pins s σ H D I h
  exact wpAny_Expr_any (thn (he pins s σ H _ I h) fun v s1 ⟨x, H1, I1, r1, q1⟩ => ⟨σ, H1, I1, q1⟩) I.quiet hs
def tRet (te : TE) : TS := fun D σ H => te σ H D.rt
theorem ps_ret (he : PE X e te) : PS X (.Return (some e) pos) (tRet te) := by
  intro pins s σ H D I h
  exact wpAny_Return_some (thn (he pins s σ H _ I h) fun v s1 ⟨x, H1, I1, r1, q1⟩ => ⟨x, σ, H1, I1, r1, q1⟩)
def tIfS (c : TT) (t u : TS) : TS := fun D σ H => c σ H fun b H1 => if b = true then t D σ H1 else u D σ H1
theorem ps_if {c : Expr} {a b : List Stmt} {tc : TT} (hc : PT X c tc) (ha : PSs X a t) (hb : PSs X b u) : PS X (.If c a b pos) (tIfS tc t u) := by
  intro pins s σ H D I h
  refine wpAny_If (thn (hc pins s σ H _ I h) fun d s1 ⟨H1, I1, q1⟩ => ?_)
  cases d with
  | true => exact ha pins s1 σ H1 D I1 q1
  | false => exact hb pins s1 σ H1 D I1 q1
end

/-! ### targets -/
abbrev TG := V → St → Hp → (St → Hp → Prop) → Prop
abbrev TGs := List V → St → Hp → (St → Hp → Prop) → Prop
def PG (X : Cx) (target : Expr) (t : TG) : Prop :=
  ∀ (pins : List (Addr × Obj)) (s : Shared) (σ : St) (H : Hp) (v : V) (u : Value) (Q : St → Hp → Prop), Inv X pins σ H s → RelV v u → t v σ H Q →
    wpAny (model X.prog X.w) X.A (assign target X.env u) (fun _ s' => ∃ σ' H', Inv X pins σ' H' s' ∧ Q σ' H') X.xe s
/-- several targets, one after another -/
def PGs (X : Cx) (ts : List Expr) (t : TGs) : Prop :=
  ∀ (pins : List (Addr × Obj)) (s : Shared) (σ : St) (H : Hp) (vs : List V) (us : List Value) (Q : St → Hp → Prop), Inv X pins σ H s → Vals vs us → t vs σ H Q →
    wpAny (model X.prog X.w) X.A (assignInOrder ((assignEach ts X.env).map (·.2)) us) (fun _ s' => ∃ σ' H', Inv X pins σ' H' s' ∧ Q σ' H') X.xe s
section
variable {X : Cx} {pos : Pos}
def gName (i : Nat) : TG := fun v σ H Q => Q (σ.set i (some v)) H
theorem pg_name {i : Nat} {x : Str} (hN : X.N.Nodup) (hi : X.N[i]? = some x) (hx : Loc X.env.scope x) (hf : X.fn x = true ∨ X.env.scope.names.lookup x = some .local := by first | exact .inl rfl | exact .inr rfl | assumption) : PG X (.Name x pos) (gName i) := by
  intro pins s σ H v u Q I r h
  exact wpAny_assign_Name (store_ok I hN hi hx r (fun s' I' => ⟨_, H, I', h⟩) hf)
def gNil : TGs := fun vs σ H Q => vs = [] ∧ Q σ H
def gCons (t : TG) (u : TGs) : TGs := fun vs σ H Q => ∃ v r, vs = v :: r ∧ t v σ H fun σ' H' => u r σ' H' Q
theorem pgs_nil : PGs X [] gNil := by
  intro pins s σ H vs us Q I r h
  obtain ⟨e, h⟩ := h
  subst e
  cases r
  exact assignInOrder_nil ⟨σ, H, I, h⟩
theorem pgs_cons {e : Expr} {es : List Expr} {t : TG} {u : TGs} (h1 : PG X e t) (h2 : PGs X es u)
    (hs : (assignEach (e :: es) X.env).map (·.2) = assign e X.env :: (assignEach es X.env).map (·.2) := by rfl) : PGs X (e :: es) (gCons t u) := by
  intro pins s σ H vs us Q I r h
  obtain ⟨v, vr, e1, h⟩ := h
  subst e1
  cases r with
  | cons r rr =>
    rw [hs]
    refine assignInOrder_cons (thn (h1 pins s σ H _ _ _ I r h) fun _ s1 ⟨σ1, H1, I1, q1⟩ => ?_)
    exact h2 pins s1 σ1 H1 _ _ Q I1 rr q1
/-- (a, b, ..) = a tuple of that length -/
def gTup (K : PySem.W.Frag) (n : Nat) (t : TGs) : TG := fun v σ H Q => ∃ a xs, v = .ref a ∧ SqT K H a xs ∧ xs.length = n ∧ t xs σ H Q
theorem pg_tup {es : List Expr} {k : Nat} {t : TGs} {n : Nat} (hc : X.calm = true) (h : PGs X es t)
    (hn : (assignEach es X.env).length = n := by rfl) (hst : (assignEach es X.env).findIdx? (·.1) = none := by rfl) : PG X (.Tuple es k pos) (gTup X.K n t) := by
  intro pins s σ H v u Q I r hw
  obtain ⟨a, xs, e1, hq, hl, hw⟩ := hw
  subst e1
  cases r
  obtain ⟨its, rv, ht, hz⟩ := I.tuple hq
  refine assign_Tuple_tuple (I.ok.hd hc) ht (by simp [hn, ← hl, rv.length]) hst fun h' hx => ?_
  have I1 : Inv X pins σ H { s with heap := h' } := I.kept (t' := s.toks) fun b o e => hx b o (Nat.ne_of_lt (Heap.lt_size e)) e
  exact h pins _ σ H xs _ Q I1 (by simpa using rv) hw
/-- target = value -/
def tAsg (te : TE) (g : TG) : TS := fun D σ H => te σ H fun x H1 => g x σ H1 D.nx
theorem ps_asg {tg e : Expr} {te : TE} {g : TG} (he : PE X e te) (hg : PG X tg g) (hs : swapsWithSole [tg] e pos.line X.env = pure false := by rfl) (hw : swappedStores [tg] e X.env = pure none := by rfl)
    (h1 : (assignEach [tg] X.env).map (·.2) = [assign tg X.env] := by rfl) : PS X (.Assign [tg] e pos) (tAsg te g) := by
  intro pins s σ H D I h
  refine wpAny_Assign_stores (thn (he pins s σ H _ I h) fun v s1 ⟨x, H1, I1, r1, q1⟩ => ?_) hs hw
  rw [h1]
  exact thn (hg pins s1 σ H1 x v _ I1 r1 q1) fun _ s2 q => q
/-- name = value -/
theorem ps_set {i : Nat} {x : Str} {e : Expr} {te : TE} {pos' : Pos} (hN : X.N.Nodup) (hi : X.N[i]? = some x) (hx : Loc X.env.scope x) (he : PE X e te) (hs : swapsWith e (some (.Name x pos')) pos.line X.env = pure false := by rfl) (hf : X.fn x = true ∨ X.env.scope.names.lookup x = some .local := by first | exact .inl rfl | exact .inr rfl | assumption) :
    PS X (.Assign [.Name x pos'] e pos) (tAsg te (gName i)) := by
  intro pins s σ H D I h
  refine wpAny_Assign_Name (thn (he pins s σ H _ I h) fun v s1 ⟨y, H1, I1, r1, q1⟩ => ?_) hs
  exact store_ok I1 hN hi hx r1 (fun s2 I2 => ⟨_, H1, I2, q1⟩) hf
end

/-! ### while -/
section
variable {X : Cx} {pos : Pos}
end

/-! ### what a loop or a comprehension walks -/
/-- at turn i: it yields x (the heap may grow), or it stops -/
structure It where
  go : Nat → Hp → Prop
  yld : Nat → Hp → V → Hp → Prop
  stop : Nat → Hp → Prop
/-- the iterator's own objects may turn: they are not the frame's, not pinned, younger than the entry (or a comprehension's own) -/
def FpOk (X : Cx) (pins : List (Addr × Obj)) (H : Hp) (b : Addr) : Prop :=
  H b = none ∧ b ≠ X.env.locals ∧ b ∉ X.fs ∧ (b ∈ X.ex ∨ X.s₀.heap.objs.size ≤ b) ∧ (∀ x c, X.env.cells.lookup x = some c → c ≠ b) ∧ ∀ p ∈ X.pn ++ pins, p.1 ≠ b
theorem Inv.fpOk {X : Cx} {pins : List (Addr × Obj)} {σ : St} {H H' : Hp} {s : Shared} {b : Addr} (I : Inv X pins σ H s) (hb : s.heap.objs.size ≤ b) (hn : H' b = none) : FpOk X pins H' b := by
  refine ⟨hn, Nat.ne_of_gt (Nat.lt_of_lt_of_le I.lt hb), I.nofs hb, .inr (Nat.le_trans I.sz hb), fun x c e z => ?_, fun p hp z => ?_⟩
  · obtain ⟨v, q⟩ := I.cell x c e
    exact absurd (Nat.lt_of_lt_of_le q.lt (by rw [z]; exact hb)) (Nat.lt_irrefl _)
  · exact absurd (Nat.lt_of_lt_of_le (Heap.lt_size (I.pin p hp).1) (by rw [z]; exact hb)) (Nat.lt_irrefl _)
structure Turn (P : Program) (w : World) (K : PySem.W.Frag) (tg : Expr) (J : It) (fp : List Addr) (it : Addr) (tn : Nat → Heap → Prop) : Prop where
  mem : it ∈ fp
  obj : ∀ i h, tn i h → ∀ b ∈ fp, ∃ o, h.get? b = some o ∧ ∀ v, o.data ≠ .cell v
  keep : ∀ i h h', tn i h → (∀ b ∈ fp, ∀ o, h.get? b = some o → h'.get? b = some o) → tn i h'
  item : ∀ (X : Cx), X.prog = P → X.w = w → X.K = K → X.calm = true → ∀ (i : Nat) (pins : List (Addr × Obj)) (s : Shared) (σ : St) (H : Hp) (E : Value → Shared → Prop), Inv X pins σ H s → (∀ b ∈ fp, FpOk X pins H b) → tn i s.heap → J.go i H →
    wpAny (model P w) X.A (pyNext (.ref it)) (fun r s1 => ∃ u, r = some u ∧
      wpAny (model P w) X.A (letOwnedTupleGo tg (.ref it) u) (fun _ s2 => ∃ x H', Inv X pins σ H' s2 ∧ RelV x u ∧ J.yld i H x H' ∧ tn (i + 1) s2.heap ∧ ∀ b ∈ fp, H' b = none) E s1) E s
  done : ∀ (X : Cx), X.prog = P → X.w = w → X.K = K → X.calm = true → ∀ (i : Nat) (pins : List (Addr × Obj)) (s : Shared) (σ : St) (H : Hp) (E : Value → Shared → Prop), Inv X pins σ H s → (∀ b ∈ fp, FpOk X pins H b) → tn i s.heap → J.stop i H →
    wpAny (model P w) X.A (pyNext (.ref it)) (fun r s1 => r = none ∧ Inv X pins σ H s1) E s
  self : ∀ (A : Around) (i : Nat) (s : Shared) (Q : Value → Shared → Prop) (E : Value → Shared → Prop), tn i s.heap → Q (.ref it) s → wpAny (model P w) A (pyIter (.ref it)) Q E s
abbrev TI := St → Hp → (It → Hp → Prop) → Prop
/-- an iterator has come -/
def PIE (X : Cx) (pins : List (Addr × Obj)) (σ : St) (tg : Expr) (R : It → Hp → Prop) (itv : Value) (s2 : Shared) : Prop :=
  ∃ (it : Addr) (fp : List Addr) (tn : Nat → Heap → Prop) (J : It) (H' : Hp), itv = .ref it ∧ Inv X pins σ H' s2 ∧ Turn X.prog X.w X.K tg J fp it tn ∧ tn 0 s2.heap ∧ (∀ b ∈ fp, FpOk X pins H' b) ∧ R J H'
def PI (X : Cx) (tg iter : Expr) (wi : TI) : Prop :=
  ∀ (pins : List (Addr × Obj)) (s : Shared) (σ : St) (H : Hp) (R : It → Hp → Prop), Inv X pins σ H s → wi σ H R →
    wpAny (model X.prog X.w) X.A (eval iter X.env) (fun v s1 => wpAny (model X.prog X.w) X.A (pyIter v) (PIE X pins σ tg R) X.xe s1) X.xe s

/-- the step ahead of the store is nothing for an iterator that keeps no tuple -/
theorem go_of {M : Model} {A : Around} {E : Value → Shared → Prop} {s : Shared} {tg : Expr} {it : Addr} {u : Value} {o : Obj} {n : String} {vs : Array Value} {Q : Unit → Shared → Prop} (ho : s.heap.get? it = some o) (hc : o.cls = .type n) (hd : o.data = .fields vs)
    (hn : ["enumerate", "zip", "dict_itemiterator", "dict_reverseitemiterator", "odict_iterator", "itertools.zip_longest", "itertools.pairwise"].contains n = false) (hQ : Q () s) : wpAny M A (letOwnedTupleGo tg (.ref it) u) Q E s := by
  unfold letOwnedTupleGo
  cases tg <;> first
    | exact wpAny_pure hQ
    | (cases u <;> first
        | exact wpAny_pure hQ
        | (refine wpAny_bind (wpAny_load ho ?_)
           rw [hc, hd]
           show wpAny M A (if (["enumerate", "zip", "dict_itemiterator", "dict_reverseitemiterator", "odict_iterator", "itertools.zip_longest", "itertools.pairwise"].contains n && vs[0]? == some (rawInt _)) = true then _ else _) Q E s
           rw [if_neg (by intro h; rw [hn, Bool.false_and] at h; cases h)]
           exact wpAny_pure hQ))

/-- the list at a, as it stands at each turn (a loop may append to it) -/
def Itl (K : PySem.W.Frag) (a : Addr) : It :=
  ⟨fun i H => ∃ xs x, SqL K H a xs ∧ xs[i]? = some x, fun i H x H' => H' = H ∧ ∀ xs, SqL K H a xs → xs[i]? = some x, fun i H => ∃ xs, SqL K H a xs ∧ xs.length ≤ i⟩
def Itt (K : PySem.W.Frag) (a : Addr) : It :=
  ⟨fun i H => ∃ xs x, SqT K H a xs ∧ xs[i]? = some x, fun i H x H' => H' = H ∧ ∀ xs, SqT K H a xs → xs[i]? = some x, fun i H => ∃ xs, SqT K H a xs ∧ xs.length ≤ i⟩
/-- lo, lo + 1, .. (n of them) -/
def Itr (lo : Int) (n : Nat) : It := ⟨fun i _ => i < n, fun i H x H' => H' = H ∧ x = .int (lo + i), fun i _ => n ≤ i⟩
theorem turn_list {P : Program} {w : World} {K : PySem.W.Frag} {tg : Expr} (a it : Addr) : Turn P w K tg (Itl K a) [it] it (fun i h => h.IsListIter it a i) where
  mem := by simp
  obj := fun i h st b hb => by
    have e : b = it := by simpa using hb
    subst e
    obtain ⟨o, e, c, d⟩ := st
    exact ⟨o, e, fun v z => by rw [d] at z; cases z⟩
  keep := fun i h h' st k => st.at fun o e => k it (by simp) o e
  item := by
    intro X hP hw hK hc i pins s σ H E I hf st hg
    subst hP hw hK
    obtain ⟨xs, x, hq, hx⟩ := hg
    obtain ⟨its, rv, p, hz⟩ := I.list hq
    obtain ⟨u, hu, ru⟩ := rv.get hx
    obtain ⟨f0, f1, f2, f3, f4, f5⟩ := hf it (by simp)
    refine wpAny_pyNext_list_item st p.isList (x := u) (by simpa using hu) fun h' st' sb => ?_
    have I1 : Inv X pins σ H { s with heap := h' } := I.turned (t' := s.toks) (fun b o hb e => (sb.2 b hb).trans e) f0 f1 f3 f4 f5
    obtain ⟨o, e, c, d⟩ := id st'
    exact ⟨u, rfl, go_of (s := { s with heap := h' }) e c d (by decide) ⟨x, H, I1, ru, ⟨rfl, fun ys hy => by rw [I.list_inj hy hq]; exact hx⟩, st', fun b hb => (hf b hb).1⟩⟩
  done := by
    intro X hP hw hK hc i pins s σ H E I hf st hg
    subst hP hw hK
    obtain ⟨xs, hq, hx⟩ := hg
    obtain ⟨its, rv, p, hz⟩ := I.list hq
    obtain ⟨f0, f1, f2, f3, f4, f5⟩ := hf it (by simp)
    have hl := rv.length
    exact wpAny_pyNext_list_end (I.ok.hd hc) st p.isList (by simp; omega) fun h' eb => ⟨rfl, I.turned (t' := s.toks) (fun b o hb e => eb b o hb e) f0 f1 f3 f4 f5⟩
  self := fun _ _ _ _ _ st h => wpAny_pyIter_listiter st h
theorem turn_tuple {P : Program} {w : World} {K : PySem.W.Frag} {tg : Expr} (a it : Addr) : Turn P w K tg (Itt K a) [it] it (fun i h => h.IsTupleIter it a i) where
  mem := by simp
  obj := fun i h st b hb => by
    have e : b = it := by simpa using hb
    subst e
    obtain ⟨o, e, c, d⟩ := st
    exact ⟨o, e, fun v z => by rw [d] at z; cases z⟩
  keep := fun i h h' st k => st.at fun o e => k it (by simp) o e
  item := by
    intro X hP hw hK hc i pins s σ H E I hf st hg
    subst hP hw hK
    obtain ⟨xs, x, hq, hx⟩ := hg
    obtain ⟨its, rv, p, hz⟩ := I.tuple hq
    obtain ⟨u, hu, ru⟩ := rv.get hx
    obtain ⟨f0, f1, f2, f3, f4, f5⟩ := hf it (by simp)
    refine wpAny_pyNext_tuple_item st (show s.heap.IsTuple a its.toArray from p) (x := u) (by simpa using hu) fun h' st' sb => ?_
    have I1 : Inv X pins σ H { s with heap := h' } := I.turned (t' := s.toks) (fun b o hb e => (sb.2 b hb).trans e) f0 f1 f3 f4 f5
    obtain ⟨o, e, c, d⟩ := id st'
    exact ⟨u, rfl, go_of (s := { s with heap := h' }) e c d (by decide) ⟨x, H, I1, ru, ⟨rfl, fun ys hy => by rw [I.tuple_inj hy hq]; exact hx⟩, st', fun b hb => (hf b hb).1⟩⟩
  done := by
    intro X hP hw hK hc i pins s σ H E I hf st hg
    subst hP hw hK
    obtain ⟨xs, hq, hx⟩ := hg
    obtain ⟨its, rv, p, hz⟩ := I.tuple hq
    obtain ⟨f0, f1, f2, f3, f4, f5⟩ := hf it (by simp)
    have hl := rv.length
    exact wpAny_pyNext_tuple_end (I.ok.hd hc) st (show s.heap.IsTuple a its.toArray from p) (by simp; omega) fun h' eb => ⟨rfl, I.turned (t' := s.toks) (fun b o hb e => eb b o hb e) f0 f1 f3 f4 f5⟩
  self := fun _ _ _ _ _ st h => wpAny_pyIter_tupleiter st h
theorem turn_range {P : Program} {w : World} {K : PySem.W.Frag} {tg : Expr} (it : Addr) (lo : Int) (n : Nat) : Turn P w K tg (Itr lo n) [it] it (fun i h => IsRangeIter h it (lo + (i : Nat) * 1) ((n : Int) - (i : Nat)) 1) where
  mem := by simp
  obj := fun i h st b hb => by
    have e : b = it := by simpa using hb
    subst e
    exact ⟨_, st, fun v z => by
      have z' : Data.fields _ = Data.cell v := z
      cases z'⟩
  keep := fun i h h' st k => k it (by simp) _ st
  item := by
    intro X hP hw hK hc i pins s σ H E I hf st hg
    subst hP hw hK
    obtain ⟨f0, f1, f2, f3, f4, f5⟩ := hf it (by simp)
    have W := Walks.range (prog := X.prog) (w := X.w) (I.ok.hd hc) it lo 1 n
    refine W.item i s _ _ hg st fun v h' tk hv st' kk => ?_
    obtain ⟨t, rfl⟩ := hv
    have I1 : Inv X pins σ H { s with heap := h', toks := tk } := I.turned (fun b o hb e => kk b o (by simpa using hb) e) f0 f1 f3 f4 f5
    refine ⟨_, rfl, go_of (s := { s with heap := h', toks := tk }) (n := "range_iterator") st' rfl rfl (by decide) ⟨.int (lo + i), H, I1, ⟨t, ?_⟩, ⟨rfl, rfl⟩, st', fun b hb => (hf b hb).1⟩⟩
    rw [Int.mul_one]
  done := by
    intro X hP hw hK hc i pins s σ H E I hf st hg
    subst hP hw hK
    obtain ⟨f0, f1, f2, f3, f4, f5⟩ := hf it (by simp)
    exact wpAny_pyNext_range_end (I.ok.hd hc) st (by have : n ≤ i := hg; omega) fun h' eb => ⟨rfl, I.turned (t' := s.toks) (fun b o hb e => eb b o hb e) f0 f1 f3 f4 f5⟩
  self := fun _ _ _ _ _ st h => wpAny_pyIter_rangeiter st h
end L2

namespace L2
open PySem PySem.Spec PyProof.Rows
section
variable {X : Cx} {tg : Expr}
def iList (K : PySem.W.Frag) (tl : TE) : TI := fun σ H R => tl σ H fun x H1 => ∃ a, x = .ref a ∧ (∃ xs, SqL K H1 a xs) ∧ R (Itl K a) H1
def iTup (K : PySem.W.Frag) (tl : TE) : TI := fun σ H R => tl σ H fun x H1 => ∃ a, x = .ref a ∧ (∃ xs, SqT K H1 a xs) ∧ R (Itt K a) H1
theorem pi_list {l : Expr} {tl : TE} (hl : PE X l tl) : PI X tg l (iList X.K tl) := by
  intro pins s σ H R I h
  refine thn (hl pins s σ H _ I h) fun v s1 ⟨x, H1, I1, r1, q1⟩ => ?_
  obtain ⟨a, e, ⟨xs, hq⟩, q⟩ := q1
  subst e
  cases r1
  obtain ⟨its, rv, p, hz⟩ := I1.list hq
  refine wpAny_pyIter_list p.isList ?_
  refine ⟨s1.heap.objs.size, [s1.heap.objs.size], _, _, H1, rfl, I1.kept (t' := s1.toks) fun b o e => Heap.get?_push_of_some _ e, turn_list a _, ⟨_, Heap.get?_push_size _ rfl, rfl, rfl⟩, fun b hb => ?_, q⟩
  have e : b = s1.heap.objs.size := by simpa using hb
  subst e
  exact I1.fpOk (Nat.le_refl _) (I1.hok.fresh (Nat.le_refl _))
theorem pi_tup {l : Expr} {tl : TE} (hl : PE X l tl) : PI X tg l (iTup X.K tl) := by
  intro pins s σ H R I h
  refine thn (hl pins s σ H _ I h) fun v s1 ⟨x, H1, I1, r1, q1⟩ => ?_
  obtain ⟨a, e, ⟨xs, hq⟩, q⟩ := q1
  subst e
  cases r1
  obtain ⟨its, rv, p, hz⟩ := I1.tuple hq
  refine wpAny_pyIter_tuple (show s1.heap.IsTuple a its.toArray from p) ?_
  refine ⟨s1.heap.objs.size, [s1.heap.objs.size], _, _, H1, rfl, I1.kept (t' := s1.toks) fun b o e => Heap.get?_push_of_some _ e, turn_tuple a _, ⟨_, Heap.get?_push_size _ rfl, rfl, rfl⟩, fun b hb => ?_, q⟩
  have e : b = s1.heap.objs.size := by simpa using hb
  subst e
  exact I1.fpOk (Nat.le_refl _) (I1.hok.fresh (Nat.le_refl _))
/-- a range object just made, walked -/
theorem range_it {pins : List (Addr × Obj)} {σ : St} {H : Hp} {s : Shared} {R : It → Hp → Prop} {E : Value → Shared → Prop} {lo hi : Int} {t u v : Tok} {tk : Nat} (I : Inv X pins σ H s) (h1 : -(2 ^ 62) ≤ lo) (h2 : lo < 2 ^ 62) (h3 : -(2 ^ 62) ≤ hi) (h4 : hi < 2 ^ 62)
    (q : R (Itr lo (hi - lo).toNat) H) : wpAny (model X.prog X.w) X.A (pyIter (.ref s.heap.objs.size)) (PIE X pins σ tg R) E { s with heap := s.heap.push { cls := .type "range", data := .fields #[.int lo t, .int hi u, .int 1 v] }, toks := tk } := by
  refine wpAny_pyIter_range (IsRange.new ..) (small_one h1 h2 h3 h4) ?_
  have I1 : Inv X pins σ H { s with heap := s.heap.push { cls := .type "range", data := .fields #[.int lo t, .int hi u, .int 1 v] }, toks := tk } := I.kept fun b o e => Heap.get?_push_of_some _ e
  refine ⟨(s.heap.push { cls := .type "range", data := .fields #[.int lo t, .int hi u, .int 1 v] }).objs.size, [(s.heap.push { cls := .type "range", data := .fields #[.int lo t, .int hi u, .int 1 v] }).objs.size], _, _, H, rfl,
    I1.kept (t' := tk) fun b o e => Heap.get?_push_of_some _ e, turn_range _ lo (hi - lo).toNat, ?_, fun b hb => ?_, q⟩
  · have e1 : lo + ((0 : Nat) : Int) * 1 = lo := by simp
    have e2 : (((hi - lo).toNat : Nat) : Int) - ((0 : Nat) : Int) = Builtin.Range.rangeSize lo hi 1 := by rw [rangeSize_one]; split <;> omega
    show IsRangeIter _ _ (lo + ((0 : Nat) : Int) * 1) ((((hi - lo).toNat : Nat) : Int) - ((0 : Nat) : Int)) 1
    rw [e1, e2]
    exact Heap.get?_push_size _ rfl
  · have e : b = (s.heap.push { cls := .type "range", data := .fields #[.int lo t, .int hi u, .int 1 v] }).objs.size := by simpa using hb
    subst e
    exact I1.fpOk (Nat.le_refl _) (I1.hok.fresh (Nat.le_refl _))
def iRng1 (ta : TA) : TI := fun σ H R => ta σ H fun vs H1 => ∃ j : Int, vs = [.int j] ∧ -(2 ^ 62) ≤ j ∧ j < 2 ^ 62 ∧ R (Itr 0 j.toNat) H1
def iRng2 (ta : TA) : TI := fun σ H R => ta σ H fun vs H1 => ∃ i j : Int, vs = [.int i, .int j] ∧ (-(2 ^ 62) ≤ i ∧ i < 2 ^ 62 ∧ -(2 ^ 62) ≤ j ∧ j < 2 ^ 62) ∧ R (Itr i (j - i).toNat) H1
theorem pi_range1 {a : Expr} {ta : TA} {p pos : Pos} (hg : Gl X "range") (hm : X.mg "range" = none) (ha : PA X [a] ta) (hs : starEach [a] X.env = [(false, eval a X.env)] := by rfl) : PI X tg (.Call (.Name "range" p) [a] [] pos) (iRng1 ta) := by
  intro pins s σ H R I h
  refine Call_ (ld_blt I hg hm boot_range (PyProof.Rows.callWith_type1 (thn (ha pos pins s σ H _ I h) fun us s1 ⟨vs, H1, I1, r1, q1⟩ => ?_) hs rfl))
  obtain ⟨j, e, q1, q2, q⟩ := q1
  subst e
  cases r1 with
  | cons r rr =>
    cases rr
    obtain ⟨t, rfl⟩ := r
    exact call_range_1 (range_it I1 (by omega) (by omega) q1 q2 (by simpa using q))
theorem pi_range2 {a b : Expr} {ta : TA} {p pos : Pos} (hg : Gl X "range") (hm : X.mg "range" = none) (ha : PA X [a, b] ta) (hs : starEach [a, b] X.env = [(false, eval a X.env), (false, eval b X.env)] := by rfl) (hs2 : starEach [b] X.env = [(false, eval b X.env)] := by rfl) :
    PI X tg (.Call (.Name "range" p) [a, b] [] pos) (iRng2 ta) := by
  intro pins s σ H R I h
  refine Call_ (ld_blt I hg hm boot_range (PyProof.Rows.callWith_type1 (thn (ha pos pins s σ H _ I h) fun us s1 ⟨vs, H1, I1, r1, q1⟩ => ?_) (by rw [hs, hs2]) (by rw [hs2]; rfl)))
  obtain ⟨i, j, e, ⟨q1, q2, q3, q4⟩, q⟩ := q1
  subst e
  cases r1 with
  | cons r rr =>
    cases rr with
    | cons r' rr =>
      cases rr
      obtain ⟨t, rfl⟩ := r
      obtain ⟨t', rfl⟩ := r'
      exact call_range_2 (range_it I1 q1 q2 q3 q4 q)

/-! ### for -/
/-- W: the invariant by the turn and a measure; N: what the body is to reach -/
def tFor (wi : TI) (g : TG) (tb : TS) : TS := fun D σ H => wi σ H fun J H1 => ∃ W : Nat → Nat → St → Hp → Prop, (∃ m, W 0 m σ H1) ∧ ∀ i m σ H, W i m σ H →
  (J.stop i H ∧ D.nx σ H) ∨ (J.go i H ∧ ∃ N : St → Hp → Prop, (∀ σ' H', N σ' H' → ∃ m', m' < m ∧ W (i + 1) m' σ' H') ∧ ∀ x H', J.yld i H x H' → g x σ H' fun σ2 H2 => tb { D with nx := N, ct := N, bk := D.nx } σ2 H2)
/-- the records at fp as they stand -/
def pinsAt (fp : List Addr) (h : Heap) : List (Addr × Obj) := fp.filterMap fun b => (h.get? b).map fun o => (b, o)
theorem mem_pinsAt {fp : List Addr} {h : Heap} {b : Addr} {o : Obj} (hb : b ∈ fp) (e : h.get? b = some o) : (b, o) ∈ pinsAt fp h := List.mem_filterMap.mpr ⟨b, hb, by rw [e]; rfl⟩
theorem of_pinsAt {fp : List Addr} {h : Heap} {p : Addr × Obj} (hp : p ∈ pinsAt fp h) : p.1 ∈ fp ∧ h.get? p.1 = some p.2 := by
  obtain ⟨b, hb, e⟩ := List.mem_filterMap.mp hp
  cases q : h.get? b with
  | none => rw [q] at e; cases e
  | some o =>
    rw [q] at e
    have e' : (b, o) = p := Option.some.inj e
    subst e'
    exact ⟨hb, q⟩
theorem Inv.pinned {pins : List (Addr × Obj)} {σ : St} {H : Hp} {s : Shared} {fp : List Addr} (I : Inv X pins σ H s) (hf : ∀ b ∈ fp, FpOk X pins H b) (ho : ∀ b ∈ fp, ∃ o, s.heap.get? b = some o ∧ ∀ v, o.data ≠ .cell v) : Inv X (pins ++ pinsAt fp s.heap) σ H s :=
  I.pins_of fun p hp => (List.mem_append.mp hp).elim (fun z => I.pin p (List.mem_append_right _ z)) fun z => by
    obtain ⟨hb, e⟩ := of_pinsAt z
    obtain ⟨f0, f1, f2, _⟩ := hf p.1 hb
    obtain ⟨o, e', d⟩ := ho p.1 hb
    rw [e] at e'; cases e'
    exact ⟨e, f0, f1, f2, d⟩
theorem Inv.unpinned {pins pl : List (Addr × Obj)} {σ : St} {H : Hp} {s : Shared} (I : Inv X (pins ++ pl) σ H s) : Inv X pins σ H s := I.pins_of fun p hp => I.pin p (List.mem_append_right _ (List.mem_append_left _ hp))
theorem ps_for {iter : Expr} {body : List Stmt} {wi : TI} {g : TG} {tb : TS} {pos : Pos} (hp : PassesOwn (model X.prog X.w) X.A X.env X.xe) (hc : X.calm = true) (hi : PI X tg iter wi) (hg : PG X tg g) (hb : PSs X body tb)
    (hs : ∀ x, foldedSetIterable iter X.env x = pure x := by intro _; rfl) : PS X (.For tg iter body [] pos) (tFor wi g tb) := by
  intro pins s σ H D I h
  refine wpAny_For (thn (hi pins s σ H _ I h) fun v s1 h1 => thn h1 fun itv s2 h2 => ?_) hs
  obtain ⟨it, fp, tn, J, H2, e, I2, T, st2, f2, W, ⟨m0, w0⟩, turn⟩ := h2
  subst e
  -- what stays true of the iterator's objects through the loop
  have stat : ∀ {H' : Hp}, (∀ b ∈ fp, H' b = none) → ∀ b ∈ fp, FpOk X pins H' b := fun hn b hb => ⟨hn b hb, (f2 b hb).2⟩
  refine codeAny_forLoop_any (fun n s' => ∃ i σ' H', Inv X pins σ' H' s' ∧ tn i s'.heap ∧ (∀ b ∈ fp, H' b = none) ∧ W i n σ' H') ?_ m0 ⟨0, σ, H2, I2, st2, fun b hb => (f2 b hb).1, w0⟩
  rintro n s3 ⟨i, σ3, H3, I3, st3, fr3, w3⟩
  rcases turn i n σ3 H3 w3 with ⟨stop, qn⟩ | ⟨go, N, hN, step⟩
  · refine wpAny_passesOwn hp (thn (T.done X rfl rfl rfl hc i pins s3 σ3 H3 X.xe I3 (stat fr3) st3 stop) fun r s4 ⟨hr, I4⟩ => ?_)
    subst hr
    exact wpAny_execs_nil ⟨σ3, H3, I4, qn⟩
  · refine wpAny_passesOwn hp (thn (T.item X rfl rfl rfl hc i pins s3 σ3 H3 X.xe I3 (stat fr3) st3 go) fun r s4 ⟨u, hr, h4⟩ => ?_)
    subst hr
    refine wpAny_passesOwn hp (thn h4 fun _ s5 ⟨x, H5, I5, r5, y5, st5, fr5⟩ => ?_)
    have I5' := I5.pinned (stat fr5) (T.obj _ _ st5)
    refine wpAny_passesOwn hp (thn (hg _ s5 σ3 H5 x u _ I5' r5 (step x H5 y5)) fun _ s6 ⟨σ6, H6, I6, q6⟩ => ?_)
    refine wpAny_passesOwn hp (thn (hb _ s6 σ6 H6 _ I6 q6) fun f s7 q7 => ?_)
    have again : ∀ {σ7 : St} {H7 : Hp}, Inv X (pins ++ pinsAt fp s5.heap) σ7 H7 s7 → N σ7 H7 → ∃ m, m < n ∧ ∃ i σ' H', Inv X pins σ' H' s7 ∧ tn i s7.heap ∧ (∀ b ∈ fp, H' b = none) ∧ W i m σ' H' := fun {σ7 H7} I7 n7 => by
      obtain ⟨m', hm, w7⟩ := hN σ7 H7 n7
      refine ⟨m', hm, i + 1, σ7, H7, I7.unpinned, T.keep _ _ _ st5 fun b hb o e => (I7.pin (b, o) (List.mem_append_right _ (List.mem_append_right _ (mem_pinsAt hb e)))).1, fun b hb => ?_, w7⟩
      obtain ⟨o, e, d⟩ := T.obj _ _ st5 b hb
      exact (I7.pin (b, o) (List.mem_append_right _ (List.mem_append_right _ (mem_pinsAt hb e)))).2.1
    cases f with
    | next => obtain ⟨σ7, H7, I7, n7⟩ := q7; exact again I7 n7
    | cont => obtain ⟨σ7, H7, I7, n7⟩ := q7; exact again I7 n7
    | brk => obtain ⟨σ7, H7, I7, q7⟩ := q7; exact ⟨σ7, H7, I7.unpinned, q7⟩
    | ret v => obtain ⟨x7, σ7, H7, I7, r7, q7⟩ := q7; exact ⟨x7, σ7, H7, I7.unpinned, r7, q7⟩
end

/-! ### the forms one uses -/
/-- over a list that the body leaves as it is -/
theorem for_list {K : PySem.W.Frag} {a : Addr} {xs : List V} {g : TG} {tb : TS} {D : Ends} {σ : St} {H : Hp} (Pv : Nat → St → Hp → Prop) (h0 : Pv 0 σ H) (hl : ∀ i σ H, i ≤ xs.length → Pv i σ H → SqL K H a xs)
    (hs : ∀ i x σ H, xs[i]? = some x → Pv i σ H → g x σ H fun σ2 H2 => tb { D with nx := Pv (i + 1), ct := Pv (i + 1), bk := D.nx } σ2 H2) (hd : ∀ σ H, Pv xs.length σ H → D.nx σ H) :
    ∃ W : Nat → Nat → St → Hp → Prop, (∃ m, W 0 m σ H) ∧ ∀ i m σ H, W i m σ H →
      ((Itl K a).stop i H ∧ D.nx σ H) ∨ ((Itl K a).go i H ∧ ∃ N : St → Hp → Prop, (∀ σ' H', N σ' H' → ∃ m', m' < m ∧ W (i + 1) m' σ' H') ∧ ∀ x H', (Itl K a).yld i H x H' → g x σ H' fun σ2 H2 => tb { D with nx := N, ct := N, bk := D.nx } σ2 H2) := by
  refine ⟨fun i m σ H => m = xs.length - i ∧ i ≤ xs.length ∧ Pv i σ H, ⟨xs.length, by simp, Nat.zero_le _, h0⟩, ?_⟩
  rintro i m σ H ⟨rfl, hi, p⟩
  have q := hl i σ H hi p
  by_cases hlt : i < xs.length
  · refine .inr ⟨⟨xs, xs[i], q, by simp [hlt]⟩, Pv (i + 1), fun σ' H' p' => ⟨xs.length - (i + 1), by omega, rfl, hlt, p'⟩, fun x H' y => ?_⟩
    obtain ⟨e, y⟩ := y
    subst e
    exact hs i x σ _ (y xs q) p
  · have e : i = xs.length := by omega
    subst e
    exact .inl ⟨⟨xs, q, Nat.le_refl _⟩, hd σ H p⟩
theorem for_range {lo : Int} {n : Nat} {g : TG} {tb : TS} {D : Ends} {σ : St} {H : Hp} (Pv : Nat → St → Hp → Prop) (h0 : Pv 0 σ H)
    (hs : ∀ i σ H, i < n → Pv i σ H → g (.int (lo + i)) σ H fun σ2 H2 => tb { D with nx := Pv (i + 1), ct := Pv (i + 1), bk := D.nx } σ2 H2) (hd : ∀ σ H, Pv n σ H → D.nx σ H) :
    ∃ W : Nat → Nat → St → Hp → Prop, (∃ m, W 0 m σ H) ∧ ∀ i m σ H, W i m σ H →
      ((Itr lo n).stop i H ∧ D.nx σ H) ∨ ((Itr lo n).go i H ∧ ∃ N : St → Hp → Prop, (∀ σ' H', N σ' H' → ∃ m', m' < m ∧ W (i + 1) m' σ' H') ∧ ∀ x H', (Itr lo n).yld i H x H' → g x σ H' fun σ2 H2 => tb { D with nx := N, ct := N, bk := D.nx } σ2 H2) := by
  refine ⟨fun i m σ H => m = n - i ∧ i ≤ n ∧ Pv i σ H, ⟨n, by simp, Nat.zero_le _, h0⟩, ?_⟩
  rintro i m σ H ⟨rfl, hi, p⟩
  by_cases hlt : i < n
  · refine .inr ⟨hlt, Pv (i + 1), fun σ' H' p' => ⟨n - (i + 1), by omega, rfl, hlt, p'⟩, fun x H' y => ?_⟩
    obtain ⟨e, y⟩ := y
    subst e y
    exact hs i σ _ hlt p
  · have e : i = n := by omega
    subst e
    exact .inl ⟨Nat.le_refl _, hd σ H p⟩
end L2

namespace L2
open PySem PySem.Spec PyProof.Rows

abbrev R2 := V → V → Hp → VK → Prop
/-- a two-place operation on values: f is binaryOp op, inplaceOp op or compareOp op -/
def OpR (X : Cx) (f : Value → Value → Sem Value) (r : R2) : Prop :=
  ∀ (pins : List (Addr × Obj)) (s : Shared) (σ : St) (H : Hp) (x y : V) (v u : Value) (Q : VK), Inv X pins σ H s → RelV x v → RelV y u → r x y H Q →
    wpAny (model X.prog X.w) X.A (f v u) (EP X pins σ Q) X.xe s
/-- a call of a value that is known (a builtin, a type) with values -/
def CallR (X : Cx) (f : Value) (r : List V → Hp → VK → Prop) : Prop :=
  ∀ (pins : List (Addr × Obj)) (s : Shared) (σ : St) (H : Hp) (xs : List V) (us : List Value) (Q : VK), Inv X pins σ H s → Vals xs us → r xs H Q →
    wpAny (model X.prog X.w) X.A (call f us) (EP X pins σ Q) X.xe s

def tOp (r : R2) (ta tb : TE) : TE := fun σ H Q => ta σ H fun x H1 => tb σ H1 fun y H2 => r x y H2 Q
/-- ints in, under C, and a value out -/
def rI (C : Int → Int → Prop) (g : Int → Int → V) : R2 := fun x y H Q => ∃ i j, x = .int i ∧ y = .int j ∧ C i j ∧ Q (g i j) H
def rI0 (g : Int → Int → V) : R2 := fun x y H Q => ∃ i j, x = .int i ∧ y = .int j ∧ Q (g i j) H

section
variable {X : Cx} {a b c : Expr} {ta tb tc : TE} {pos : Pos}

theorem binT (ha : PE X a ta) (hb : PE X b tb) {pins : List (Addr × Obj)} {s : Shared} {σ : St} {H : Hp} {R : V → V → Hp → Prop} (I : Inv X pins σ H s)
    (h : ta σ H fun x H1 => tb σ H1 fun y H2 => R x y H2) {Q : Value → Shared → Prop} {f : Value → Value → Sem Value}
    (hf : ∀ v u s2 x y H2, Inv X pins σ H2 s2 → RelV x v → RelV y u → R x y H2 → wpAny (model X.prog X.w) X.A (f v u) Q X.xe s2) :
    wpAny (model X.prog X.w) X.A (eval a X.env) (fun v s₁ => wpAny (model X.prog X.w) X.A (eval b X.env) (fun u s₂ => wpAny (model X.prog X.w) X.A (f v u) Q X.xe s₂) X.xe s₁) X.xe s := by
  refine thn (ha pins s σ H _ I h) fun v s1 ⟨x, H1, I1, r1, q1⟩ => ?_
  refine thn (hb pins s1 σ H1 _ I1 q1) fun u s2 ⟨y, H2, I2, r2, q2⟩ => ?_
  exact hf v u s2 x y H2 I2 r1 r2 q2

theorem pe_op {op : Operator} {r : R2} (ho : OpR X (binaryOp op) r) (ha : PE X a ta) (hb : PE X b tb) : PE X (.BinOp a op b pos) (tOp r ta tb) := by
  intro pins s σ H Q I h
  exact wpAny_BinOp (binT ha hb I h fun v u s2 x y H2 I2 rx ry q => ho pins s2 σ H2 x y v u Q I2 rx ry q)

/-! ### ints -/
theorem opI {f : Value → Value → Sem Value} {C : Int → Int → Prop} {g : Int → Int → Int}
    (rule : ∀ (i j : Int) (t u : Tok) (s : Shared) (Q : Value → Shared → Prop) (E : Value → Shared → Prop), C i j → Q (.int (g i j) s.toks) { s with toks := s.toks + 1 } → wpAny (model X.prog X.w) X.A (f (.int i t) (.int j u)) Q E s) :
    OpR X f (rI C fun i j => .int (g i j)) := by
  intro pins s σ H x y v u Q I rx ry h
  obtain ⟨i, j, rfl, rfl, hc, q⟩ := h
  obtain ⟨t, rfl⟩ := rx
  obtain ⟨t', rfl⟩ := ry
  exact rule i j t t' s _ _ hc ⟨.int (g i j), H, I.tok _, ⟨_, rfl⟩, q⟩
theorem opI0 {f : Value → Value → Sem Value} {g : Int → Int → Int}
    (rule : ∀ (i j : Int) (t u : Tok) (s : Shared) (Q : Value → Shared → Prop) (E : Value → Shared → Prop), Q (.int (g i j) s.toks) { s with toks := s.toks + 1 } → wpAny (model X.prog X.w) X.A (f (.int i t) (.int j u)) Q E s) :
    OpR X f (rI0 fun i j => .int (g i j)) := by
  intro pins s σ H x y v u Q I rx ry h
  obtain ⟨i, j, rfl, rfl, q⟩ := h
  obtain ⟨t, rfl⟩ := rx
  obtain ⟨t', rfl⟩ := ry
  exact rule i j t t' s _ _ ⟨.int (g i j), H, I.tok _, ⟨_, rfl⟩, q⟩
theorem opB0 {f : Value → Value → Sem Value} {g : Int → Int → Bool}
    (rule : ∀ (i j : Int) (t u : Tok) (s : Shared) (Q : Value → Shared → Prop) (E : Value → Shared → Prop), Q (.bool (g i j)) s → wpAny (model X.prog X.w) X.A (f (.int i t) (.int j u)) Q E s) :
    OpR X f (rI0 fun i j => .bl (g i j)) := by
  intro pins s σ H x y v u Q I rx ry h
  obtain ⟨i, j, rfl, rfl, q⟩ := h
  obtain ⟨t, rfl⟩ := rx
  obtain ⟨t', rfl⟩ := ry
  exact rule i j t t' s _ _ ⟨.bl (g i j), H, I, rfl, q⟩

def CDiv (i j : Int) : Prop := 0 < j ∧ j < 1073741824
def CPow (i j : Int) : Prop := 0 ≤ j ∧ j ≤ 1000000 ∧ i.natAbs < 2 ^ 64
def CMul (i j : Int) : Prop := (-(2 ^ 64) < i ∧ i < 2 ^ 64) ∨ (-(2 ^ 64) < j ∧ j < 2 ^ 64)
theorem CMul.ok {i j : Int} (h : CMul i j) : IntMulOk i j := by
  rcases h with ⟨h1, h2⟩ | ⟨h1, h2⟩
  · exact .of_left (intBits_le_64 h1 h2)
  · exact .of_right (intBits_le_64 h1 h2)
theorem two_pow_nn (k : Nat) : (0 : Int) ≤ 2 ^ k := by
  rw [two_pow_cast]
  exact Int.natCast_nonneg _

theorem op_add : OpR X (binaryOp .Add) (rI0 fun i j => .int (i + j)) := opI0 fun _ _ _ _ _ _ _ q => add_int q
theorem op_sub : OpR X (binaryOp .Sub) (rI0 fun i j => .int (i - j)) := opI0 fun _ _ _ _ _ _ _ q => sub_int q
theorem op_mul : OpR X (binaryOp .Mult) (rI CMul fun i j => .int (i * j)) := opI fun _ _ _ _ _ _ _ hc q => mul_int q hc.ok
/-- // by a positive divisor -/
theorem op_fdiv : OpR X (binaryOp .FloorDiv) (rI CDiv fun i j => .int (i / j)) := opI fun i j _ _ _ _ _ hc q => by
  have h1 : (0 : Int) < j := hc.1
  have h2 : j < 1073741824 := hc.2
  exact floordiv_int (by omega) (by rw [Int.fdiv_eq_ediv_of_nonneg i (by omega)]; exact q) (.inl (PyProof.noPylong_small (by omega)))
/-- % by a positive divisor of any size -/
theorem op_mod : OpR X (binaryOp .Mod) (rI (fun _ j => 0 < j) fun i j => .int (i % j)) := opI fun i j _ _ _ _ _ hc q => by
  have h1 : (0 : Int) < j := hc
  exact mod_int' (by omega) (by rw [Int.fmod_eq_emod_of_nonneg i (by omega)]; exact q)
theorem op_pow : OpR X (binaryOp .Pow) (rI CPow fun i j => .int (i ^ j.toNat)) := opI fun _ _ _ _ _ _ _ hc q => pow_int_small hc.1 hc.2.1 hc.2.2 q
theorem op_shl : OpR X (binaryOp .LShift) (rI CPow fun i j => .int (i * 2 ^ j.toNat)) := opI fun _ _ _ _ _ _ _ hc q => lshift_int_small hc.1 hc.2.1 hc.2.2 q
theorem op_shr : OpR X (binaryOp .RShift) (rI (fun _ j => 0 ≤ j) fun i j => .int (i / 2 ^ j.toNat)) := opI fun i j _ _ _ _ _ hc q =>
  rshift_int hc (by rw [Int.fdiv_eq_ediv_of_nonneg i (two_pow_nn _)]; exact q)
theorem op_and : OpR X (binaryOp .BitAnd) (rI0 fun i j => .int (Builtin.bitAnd i j)) := opI0 fun _ _ _ _ _ _ _ q => and_int q
theorem op_or : OpR X (binaryOp .BitOr) (rI0 fun i j => .int (Builtin.bitOr i j)) := opI0 fun _ _ _ _ _ _ _ q => or_int q
theorem op_xor : OpR X (binaryOp .BitXor) (rI0 fun i j => .int (Builtin.bitXor i j)) := opI0 fun _ _ _ _ _ _ _ q => xor_int q



/-! ### bools among ints: n += (a < b) -/
end

/-! ### comparisons -/
/-- the scalars that == tells apart as data does -/
def scal : V → V → Bool
  | .non, .non => true | .non, .int _ => true | .int _, .non => true | .non, .bl _ => true | .bl _, .non => true | .non, .str _ => true | .str _, .non => true
  | .int _, .int _ => true | .bl _, .bl _ => true | .str _, .str _ => true | .byt _, .byt _ => true
  | .int _, .str _ => true | .str _, .int _ => true | .bl _, .str _ => true | .str _, .bl _ => true
  | _, _ => false
def rEq : R2 := fun x y H Q => scal x y = true ∧ Q (.bl (decide (x = y))) H
def rNe : R2 := fun x y H Q => scal x y = true ∧ Q (.bl (!decide (x = y))) H

theorem dec_int {i j : Int} : decide (V.int i = V.int j) = (i == j) := by
  rw [Bool.eq_iff_iff]
  simp
theorem dec_bl {i j : Bool} : decide (V.bl i = V.bl j) = (i == j) := by
  rw [Bool.eq_iff_iff]
  simp
theorem dec_str {i j : Str} : decide (V.str i = V.str j) = (i == j) := by
  rw [Bool.eq_iff_iff]
  simp
theorem dec_byt {i j : Array UInt8} : decide (V.byt i = V.byt j) = (i.toList == j.toList) := by
  rw [Bool.eq_iff_iff]
  cases i
  cases j
  simp

section
variable {X : Cx} {a b c : Expr} {ta tb tc : TE} {pos : Pos}
theorem fin_bl {pins : List (Addr × Obj)} {σ : St} {H : Hp} {s : Shared} {Q : VK} {k k' : Bool} (I : Inv X pins σ H s) (q : Q (.bl k) H) (e : k = k') : EP X pins σ Q (.bool k') s := by
  subst e
  exact ⟨.bl k, H, I, rfl, q⟩
theorem op_eq : OpR X (compareOp .Eq) rEq := by
  intro pins s σ H x y v u Q I rx ry h
  obtain ⟨hs, q⟩ := h
  cases x with
  | non =>
    cases rx
    cases y with
    | non => cases ry; exact PySem.EqNone.eq_none_none (fin_bl I q (by simp))
    | bl j => cases ry; exact PySem.EqNone.eq_none_bool (fin_bl I q (by simp))
    | int j => obtain ⟨t', rfl⟩ := ry; exact PySem.EqNone.eq_none_int (fin_bl I q (by simp))
    | str j => obtain ⟨t', rfl⟩ := ry; exact PySem.EqNone.eq_none_str (fin_bl I q (by simp))
    | _ => exact absurd (show false = true from hs) Bool.false_ne_true
  | bl i =>
    cases rx
    cases y with
    | non => cases ry; exact PySem.EqNone.eq_bool_none (fin_bl I q (by simp))
    | bl j => cases ry; exact eq_bool (fin_bl I q dec_bl)
    | str j => obtain ⟨t', rfl⟩ := ry; exact PySem.EqMixed.eq_bool_str (fin_bl I q (by simp))
    | _ => exact absurd (show false = true from hs) Bool.false_ne_true
  | int i =>
    obtain ⟨t, rfl⟩ := rx
    cases y with
    | non => cases ry; exact PySem.EqNone.eq_int_none (fin_bl I q (by simp))
    | int j => obtain ⟨t', rfl⟩ := ry; exact eq_int (fin_bl I q dec_int)
    | str j => obtain ⟨t', rfl⟩ := ry; exact PySem.EqMixed.eq_int_str (fin_bl I q (by simp))
    | _ => exact absurd (show false = true from hs) Bool.false_ne_true
  | str i =>
    obtain ⟨t, rfl⟩ := rx
    cases y with
    | non => cases ry; exact PySem.EqNone.eq_str_none (fin_bl I q (by simp))
    | bl j => cases ry; exact PySem.EqMixed.eq_str_bool (fin_bl I q (by simp))
    | int j => obtain ⟨t', rfl⟩ := ry; exact PySem.EqMixed.eq_str_int (fin_bl I q (by simp))
    | str j => obtain ⟨t', rfl⟩ := ry; exact eq_str (fin_bl I q dec_str)
    | _ => exact absurd (show false = true from hs) Bool.false_ne_true
  | byt i =>
    obtain ⟨t, rfl⟩ := rx
    cases y with
    | byt j => obtain ⟨t', rfl⟩ := ry; exact PySem.W.eq_bytes (fin_bl I q dec_byt)
    | _ => exact absurd (show false = true from hs) Bool.false_ne_true
  | _ => cases y <;> exact absurd (show false = true from hs) Bool.false_ne_true
theorem op_ne : OpR X (compareOp .NotEq) rNe := by
  intro pins s σ H x y v u Q I rx ry h
  obtain ⟨hs, q⟩ := h
  cases x with
  | non =>
    cases rx
    cases y with
    | non => cases ry; exact PySem.EqNone.ne_none_none (fin_bl I q (by simp))
    | bl j => cases ry; exact PySem.EqNone.ne_none_bool (fin_bl I q (by simp))
    | int j => obtain ⟨t', rfl⟩ := ry; exact PySem.EqNone.ne_none_int (fin_bl I q (by simp))
    | str j => obtain ⟨t', rfl⟩ := ry; exact PySem.EqNone.ne_none_str (fin_bl I q (by simp))
    | _ => exact absurd (show false = true from hs) Bool.false_ne_true
  | bl i =>
    cases rx
    cases y with
    | non => cases ry; exact PySem.EqNone.ne_bool_none (fin_bl I q (by simp))
    | bl j => cases ry; exact ne_bool (fin_bl I q (congrArg not dec_bl))
    | str j => obtain ⟨t', rfl⟩ := ry; exact PySem.EqMixed.ne_bool_str (fin_bl I q (by simp))
    | _ => exact absurd (show false = true from hs) Bool.false_ne_true
  | int i =>
    obtain ⟨t, rfl⟩ := rx
    cases y with
    | non => cases ry; exact PySem.EqNone.ne_int_none (fin_bl I q (by simp))
    | int j => obtain ⟨t', rfl⟩ := ry; exact ne_int (fin_bl I q (congrArg not dec_int))
    | str j => obtain ⟨t', rfl⟩ := ry; exact PySem.EqMixed.ne_int_str (fin_bl I q (by simp))
    | _ => exact absurd (show false = true from hs) Bool.false_ne_true
  | str i =>
    obtain ⟨t, rfl⟩ := rx
    cases y with
    | non => cases ry; exact PySem.EqNone.ne_str_none (fin_bl I q (by simp))
    | bl j => cases ry; exact PySem.EqMixed.ne_str_bool (fin_bl I q (by simp))
    | int j => obtain ⟨t', rfl⟩ := ry; exact PySem.EqMixed.ne_str_int (fin_bl I q (by simp))
    | str j => obtain ⟨t', rfl⟩ := ry; exact ne_str (fin_bl I q (congrArg not dec_str))
    | _ => exact absurd (show false = true from hs) Bool.false_ne_true
  | byt i =>
    obtain ⟨t, rfl⟩ := rx
    cases y with
    | byt j => obtain ⟨t', rfl⟩ := ry; exact PySem.W.ne_bytes (fin_bl I q (congrArg not dec_byt))
    | _ => exact absurd (show false = true from hs) Bool.false_ne_true
  | _ => cases y <;> exact absurd (show false = true from hs) Bool.false_ne_true

theorem op_lt : OpR X (compareOp .Lt) (rI0 fun i j => .bl (decide (i < j))) := opB0 fun _ _ _ _ _ _ _ q => lt_int q
theorem op_le : OpR X (compareOp .LtE) (rI0 fun i j => .bl (decide (i ≤ j))) := opB0 fun _ _ _ _ _ _ _ q => le_int q
theorem op_gt : OpR X (compareOp .Gt) (rI0 fun i j => .bl (decide (j < i))) := opB0 fun _ _ _ _ _ _ _ q => gt_int q
theorem op_ge : OpR X (compareOp .GtE) (rI0 fun i j => .bl (decide (j ≤ i))) := opB0 fun _ _ _ _ _ _ _ q => ge_int q




theorem nomark (b : Expr) {op : CmpOp} (h : op ≠ .In := by decide) (h2 : op ≠ .NotIn := by decide) : behindInMarks op b = false := by
  have e1 : (op == CmpOp.In) = false := by cases op <;> first | rfl | exact absurd rfl h
  have e2 : (op == CmpOp.NotIn) = false := by cases op <;> first | rfl | exact absurd rfl h2
  cases b <;> simp [behindInMarks, e1, e2]
/-- a comparison as a value; hm: nomark b, or (for in, not in) by with_unfolding_all rfl -/
theorem pe_cmpR {op : CmpOp} {r : R2} (ho : OpR X (compareOp op) r) (ha : PE X a ta) (hb : PE X b tb) (hm : behindInMarks op b = false) : PE X (.Compare a [op] [b] pos) (tOp r ta tb) := by
  intro pins s σ H Q I h
  exact wpAny_Compare1 (binT ha hb I h fun v u s2 x y H2 I2 rx ry q => ho pins s2 σ H2 x y v u Q I2 rx ry q) hm
/-- a reading of a value as a test -/
def tTest (t : TE) : TT := fun σ H Q => t σ H fun x H' => ∃ k, x = .bl k ∧ Q k H'
theorem pt_cmpR {op : CmpOp} {r : R2} (ho : OpR X (compareOp op) r) (ha : PE X a ta) (hb : PE X b tb) (hm : behindInMarks op b = false) : PT X (.Compare a [op] [b] pos) (tTest (tOp r ta tb)) := by
  intro pins s σ H Q I h
  refine wpAny_isTrue_Compare1 (thn (ha pins s σ H _ I h) fun v s1 ⟨x, H1, I1, r1, q1⟩ => thn (hb pins s1 σ H1 _ I1 q1) fun u s2 ⟨y, H2, I2, r2, q2⟩ =>
    thn (ho pins s2 σ H2 x y v u _ I2 r1 r2 q2) fun c s3 ⟨z, H3, I3, r3, k, e, q3⟩ => ?_) hm
  subst e
  cases r3
  exact wpAny_truthy_bool ⟨H3, I3, q3⟩
/-- a op1 b op2 c -/
def tChain (r r' : R2) (ta tb tc : TE) : TE := fun σ H Q => ta σ H fun x H1 => tb σ H1 fun y H2 => r x y H2 fun z H3 => ∃ k, z = .bl k ∧
  (if k = true then tc σ H3 fun w' H4 => r' y w' H4 Q else Q (.bl false) H3)
theorem pe_chain {op op' : CmpOp} {r r' : R2} (ho : OpR X (compareOp op) r) (ho' : OpR X (compareOp op') r') (ha : PE X a ta) (hb : PE X b tb) (hc : PE X c tc)
    (hm : lastMarks [op, op'] [b, c] = false := by with_unfolding_all rfl) : PE X (.Compare a [op, op'] [b, c] pos) (tChain r r' ta tb tc) := by
  intro pins s σ H Q I h
  refine Compare_chain (thn (ha pins s σ H _ I h) fun v s1 ⟨x, H1, I1, r1, q1⟩ => chain_link (thn (hb pins s1 σ H1 _ I1 q1) fun u s2 ⟨y, H2, I2, r2, q2⟩ =>
    thn (ho pins s2 σ H2 x y v u _ I2 r1 r2 q2) fun d s3 ⟨z, H3, I3, r3, k, e, q3⟩ => ?_)) hm
  subst e
  cases r3
  refine wpAny_truthy_bool ?_
  cases k with
  | false => exact ite_ff ⟨.bl false, H3, I3, rfl, q3⟩
  | true => exact ite_tt (chain_last (thn (hc pins s3 σ H3 _ I3 q3) fun w' s4 ⟨z', H4, I4, r4, q4⟩ => ho' pins s4 σ H4 y z' u w' Q I4 r2 r4 q4))

/-! ### truth -/
theorem line63 : (sizeLine : Nat) < 2 ^ 63 := by rw [sizeLine_eq]; decide

/-! ### strs and bytes -/


/-! ### scalar builtins, by CallR -/
theorem vals1 {x : V} {us : List Value} (r : Vals [x] us) : ∃ u, us = [u] ∧ RelV x u := by
  cases r with
  | cons r1 r2 => cases r2; exact ⟨_, rfl, r1⟩
theorem vals2 {x y : V} {us : List Value} (r : Vals [x, y] us) : ∃ u w', us = [u, w'] ∧ RelV x u ∧ RelV y w' := by
  cases r with
  | cons r1 r2 =>
    cases r2 with
    | cons r3 r4 => cases r4; exact ⟨_, _, rfl, r1, r3⟩
theorem call_abs : CallR X (.builtin "abs") (fun xs H Q => ∃ i, xs = [.int i] ∧ Q (.int (if i < 0 then -i else i)) H) := by
  intro pins s σ H xs us Q I r h
  obtain ⟨i, rfl, q⟩ := h
  obtain ⟨u, rfl, t, rfl⟩ := vals1 r
  exact call_abs_int fun u tk => ⟨.int (if i < 0 then -i else i), H, I.tok _, ⟨_, rfl⟩, q⟩
theorem call_max2 (hc : X.calm = true) : CallR X (.builtin "max") (fun xs H Q => ∃ i j, xs = [.int i, .int j] ∧ Q (.int (if j > i then j else i)) H) := by
  intro pins s σ H xs us Q I r h
  obtain ⟨i, j, rfl, q⟩ := h
  obtain ⟨u, w', rfl, ⟨t, rfl⟩, ⟨t', rfl⟩⟩ := vals2 r
  refine max_two_ints (I.ok.hd hc) fun h' tk k => ⟨_, H, I.kept k, ?_, q⟩
  by_cases hj : j > i
  · rw [if_pos hj, if_pos hj]; exact ⟨_, rfl⟩
  · rw [if_neg hj, if_neg hj]; exact ⟨_, rfl⟩
theorem call_int1 : CallR X (.type "int") (fun xs H Q => (∃ i, xs = [.int i] ∧ Q (.int i) H) ∨ ∃ k, xs = [.bl k] ∧ Q (.int (if k then 1 else 0)) H) := by
  intro pins s σ H xs us Q I r h
  rcases h with ⟨i, rfl, q⟩ | ⟨k, rfl, q⟩
  · obtain ⟨u, rfl, t, rfl⟩ := vals1 r
    exact call_int_int ⟨.int i, H, I, ⟨_, rfl⟩, q⟩
  · obtain ⟨u, rfl, r1⟩ := vals1 r
    cases r1
    exact call_int_bool ⟨.int (if k then 1 else 0), H, I.tok _, ⟨_, rfl⟩, q⟩
end
end L2

namespace L2
open PySem PySem.Spec PyProof.Rows

/-! ### an instance, its attributes a map -/
structure ObjM (h : Heap) (x dx C : Addr) (mA : Str → Option Value) : Prop where
  obj : h.get? x = some (PySem.W.instObj C dx)
  ns : h.Ns1 dx mA
  ne : dx ≠ x

theorem lookIn_ns {h : Heap} {dx : Addr} {mA : Str → Option Value} (n : h.Ns1 dx mA) : ∃ od, h.get? dx = some od ∧ ∀ name, PySem.W.lookIn name od = some (mA name) := by
  obtain ⟨o, es, ep, ho, hd, hk, _, hm⟩ := n
  refine ⟨o, ho, fun name => ?_⟩
  have e := hm name
  unfold nsFind findBy at e
  rw [← Array.find?_toList] at e
  unfold PySem.W.lookIn
  rw [hd]
  dsimp only
  split
  · rename_i y q
    rw [q] at e
    exact congrArg some e
  · rename_i q
    rw [q] at e
    have a : es.toList.any (·.refKey) = false := by
      rw [List.any_eq_false]
      intro y hy
      obtain ⟨z, t, hkey⟩ := hk y (Array.mem_toList_iff.mp hy)
      simp [DictEntry.refKey, hkey]
    have a' : ¬ es.toList.any (·.refKey) = true := by rw [a]; exact Bool.false_ne_true
    rw [if_neg a']
    exact congrArg some e

theorem ObjM.look {h : Heap} {x dx C : Addr} {mA : Str → Option Value} (I : ObjM h x dx C mA) : ∃ od, PySem.W.InstAt h x (PySem.W.instObj C dx) C (some od) ∧ ∀ name, PySem.W.lookIn name od = some (mA name) :=
  let ⟨od, ho, hl⟩ := lookIn_ns I.ns
  ⟨od, ⟨I.obj, rfl, rfl, ho⟩, hl⟩

section
variable {prog : Program} {w : World} {A : Around} {E : Value → Shared → Prop} {s : Shared} {K : PySem.W.Frag} {x dx C f : Addr} {mA : Str → Option Value} {name : Str} {v : Value}

theorem get_map {expr : Bool} {Q : Value → Shared → Prop} (X : K.In s.heap) (I : ObjM s.heap x dx C mA) (hg : PySem.W.plainGet K C name = true) (hh : PySem.W.hasDictIn K C = true)
    (ha : PySem.W.findIn K (.ref C) name = some none) (hv : mA name = some v) (hv' : PySem.W.handedIn v = true) (h : Q v { s with toks := s.toks + 1 }) :
    wpAny (model prog w) A (getAttr (.ref x) name expr) Q E s := by
  obtain ⟨od, J, hl⟩ := I.look
  exact PySem.W.get_value X J (PySem.W.plainGet_of hg).1 (PySem.W.findObj_own hh ha rfl (by rw [hl, hv])) hv' h


theorem get_meth {pl : Sem Bool} {Q : Value × List Value → Shared → Prop} (X : K.In s.heap) (I : ObjM s.heap x dx C mA) (hg : PySem.W.plainGet K C name = true)
    (hf : PySem.W.findIn K (.ref C) name = some (some (.ref f))) (ht : PySem.W.isFn K (.ref f) = true) (hv : mA name = none) (h : Q (.ref f, [.ref x]) s) :
    wpAny (model prog w) A (getMethod (.ref x) name pl) Q E s := by
  obtain ⟨od, J, hl⟩ := I.look
  exact PySem.W.method_fn X J (PySem.W.plainGet_of hg).1 (PySem.W.plainGet_of hg).2 hf (beq_iff_eq.mp ht) (by show (PySem.W.lookIn name od).map (·.isSome) = some false; rw [hl, hv]; rfl) h

theorem set_map {ns : List Str} {Q : Unit → Shared → Prop} (X : K.In s.heap) (I : ObjM s.heap x dx C mA)
    (hs : PySem.W.findIn K (.ref C) "__setattr__" = some (some (.builtin "object.__setattr__"))) (hp : PySem.W.plainOver K C = true) (ht : PySem.W.takerIn K C name = some none) (hh : PySem.W.hasDictIn K C = true)
    (hw : PySem.Within mA ns) (hsz : ns.length ≤ sizeLine)
    (h : ∀ h', ObjM h' x dx C (fun y => if y = name then some v else mA y) → Heap.SameBut dx s.heap h' → Q () { s with heap := h', toks := s.toks + 2 }) :
    wpAny (model prog w) A (setAttr (.ref x) name v) Q E s := by
  obtain ⟨od, J, hl⟩ := I.look
  refine PySem.W.set_plain X J hs (PySem.W.osa_open (s := { s with toks := s.toks + 1 }) (r := none) X J hp ht fun b => ?_)
  obtain ⟨cd, hc, hd'⟩ := PySem.W.any_some hh
  have hx : s.heap.get? x = some ⟨.ref C, some dx, .plain, #[]⟩ := I.obj
  refine wpAny_bind (wpAny_pure (wpAny_bind (wpAny_bind (wpAny_loadPart hx (wpAny_bind (PySem.W.Looks.here (s := { s with toks := s.toks + 1 }) (PySem.W.looks_clsIn X hc) ?_))))))
  rw [hd']
  refine wpAny_pure (a := some dx) (wpAny_bind (wpAny_pure (wpAny_bind ?_)))
  refine wpAny_nsSet1 (s := { s with toks := s.toks + 1 }) I.ns fun h' hn2 hs2 => ?_
  obtain ⟨oD, esD, epD, hoD, hdD, hcD⟩ := hn2.count (PySem.Within.cons name v hw)
  refine wpAny_bind (wpAny_lookBehind hoD (by rw [hdD]; exact pastItsLine_dict (Nat.le_trans hcD (by rw [List.length_cons]; omega))) ?_)
  exact wpAny_pure (h _ ⟨(hs2.2 _ (Ne.symm I.ne)).trans I.obj, hn2, I.ne⟩ hs2)

/-- C(..): the dict at the heap's end, the instance behind it; then its __init__ -/
theorem make_map {R : Result → Shared → Prop} {vs : List Value} {kw : List (Str × Value)} (X : K.In s.heap) (hm : PySem.W.makesIn K C = true)
    (hi : PySem.W.findIn K (.ref C) "__init__" = some (some (.ref f))) (hf : PySem.W.typeIn K (.ref f) = some (.type "function"))
    (h : codeAny (model prog w) (A.under (.builtin "type.__call__" ⟨.ref C :: vs, kw⟩)) (.call (.ref f) ⟨.ref (s.heap.objs.size + 1) :: vs, kw⟩) (PySem.W.InitBack (s.heap.objs.size + 1) R)
      { s with heap := (s.heap.push PySem.W.emptyDict).push (PySem.W.instObj C s.heap.objs.size) }) :
    codeAny (model prog w) A (.call (.ref C) ⟨vs, kw⟩) R s := by
  obtain ⟨hh, g, d, t, os⟩ := s
  exact PySem.W.make_core (PySem.W.makes_of X hm) (PySem.W.looks_findIn X hi) (fun self => PySem.W.bind_fn X self hf) (.inl rfl) h
end

/-! ### the attributes as a list of pairs -/
def putF (f : Str) (v : V) : List (Str × V) → List (Str × V)
  | [] => [(f, v)]
  | (g, x) :: r => if g = f then (g, v) :: r else (g, x) :: putF f v r
theorem lookup_putF (f g : Str) (v : V) : ∀ fs : List (Str × V), (putF f v fs).lookup g = if g = f then some v else fs.lookup g
  | [] => by
    show List.lookup g [(f, v)] = _
    by_cases h : g = f
    · have hb : (g == f) = true := beq_iff_eq.mpr h
      simp only [List.lookup, hb, if_pos h]
    · have hb : (g == f) = false := beq_eq_false_iff_ne.mpr h
      simp only [List.lookup, hb, if_neg h]
  | (k, x) :: r => by
    have ih := lookup_putF f g v r
    rw [show putF f v ((k, x) :: r) = (if k = f then (k, v) :: r else (k, x) :: putF f v r) from rfl]
    by_cases hk : k = f
    · rw [if_pos hk]
      by_cases h : g = k
      · have hb : (g == k) = true := beq_iff_eq.mpr h
        simp only [List.lookup, hb, if_pos (h.trans hk)]
      · have hb : (g == k) = false := beq_eq_false_iff_ne.mpr h
        simp only [List.lookup, hb, if_neg (fun e : g = f => h (e.trans hk.symm))]
    · rw [if_neg hk]
      by_cases h : g = k
      · have hb : (g == k) = true := beq_iff_eq.mpr h
        simp only [List.lookup, hb, if_neg (fun e : g = f => hk (h.symm.trans e))]
      · have hb : (g == k) = false := beq_eq_false_iff_ne.mpr h
        simp only [List.lookup, hb]
        exact ih
theorem keys_putF (f : Str) (v : V) : ∀ fs : List (Str × V), f ∈ (putF f v fs).map (·.1) ∧ ∀ g, g ∈ fs.map (·.1) → g ∈ (putF f v fs).map (·.1)
  | [] => ⟨by simp [putF], fun g h => by simp at h⟩
  | (k, x) :: r => by
    obtain ⟨i1, i2⟩ := keys_putF f v r
    rw [show putF f v ((k, x) :: r) = (if k = f then (k, v) :: r else (k, x) :: putF f v r) from rfl]
    by_cases hk : k = f
    · rw [if_pos hk]
      subst hk
      exact ⟨by simp, fun g h => by simpa using h⟩
    · rw [if_neg hk]
      refine ⟨?_, fun g h => ?_⟩
      · rw [List.map_cons]
        exact List.mem_cons_of_mem _ i1
      · rw [List.map_cons] at h ⊢
        rcases List.mem_cons.mp h with e | e
        · exact List.mem_cons.mpr (.inl e)
        · exact List.mem_cons_of_mem _ (i2 g e)
theorem length_putF (f : Str) (v : V) : ∀ fs : List (Str × V), (putF f v fs).length ≤ fs.length + 1
  | [] => by simp [putF]
  | (k, x) :: r => by
    have ih := length_putF f v r
    rw [show putF f v ((k, x) :: r) = (if k = f then (k, v) :: r else (k, x) :: putF f v r) from rfl]
    by_cases hk : k = f
    · rw [if_pos hk, List.length_cons, List.length_cons]; omega
    · rw [if_neg hk, List.length_cons, List.length_cons]; omega

theorem RelO.some_of {v : V} {o : Option Value} (r : RelO (some v) o) : ∃ u, o = some u ∧ RelV v u := by
  cases o with
  | none => exact (show False from r).elim
  | some u => exact ⟨u, rfl, r⟩
theorem RelO.none_of {o : Option Value} (r : RelO none o) : o = none := by
  cases o with
  | none => rfl
  | some u => exact (show False from r).elim
theorem handed_of {v : V} {u : Value} (r : RelV v u) : PySem.W.handedIn u = true := by
  cases v with
  | non => cases (show u = Value.none from r); rfl
  | bl b => cases (show u = Value.bool b from r); rfl
  | int i => obtain ⟨t, e⟩ := (show ∃ t, u = Value.int i t from r); cases e; rfl
  | str x => obtain ⟨t, e⟩ := (show ∃ t, u = Value.str x t from r); cases e; rfl
  | byt b => obtain ⟨t, e⟩ := (show ∃ t, u = Value.bytes b t from r); cases e; rfl
  | flt b => obtain ⟨t, e⟩ := (show ∃ t, u = Value.float b t from r); cases e; rfl
  | ref a => cases (show u = Value.ref a from r); rfl
  | ty n => cases (show u = Value.type n from r); rfl

section
variable {P : Program} {w : World} {H H' : Hp} {h h' : Heap} {a C dx : Addr} {fs fs' : List (Str × V)}
theorem ins_get (hok : HOk P w H h) (e : H a = some (.ins C dx fs)) : ∃ mA, ObjM h a dx C mA ∧ (∀ f, RelO (fs.lookup f) (mA f)) ∧ PySem.Within mA (fs.map (·.1)) ∧ fs.length ≤ 1000 ∧ H dx = some (.own a) := by
  obtain ⟨d, z, ne, ob, mA, n, r, q⟩ := (show ObjOk P w H h a (.ins C dx fs) from hok a _ e)
  exact ⟨mA, ⟨ob, n, ne⟩, r, q, z, d⟩
end

/-! ### what of the text a class must have -/
structure Cls (K : PySem.W.Frag) (C : Addr) : Prop where
  pg : PySem.W.plainGet K C Str.empty = true
  hd : PySem.W.hasDictIn K C = true
  po : PySem.W.plainOver K C = true
  sa : PySem.W.findIn K (.ref C) "__setattr__" = some (some (.builtin "object.__setattr__"))
theorem Cls.get {K : PySem.W.Frag} {C : Addr} (c : Cls K C) (f : Str) : PySem.W.plainGet K C f = true := c.pg
/-- no class of it has the name -/
def NoAttr (K : PySem.W.Frag) (C : Addr) (f : Str) : Prop := PySem.W.findIn K (.ref C) f = some none
theorem NoAttr.taker {K : PySem.W.Frag} {C : Addr} {f : Str} (n : NoAttr K C f) : PySem.W.takerIn K C f = some none := by
  unfold PySem.W.takerIn
  rw [show PySem.W.findIn K (.ref C) f = some none from n]
  rfl
/-- a constant of the class -/
structure Con (K : PySem.W.Frag) (C : Addr) (f : Str) (v : V) (u : Value) : Prop where
  at_ : PySem.W.findIn K (.ref C) f = some (some u)
  rel : RelV v u
  get : PySem.W.specialIn K u "__get__" = some none
  cp : PySem.W.copiedNames.contains f = false
/-- a method: a plain def of the class or of one above it -/
structure Meth (K : PySem.W.Frag) (C : Addr) (m : Str) (f : Addr) : Prop where
  at_ : PySem.W.findIn K (.ref C) m = some (some (.ref f))
  fn : PySem.W.isFn K (.ref f) = true
  kp : PySem.W.keepIn K (.ref f) = true

section
variable {X : Cx} {pins : List (Addr × Obj)} {σ : St} {H : Hp} {s : Shared} {a C dx : Addr} {fs : List (Str × V)} {f : Str} {v : V} {A : Around} {E : Value → Shared → Prop}

theorem getattr_ok {b : Bool} {Q : Value → Shared → Prop} (I : Inv X pins σ H s) (e : H a = some (.ins C dx fs)) (c : Cls X.K C) (n : NoAttr X.K C f) (l : fs.lookup f = some v)
    (h : ∀ u s', Inv X pins σ H s' → RelV v u → Q u s') : wpAny (model X.prog X.w) A (getAttr (.ref a) f b) Q E s := by
  obtain ⟨mA, O, r, _, _, _⟩ := ins_get I.hok e
  obtain ⟨u, hu, ru⟩ := RelO.some_of (v := v) (o := mA f) (by rw [← l]; exact r f)
  exact get_map I.kIn O (c.get f) c.hd n hu (handed_of ru) (h u _ (I.tok _) ru)


theorem getmeth_ok {m : Str} {g : Addr} {pl : Sem Bool} {Q : Value × List Value → Shared → Prop} (I : Inv X pins σ H s) (e : H a = some (.ins C dx fs)) (c : Cls X.K C) (k : Meth X.K C m g) (l : fs.lookup m = none)
    (h : Q (.ref g, [.ref a]) s) : wpAny (model X.prog X.w) A (getMethod (.ref a) m pl) Q E s := by
  obtain ⟨mA, O, r, _, _, _⟩ := ins_get I.hok e
  have hn : mA m = none := RelO.none_of (by rw [← l]; exact r m)
  exact get_meth I.kIn O (c.get m) k.at_ k.fn hn h

theorem setattr_ok {y : V} {u : Value} {Q : Unit → Shared → Prop} (I : Inv X pins σ H s) (e : H a = some (.ins C dx fs)) (c : Cls X.K C) (n : NoAttr X.K C f) (hl : fs.length < 1000) (ry : RelV y u)
    (h : ∀ s', Inv X pins σ (upd H a (.ins C dx (putF f y fs))) s' → Q () s') : wpAny (model X.prog X.w) A (setAttr (.ref a) f u) Q E s := by
  obtain ⟨mA, O, r, wi, _, ho⟩ := ins_get I.hok e
  have hz : (fs.map (·.1)).length ≤ sizeLine := by rw [List.length_map, sizeLine_eq]; omega
  refine set_map I.kIn O c.sa c.po n.taker c.hd wi hz fun h' O' sb => h _ ?_
  have hd : ∃ o, h'.get? dx = some o := let ⟨o, _, _, e', _⟩ := O'.ns; ⟨o, e'⟩
  refine I.write (x := a) (e := dx) (by rw [e]; exact True.intro) (.inr ho) (fun b q hb z => (sb.2 b hb).trans z) hd ?_
  refine ⟨by rw [upd_ne O.ne]; exact ho, ?_, O.ne, O'.obj, _, O'.ns, fun g => ?_, fun g hg => ?_⟩
  · have := length_putF f y fs; omega
  · show RelO ((putF f y fs).lookup g) (if g = f then some u else mA g)
    rw [lookup_putF]
    by_cases q : g = f
    · rw [if_pos q, if_pos q]; exact ry
    · rw [if_neg q, if_neg q]; exact r g
  · by_cases q : g = f
    · rw [q]; exact (keys_putF f y fs).1
    · refine (keys_putF f y fs).2 g (wi g fun z => hg ?_)
      show (if g = f then some u else mA g) = none
      rw [if_neg q]; exact z

/-- a new instance, tracked, without attributes -/
theorem Inv.made (I : Inv X pins σ H s) : Inv X pins σ (upd (upd H s.heap.objs.size (.own (s.heap.objs.size + 1))) (s.heap.objs.size + 1) (.ins C s.heap.objs.size []))
    { s with heap := (s.heap.push PySem.W.emptyDict).push (PySem.W.instObj C s.heap.objs.size) } := by
  have e1 : (s.heap.push PySem.W.emptyDict).get? s.heap.objs.size = some PySem.W.emptyDict := Heap.get?_push_size s.heap rfl
  have e2 : ((s.heap.push PySem.W.emptyDict).push (PySem.W.instObj C s.heap.objs.size)).get? (s.heap.objs.size + 1) = some (PySem.W.instObj C s.heap.objs.size) := by
    have := Heap.get?_push_size (s.heap.push PySem.W.emptyDict) (o := PySem.W.instObj C s.heap.objs.size) rfl
    rwa [Heap.size_push] at this
  have e3 : (s.heap.push PySem.W.emptyDict).Ns s.heap.objs.size (fun _ => none) := ⟨PySem.W.emptyDict, #[], _, e1, rfl, (fun e he => absurd he (by simp)), fun _ => rfl⟩
  have I1 := I.laid (a := s.heap.objs.size) (o := .own (s.heap.objs.size + 1)) (h' := s.heap.push PySem.W.emptyDict) (t' := s.toks) (fun b u q => Heap.get?_push_of_some _ q) (Nat.le_refl _) ⟨_, e1⟩
  refine I1.laid (a := s.heap.objs.size + 1) (o := .ins C s.heap.objs.size []) (t' := s.toks) (fun b u q => Heap.get?_push_of_some _ q) (Nat.le_of_eq (Heap.size_push _ _)) ?_
  have ne : s.heap.objs.size ≠ s.heap.objs.size + 1 := Nat.ne_of_lt (Nat.lt_succ_self _)
  refine ⟨by rw [upd_ne ne, upd_same], Nat.zero_le _, ne, e2, fun _ => none, (Heap.Ns1.of_empty e3).at fun o q => Heap.get?_push_of_some _ q, fun _ => True.intro, fun y hy => absurd rfl hy⟩

/-- e.f where nothing but the object is asked: through attributeBase (super) and the last hold -/
theorem attr_of {prog : Program} {w : World} {env : Env} {e : Expr} {f : Str} {pos : Pos} {s : Shared} {Q : Value → Shared → Prop} (hb : attributeBase e f env (eval e env) = eval e env)
    (h : wpAny (model prog w) A (eval e env) (fun o s₁ => wpAny (model prog w) A (getAttr o f true) Q E s₁) E s) : wpAny (model prog w) A (eval (.Attribute e f pos) env) Q E s :=
  Attribute_any_ h (by rw [arm_eval_Attribute, hb])
end

/-! ### readings and rules -/
/-- e.f, an attribute of the instance -/
def tFld (K : PySem.W.Frag) (ta : TE) (f : Str) : TE := fun σ H Q => ta σ H fun x H1 => ∃ a C dx fs v, x = .ref a ∧ H1 a = some (.ins C dx fs) ∧ Cls K C ∧ NoAttr K C f ∧ fs.lookup f = some v ∧ Q v H1
/-- e.f = value -/
def sFld (K : PySem.W.Frag) (ta tv : TE) (f : Str) : TS := fun D σ H => tv σ H fun y H1 => ta σ H1 fun x H2 => ∃ a C dx fs, x = .ref a ∧ H2 a = some (.ins C dx fs) ∧ Cls K C ∧ NoAttr K C f ∧ fs.length < 1000 ∧
  D.nx σ (upd H2 a (.ins C dx (putF f y fs)))

section
variable {X : Cx} {o e value : Expr} {f : Str} {pos pos' tpos : Pos} {ta tv : TE}
theorem pe_fld (he : PE X e ta) (hb : attributeBase e f X.env (eval e X.env) = eval e X.env) : PE X (.Attribute e f pos) (tFld X.K ta f) := by
  intro pins s σ H Q I h
  refine attr_of hb (thn (he pins s σ H _ I h) fun u s1 ⟨x, H1, I1, rx, a, C, dx, fs, v, ex, ea, c, n, l, q⟩ => ?_)
  subst ex
  obtain rfl : u = Value.ref a := rx
  exact getattr_ok I1 ea c n l fun u' s2 I2 ru => ⟨v, H1, I2, ru, q⟩
theorem ps_fld (ha : PE X o ta) (hv : PE X value tv) (hs : swapsWith value (some (.Attribute o f pos')) pos.line X.env = pure false) : PS X (.Assign [.Attribute o f pos'] value pos) (sFld X.K ta tv f) := by
  intro pins s σ H D I h
  refine plainObj_wpAny_Assign_Attribute (thn (hv pins s σ H _ I h) fun u s1 ⟨y, H1, I1, ry, q⟩ => thn (ha pins s1 σ H1 _ I1 q) fun ov s2 ⟨x, H2, I2, rx, a, C, dx, fs, ex, ea, c, n, l, q2⟩ => ?_) hs
  subst ex
  obtain rfl : ov = Value.ref a := rx
  exact setattr_ok I2 ea c n l ry fun s3 I3 => ⟨σ, _, I3, q2⟩

/-- what is between an instance and its method: the tree of a method call -/
theorem methcall_of {pl : Sem Bool} {m : Str} {apos : Pos} {args : List Expr} {pins : List (Addr × Obj)} {s : Shared} {σ : St} {H : Hp} {Q : Value → Shared → Prop} {te : TE} (he : PE X e te) (I : Inv X pins σ H s)
    (h : te σ H fun x H1 => ∃ a C dx fs g, x = .ref a ∧ H1 a = some (.ins C dx fs) ∧ Cls X.K C ∧ Meth X.K C m g ∧ fs.lookup m = none ∧
      ∀ s1, Inv X pins σ H1 s1 → wpAny (model X.prog X.w) X.A (callWith pos (.ref g) [.ref a] (backTo pos (starEach args X.env)) (backToKw pos (keywordEach [] X.env))) Q X.xe s1)
    (ht : eval (.Call (.Attribute e m apos) args [] pos) X.env = (do
      let ov ← eval e X.env
      standAt apos.atName
      let (f, first) ← holding [ov] (getMethod ov m pl)
      callWith pos f first (backTo pos (starEach args X.env)) (backToKw pos (keywordEach [] X.env)))) :
    wpAny (model X.prog X.w) X.A (eval (.Call (.Attribute e m apos) args [] pos) X.env) Q X.xe s := by
  refine PySem.W.methodCall_KW (pl := pl) (thn (he pins s σ H _ I h) fun u s1 ⟨x, H1, I1, rx, a, C, dx, fs, g, ex, ea, c, k, l, q⟩ => ?_) ht
  subst ex
  obtain rfl : u = Value.ref a := rx
  exact getmeth_ok I1 ea c k l (q s1 I1)
end

/-! ### isinstance -/
section
variable {X : Cx} {pins : List (Addr × Obj)} {σ : St} {H : Hp} {s : Shared} {A : Around} {E : Value → Shared → Prop} {Q : Value → Shared → Prop} {c : Value} {b : Bool}
/-- the type of a value, as the fragment's deciders take it; for an instance its class -/
inductive TyOf (K : PySem.W.Frag) (H : Hp) : V → Value → Prop where
  | non : TyOf K H .non (.type "NoneType")
  | bl (x : Bool) : TyOf K H (.bl x) (.type "bool")
  | int (i : Int) : TyOf K H (.int i) (.type "int")
  | str (x : Str) : TyOf K H (.str x) (.type "str")
  | flt (x : UInt64) : TyOf K H (.flt x) (.type "float")
  | lst {a : Addr} {xs : List V} (e : H a = some (.lst xs)) : TyOf K H (.ref a) (.type "list")
  | frz {a : Addr} {o : Obj} {xs : List V} (e : H a = some (.frz o (.lst xs))) : TyOf K H (.ref a) (.type "list")
  | tup {a : Addr} {xs : List V} (e : H a = some (.tup xs)) : TyOf K H (.ref a) (.type "tuple")
  | dK {a : Addr} {kvs : List (Key × V)} (e : H a = some (.dK kvs)) : TyOf K H (.ref a) (.type "dict")
  | dT {a : Addr} {kvs : List (List Key × V)} (e : H a = some (.dT kvs)) : TyOf K H (.ref a) (.type "dict")
  | ins {a C dx : Addr} {fs : List (Str × V)} (e : H a = some (.ins C dx fs)) (cl : Cls K C) (ha : PySem.W.findIn K (.ref C) "__class__" = some (some (.builtin "object.__class__")))
      (hn : PySem.W.specialIn K (.builtin "object.__class__") "__get__" = some (some (.builtin "getset_descriptor.__get__"))) (htk : PySem.W.takesIn K (.builtin "object.__class__") = some true)
      (hm : PySem.W.mroIn K C (.type "object") = some true) : TyOf K H (.ref a) (.ref C)
end
end L2

namespace L2
open PySem PySem.Spec PyProof.Rows

/-! ### room -/
structure Room (k : Nat) (A : Around) : Prop where
  hd : A.handled = none
  dp : A.depth + 3 * k + 5 < recursionLimit
  un : A.units + 16 * k + 200 < cLine
theorem Room.mono {j k : Nat} {A : Around} (r : Room k A) (h : j ≤ k) : Room j A := ⟨r.hd, by have := r.dp; omega, by have := r.un; omega⟩
theorem Room.deeper {k : Nat} {A : Around} (r : Room (k + 1) A) (env : Env) : Room k (A.deeper env) :=
  ⟨r.hd, by have := r.dp; show A.depth + 1 + 3 * k + 5 < _; omega, by have := r.un; show A.units + 3 + 16 * k + 200 < _; omega⟩
theorem make_depth {A : Around} {C : Addr} {us : List Value} {kw : List (Str × Value)} : (A.under (.builtin "type.__call__" ⟨.ref C :: us, kw⟩)).depth = A.depth + 1 := by
  first | rfl | simp [Around.under, Code.weight, Code.isCreation, Code.isGuard, Code.isCaller, Code.frames, Code.isFrame, guardIds]
theorem make_units {A : Around} {C : Addr} {us : List Value} {kw : List (Str × Value)} : (A.under (.builtin "type.__call__" ⟨.ref C :: us, kw⟩)).units = A.units + 1 := by
  first | rfl | simp [Around.under, Code.cUnits, Code.frames, Code.isFrame]
theorem Room.make {k : Nat} {A : Around} (r : Room (k + 1) A) (C : Addr) (us : List Value) (kw : List (Str × Value)) : Room k (A.under (.builtin "type.__call__" ⟨.ref C :: us, kw⟩)) :=
  ⟨r.hd, by have := r.dp; rw [make_depth]; omega, by have := r.un; rw [make_units]; omega⟩
theorem Room.depth {k : Nat} {A : Around} (r : Room k A) : A.depth < recursionLimit := by have := r.dp; omega
theorem Room.units {k : Nat} {A : Around} (r : Room k A) : A.units + 64 < cLine := by have := r.un; omega

/-! ### argument lists and displays -/
def tNil : TA := fun _ H Q => Q [] H
def tCons (ta : TE) (tr : TA) : TA := fun σ H Q => ta σ H fun x H1 => tr σ H1 fun xs H2 => Q (x :: xs) H2
section
variable {X : Cx} {e : Expr} {es : List Expr} {te : TE} {t : TA} {pos : Pos}
theorem pa_nil : PA X [] tNil := fun _ _ _ _ H Q I h => Calls.spliced_nil ⟨[], H, I, .nil, h⟩
theorem pa_cons (ha : PE X e te) (hr : PA X es t) (hs : starEach (e :: es) X.env = (false, eval e X.env) :: starEach es X.env := by rfl) : PA X (e :: es) (tCons te t) := by
  intro pos pins s σ H Q I h
  rw [hs]
  show wpAny _ _ (spliced ((false, eval e X.env) :: backTo pos (starEach es X.env))) _ _ s
  refine Calls.spliced_cons (thn (ha pins s σ H _ I h) fun u s1 ⟨x, H1, I1, r1, q1⟩ => ?_)
  exact thn (hr pos pins s1 σ H1 _ I1 q1) fun us s2 ⟨xs, H2, I2, r2, q2⟩ => ⟨x :: xs, H2, I2, .cons r1 r2, q2⟩

/-- a tuple, a list of written items -/
def tTup (t : TA) : TE := fun σ H Q => t σ H fun xs H1 => xs.length ≤ sizeLine ∧ ∀ p, H1 p = none → Q (.ref p) (upd H1 p (.tup xs))
def tLst (t : TA) : TE := fun σ H Q => t σ H fun xs H1 => xs.length ≤ sizeLine ∧ ∀ p, H1 p = none → Q (.ref p) (upd H1 p (.lst xs))
theorem pe_tup {x1} (h : PA X es t) : PE X (.Tuple es x1 pos) (tTup t) := by
  intro pins s σ H Q I hq
  refine wpAny_Tuple_spliced (thn (h pos pins s σ H _ I hq) fun us s1 ⟨xs, H1, I1, r, z, q⟩ => ⟨by rw [← r.length]; exact z, ?_⟩)
  have hf : H1 s1.heap.objs.size = none := I1.hok.fresh (Nat.le_refl _)
  refine ⟨.ref s1.heap.objs.size, upd H1 s1.heap.objs.size (.tup xs), I1.laid (t' := s1.toks) (fun b u e => Heap.get?_push_of_some _ e) (Nat.le_refl _) ?_, rfl, q _ hf⟩
  exact ⟨z, us, r, ⟨_, Heap.get?_push_size _ rfl, rfl, _, rfl⟩⟩
theorem pe_lst (h : PA X es t) : PE X (.List es pos) (tLst t) := by
  intro pins s σ H Q I hq
  refine wpAny_List_spliced (thn (h pos pins s σ H _ I hq) fun us s1 ⟨xs, H1, I1, r, z, q⟩ => ⟨by rw [← r.length]; exact z, ?_⟩)
  have hf : H1 s1.heap.objs.size = none := I1.hok.fresh (Nat.le_refl _)
  refine ⟨.ref s1.heap.objs.size, upd H1 s1.heap.objs.size (.lst xs), I1.laid (t' := s1.toks) (fun b u e => Heap.get?_push_of_some _ e) (Nat.le_refl _) ?_, rfl, q _ hf⟩
  exact ⟨z, us, 0, r, Heap.get?_push_size _ rfl⟩
end

/-! ### what a def promises -/
/-- a def's promise: the bound arguments in the parameters' order, the heap, the wanted end, the wanted exception -/
abbrev Sp := List V → Hp → VK → XK → Prop
/-- how an exception lies behind a call (file 08 gives it): the callers' frames, abstract heap and state ahead of the call, the wish, the exception, the state -/
abbrev CXT := List Env → Hp → Shared → XK → Value → Shared → Prop

/-- the state at a call -/
structure Env0 (P : Program) (w : World) (K : PySem.W.Frag) (mg : Str → Option Value) (base : Heap) (A : Around) (outer : List Env) (s : Shared) (H : Hp) : Prop where
  frames : A.frames = some outer
  mod : Mod K mg base
  bs : ∀ b o, base.get? b = some o → s.heap.get? b = some o ∧ H b = none
  bsz : base.objs.size ≤ s.heap.objs.size
  funs : s.heap.FunFrames base outer
  frf : ∀ b ∈ frs outer, H b = none
  hok : HOk P w H s.heap
  bare : AllBare s.gens
/-- a call's end -/
def CE (outer : List Env) (P : Program) (w : World) (H : Hp) (s : Shared) (Q : VK) (u : Value) (s' : Shared) : Prop :=
  ∃ v H', s'.os = s.os ∧ AllBare s'.gens ∧ Un (frs outer) [] H H' s.heap s'.heap ∧ HOk P w H' s'.heap ∧ RelV v u ∧ Q v H'
def CR (CX : CXT) (outer : List Env) (P : Program) (w : World) (H : Hp) (s : Shared) (Q : VK) (E : XK) (r : Result) (s' : Shared) : Prop :=
  match r with
  | .ok (.ret u) => CE outer P w H s Q u s'
  | .ok _ => False
  | .error e => CX outer H s E e s'
structure FnOk (P : Program) (w : World) (K : PySem.W.Frag) (mg : Str → Option Value) (base : Heap) (CX : CXT) (k : Nat) (f : Addr) (fd : FuncData) (ps : List Str) (sp : Sp) : Prop where
  len : ∀ vs H Q E, sp vs H Q E → vs.length = ps.length
  run : ∀ (A : Around) (outer : List Env) (s : Shared) (H : Hp) (args : Args) (us : List Value) (vs : List V) (Q : VK) (E : XK), Room k A → Env0 P w K mg base A outer s H → BindsTo s fd args (ps.zip us) → Vals vs us → sp vs H Q E →
    codeAny (model P w) A (.call (.ref f) args) (CR CX outer P w H s Q E) s

theorem Env0.make {P : Program} {w : World} {K : PySem.W.Frag} {mg : Str → Option Value} {base : Heap} {A : Around} {outer : List Env} {s : Shared} {H : Hp} (e : Env0 P w K mg base A outer s H) (C : Addr) (us : List Value) (kw : List (Str × Value)) :
    Env0 P w K mg base (A.under (.builtin "type.__call__" ⟨.ref C :: us, kw⟩)) outer s H := ⟨by first | exact e.frames | (simpa [Around.under, Code.envs, Code.isFrame, pushEnvs] using e.frames), e.mod, e.bs, e.bsz, e.funs, e.frf, e.hok, e.bare⟩

section
variable {X : Cx} {pins : List (Addr × Obj)} {σ : St} {H : Hp} {s s' : Shared}
/-- from a body: what a callee wants -/
theorem Inv.env0 (I : Inv X pins σ H s) : Env0 X.prog X.w X.K X.mg X.base X.A X.stack s H :=
  ⟨I.ok.frames, I.ok.mod, I.bs, Nat.le_trans I.ok.bsz I.sz, I.stack, I.stkFree, I.hok, I.bare⟩
/-- behind a call -/
theorem Inv.after {Q : VK} {u : Value} (I : Inv X pins σ H s) (h : CE X.stack X.prog X.w H s Q u s') : EP X pins σ Q u s' := by
  obtain ⟨v, H', os, bare, un, hok, r, q⟩ := h
  obtain ⟨hh, g, d, t, os'⟩ := s'
  obtain rfl : os' = s.os := os
  exact ⟨v, H', I.call (h' := hh) (g' := g) (d' := d) (t' := t) (ch := []) un hok bare (fun b z => absurd z (by simp)), r, q⟩
end

/-! ### calls -/
/-- f(..): the written arguments, then the defaults dvs; E: what is wanted of an exception -/
def tCall (sp : Sp) (dvs : List V) (E : XK) (t : TA) : TE := fun σ H Q => t σ H fun vs H1 => sp (vs ++ dvs) H1 Q E
/-- o.m(..) of an instance of the class at C -/
def tMeth (C : Addr) (m : Str) (sp : Sp) (dvs : List V) (E : XK) (ta : TE) (t : TA) : TE := fun σ H Q => ta σ H fun x H1 => ∃ a dx fs, x = .ref a ∧ H1 a = some (.ins C dx fs) ∧ fs.lookup m = none ∧
  t σ H1 fun vs H2 => sp (x :: (vs ++ dvs)) H2 Q E
/-- C(..): a new instance and its dict, then __init__ -/
def tMake (C : Addr) (sp : Sp) (dvs : List V) (E : XK) (t : TA) : TE := fun σ H Q => t σ H fun vs H1 => ∀ x dx, H1 x = none → H1 dx = none → dx ≠ x →
  sp (.ref x :: (vs ++ dvs)) (upd (upd H1 dx (.own x)) x (.ins C dx [])) (fun v H2 => v = .non ∧ Q (.ref x) H2) E

/-- how the parameters are bound: us the positional arguments, kw the keywords' values by name, ds the defaults that fill up -/
def Binds (K : PySem.W.Frag) (fd : FuncData) (ps : List Str) (ds : List Value) : Prop :=
  ∀ (s : Shared) (us : List Value), K.In s.heap → (us ++ ds).length = ps.length → BindsTo s fd ⟨us, []⟩ (ps.zip (us ++ ds))
/-- every parameter is given -/
theorem Binds.all {K : PySem.W.Frag} {fd : FuncData} {ps : List Str} (h : ∀ us : List Value, us.length = ps.length → bindArgs fd ⟨us, []⟩ = pure (ps.zip us)) : Binds K fd ps [] := fun s us _ hl => by
  rw [List.append_nil] at hl ⊢
  exact .of_eq (h us hl)

/-- an exception of a callee reaches what this body wants of exceptions -/
def Passes (CX : CXT) (X : Cx) (E : XK) : Prop := ∀ (pins : List (Addr × Obj)) (σ : St) (H : Hp) (s : Shared) (e : Value) (s' : Shared), Inv X pins σ H s → CX X.stack H s E e s' → X.xe e s'

section
variable {X : Cx} {CX : CXT} {k : Nat} {f C : Addr} {fd : FuncData} {ps : List Str} {sp : Sp} {dvs : List V} {ds : List Value} {E : XK} {x m : Str} {p pos apos : Pos} {e o : Expr} {es : List Expr} {ta : TE} {t : TA}

/-- the callee runs -/
theorem run_fn {pins : List (Addr × Obj)} {σ : St} {H : Hp} {s : Shared} {Q : VK} {us : List Value} {vs : List V} (F : FnOk X.prog X.w X.K X.mg X.base CX k f fd ps sp) (hr : Room k X.A) (hb : Binds X.K fd ps ds) (hd : Vals dvs ds) (hx : Passes CX X E)
    (I : Inv X pins σ H s) (r : Vals vs us) (h : sp (vs ++ dvs) H Q E) : wpAny (model X.prog X.w) X.A (call (.ref f) us) (EP X pins σ Q) X.xe s := by
  have r2 : Vals (vs ++ dvs) (us ++ ds) := r.append hd
  have hl : (us ++ ds).length = ps.length := by rw [← r2.length]; exact F.len _ _ _ _ h
  refine wpAny_call (codeAny_mono (F.run X.A X.stack s H ⟨us, []⟩ (us ++ ds) (vs ++ dvs) Q E hr I.env0 (hb s us I.kIn hl) r2 h) fun r s' hq => ?_)
  cases r with
  | error e => exact hx pins σ H s e s' I hq
  | ok fl =>
    cases fl with
    | ret u => exact I.after hq
    | next => exact False.elim hq
    | brk => exact False.elim hq
    | cont => exact False.elim hq

theorem pe_call (F : FnOk X.prog X.w X.K X.mg X.base CX k f fd ps sp) (hr : Room k X.A) (hg : Gl X x) (hm : X.mg x = some (.ref f)) (hk : PySem.W.keepIn X.K (.ref f) = true) (hb : Binds X.K fd ps ds) (hd : Vals dvs ds) (hx : Passes CX X E)
    (ha : PA X (e :: es) t) (hdb : (x == ("__debug__" : Str)) = false := by decide) (he : starEach (e :: es) X.env = (false, eval e X.env) :: starEach es X.env := by rfl) (hpl : (backTo pos (starEach es X.env)).any (·.1) = false := by rfl) :
    PE X (.Call (.Name x p) (e :: es) [] pos) (tCall sp dvs E t) := by
  intro pins s σ H Q I h
  refine wpAny_Call_Name_kw (ld_glob I hg hm ?_ hdb)
  refine PySem.W.callWith_K (h₀ := X.base) I.ok.mod.kin hk (thn (ha pos pins s σ H _ I h) fun us s1 ⟨vs, H1, I1, r, q⟩ => ⟨I1.kIn, ?_⟩) he hpl
  exact run_fn F hr hb hd hx I1 r q

/-- o.m(e, ..) -/
theorem pe_meth {pl : Sem Bool} (he : PE X o ta) (c : Cls X.K C) (hm : Meth X.K C m f) (F : FnOk X.prog X.w X.K X.mg X.base CX k f fd ps sp) (hr : Room k X.A) (hb : Binds X.K fd ps ds) (hd : Vals dvs ds) (hx : Passes CX X E) (ha : PA X (e :: es) t)
    (hst : starEach (e :: es) X.env = (false, eval e X.env) :: starEach es X.env := by rfl) (hpl : (backTo pos (starEach es X.env)).any (·.1) = false := by rfl)
    (ht : eval (.Call (.Attribute o m apos) (e :: es) [] pos) X.env = (do
      let ov ← eval o X.env
      standAt apos.atName
      let (f, first) ← holding [ov] (getMethod ov m pl)
      callWith pos f first (backTo pos (starEach (e :: es) X.env)) (backToKw pos (keywordEach [] X.env))) := by rfl) :
    PE X (.Call (.Attribute o m apos) (e :: es) [] pos) (tMeth C m sp dvs E ta t) := by
  intro pins s σ H Q I h
  refine PySem.W.methodCall_KW (pl := pl) (thn (he pins s σ H _ I h) fun u s1 ⟨x, H1, I1, rx, a, dx, fs, ex, ea, l, q⟩ => ?_) ht
  subst ex
  obtain rfl : u = Value.ref a := rx
  refine getmeth_ok I1 ea c hm l ?_
  refine PySem.W.callWith_K (first := [.ref a]) (h₀ := X.base) I.ok.mod.kin hm.kp (thn (ha pos pins s1 σ H1 _ I1 q) fun us s2 ⟨vs, H2, I2, r, q2⟩ => ⟨I2.kIn, ?_⟩) hst hpl
  exact run_fn (us := .ref a :: us) (vs := .ref a :: vs) F hr hb hd hx I2 (.cons rfl r) q2
/-- o.m() -/
theorem pe_meth0 {pl : Sem Bool} (he : PE X o ta) (c : Cls X.K C) (hm : Meth X.K C m f) (F : FnOk X.prog X.w X.K X.mg X.base CX k f fd ps sp) (hr : Room k X.A) (hb : Binds X.K fd ps ds) (hd : Vals dvs ds) (hx : Passes CX X E)
    (ht : eval (.Call (.Attribute o m apos) [] [] pos) X.env = (do
      let ov ← eval o X.env
      standAt apos.atName
      let (f, first) ← holding [ov] (getMethod ov m pl)
      callWith pos f first (backTo pos (starEach [] X.env)) (backToKw pos (keywordEach [] X.env))) := by rfl) :
    PE X (.Call (.Attribute o m apos) [] [] pos) (tMeth C m sp dvs E ta tNil) := by
  intro pins s σ H Q I h
  refine PySem.W.methodCall_KW (pl := pl) (thn (he pins s σ H _ I h) fun u s1 ⟨x, H1, I1, rx, a, dx, fs, ex, ea, l, q⟩ => ?_) ht
  subst ex
  obtain rfl : u = Value.ref a := rx
  refine getmeth_ok I1 ea c hm l ?_
  exact PySem.W.callWith_K0 (first := [.ref a]) I1.kIn hm.kp (run_fn (us := [.ref a]) (vs := [.ref a]) F hr hb hd hx I1 (.cons rfl .nil) q)

/-- what a class must have to be made -/
structure Mk (K : PySem.W.Frag) (C f : Addr) : Prop where
  makes : PySem.W.makesIn K C = true
  init : PySem.W.findIn K (.ref C) "__init__" = some (some (.ref f))
  fn : PySem.W.isFn K (.ref f) = true
  kp : PySem.W.keepIn K (.ref C) = true

theorem run_make {pins : List (Addr × Obj)} {σ : St} {H : Hp} {s : Shared} {Q : VK} {us : List Value} {vs : List V} (M : Mk X.K C f) (F : FnOk X.prog X.w X.K X.mg X.base CX k f fd ps sp) (hr : Room (k + 1) X.A) (hb : Binds X.K fd ps ds) (hd : Vals dvs ds)
    (hx : Passes CX X E) (I : Inv X pins σ H s) (r : Vals vs us)
    (h : ∀ x dx, H x = none → H dx = none → dx ≠ x → sp (.ref x :: (vs ++ dvs)) (upd (upd H dx (.own x)) x (.ins C dx [])) (fun v H2 => v = .non ∧ Q (.ref x) H2) E) :
    wpAny (model X.prog X.w) X.A (call (.ref C) us) (EP X pins σ Q) X.xe s := by
  have hq := h (s.heap.objs.size + 1) s.heap.objs.size (I.hok.fresh (Nat.le_succ _)) (I.hok.fresh (Nat.le_refl _)) (Nat.ne_of_lt (Nat.lt_succ_self _))
  have I2 := Inv.made (C := C) I
  have r2 : Vals (V.ref (s.heap.objs.size + 1) :: (vs ++ dvs)) (Value.ref (s.heap.objs.size + 1) :: (us ++ ds)) := .cons rfl (r.append hd)
  have hl : (Value.ref (s.heap.objs.size + 1) :: us ++ ds).length = ps.length := by
    have e := r2.length
    rw [F.len _ _ _ _ hq] at e
    exact e.symm
  refine wpAny_call (make_map (f := f) I.kIn M.makes M.init (beq_iff_eq.mp M.fn) (codeAny_mono (F.run _ X.stack _ _ ⟨Value.ref (s.heap.objs.size + 1) :: us, []⟩ (Value.ref (s.heap.objs.size + 1) :: (us ++ ds)) _ _ E (hr.make C us [])
    (I2.env0.make C us []) (hb _ (Value.ref (s.heap.objs.size + 1) :: us) I2.kIn hl) r2 hq) fun r s' hq' => ?_))
  cases r with
  | error e => exact hx pins σ _ _ e s' I2 hq'
  | ok fl =>
    cases fl with
    | ret u =>
      obtain ⟨v, H', I3, rv, ev, q3⟩ := I2.after hq'
      subst ev
      exact ⟨rv, ⟨V.ref (s.heap.objs.size + 1), H', I3, rfl, q3⟩⟩
    | next => exact False.elim hq'
    | brk => exact False.elim hq'
    | cont => exact False.elim hq'
theorem pe_make (M : Mk X.K C f) (F : FnOk X.prog X.w X.K X.mg X.base CX k f fd ps sp) (hr : Room (k + 1) X.A) (hg : Gl X x) (hm : X.mg x = some (.ref C)) (hb : Binds X.K fd ps ds) (hd : Vals dvs ds) (hx : Passes CX X E)
    (ha : PA X (e :: es) t) (hdb : (x == ("__debug__" : Str)) = false := by decide) (he : starEach (e :: es) X.env = (false, eval e X.env) :: starEach es X.env := by rfl) (hpl : (backTo pos (starEach es X.env)).any (·.1) = false := by rfl) :
    PE X (.Call (.Name x p) (e :: es) [] pos) (tMake C sp dvs E t) := by
  intro pins s σ H Q I h
  refine wpAny_Call_Name_kw (ld_glob I hg hm ?_ hdb)
  refine PySem.W.callWith_K (h₀ := X.base) I.ok.mod.kin M.kp (thn (ha pos pins s σ H _ I h) fun us s1 ⟨vs, H1, I1, r, q⟩ => ⟨I1.kIn, ?_⟩) he hpl
  exact run_make M F hr hb hd hx I1 r q
end

/-! ### keywords -/
section
variable {X : Cx} {CX : CXT} {k : Nat} {f C : Addr} {fd : FuncData} {ps ks : List Str} {sp : Sp} {E : XK} {x m : Str} {p pos apos kpos : Pos} {e o : Expr} {es : List Expr} {kws : List Keyword} {te ta : TE} {t tk : TA} {nm : Option Str}

/-- how a call with keywords binds: g puts the positional values us and the keywords' values ws (names ks) in the parameters' order, defaults among them -/
structure KBinds (K : PySem.W.Frag) (fd : FuncData) (ps ks : List Str) (g : List Value → List Value → List Value) (gV : List V → List V → List V) : Prop where
  to : ∀ (s : Shared) (us ws : List Value), K.In s.heap → (g us ws).length = ps.length → BindsTo s fd ⟨us, ks.zip ws⟩ (ps.zip (g us ws))
  rel : ∀ {vs : List V} {us : List Value} {zs : List V} {ws : List Value}, Vals vs us → Vals zs ws → Vals (gV vs zs) (g us ws)
variable {g : List Value → List Value → List Value} {gV : List V → List V → List V}
end

/-! ### a def's body keeps its promise -/
/-- names: the parameters first -/
structure FnScope (N P : List Str) (sc : Scope) : Prop where
  kind : sc.kind = .function
  co : sc.isCoroutine = false
  gen : sc.isGenerator = false
  nd : N.Nodup
  pre : N.take P.length = P
  par : ∀ x ∈ P, sc.names.lookup x = some .local ∨ sc.names.lookup x = some .cell
  nofree : ∀ y ∈ sc.names, y.2 ≠ .free

theorem bindL_out {kindOf : Str → Option NameKind} {x : Str} : ∀ {binds : List (Str × Value)} {m : Str → Option Value}, (∀ v, (x, v) ∉ binds) → bindL kindOf binds m x = m x
  | [], _, _ => rfl
  | (n, v) :: r, m, h => by
    unfold bindL
    rw [bindL_out fun w hw => h w (List.mem_cons_of_mem _ hw)]
    split
    · have : x ≠ n := by rintro rfl; exact h v List.mem_cons_self
      simp [this]
    · rfl
theorem bindC_out {kindOf : Str → Option NameKind} {x : Str} : ∀ {binds : List (Str × Value)} {m : Str → Option Value}, (∀ v, (x, v) ∉ binds) → bindC kindOf binds m x = m x
  | [], _, _ => rfl
  | (n, v) :: r, m, h => by
    unfold bindC
    rw [bindC_out fun w hw => h w (List.mem_cons_of_mem _ hw)]
    split
    · rfl
    · have : x ≠ n := by rintro rfl; exact h v List.mem_cons_self
      simp [this]
theorem bindL_get {kindOf : Str → Option NameKind} {x : Str} {v : Value} : ∀ {P : List Str} {vs : List Value} {i : Nat} {m : Str → Option Value}, P.Nodup → P[i]? = some x → vs[i]? = some v → kindOf x = some .local →
    bindL kindOf (P.zip vs) m x = some v
  | [], _, _, _, _, h, _, _ => by simp at h
  | _ :: _, [], _, _, _, _, h, _ => by simp at h
  | p :: P, w :: vs, 0, m, nd, h1, h2, hk => by
    simp at h1 h2; subst h1; subst h2
    show bindL kindOf ((p, w) :: P.zip vs) m p = _
    unfold bindL
    rw [bindL_out fun v hv => (List.nodup_cons.mp nd).1 (List.of_mem_zip hv).1, if_pos hk]
    simp
  | p :: P, w :: vs, i + 1, m, nd, h1, h2, hk => by
    show bindL kindOf ((p, w) :: P.zip vs) m x = _
    unfold bindL
    exact bindL_get (i := i) (List.nodup_cons.mp nd).2 (by simpa using h1) (by simpa using h2) hk
theorem bindC_get {kindOf : Str → Option NameKind} {x : Str} {v : Value} : ∀ {P : List Str} {vs : List Value} {i : Nat} {m : Str → Option Value}, P.Nodup → P[i]? = some x → vs[i]? = some v → kindOf x ≠ some .local →
    bindC kindOf (P.zip vs) m x = some v
  | [], _, _, _, _, h, _, _ => by simp at h
  | _ :: _, [], _, _, _, _, h, _ => by simp at h
  | p :: P, w :: vs, 0, m, nd, h1, h2, hk => by
    simp at h1 h2; subst h1; subst h2
    show bindC kindOf ((p, w) :: P.zip vs) m p = _
    unfold bindC
    rw [bindC_out fun v hv => (List.nodup_cons.mp nd).1 (List.of_mem_zip hv).1, if_neg hk]
    simp
  | p :: P, w :: vs, i + 1, m, nd, h1, h2, hk => by
    show bindC kindOf ((p, w) :: P.zip vs) m x = _
    unfold bindC
    exact bindC_get (i := i) (List.nodup_cons.mp nd).2 (by simpa using h1) (by simpa using h2) hk

/-- the names' values at the entry -/
def start (N : List Str) (vs : List V) : St := vs.map some ++ List.replicate (N.length - vs.length) none

/-- the context of a def's body, at its entry; an exception leaves the frame, then lies as CX says -/
def cxOf (CX : CXT) (P : Program) (w : World) (K : PySem.W.Frag) (mg : Str → Option Value) (base : Heap) (N : List Str) (qual : Str) (scope : Scope) (f : Addr) (cd : Value) (A : Around) (outer : List Env) (s : Shared) (H : Hp) (E : XK) : Cx where
  prog := P
  w := w
  K := K
  mg := mg
  base := base
  A := A.deeper (envOfC qual scope s.heap.objs.size f cd)
  N := N
  s₀ := s
  H₀ := H
  env := envOfC qual scope s.heap.objs.size f cd
  outer := outer
  stack := envOfC qual scope s.heap.objs.size f cd :: outer
  ex := []
  calm := true
  fn := fun _ => true
  pn := []
  xe := fun e s' => wpAny (model P w) (A.deeper (envOfC qual scope s.heap.objs.size f cd)) (leaving (envOfC qual scope s.heap.objs.size f cd) e) (fun _ s'' => CX outer H s E e s'') (fun e' s'' => CX outer H s E e' s'') s'

theorem cell_has {sc : Scope} {n : Nat} {x : Str} (h : sc.names.lookup x = some .cell) : ∃ c, (cellsFrom n sc.names []).lookup x = some c := by
  have q := PySem.W.cellsFrom_some sc.names n [] (.inl h)
  exact Option.isSome_iff_exists.mp q

theorem inv_start {CX : CXT} {P : Program} {w : World} {K : PySem.W.Frag} {mg : Str → Option Value} {base : Heap} {N ps : List Str} {qual : Str} {scope : Scope} {f : Addr} {cd : Value} {A : Around} {outer : List Env} {s s1 : Shared} {H : Hp} {E : XK} {us : List Value} {vs : List V}
    (S : FnScope N ps scope) (hd : A.handled = none) (e0 : Env0 P w K mg base A outer s H) (hl : vs.length = ps.length) (r : Vals vs us)
    (x : InCallC s s.heap.objs.size (bindL (envOfC qual scope s.heap.objs.size f cd).kindOf (ps.zip us) fun _ => none) (cellsFrom (s.heap.objs.size + 1) scope.names []) (bindC (envOfC qual scope s.heap.objs.size f cd).kindOf (ps.zip us) fun _ => none) s1) :
    Inv (cxOf CX P w K mg base N qual scope f cd A outer s H E) [] (start N vs) H s1 := by
  have hpl : ps.length ≤ N.length := by have := congrArg List.length S.pre; rw [List.length_take] at this; omega
  obtain ⟨h1, tk, rfl, hk⟩ := x.done
  have noA : ∀ b : Addr, b ∉ (cxOf CX P w K mg base N qual scope f cd A outer s H E).ex := fun b z => absurd (show b ∈ ([] : List Addr) from z) (by simp)
  refine ⟨⟨e0.mod, S.kind, rfl, rfl, Nat.le_refl _, fun y z c h1 h2 => ?_, fun y hy => ?_, fun y c _ h => ?_, fun _ => hd, Around.frames_deeper e0.frames, .inr ⟨rfl, rfl⟩, fun b z => absurd z (noA b), e0.bs, e0.bsz, fun b _ _ => noA b, fun b z => absurd z (noA b), e0.funs, e0.frf⟩,
    rfl, e0.bare, Un.kept hk, ⟨_, x.toInCall.ns, fun i y v h1 h2 h3 => ?_⟩, fun y c h => ⟨_, x.cell y c h⟩, e0.hok.fresh (Nat.le_refl _), fun y c h => ?_, fun p hp => absurd (show p ∈ ([] : List (Addr × Obj)) from hp) (by simp), e0.hok.kept hk, ?_⟩
  · exact name_of_addr x.apart (PySem.mem_of_lookup h1) (PySem.mem_of_lookup h2)
  · have hy : scope.names.lookup y = some .cell ∨ scope.names.lookup y = some .free := hy
    rcases hy with hy | hy
    · exact cell_has hy
    · exact absurd rfl (S.nofree _ (PySem.mem_of_lookup hy))
  · exact Nat.le_of_lt (x.above y c (PySem.mem_of_lookup h))
  · have hi : i < vs.length := by
      unfold start at h2
      by_cases hi : i < vs.length
      · exact hi
      · rw [List.getElem?_append_right (by simpa using hi)] at h2
        rw [List.getElem?_replicate] at h2
        split at h2 <;> cases h2
    have ha : vs[i]? = some v := by
      unfold start at h2
      rw [List.getElem?_append_left (by simpa using hi), List.getElem?_map] at h2
      cases e : vs[i]? with
      | none => rw [e] at h2; cases h2
      | some a => rw [e] at h2; cases h2; rfl
    obtain ⟨u, hu, rv⟩ := r.get ha
    have hp : ps[i]? = some y := by
      rw [← S.pre, List.getElem?_take_of_lt (by omega)]; exact h1
    have ndP : ps.Nodup := by rw [← S.pre]; exact S.nd.sublist (List.take_sublist _ _)
    refine ⟨u, rv, ?_⟩
    rcases S.par y (List.mem_of_getElem? hp) with k | k
    · exact .inl ⟨k, bindL_get ndP hp hu k⟩
    · obtain ⟨c, e⟩ := cell_has (n := s.heap.objs.size + 1) k
      refine .inr ⟨.inl k, c, e, ?_⟩
      have q := x.cell y c e
      rw [bindC_get ndP hp hu (by show scope.names.lookup y ≠ _; rw [k]; decide)] at q
      exact q
  · exact e0.hok.fresh (Nat.le_of_lt (x.above y c (PySem.mem_of_lookup h)))
  · unfold start
    show _ = N.length
    rw [List.length_append, List.length_map, List.length_replicate]
    omega

/-- THE RULE: a def (or a method) of the text, by its body. The body's reading t is chosen for each entry; it is run at the parameters' values -/
theorem fn_of {CX : CXT} {P : Program} {w : World} {K : PySem.W.Frag} {mg : Str → Option Value} {base : Heap} {k : Nat} {f : Addr} {name qual : Str} {params : Arguments} {body : List Stmt} {scope : Scope} {dV kV doc pm cdv ct oc : Value} {an od : Option Addr}
    {osl : Array (Option Value)} {N ps : List Str} {sp : Sp} (lk : K.lookup f = some ⟨oc, od, .func (PySem.W.fnOf name qual params body scope dV kV doc pm an cdv ct), osl⟩) (hcd : PySem.W.codeIn K cdv qual = true) (S : FnScope N ps scope)
    (len : ∀ vs H Q E, sp vs H Q E → vs.length = ps.length)
    (hbody : ∀ (A : Around) (outer : List Env) (s : Shared) (H : Hp) (vs : List V) (Q : VK) (E : XK), Room k (A.deeper (envOfC qual scope s.heap.objs.size f cdv)) → sp vs H Q E →
      ∃ t, PSs (cxOf CX P w K mg base N qual scope f cdv A outer s H E) body t ∧ t { nx := fun _ H' => Q .non H', rt := Q } (start N vs) H) :
    FnOk P w K mg base CX (k + 1) f (PySem.W.fnOf name qual params body scope dV kV doc pm an cdv ct) ps sp := by
  refine ⟨len, fun A outer s H args us vs Q E hr e0 hb r hsp => ?_⟩
  have hl := len _ _ _ _ hsp
  have KX : K.In s.heap := e0.mod.kin.keeps fun b o e => (e0.bs b o e).1
  have lim : s.heap.NoLimit := e0.mod.nolimit.keeps fun b o e => (e0.bs b o e).1
  have hkind : ∀ y ∈ ps.zip us, scope.names.lookup y.1 = some .local ∨ (scope.names.lookup y.1 = some .cell ∧ ((cellsFrom (s.heap.objs.size + 1) scope.names []).lookup y.1).isSome = true) := fun ⟨n, v⟩ hy => by
    rcases S.par n (List.of_mem_zip hy).1 with q | q
    · exact .inl q
    · exact .inr ⟨q, PySem.W.cellsFrom_some _ _ _ (.inl q)⟩
  refine codeAny_call_function hr.depth (KX _ _ lk) rfl S.co S.gen rfl (PySem.W.codeRec_of KX hcd) (hb _ _ _ _ ?_)
  refine wpAny_newFunctionEnv_cells S.kind hkind fun env he s1 x => ?_
  subst he
  refine ⟨lim.keeps x.toInCall.keep, codeAny_func ?_⟩
  obtain ⟨t, ht, hq⟩ := hbody A outer s H vs Q E (hr.deeper _) hsp
  have I : Inv (cxOf CX P w K mg base N qual scope f cdv A outer s H E) [] (start N vs) H s1 := inv_start S hr.hd e0 hl r x
  refine wpAny_mono (ht [] s1 (start N vs) H _ I hq) (fun fl s' hs => ?_) fun e s' hs => hs
  have fin : ∀ {σ' : St} {H' : Hp} {v : V} {u : Value}, Inv (cxOf CX P w K mg base N qual scope f cdv A outer s H E) [] σ' H' s' → RelV v u → Q v H' → CE outer P w H s Q u s' :=
    fun {σ' H' v u} J rv q => ⟨v, H', J.os, J.bare, J.base, J.hok, rv, q⟩
  cases fl with
  | ret u =>
    obtain ⟨v, σ', H', J, rv, q⟩ := hs
    exact fin J rv q
  | next =>
    obtain ⟨σ', H', J, q⟩ := hs
    exact fin (v := V.non) (u := Value.none) J rfl q
  | brk =>
    obtain ⟨_, _, _, q⟩ := hs
    exact False.elim q
  | cont =>
    obtain ⟨_, _, _, q⟩ := hs
    exact False.elim q
end L2

namespace L2
open PySem PySem.Spec PyProof.Rows
section
variable {X : Cx} {x : Str} {p pos : Pos} {e : Expr} {es : List Expr} {t : TA} {id T : String} {r : List V → Hp → VK → Prop}

def tCB (r : List V → Hp → VK → Prop) (t : TA) : TE := fun σ H Q => t σ H fun vs H1 => r vs H1 Q
/-- f(e, ..), f a built-in function -/
theorem pe_callB (hc : CallR X (.builtin id) r) (hg : Gl X x) (hm : X.mg x = none) (hv : bootBuiltins x = some (.builtin id)) (ha : PA X (e :: es) t) (hn : x ≠ "__name__" := by decide) (hdb : (x == ("__debug__" : Str)) = false := by decide)
    (he : starEach (e :: es) X.env = (false, eval e X.env) :: starEach es X.env := by rfl) (hpl : (backTo pos (starEach es X.env)).any (·.1) = false := by rfl) : PE X (.Call (.Name x p) (e :: es) [] pos) (tCB r t) := by
  intro pins s σ H Q I h
  refine wpAny_Call_Name_kw (ld_blt I hg hm hv ?_ hn hdb)
  exact PyProof.Rows.callWith_builtin1 (thn (ha pos pins s σ H _ I h) fun us s1 ⟨vs, H1, I1, r1, q1⟩ => hc pins s1 σ H1 vs us Q I1 r1 q1) he hpl
/-- T(e, ..), T a built-in type -/
theorem pe_callTy (hc : CallR X (.type T) r) (hg : Gl X x) (hm : X.mg x = none) (hv : bootBuiltins x = some (.type T)) (ha : PA X (e :: es) t) (hn : x ≠ "__name__" := by decide) (hdb : (x == ("__debug__" : Str)) = false := by decide)
    (he : starEach (e :: es) X.env = (false, eval e X.env) :: starEach es X.env := by rfl) (hpl : (backTo pos (starEach es X.env)).any (·.1) = false := by rfl) : PE X (.Call (.Name x p) (e :: es) [] pos) (tCB r t) := by
  intro pins s σ H Q I h
  refine wpAny_Call_Name_kw (ld_blt I hg hm hv ?_ hn hdb)
  exact PyProof.Rows.callWith_type1 (thn (ha pos pins s σ H _ I h) fun us s1 ⟨vs, H1, I1, r1, q1⟩ => hc pins s1 σ H1 vs us Q I1 r1 q1) he hpl
end
end L2

namespace HT
open PySem PyProof.Rows



section
open PySem.SeqAt
open PySem.AutoSeq1 (wpAny_loadPart')
open PySem.MeetsSeq PySem.MeetsSeq2 PySem.MeetsSeq3

end

section
variable {prog : Program} {w : World} {A : Around} {E : Value → Shared → Prop} {s : Shared}



/-! ### t[a:b], not the whole -/
/-- a slice's bound as a place among n (d where it is left out) -/
def sIx (n d : Nat) : Option Int → Nat
  | none => d
  | some v => if v < 0 then (v + (n : Int)).toNat else min v.toNat n
theorem sIx_none (n d : Nat) : sIx n d none = d := rfl

end
end HT

namespace L2
open PySem PySem.Spec PyProof.Rows

/-! ### the parts of a slice -/
abbrev TO := St → Hp → (Option Int → Hp → Prop) → Prop
/-- a slice's part (left out, or an int) -/
def PO (X : Cx) (e : Option Expr) (t : TO) : Prop :=
  ∀ (pins : List (Addr × Obj)) (s : Shared) (σ : St) (H : Hp) (Q : Option Int → Hp → Prop), Inv X pins σ H s → t σ H Q →
    wpAny (model X.prog X.w) X.A (evalPart e X.env) (fun u s' => ∃ o H', Inv X pins σ H' s' ∧ IsPart u o ∧ Q o H') X.xe s
def tNoPart : TO := fun _ H Q => Q none H
def tPart (t : TE) : TO := fun σ H Q => t σ H fun x H1 => ∃ i, x = .int i ∧ Q (some i) H1

theorem intsAre_of {ns : List Int} : ∀ {us : List Value}, Vals (ns.map V.int) us → IntsAre us ns := by
  induction ns with
  | nil => intro us r; rw [List.map_nil] at r; cases r; exact .nil
  | cons n ns ih =>
    intro us r
    rw [List.map_cons] at r
    cases r with
    | cons r1 r2 =>
      obtain ⟨t, e⟩ := r1
      subst e
      exact .cons n t (ih r2)

section
variable {X : Cx} {e : Expr} {te : TE} {lo hi : Option Expr} {tl th : TO} {pos p2 : Pos}

theorem po_none : PO X none tNoPart := by
  intro pins s σ H Q I h
  rw [evalPart_none]
  exact wpAny_pure ⟨none, H, I, .none, h⟩
theorem po_some (h : PE X e te) : PO X (some e) (tPart te) := by
  intro pins s σ H Q I hw
  rw [evalPart_some]
  refine thn (h pins s σ H _ I hw) fun u s1 ⟨x, H1, I1, r1, q1⟩ => ?_
  obtain ⟨i, rfl, q⟩ := q1
  obtain ⟨t, rfl⟩ := r1
  exact ⟨some i, H1, I1, .int i t, q⟩

/-- what a slice of a value is, by values: the slice object stands at sl -/
def SlR (X : Cx) (r : V → Option Int → Option Int → Hp → VK → Prop) : Prop :=
  ∀ (pins : List (Addr × Obj)) (s : Shared) (σ : St) (H : Hp) (x : V) (v vl vu : Value) (lo hi : Option Int) (sl : Addr) (Q : VK), Inv X pins σ H s → RelV x v → s.heap.IsSliceOf sl vl vu .none → IsPart vl lo → IsPart vu hi → r x lo hi H Q →
    ∃ T id, typeLookup (.type T) "__getitem__" = pure (some (.builtin id)) ∧ s.TypeIs v T ∧ wpAny (model X.prog X.w) X.A (getItem v (.ref sl)) (EP X pins σ Q) X.xe s
def tSl (r : V → Option Int → Option Int → Hp → VK → Prop) (te : TE) (tl th : TO) : TE := fun σ H Q => te σ H fun x H1 => tl σ H1 fun l H2 => th σ H2 fun u H3 => r x l u H3 Q
/-- a[lo:hi], any a -/
theorem pe_slice {r : V → Option Int → Option Int → Hp → VK → Prop} (hr : SlR X r) (he : PE X e te) (hl : PO X lo tl) (hu : PO X hi th) : PE X (.Subscript e (.Slice lo hi none p2) pos) (tSl r te tl th) := by
  intro pins s σ H Q I h
  refine Subscript_ (thn (he pins s σ H _ I h) fun v s1 ⟨x, H1, I1, r1, q1⟩ => ?_)
  refine wpAny_Slice (thn (hl pins s1 σ H1 _ I1 q1) fun vl s2 ⟨l, H2, I2, pl, q2⟩ => thn (hu pins s2 σ H2 _ I2 q2) fun vu s3 ⟨u, H3, I3, pu, q3⟩ => ?_)
  rw [evalPart_none]
  refine wpAny_pure ?_
  have I4 : Inv X pins σ H3 { s3 with heap := s3.heap.push { cls := .type "slice", data := .fields #[vl, vu, .none] } } := I3.kept (t' := s3.toks) fun b ob q => Heap.get?_push_of_some _ q
  obtain ⟨T, id, hT, ht, hg⟩ := hr pins { s3 with heap := s3.heap.push { cls := .type "slice", data := .fields #[vl, vu, .none] } } σ H3 x v vl vu l u s3.heap.objs.size Q I4 r1 (Heap.IsSliceOf.new ..) pl pu q3
  show wpAny (model X.prog X.w) X.A (subscriptTail e (.Slice lo hi none p2) v (.ref s3.heap.objs.size)) (EP X pins σ Q) X.xe { s3 with heap := s3.heap.push { cls := .type "slice", data := .fields #[vl, vu, .none] } }
  exact tail_any (ops := [.ref s3.heap.objs.size, v]) ht hT hg (by with_unfolding_all rfl)

/-- the items of xs[lo:hi] -/
def cutV (xs : List V) (lo hi : Option Int) : List V := (xs.drop (HT.sIx xs.length 0 lo)).take (HT.sIx xs.length xs.length hi - HT.sIx xs.length 0 lo)
theorem cutV_length (xs : List V) (lo hi : Option Int) : (cutV xs lo hi).length ≤ xs.length := by
  unfold cutV
  rw [List.length_take, List.length_drop]
  omega

/-! ### t < u, t + u -/
end
end L2

namespace L2
open PySem PySem.Spec PyProof.Rows

/-! ### places -/
/-- the place that an index of any sign means -/
def ixN (n : Nat) (i : Int) : Option Nat := if 0 ≤ i then (if i < n then some i.toNat else none) else if -(n : Int) ≤ i then some (i + n).toNat else none
def atI {α : Type} (xs : List α) (i : Int) : Option α := (ixN xs.length i).bind fun j => xs[j]?
theorem ixN_seq {n : Nat} {i : Int} {j : Nat} (h : ixN n i = some j) : seqIndex? i n = some j ∧ j < n ∧ -(n : Int) ≤ i ∧ i < n := by
  unfold ixN at h
  by_cases h0 : 0 ≤ i
  · rw [if_pos h0] at h
    by_cases h1 : i < n
    · rw [if_pos h1] at h
      have e : i.toNat = j := Option.some.inj h
      exact ⟨by rw [seqIndex_of h0 h1, e], by omega, by omega, h1⟩
    · rw [if_neg h1] at h; cases h
  · rw [if_neg h0] at h
    by_cases h1 : -(n : Int) ≤ i
    · rw [if_pos h1] at h
      have e : (i + n).toNat = j := Option.some.inj h
      exact ⟨by rw [seqIndex_neg (by omega) h1, e], by omega, h1, by omega⟩
    · rw [if_neg h1] at h; cases h
theorem atI_get {α : Type} {xs : List α} {i : Int} {v : α} (h : atI xs i = some v) : ∃ j, seqIndex? i xs.length = some j ∧ xs[j]? = some v ∧ j < xs.length ∧ -(xs.length : Int) ≤ i ∧ i < xs.length := by
  unfold atI at h
  cases e : ixN xs.length i with
  | none => rw [e] at h; cases h
  | some j =>
    rw [e] at h
    obtain ⟨h1, h2, h3, h4⟩ := ixN_seq e
    exact ⟨j, h1, h, h2, h3, h4⟩
theorem atI_nat {α : Type} {xs : List α} {j : Nat} {v : α} (h : xs[j]? = some v) : atI xs (j : Int) = some v := by
  have hj : j < xs.length := (List.getElem?_eq_some_iff.mp h).1
  have e : ixN xs.length (j : Int) = some j := by
    unfold ixN
    rw [if_pos (by omega), if_pos (by omega)]; simp
  unfold atI; rw [e]; exact h

/-! ### what may be subscripted -/
/-- what stands as an index of a plain subscript -/
def PlainIx (b : Expr) : Prop := ∀ o i, subscripted b false o i = operate [o, i] (getItem o i)
/-- a subscript by values -/
def IxR (X : Cx) (r : R2) : Prop :=
  ∀ (value slice : Expr) (pins : List (Addr × Obj)) (s : Shared) (σ : St) (H : Hp) (x y : V) (v u : Value) (Q : VK), Inv X pins σ H s → RelV x v → RelV y u → r x y H Q →
    subscripted slice false v u = operate [v, u] (getItem v u) → wpAny (model X.prog X.w) X.A (subscriptTail value slice v u) (EP X pins σ Q) X.xe s
/-- a call of a builtin's method by values: the receiver, the arguments -/
def MtR (X : Cx) (id : String) (r : V → List V → Hp → VK → Prop) : Prop :=
  ∀ (pins : List (Addr × Obj)) (s : Shared) (σ : St) (H : Hp) (x : V) (xs : List V) (v : Value) (us : List Value) (Q : VK), Inv X pins σ H s → RelV x v → Vals xs us → r x xs H Q →
    wpAny (model X.prog X.w) X.A (call (.builtin id) (v :: us)) (EP X pins σ Q) X.xe s
section
variable {X : Cx} {a b : Expr} {ta tb : TE} {pos : Pos}
/-- a[b] -/
theorem pe_ix {r : R2} (hr : IxR X r) (ha : PE X a ta) (hb : PE X b tb) (hs : PlainIx b) : PE X (.Subscript a b pos) (tOp r ta tb) := by
  intro pins s σ H Q I h
  exact Subscript_ (binT ha hb I h fun v u s2 x y H2 I2 rx ry q => hr a b pins s2 σ H2 x y v u Q I2 rx ry q (hs _ _))

def rIxL (K : PySem.W.Frag) : R2 := fun x y H Q => ∃ p xs i v, x = .ref p ∧ y = .int i ∧ SqL K H p xs ∧ atI xs i = some v ∧ Q v H
def rIxT (K : PySem.W.Frag) : R2 := fun x y H Q => ∃ p xs i v, x = .ref p ∧ y = .int i ∧ SqT K H p xs ∧ atI xs i = some v ∧ Q v H
theorem ix_list : IxR X (rIxL X.K) := by
  intro value slice pins s σ H x y v u Q I rx ry h hs
  obtain ⟨p, xs, i, z, rfl, rfl, hq, he, q⟩ := h
  cases rx
  obtain ⟨t, rfl⟩ := ry
  obtain ⟨its, r, pl, hz⟩ := I.list hq
  obtain ⟨j, h1, h2, h3, h4, h5⟩ := atI_get he
  obtain ⟨w, ew, rw'⟩ := r.get h2
  have hl := r.length
  have hn := line63
  have fin : EP X pins σ Q w s := ⟨z, H, I, rw', q⟩
  by_cases h0 : 0 ≤ i
  · have hj : i.toNat = j := by
      rw [seqIndex_of h0 h5] at h1
      exact Option.some.inj h1
    exact item_listR pl.isList h0 (by omega) (by rw [hj]; simpa using ew) fin hs
  · have hj : (i + (its.toArray.size : Int)).toNat = j := by
      rw [seqIndex_neg (by omega) h4] at h1
      rw [List.size_toArray, ← hl]
      exact Option.some.inj h1
    exact subscriptTail_builtinR (x := w) pl.isList.typeIs slot_list_getitem.lookup
      (wpAny_getItem_list_neg (Q := fun r s' => r = w ∧ EP X pins σ Q r s') pl.isList (by omega) (by rw [List.size_toArray] <;> omega) (by omega) (by rw [hj]; simpa using ew) ⟨rfl, fin⟩) hs
theorem ix_tup : IxR X (rIxT X.K) := by
  intro value slice pins s σ H x y v u Q I rx ry h hs
  obtain ⟨p, xs, i, z, rfl, rfl, hq, he, q⟩ := h
  cases rx
  obtain ⟨t, rfl⟩ := ry
  obtain ⟨its, r, pl, hz⟩ := I.tuple hq
  obtain ⟨j, h1, h2, h3, h4, h5⟩ := atI_get he
  obtain ⟨w, ew, rw'⟩ := r.get h2
  have hl := r.length
  have hn := line63
  have fin : EP X pins σ Q w s := ⟨z, H, I, rw', q⟩
  exact subscriptTail_builtinR (x := w) pl.typeIs slot_tuple_getitem.lookup
    (getItem_tuple (j := j) (Q := fun r s' => r = w ∧ EP X pins σ Q r s') pl (by omega) (by omega) (by rw [List.size_toArray, ← hl]; exact h1) (by simpa using ew) ⟨rfl, fin⟩) hs

/-! ### xs[i] = v, any sign -/

/-! ### slices -/
theorem slice_bounds (lo hi : Option Int) (n : Nat) : (sliceBounds lo hi none n).1 = ((HT.sIx n 0 lo : Nat) : Int) ∧ (sliceBounds lo hi none n).2.1 = ((HT.sIx n n hi : Nat) : Int) ∧ (sliceBounds lo hi none n).2.2 = 1 := by
  refine ⟨?_, ?_, rfl⟩
  · cases lo with
    | none => simp [sliceBounds, HT.sIx]
    | some i =>
      simp only [sliceBounds, HT.sIx, Option.getD_none, show (1 : Int) > 0 by decide, if_true]
      by_cases h : i < 0
      · simp only [h, if_true] <;> omega
      · simp only [h, if_false] <;> omega
  · cases hi with
    | none => simp [sliceBounds, HT.sIx]
    | some i =>
      simp only [sliceBounds, HT.sIx, Option.getD_none, show (1 : Int) > 0 by decide, if_true]
      by_cases h : i < 0
      · simp only [h, if_true] <;> omega
      · simp only [h, if_false] <;> omega
theorem slicePick_cut (its : List Value) (lo hi : Option Int) : slicePick its.toArray lo hi none = ((its.drop (HT.sIx its.length 0 lo)).take (HT.sIx its.length its.length hi - HT.sIx its.length 0 lo)).toArray := by
  obtain ⟨h1, h2, h3⟩ := slice_bounds lo hi its.toArray.size
  unfold slicePick
  rw [h1, h2, h3]
  simp only [sliceRange_one, pick_run, List.size_toArray] <;> rfl
/-- xs[lo:hi] of a list: a new list -/
def rSlL (K : PySem.W.Frag) : V → Option Int → Option Int → Hp → VK → Prop := fun x lo hi H Q => ∃ a xs, x = .ref a ∧ SqL K H a xs ∧ ∀ p, H p = none → Q (.ref p) (upd H p (.lst (cutV xs lo hi)))
theorem sl_list : SlR X (rSlL X.K) := by
  intro pins s σ H x v vl vu lo hi sl Q I rx hs pl pu h
  obtain ⟨a, xs, rfl, hx, q⟩ := h
  cases rx
  obtain ⟨its, r, ht, hz⟩ := I.list hx
  have hlen := r.length
  refine ⟨"list", _, slot_list_getitem.lookup, ht.isList.typeIs, ?_⟩
  refine wpAny_getItem_list_slice ht.isList hs pl pu .none (by simp) ?_ (by rw [List.size_toArray] <;> omega)
  rw [slicePick_cut, ← hlen]
  refine ⟨.ref s.heap.objs.size, _, I.laid (t' := s.toks) (o := .lst (cutV xs lo hi)) (fun b ob q => Heap.get?_push_of_some _ q) (Nat.le_refl _) ?_, rfl, q _ (I.hok.fresh (Nat.le_refl _))⟩
  exact ⟨Nat.le_trans (cutV_length xs lo hi) hz, _, 0, (r.drop (HT.sIx xs.length 0 lo)).take (HT.sIx xs.length xs.length hi - HT.sIx xs.length 0 lo), Heap.get?_push_size _ rfl⟩

/-! ### in, not in: flat items -/

/-! ### len, list(x), tuple(x) of any list or tuple that is read -/
theorem call_len_seq : CallR X (.builtin "len") (fun xs H Q => ∃ p ys, xs = [.ref p] ∧ (SqL X.K H p ys ∨ SqT X.K H p ys) ∧ Q (.int ys.length) H) := by
  intro pins s σ H xs us Q I r h
  obtain ⟨p, ys, rfl, hq, q⟩ := h
  obtain ⟨u, rfl, rx⟩ := vals1 r
  cases rx
  have hn := line63
  rcases hq with hq | hq
  · obtain ⟨its, r', pl, hz⟩ := I.list hq
    have hlen := r'.length
    exact Calls.call_len_list pl.isList (by simp only [List.size_toArray] <;> omega) ⟨.int ys.length, H, I.tok _, ⟨s.toks + 1, by rw [List.size_toArray, hlen]⟩, q⟩
  · obtain ⟨its, r', pl, hz⟩ := I.tuple hq
    have hlen := r'.length
    exact len_tuple pl (by simp only [List.size_toArray] <;> omega) ⟨.int ys.length, H, I.tok _, ⟨s.toks + 1, by rw [List.size_toArray, hlen]⟩, q⟩
theorem call_list_of : CallR X (.type "list") (fun xs H Q => ∃ p ys, xs = [.ref p] ∧ (SqL X.K H p ys ∨ SqT X.K H p ys) ∧ ∀ l, H l = none → Q (.ref l) (upd H l (.lst ys))) := by
  intro pins s σ H xs us Q I r h
  obtain ⟨p, ys, rfl, hq, q⟩ := h
  obtain ⟨u, rfl, rx⟩ := vals1 r
  cases rx
  have fin : ∀ (its : List Value), Vals ys its → ys.length ≤ sizeLine → ∀ (h' : Heap) (c' : Nat), (∀ b o', s.heap.get? b = some o' → h'.get? b = some o') →
      h'.get? s.heap.objs.size = some { cls := .type "list", dict := none, data := .seq its.toArray c', slots := #[] } → EP X pins σ Q (.ref s.heap.objs.size) { s with heap := h' } := fun its r' hz h' c' kp e =>
    ⟨.ref s.heap.objs.size, _, I.laid (t' := s.toks) kp (Nat.le_refl _) (show ObjOk X.prog X.w _ h' _ (.lst ys) from ⟨hz, its, c', r', e⟩), rfl, q _ (I.hok.fresh (Nat.le_refl _))⟩
  rcases hq with hq | hq
  · obtain ⟨its, r', pl, hz⟩ := I.list hq
    have hlen := r'.length
    obtain ⟨o, ho, hc, n, hd⟩ := pl.isList
    exact call_list_seq p (.inl rfl) ho hc hd (fun h' c' kp e => fin its r' hz h' c' kp e) (by simp only [List.size_toArray] <;> omega)
  · obtain ⟨its, r', pl, hz⟩ := I.tuple hq
    have hlen := r'.length
    obtain ⟨o, ho, hc, n, hd⟩ := pl
    exact call_list_seq p (.inr rfl) ho hc hd (fun h' c' kp e => fin its r' hz h' c' kp e) (by simp only [List.size_toArray] <;> omega)

/-! ### the call of a builtin's method: o.m(..) -/
/-- the value is of that builtin type -/
def tyV (K : PySem.W.Frag) (T : String) (x : V) (H : Hp) : Prop := match x with
  | .str _ => T = "str"
  | .int _ => T = "int"
  | .ref p => (T = "list" ∧ ∃ xs, SqL K H p xs) ∨ (T = "tuple" ∧ ∃ o, K.lookup p = some o ∧ o.cls = .type "tuple" ∧ o.dict = none) ∨
      (T = "dict" ∧ ((∃ kvs, H p = some (.dK kvs)) ∨ ∃ kvs, H p = some (.dT kvs))) ∨ (T = "set" ∧ ∃ S n, H p = some (.set S n))
  | _ => False
theorem tyV_is {pins : List (Addr × Obj)} {σ : St} {H : Hp} {s : Shared} {T : String} {x : V} {v : Value} (I : Inv X pins σ H s) (r : RelV x v) (ty : tyV X.K T x H) :
    s.TypeIs v T ∧ ∀ a, v = .ref a → ∃ ob, s.heap.get? a = some ob ∧ ob.dict = none := by
  cases x with
  | str z =>
    obtain ⟨t, rfl⟩ := r
    cases (show T = "str" from ty)
    exact ⟨typeIs_str s z t, fun _ e => nomatch e⟩
  | int i =>
    obtain ⟨t, rfl⟩ := r
    cases (show T = "int" from ty)
    exact ⟨typeIs_int s i t, fun _ e => nomatch e⟩
  | ref p =>
    cases r
    rcases ty with ⟨rfl, xs, hq⟩ | ⟨rfl, o, hk, hc, hd⟩ | ⟨rfl, hk⟩ | ⟨rfl, S, n, hk⟩
    · obtain ⟨its, _, pl, _⟩ := I.list hq
      refine ⟨pl.isList.typeIs, fun a e => ?_⟩
      cases e
      obtain ⟨o, n, e, c, hd, _⟩ := pl
      exact ⟨o, e, hd⟩
    · refine ⟨⟨o, I.kIn p o hk, hc⟩, fun a e => ?_⟩
      cases e
      exact ⟨o, I.kIn _ o hk, hd⟩
    · have z : ∃ o, s.heap.get? p = some o ∧ o.ExactDict := by
        rcases hk with ⟨kvs, hk⟩ | ⟨kvs, hk⟩
        · obtain ⟨_, _, _, _, o, _, _, e, ex, _⟩ := I.hok p _ hk
          exact ⟨o, e, ex⟩
        · obtain ⟨_, _, _, _, o, _, _, e, ex, _⟩ := I.hok p _ hk
          exact ⟨o, e, ex⟩
      obtain ⟨o, e, ex⟩ := z
      refine ⟨⟨o, e, ex.1⟩, fun a e2 => ?_⟩
      cases e2
      exact ⟨o, e, ex.2.1⟩
    · obtain ⟨o, _, _, _, e, ex, _⟩ := I.hok p _ hk
      refine ⟨⟨o, e, ex.1⟩, fun a e2 => ?_⟩
      cases e2
      exact ⟨o, e, ex.2.1⟩
  | _ => exact False.elim ty
def tBM (K : PySem.W.Frag) (T : String) (r : V → List V → Hp → VK → Prop) (to : TE) (t : TA) : TE := fun σ H Q => to σ H fun x H1 => tyV K T x H1 ∧ t σ H1 fun xs H2 => r x xs H2 Q
variable {o e : Expr} {es : List Expr} {to : TE} {t : TA} {name : Str} {apos cpos : Pos} {T id : String} {r : V → List V → Hp → VK → Prop}
theorem pe_bm (pa : PlainAttrs T) (slot : Slot T name id) (hty : typeOf (.builtin id) = pure (.type "method_descriptor")) (hm : MtR X id r) (ho : PE X o to) (ha : PA X (e :: es) t)
    (hbase : attributeBase o name X.env (eval o X.env) = eval o X.env := by rfl)
    (hfew : ((backTo cpos (starEach (e :: es) X.env)).all (fun x => !x.1) && (backToKw cpos (keywordEach [] X.env)).all (fun x => x.1.isSome)
      && decide ((e :: es).length + ([] : List Keyword).length + (if ([] : List Keyword).isEmpty then 0 else 1) < 30)) = true := by rfl)
    (hline : (apos.endLine == cpos.line) = true := by rfl) (hs : starEach (e :: es) X.env = (false, eval e X.env) :: starEach es X.env := by rfl) (hplain : (backTo cpos (starEach es X.env)).any (·.1) = false := by rfl) :
    PE X (.Call (.Attribute o name apos) (e :: es) [] cpos) (tBM X.K T r to t) := by
  intro pins s σ H Q I h
  refine wpAny_Call_method_late hbase hfew hline rfl (thn (ho pins s σ H _ I h) fun v s1 ⟨x, H1, I1, r1, ty, q1⟩ => ?_)
  obtain ⟨h1, h2⟩ := tyV_is I1 r1 ty
  refine ⟨T, id, pa, slot, hty, h1, h2, ?_⟩
  have hA := ha cpos pins s1 σ H1 _ I1 q1
  rw [hs] at hA ⊢
  refine Calls.callWith_builtin (by show (false || (backTo cpos (starEach es X.env)).any (·.1)) = false; rw [hplain] <;> rfl) (Calls.evalArgs_plain ?_)
  exact thn hA fun us s2 ⟨vs, H2, I2, r2, q2⟩ => hm pins s2 σ H2 x vs v us Q I2 r1 r2 q2
/- xs.append(e), list.index on a module's tuple .. are MtR facts of 06m -/
end
end L2

namespace L2
open PySem PySem.Spec PyProof.Rows

def MtM (X : Cx) (id : String) (r : V → List V → Hp → VK → Prop) : Prop :=
  ∀ (pins : List (Addr × Obj)) (s : Shared) (σ : St) (H : Hp) (x : V) (xs : List V) (v : Value) (us : List Value) (Q : VK), Inv X pins σ H s → RelV x v → Vals xs us → r x xs H Q →
    wpAny (model X.prog X.w) X.A (call (.builtin id) (v :: us)) (EP X pins σ Q) X.xe s

/-! ### lists of values -/
theorem Vals.one : ∀ {x : V} {us : List Value}, Vals [x] us → ∃ u, us = [u] ∧ RelV x u
  | _, _, .cons r .nil => ⟨_, rfl, r⟩
theorem Vals.rep {xs : List V} {us : List Value} (h : Vals xs us) : ∀ k : Nat, Vals (List.replicate k xs).flatten (List.replicate k us).flatten
  | 0 => .nil
  | k + 1 => by
    rw [List.replicate_succ, List.replicate_succ, List.flatten_cons, List.flatten_cons]
    exact Vals.append h (Vals.rep h k)
theorem foldl_rep (its : List Value) : ∀ (k : Nat) (acc : List Value),
    List.foldl (fun x1 x2 => x1 ++ x2) acc.toArray (List.replicate k its.toArray) = (acc ++ (List.replicate k its).flatten).toArray
  | 0, acc => by simp
  | k + 1, acc => by
    have e : acc.toArray ++ its.toArray = (acc ++ its).toArray := by simp
    have e2 : (acc ++ its) ++ (List.replicate k its).flatten = acc ++ (List.replicate (k + 1) its).flatten := by
      rw [List.replicate_succ, List.flatten_cons, List.append_assoc]
    rw [← e2, ← foldl_rep its k (acc ++ its), ← e, List.replicate_succ, List.foldl_cons]

section
variable {X : Cx} {pins : List (Addr × Obj)} {σ : St} {H : Hp} {s : Shared} {l b : Addr} {xs ys zs : List V}

/-! ### the two steps: a tracked list is rewritten, a new list is laid -/
theorem Inv.lset {its its' : List Value} {n : Nat} {f : Array Value → Array Value} {t' : Nat} (I : Inv X pins σ H s) (hH : H l = some (.lst xs))
    (e : s.heap.get? l = some { cls := .type "list", data := .seq its.toArray n }) (hf : f its.toArray = its'.toArray) (hv : Vals ys its') (hz : ys.length ≤ sizeLine) :
    Inv X pins σ (upd H l (.lst ys)) { s with heap := s.heap.update l (Obj.mapSeq f), toks := t' } := by
  have q := PySem.IsL.update e f
  rw [hf] at q
  refine I.write (x := l) (e := l) (by rw [hH]; exact trivial) (.inl rfl) (fun b' u hb hu => (Heap.get?_update_other s.heap (Obj.mapSeq f) (Ne.symm hb)).trans hu) ⟨_, q⟩ ?_
  exact ⟨hz, its', _, hv, q⟩
theorem Inv.lnew {its : List Value} {t' : Nat} (I : Inv X pins σ H s) (hv : Vals ys its) (hz : ys.length ≤ sizeLine) :
    Inv X pins σ (upd H s.heap.objs.size (.lst ys)) { s with heap := s.heap.push { cls := .type "list", data := .seq its.toArray }, toks := t' } :=
  I.laid (fun _ _ q => Heap.get?_push_of_some _ q) (Nat.le_refl _) ⟨hz, its, 0, hv, Heap.get?_push_size _ rfl⟩
theorem Inv.fresh (I : Inv X pins σ H s) : H s.heap.objs.size = none := I.hok.fresh (Nat.le_refl _)
theorem Inv.lstM (I : Inv X pins σ H s) (hH : H l = some (.lst xs)) : xs.length ≤ sizeLine ∧ ∃ (its : List Value) (n : Nat), Vals xs its ∧ xs.length = its.length ∧ s.heap.get? l = some { cls := .type "list", data := .seq its.toArray n } := by
  obtain ⟨z, its, n, r, e⟩ := I.hok l _ hH
  exact ⟨z, its, n, r, r.length, e⟩

theorem notLongL {n : Nat} (h : n ≤ sizeLine) : Builtin.List.listTooLong n = false := by
  unfold Builtin.List.listTooLong
  exact decide_eq_false (by omega)
end

section
variable {X : Cx}

/-! ### methods -/
def rAppend : V → List V → Hp → VK → Prop := fun x vs H Q => ∃ l xs y, x = .ref l ∧ vs = [y] ∧ H l = some (.lst xs) ∧ xs.length < sizeLine ∧ Q .non (upd H l (.lst (xs ++ [y])))
theorem mt_append : MtM X "list.append" rAppend := by
  intro pins s σ H x vs v us Q I rx rv h
  obtain ⟨l, xs, y, rfl, rfl, hH, hz, q⟩ := h
  cases rx
  obtain ⟨u, rfl, ru⟩ := rv.one
  obtain ⟨z, its, n, r, hl, e⟩ := I.lstM hH
  refine call_meets F.slot_list_append ⟨_, e, rfl⟩ F.entry_list_append (F.args_list_append_2 _ _) (PySem.list_append l its.toArray n u (by rw [List.size_toArray]; omega)) ⟨e, ?_⟩
  refine ⟨.non, _, I.lset (its' := its ++ [u]) hH e (by simp) (r.append (.cons ru .nil)) ?_, rfl, q⟩
  rw [List.length_append, List.length_singleton]
  omega

def rExtend : V → List V → Hp → VK → Prop := fun x vs H Q => ∃ l b xs zs, x = .ref l ∧ vs = [.ref b] ∧ H l = some (.lst xs) ∧ H b = some (.lst zs) ∧ xs.length + zs.length ≤ sizeLine ∧ Q .non (upd H l (.lst (xs ++ zs)))
theorem mt_extend : MtM X "list.extend" rExtend := by
  intro pins s σ H x vs v us Q I rx rv h
  obtain ⟨l, b, xs, zs, rfl, rfl, hH, hB, hz, q⟩ := h
  cases rx
  obtain ⟨u, rfl, ru⟩ := rv.one
  cases ru
  obtain ⟨z, its, n, r, hl, e⟩ := I.lstM hH
  obtain ⟨z2, its2, n2, r2, hl2, e2⟩ := I.lstM hB
  have hsz : its.toArray.size + its2.toArray.size ≤ sizeLine := by rw [List.size_toArray, List.size_toArray]; omega
  have hlong : ¬ (!its.toArray.isEmpty && Builtin.List.listTooLong (its.toArray.size + its2.toArray.size)) = true := by
    rw [notLongL hsz, Bool.and_false]
    exact Bool.false_ne_true
  refine call_meets F.slot_list_extend ⟨_, e, rfl⟩ F.entry_list_extend (F.args_list_extend_2 _ _)
    (AutoSeq1.list_extend_list_list_0 l its.toArray n b its2.toArray n2 hlong (by rw [List.size_toArray]; omega) (by omega)) ⟨e, e2, ?_⟩
  refine ⟨.non, _, I.lset (its' := its ++ its2) hH e (by simp) (r.append r2) ?_, rfl, q⟩
  rw [List.length_append]
  omega





/-! ### list + list, list += list, list * int -/
def rCat : R2 := fun x y H Q => ∃ l b xs zs, x = .ref l ∧ y = .ref b ∧ H l = some (.lst xs) ∧ H b = some (.lst zs) ∧ xs.length + zs.length ≤ sizeLine ∧ ∀ p, H p = none → Q (.ref p) (upd H p (.lst (xs ++ zs)))
theorem op_cat : OpR X (binaryOp .Add) rCat := by
  intro pins s σ H x y v u Q I rx ry h
  obtain ⟨l, b, xs, zs, rfl, rfl, hH, hB, hz, q⟩ := h
  cases rx
  cases ry
  obtain ⟨z, its, n, r, hl, e⟩ := I.lstM hH
  obtain ⟨z2, its2, n2, r2, hl2, e2⟩ := I.lstM hB
  refine PySem.P.add_list e e2 ?_ (by rw [List.size_toArray, List.size_toArray]; omega)
  have ea : its.toArray ++ its2.toArray = (its ++ its2).toArray := by simp
  rw [ea]
  exact ⟨.ref _, _, I.lnew (t' := s.toks) (r.append r2) (by rw [List.length_append]; omega), rfl, q _ I.fresh⟩
/-- a list times an int (a negative one is nothing) -/
def rRep : R2 := fun x y H Q => ∃ l k xs, x = .ref l ∧ y = .int k ∧ H l = some (.lst xs) ∧ -(2 ^ 63) ≤ k ∧ k < 2 ^ 63 ∧ xs.length * k.toNat ≤ sizeLine ∧
  ∀ p, H p = none → Q (.ref p) (upd H p (.lst (List.replicate k.toNat xs).flatten))
theorem len_rep {α : Type} (xs : List α) (k : Nat) : (List.replicate k xs).flatten.length = k * xs.length := by
  induction k with
  | zero => simp
  | succ k ih => rw [List.replicate_succ, List.flatten_cons, List.length_append, ih, Nat.succ_mul, Nat.add_comm]
theorem op_rep : OpR X (binaryOp .Mult) rRep := by
  intro pins s σ H x y v u Q I rx ry h
  obtain ⟨l, k, xs, rfl, rfl, hH, h1, h2, hz, q⟩ := h
  cases rx
  obtain ⟨t, rfl⟩ := ry
  obtain ⟨z, its, n, r, hl, e⟩ := I.lstM hH
  have hlen : its.toArray.size * k.toNat ≤ sizeLine := by rw [List.size_toArray, ← hl]; exact hz
  have hcap : ¬ its.toArray.size * k.toNat > (2 ^ 63 - 1) / 8 := by
    have : (sizeLine : Nat) ≤ (2 ^ 63 - 1) / 8 := by decide
    omega
  have hfit : ¬ (!Builtin.List.listFitsIndex k) = true := by
    rw [fitsIndex_both h1 h2]
    exact Bool.false_ne_true
  have hlong : ¬ Builtin.List.listTooLong (its.toArray.size * k.toNat) = true := by
    rw [notLongL hlen]
    exact Bool.false_ne_true
  have hnew : List.foldl (fun x1 x2 => x1 ++ x2) #[] (List.replicate (if its.toArray.isEmpty = true then 0 else k.toNat) its.toArray) = (List.replicate k.toNat its).flatten.toArray := by
    have f0 : ∀ m : Nat, List.foldl (fun x1 x2 => x1 ++ x2) #[] (List.replicate m its.toArray) = (List.replicate m its).flatten.toArray := fun m => by
      have := foldl_rep its m []
      rw [List.nil_append] at this
      exact this
    rw [f0]
    cases its with
    | nil => simp
    | cons a r' => rw [if_neg (by simp)]
  refine wpAny_binaryOp_repeat_ref (T := "list") (U := "int") (by decide) ⟨_, e, rfl⟩ (fun s' => typeIs_int s' k t) noFill_list_mul F.fills_int_mul F.slot_int_rmul repeat_list F.slot_int_index.lookup
    (call_meets F.slot_int_rmul (typeIs_int s k t) F.entry_int_rmul (F.args_int_rmul_2 _ _) (int___rmul___int_list k t l its.toArray n)
      ⟨e, rfl, ⟨_, e, rfl⟩, call_meets F.slot_list_mul ⟨_, e, rfl⟩ F.entry_list_mul (F.args_list_mul_2 _ _) (AutoListH.list___mul___list_int_3 l its.toArray n k t hfit hcap hlong) ⟨e, ?_⟩⟩)
  rw [hnew]
  exact ⟨.ref _, _, I.lnew (t' := s.toks) (r.rep k.toNat) (by rw [len_rep, Nat.mul_comm]; exact hz), rfl, q _ I.fresh⟩

/-! ### del xs[i] -/
end

/-! ### xs[a:b] = ys -/
section
variable {prog : Program} {w : World} {A : Around} {E : Value → Shared → Prop} {s : Shared}
set_option maxRecDepth 100000 in
end

section
variable {X : Cx}
end
end L2

namespace Att
open PySem PySem.W PySem.Calls PyProof.Rows

/-! ### the script -/
theorem ints_of_wellAll {P : Params} {h : Heap} : ∀ (ns : List Int) (vs : List Value), WellAll P h vs (ns.map WData.int) → IntsAre vs ns := by
  intro ns
  induction ns with
  | nil =>
    intro vs w
    rw [List.map_nil] at w
    cases w
    exact .nil
  | cons n ns ih =>
    intro vs w
    rw [List.map_cons] at w
    cases w with
    | cons a b =>
      cases a
      exact .cons _ _ (ih _ b)

theorem script_of {l : OpenLaw} {n : Nat} (hn : l.most = some n) {P : Params} {h : Heap} {args : List WData} {vals : List Value}
    (hpre : l.row.toRowW.claim.pre args = true) (hwl : WellAll P h vals args) :
    ∃ a vs ns, vals = [Value.ref a] ∧ args = [WData.list (ns.map WData.int)] ∧ h.get? a = some { cls := .type "list", data := .seq vs.toArray } ∧ IntsAre vs ns ∧ ns.length ≤ n := by
  have hsh : WShape.hasAll [] args [.list .int] = true := (pre_splitW hpre).1
  have hc : l.pre.holds [] { args := args } = true := (pre_splitW hpre).2
  obtain ⟨d, r, rfl, h1, h2⟩ := hasAllW_cons hsh
  obtain rfl := hasAllW_nil h2
  obtain ⟨xs, rfl, h3⟩ := hasW_list h1
  obtain ⟨ns, rfl⟩ := items_int h3
  have hlen : ns.length ≤ n := by
    unfold OpenLaw.pre at hc
    have h4 : (WTm.not (.lt (.lit (.int (n : Int))) (.len (.arg 0)))).holds [] { args := [.list (ns.map .int)] } = true := by
      have h4 := (holds_andW hc).1
      rw [hn] at h4
      exact h4
    have h5 := condW_of h4 (w_not (w_lt w_lit (w_len_list (w_arg rfl))))
    rw [List.length_map] at h5
    refine Nat.le_of_not_lt fun q => ?_
    have q' : (n : Int) < ((ns.length : Nat) : Int) := by omega
    first
      | (rw [decide_eq_true q'] at h5; exact absurd h5 (by decide))
      | (simp at h5; omega)
  cases hwl with
  | cons w1 w2 =>
    cases w2
    cases w1 with
    | list ho hall => exact ⟨_, _, ns, rfl, rfl, ho, ints_of_wellAll ns _ hall, hlen⟩

theorem post_true (l : OpenLaw) (args : List WData) : l.row.toRowW.claim.post args (.bool true) args = true :=
  postW_of (r := l.row.toRowW) (X := (true == true))
    (show WShape.has [] (.bool true) .bool = true by first | rfl | decide | simp [WShape.has, WShape.arms, WShape.armsAll])
    (show (WTm.eq .res (.lit (.bool true))).value [] { args := args, res := some (.bool true), after := args } = some (.bool (true == true)) from w_eq_bool (w_res rfl) w_lit) rfl

/-! ### the attachment: holds_open's last premise (the goal 'hc' behind k_head) from a wpAny of the law's body -/

/-- the same from a codeAny of the CALL (for a layer whose function contracts speak of calls) -/
theorem attach_call {l : OpenLaw} {n : Nat} {q : Program} {loose : List Str} {XP : (Str → Option Value) → Heap → Prop} {YP : World → Heap → Prop} {d : DefRec}
    (hn : l.most = some n) (hdf : d.params.defaults = [])
    (call : ∀ (w : World) (s₀ s₁ : Shared) (mg mb : Str → Option Value) (fa : Addr) (o : Obj) (pm cd doc : Value) (a : Addr) (vs : List Value) (ns : List Int),
      Ground q loose [] XP w s₀ mg mb s₁.heap → YP w s₁.heap →
      s₁.heap.get? fa = some o → o.data = .func (docDef d.name d.params d.body d.scope pm cd doc) → s₁.heap.CodeRec cd d.name → mg d.name = some (.ref fa) →
      s₁.heap.get? a = some { cls := .type "list", data := .seq vs.toArray } → IntsAre vs ns → ns.length ≤ n → s₁.gens = #[] →
      codeAny (model l.prog w) callerA (.call (.ref fa) ⟨[.ref a], []⟩) (fun r s' => r = .ok (.ret (.bool true)) ∧ OldK s₁.heap s'.heap ∧ s'.os = s₁.os ∧ AllBare s'.gens) s₁) :
    WalkO q loose XP YP l.row.toRowW d [] (fun f vs => PySem.call f vs) := by
  intro w s₀ s₁ mg mb G Y fa o pm cd doc dV kV ho hd hcd hD hmg hg args vals as hpre hlay hrd hwl hlo
  obtain rfl : dV = .none := Dflts.none hD hdf
  obtain rfl : kV = .none := Dflts.noKw hD
  obtain ⟨a, vs, ns, rfl, rfl, hobj, hints, hlen⟩ := script_of hn hpre hwl
  refine enter_call (codeAny_mono (call w s₀ s₁ mg mb fa o pm cd doc a vs ns G Y ho (fd_plain hd) hcd hmg hobj hints hlen hg) fun r s' hq => ?_)
  obtain ⟨rfl, h2, h3, h4⟩ := hq
  exact ⟨.inl ⟨.bool true, .bool true, [], rfl, fun _ => rfl, .bool true, post_true l _, fun _ => ⟨List.Pairwise.nil, fun _ hm => (nomatch hm)⟩⟩, h2, h3, h4⟩


/-! ### rules over ANY heap (no ledger) from facts about the written part K: the library's own take a ledger (News) for what they write -/
section
variable {prog : Program} {w : World} {A : Around} {E : Value → Shared → Prop} {s : Shared} {K : Frag}





/-! the whole heap as the ledger: makes every rule that writes through a ledger a rule over any heap -/

end
end Att

namespace L2
open PySem PySem.Spec PyProof.Rows

theorem vals_ints : ∀ {vs : List Value} {ns : List Int}, IntsAre vs ns → Vals (ns.map V.int) vs
  | _, _, .nil => .nil
  | _, _, .cons n t h => .cons ⟨t, rfl⟩ (vals_ints h)

/-- nothing is tracked but the script, known to the object (or it is an object of the module) -/
def Only (H : Hp) : Prop := ∀ b, H b = none ∨ ∃ o xs, H b = some (.frz o (.lst xs))

/-- THE HEAD: the law's promise, at the heap behind the top. F, the promise of the law's def, may use that base is part of the heap (so K.In base, base.Ns mainGlobals mg stand in Mod) -/
theorem law_call {P : Program} {w : World} {K : PySem.W.Frag} {mg mb : Str → Option Value} {CX : CXT} {k : Nat} {fa a : Addr} {fd : FuncData} {x : Str} {sp : Sp} {s₁ : Shared} {vs : List Value} {ns : List Int}
    (KX : K.In s₁.heap) (hns : s₁.heap.Ns mainGlobals mg) (hb : s₁.heap.Ns builtinsNs mb) (hbb : ∀ x : Str, x ≠ "__name__" → mb x = bootBuiltins x) (hlim : s₁.heap.NoLimit) (hg : s₁.gens = #[])
    (ha : s₁.heap.get? a = some { cls := .type "list", data := .seq vs.toArray }) (hi : IntsAre vs ns) (hl : ns.length ≤ sizeLine) (hr : Room k callerA)
    (F : ∀ base : Heap, K.In base → base.Ns mainGlobals mg → FnOk P w K mg base CX k fa fd [x] sp) (hbind : ∀ (s : Shared) (u : Value), BindsTo s fd ⟨[u], []⟩ [(x, u)])
    (hsp : ∀ H : Hp, Only H → SqL K H a (ns.map V.int) → sp [.ref a] H (fun v _ => v = .bl true) fun _ _ _ => False)
    (hCX : ∀ H e s', CX [] H s₁ (fun _ _ _ => False) e s' → False) :
    codeAny (model P w) callerA (.call (.ref fa) ⟨[.ref a], []⟩) (fun r s' => r = .ok (.ret (.bool true)) ∧ OldK s₁.heap s'.heap ∧ s'.os = s₁.os ∧ AllBare s'.gens) s₁ := by
  have rv := vals_ints hi
  have lenV := hi.length
  -- from an abstract heap in which nothing but the script may be tracked
  have core : ∀ H : Hp, Only H → SqL K H a (ns.map V.int) → HOk P w H s₁.heap → (∀ b, H b ≠ none → b = a) → (H a ≠ none → K.lookup a = none) →
      codeAny (model P w) callerA (.call (.ref fa) ⟨[.ref a], []⟩) (fun r s' => r = .ok (.ret (.bool true)) ∧ OldK s₁.heap s'.heap ∧ s'.os = s₁.os ∧ AllBare s'.gens) s₁ := by
    intro H hO hS hok hA hK
    have base_of : ∀ {b : Addr} {o : Obj}, s₁.heap.get? b = some o → H b = none → (hidT s₁.heap H).get? b = some o := fun e n => hidT_get e n
    have noA : ∀ {b : Addr} {o : Obj} {es : Array DictEntry} {ep : Nat}, s₁.heap.get? b = some o → o.data = .dict es ep → H b = none := fun {b o es ep} e d => by
      cases q : H b with
      | none => rfl
      | some u =>
        have e' : b = a := hA b (by rw [q]; simp)
        subst e'
        rw [ha] at e; cases e
        have d' : Data.seq vs.toArray _ = Data.dict es ep := d
        cases d'
    have nsK : ∀ {b : Addr} {m : Str → Option Value}, s₁.heap.Ns b m → (hidT s₁.heap H).Ns b m := fun {b m} ⟨o, es, ep, e, d, r⟩ => ⟨o, es, ep, base_of e (noA e d), d, r⟩
    have hKb : K.In (hidT s₁.heap H) := fun b o e => base_of (KX b o e) (by
      cases q : H b with
      | none => rfl
      | some u =>
        have e' : b = a := hA b (by rw [q]; simp)
        subst e'
        rw [hK (by rw [q]; simp)] at e; cases e)
    have hM : Mod K mg (hidT s₁.heap H) := ⟨hKb, nsK hns, ⟨mb, nsK hb, hbb⟩, let ⟨mc, h1, h2⟩ := hlim; ⟨mc, nsK h1, h2⟩⟩
    have e0 : Env0 P w K mg (hidT s₁.heap H) callerA [] s₁ H := ⟨rfl, hM, fun b o e => of_hidT e, Nat.le_of_eq (hidT_size _ _), trivial, fun b hb => absurd (show b ∈ ([] : List Addr) from hb) (by simp), hok, .of_eq hg⟩
    refine codeAny_mono ((F _ hKb (nsK hns)).run callerA [] s₁ H ⟨[.ref a], []⟩ [.ref a] [.ref a] _ _ hr e0 (hbind s₁ (.ref a)) (.cons rfl .nil) (hsp H hO hS)) fun r s' h => ?_
    cases r with
    | error e => exact (hCX H e s' h).elim
    | ok fl =>
      cases fl with
      | next => exact False.elim h
      | brk => exact False.elim h
      | cont => exact False.elim h
      | ret u =>
        obtain ⟨v, H', os, bare, un, hok', r', q⟩ := h
        have q' : v = .bl true := q
        subst q'
        obtain rfl : u = Value.bool true := r'
        refine ⟨rfl, OldK.of_keep fun b o e => ?_, os, bare⟩
        cases q : H b with
        | none => exact un.keep b o e q (by intro z; exact absurd (show b ∈ ([] : List Addr) from z) (by simp)) (by simp)
        | some u =>
          rcases hO b with z | ⟨ob, xs, z⟩
          · rw [q] at z; cases z
          · have z2 := un.frzs b ob _ z
            obtain ⟨e1, _⟩ := hok b _ z
            obtain ⟨e2, _⟩ := hok' b _ z2
            rw [e] at e1; cases e1
            exact e2
  cases hk : K.lookup a with
  | some o =>
    -- the script is one of the module's own objects
    have e := KX a o hk
    rw [ha] at e
    cases e
    refine core (fun _ => none) (fun _ => .inl rfl) (.inr ⟨_, vs.toArray, _, hk, rfl, rfl, rfl, by rw [List.size_toArray, lenV]; exact hl, by simpa using rv⟩) (fun b u z => by have z' : (none : Option HO) = some u := z; cases z') (fun b z => absurd rfl z) fun z => absurd rfl z
  | none =>
    refine core (fun b => if b = a then some (.frz { cls := .type "list", data := .seq vs.toArray } (.lst (ns.map V.int))) else none) (fun b => ?_) (.inl (.inr ⟨{ cls := .type "list", data := .seq vs.toArray }, if_pos rfl⟩)) (fun b u z => ?_) (fun b z => ?_) fun _ => hk
    · by_cases hb : b = a
      · exact .inr ⟨_, _, if_pos hb⟩
      · exact .inl (if_neg hb)
    · by_cases hb : b = a
      · have z' := (if_pos hb).symm.trans z
        cases z'
        subst hb
        exact ⟨ha, by rw [List.length_map]; exact hl, vs, _, rv, ha⟩
      · have z' := (if_neg hb).symm.trans z
        cases z'
    · by_cases hb : b = a
      · exact hb
      · exact absurd (if_neg hb) z
end L2

namespace L2
open PySem PySem.Spec PyProof.Rows


/-- the goal that k_head leaves (case hc), from the law's promise. F gives the function object fd (K's own) once, then the promise over every base -/
theorem walk_of {l : PySem.W.OpenLaw} {n k : Nat} {q : Program} {loose : List Str} {XP : (Str → Option Value) → Heap → Prop} {YP : World → Heap → Prop} {d : DefRec} {K : Params → PySem.W.Frag} {CX : World → CXT} {sp : World → Sp} {x : Str}
    (hn : l.most = some n) (hn2 : n ≤ sizeLine) (hdf : d.params.defaults = []) (hr : Room k callerA)
    (hY : ∀ (w : World) (h : Heap), YP w h → (K w.params).In h)
    (F : ∀ (w : World) (mg : Str → Option Value) (fa : Addr) (h : Heap), (K w.params).In h → h.Ns mainGlobals mg → mg d.name = some (.ref fa) →
      ∃ fd : FuncData, (∀ (s : Shared) (u : Value), BindsTo s fd ⟨[u], []⟩ [(x, u)]) ∧
        ∀ base : Heap, (K w.params).In base → base.Ns mainGlobals mg → FnOk l.prog w (K w.params) mg base (CX w) k fa fd [x] (sp w))
    (hsp : ∀ (w : World) (H : Hp) (a : Addr) (ns : List Int), ns.length ≤ n → Only H → SqL (K w.params) H a (ns.map V.int) → sp w [.ref a] H (fun v _ => v = .bl true) fun _ _ _ => False)
    (hCX : ∀ (w : World) (H : Hp) (s : Shared) (e : Value) (s' : Shared), CX w [] H s (fun _ _ _ => False) e s' → False) :
    PySem.W.WalkO q loose XP YP l.row.toRowW d [] (fun f vs => PySem.call f vs) := by
  refine Att.attach_call hn hdf fun w s₀ s₁ mg mb fa o pm cd doc a vs ns G Y ho hd hcd hmg hobj hints hlen hg => ?_
  have KX := hY w _ Y
  obtain ⟨fd, hb, hF⟩ := F w mg fa _ KX G.T.g hmg
  exact law_call KX G.T.g G.T.b G.T.builtins G.T.nolimit hg hobj hints (Nat.le_trans hlen hn2) hr hF hb (fun H hO hS => hsp w H a ns hlen hO hS) fun H e s' => hCX w H s₁ e s'
end L2


/-! SHORT WORDS over the layer: a def of the text, its body, what a loop and a test want. -/
namespace L2
open PySem PySem.Spec PyProof.Rows

/-! ### the text by places -/
/-- the j-th statement of a class's body -/
def inClass (s : Stmt) (j : Nat) : Stmt := match s with
  | .ClassDef _ _ _ body _ _ _ _ _ _ _ => body.getD j (.Pass ⟨0, 0, 0, 0⟩)
  | _ => .Pass ⟨0, 0, 0, 0⟩
def defArgs (s : Stmt) : Arguments := match s with
  | .FunctionDef _ a _ _ _ _ _ _ _ _ => a
  | _ => { posonlyargs := [], args := [], vararg := none, kwonlyargs := [], kw_defaults := [], kwarg := none, defaults := [] }
def defBody (s : Stmt) : List Stmt := match s with
  | .FunctionDef _ _ b _ _ _ _ _ _ _ => b
  | _ => []
def defScope (s : Stmt) : Scope := match s with
  | .FunctionDef _ _ _ _ _ _ sc _ _ _ => sc
  | _ => { kind := .function, names := [], isGenerator := false, isCoroutine := false }

/-! ### no exception leaves a def -/
abbrev CX0 : CXT := fun _ _ _ _ _ _ => False
abbrev E0 : XK := fun _ _ _ => False
theorem pass0 {X : Cx} : Passes CX0 X E0 := fun _ _ _ _ _ _ _ h => h.elim

/-! ### a def (or method) of the text as it stands behind the top -/
structure Fun (K : PySem.W.Frag) (x qual : Str) (st : Stmt) (f : Addr) (fd : FuncData) : Prop where
  ex : ∃ (oc : Value) (od : Option Addr) (kV doc pm : Value) (an : Option Addr) (cdv ct : Value) (osl : Array (Option Value)),
    fd = PySem.W.fnOf x qual (defArgs st) (defBody st) (defScope st) .none kV doc pm an cdv ct ∧ K.lookup f = some ⟨oc, od, .func fd, osl⟩ ∧ PySem.W.codeIn K cdv qual = true
  kp : PySem.W.keepIn K (.ref f) = true
section
variable {P : Program} {w : World} {K : PySem.W.Frag} {mg : Str → Option Value} {base : Heap}
/-- THE RULE for a def: its body as a term of rules, and the reading of that term -/
theorem Fun.ok {x qual : Str} {st : Stmt} {f : Addr} {fd : FuncData} {N ps : List Str} {k : Nat} {sp : Sp} (F : Fun K x qual st f fd) (S : FnScope N ps (defScope st)) (len : ∀ vs H Q E, sp vs H Q E → vs.length = ps.length)
    (hbody : ∀ (cdv : Value) (A : Around) (outer : List Env) (s : Shared) (H : Hp) (vs : List V) (Q : VK) (E : XK), Room k (A.deeper (envOfC qual (defScope st) s.heap.objs.size f cdv)) → sp vs H Q E →
      ∃ t, PSs (cxOf CX0 P w K mg base N qual (defScope st) f cdv A outer s H E).nox (defBody st) t ∧ t { nx := fun _ H' => Q .non H', rt := Q } (start N vs) H) : FnOk P w K mg base CX0 (k + 1) f fd ps sp := by
  obtain ⟨oc, od, kV, doc, pm, an, cdv, ct, osl, rfl, lk, hcd⟩ := F.ex
  refine fn_of lk hcd S len fun A outer s H vs Q E hr hsp => ?_
  obtain ⟨t, h, q⟩ := hbody cdv A outer s H vs Q E hr hsp
  exact ⟨t, h.nox, q⟩
/-- how its arguments bind (no defaults): h is «fun _ _ _ _ _ _ us hl => match us, hl with | [_, _], _ => rfl», one _ a parameter -/
theorem Fun.binds {x qual : Str} {st : Stmt} {f : Addr} {fd : FuncData} {ps : List Str} (F : Fun K x qual st f fd)
    (h : ∀ (kV doc pm : Value) (an : Option Addr) (cdv ct : Value) (us : List Value), us.length = ps.length → bindArgs (PySem.W.fnOf x qual (defArgs st) (defBody st) (defScope st) .none kV doc pm an cdv ct) ⟨us, []⟩ = pure (ps.zip us)) : Binds K fd ps [] := by
  obtain ⟨oc, od, kV, doc, pm, an, cdv, ct, osl, rfl, lk, hcd⟩ := F.ex
  exact .all (h kV doc pm an cdv ct)
theorem fun_mk {x qual : Str} {st : Stmt} {f : Addr} {oc : Value} {od an : Option Addr} {osl : Array (Option Value)} {kV doc pm cdv ct : Value} (l : K.lookup f = some ⟨oc, od, .func (PySem.W.fnOf x qual (defArgs st) (defBody st) (defScope st) .none kV doc pm an cdv ct), osl⟩)
    (c : PySem.W.codeIn K cdv qual = true) (k : PySem.W.keepIn K (.ref f) = true) : Fun K x qual st f (PySem.W.fnOf x qual (defArgs st) (defBody st) (defScope st) .none kV doc pm an cdv ct) := ⟨⟨oc, od, kV, doc, pm, an, cdv, ct, osl, rfl, l, c⟩, k⟩
end
theorem small1000 {n : Nat} (h : n ≤ 1000) : n < sizeLine := Nat.lt_of_le_of_lt h (by decide)

/-! ### expressions in short: the name that stands in the i-th slot -/
section
variable {X : Cx}
theorem pv (i : Nat) {x : Str} {pos : Pos} (hN : X.N[i]? = some x := by rfl) (hv : Vis X.env.scope x := by first | exact Or.inl rfl | exact Or.inr (Or.inl rfl) | exact Or.inr (Or.inr rfl)) (hd : (x == ("__debug__" : Str)) = false := by decide)
    (hcd : (x == ("__classdict__" : Str)) = false := by decide) : PE X (.Name x pos) (tVar i) := pe_var hN hv hd hcd
end

/-! ### tests -/
theorem iteF {A B : Prop} (h : B) : if false = true then A else B := by
  rw [if_neg Bool.false_ne_true]
  exact h
theorem iteT {A B : Prop} (h : A) : if true = true then A else B := by
  rw [if_pos rfl]
  exact h
theorem ite2 {c A B : Prop} [Decidable c] (h1 : c → A) (h2 : ¬ c → B) : if c then A else B := by
  by_cases h : c
  · rw [if_pos h]
    exact h1 h
  · rw [if_neg h]
    exact h2 h

/-! ### heaps -/
/-- all that was tracked is as it was -/
def Same (H H' : Hp) : Prop := ∀ b o, H b = some o → H' b = some o
theorem Same.refl (H : Hp) : Same H H := fun _ _ h => h
theorem Same.trans {H H1 H2 : Hp} (a : Same H H1) (b : Same H1 H2) : Same H H2 := fun c o h => b c o (a c o h)
theorem Same.free {H H' : Hp} (e : Same H H') {l : Addr} (h : H' l = Option.none) : H l = Option.none := by
  cases q : H l with
  | none => rfl
  | some o =>
    rw [e l o q] at h
    cases h
theorem Same.seq {K : PySem.W.Frag} {H H' : Hp} {a : Addr} {xs : List V} (e : Same H H') (h : SqL K H a xs) : SqL K H' a xs := by
  rcases h with (h | ⟨o, h⟩) | h
  · exact .inl (.inl (e _ _ h))
  · exact .inl (.inr ⟨o, e _ _ h⟩)
  · exact .inr h

end L2

set_option Elab.async false
set_option linter.all false
set_option maxRecDepth 100000

namespace L2
open PySem PySem.Spec PyProof.Rows

/-! ### a comprehension's block -/
theorem lookup_relabel_free {env : Env} : ∀ {names : List (Str × NameKind)} {x : Str}, names.lookup x = some .free →
    ((names.map fun (n, k) => if (k == NameKind.free && env.scope.kind == .function && env.kindOf n == some .cell) then (n, NameKind.cell) else (n, k)).lookup x = some .cell ∨
    (names.map fun (n, k) => if (k == NameKind.free && env.scope.kind == .function && env.kindOf n == some .cell) then (n, NameKind.cell) else (n, k)).lookup x = some .free)
  | [], _, h => by simp at h
  | (n, k) :: r, x, h => by
    have ih := @lookup_relabel_free env r x
    show (List.lookup x ((if (k == NameKind.free && env.scope.kind == .function && env.kindOf n == some .cell) = true then (n, NameKind.cell) else (n, k)) :: _) = _ ∨ List.lookup x ((if (k == NameKind.free && env.scope.kind == .function && env.kindOf n == some .cell) = true then (n, NameKind.cell) else (n, k)) :: _) = _)
    cases hx : x == n with
    | true =>
      simp only [List.lookup_cons, hx] at h
      cases h
      by_cases hc : (NameKind.free == NameKind.free && env.scope.kind == .function && env.kindOf n == some .cell) = true
      · rw [if_pos hc]; left; simp only [List.lookup_cons, hx]
      · rw [if_neg hc]; right; simp only [List.lookup_cons, hx]
    | false =>
      simp only [List.lookup_cons, hx] at h
      by_cases hc : (k == NameKind.free && env.scope.kind == .function && env.kindOf n == some .cell) = true
      · rw [if_pos hc]; simp only [List.lookup_cons, hx]; exact ih h
      · rw [if_neg hc]; simp only [List.lookup_cons, hx]; exact ih h
theorem lookup_relabel_inv {env : Env} : ∀ {names : List (Str × NameKind)} {x : Str}, (∀ y ∈ names, y.2 ≠ .cell) →
    ((names.map fun (n, k) => if (k == NameKind.free && env.scope.kind == .function && env.kindOf n == some .cell) then (n, NameKind.cell) else (n, k)).lookup x = some .cell ∨
    (names.map fun (n, k) => if (k == NameKind.free && env.scope.kind == .function && env.kindOf n == some .cell) then (n, NameKind.cell) else (n, k)).lookup x = some .free) →
    (x, NameKind.free) ∈ names
  | [], _, _, h => by simp at h
  | (n, k) :: r, x, hn, h => by
    have ih := @lookup_relabel_inv env r x (fun y hy => hn y (List.mem_cons_of_mem _ hy))
    have hk : k ≠ .cell := hn (n, k) List.mem_cons_self
    have h' : (List.lookup x ((if (k == NameKind.free && env.scope.kind == .function && env.kindOf n == some .cell) = true then (n, NameKind.cell) else (n, k)) :: r.map fun (n, k) => if (k == NameKind.free && env.scope.kind == .function && env.kindOf n == some .cell) then (n, NameKind.cell) else (n, k)) = some NameKind.cell ∨ List.lookup x ((if (k == NameKind.free && env.scope.kind == .function && env.kindOf n == some .cell) = true then (n, NameKind.cell) else (n, k)) :: r.map fun (n, k) => if (k == NameKind.free && env.scope.kind == .function && env.kindOf n == some .cell) then (n, NameKind.cell) else (n, k)) = some NameKind.free) := h
    cases hx : x == n with
    | true =>
      have e : x = n := eq_of_beq hx
      subst e
      by_cases hc : (k == NameKind.free && env.scope.kind == .function && env.kindOf x == some .cell) = true
      · have hkf : k = .free := by
          have := hc
          simp only [Bool.and_eq_true] at this
          exact eq_of_beq this.1.1
        subst hkf; exact List.mem_cons_self
      · rw [if_neg hc] at h'
        simp only [List.lookup_cons, hx] at h'
        rcases h' with h' | h'
        · cases h'; exact absurd rfl hk
        · cases h'; exact List.mem_cons_self
    | false =>
      refine List.mem_cons_of_mem _ (ih ?_)
      by_cases hc : (k == NameKind.free && env.scope.kind == .function && env.kindOf n == some .cell) = true
      · rw [if_pos hc] at h'; simp only [List.lookup_cons, hx] at h'; exact h'
      · rw [if_neg hc] at h'; simp only [List.lookup_cons, hx] at h'; exact h'

theorem closure_go {env : Env} (f : Str × NameKind → List (Str × Addr) → Sem (ForInStep (List (Str × Addr))))
    (h1 : ∀ n k r, (k == NameKind.free) = false → f (n, k) r = pure (.yield r)) (h2 : ∀ n c r, env.cells.lookup n = some c → f (n, .free) r = pure (.yield ((n, c) :: r))) :
    ∀ (l : List (Str × NameKind)) (acc : List (Str × Addr)), (∀ y ∈ l, y.2 = .free → ∃ c, env.cells.lookup y.1 = some c) → (∀ n c, acc.lookup n = some c → env.cells.lookup n = some c) →
      ∃ cl, forIn l acc f = pure cl ∧ (∀ n c, cl.lookup n = some c → env.cells.lookup n = some c) ∧ (∀ y ∈ l, y.2 = .free → ∃ c, cl.lookup y.1 = some c) ∧ ∀ n c, acc.lookup n = some c → ∃ c', cl.lookup n = some c'
  | [], acc, _, ha => ⟨acc, rfl, ha, ⟨fun y hy _ => absurd hy List.not_mem_nil, fun n c e => ⟨c, e⟩⟩⟩
  | (n, k) :: r, acc, hl, ha => by
    cases hk : k == NameKind.free with
    | false =>
      obtain ⟨cl, e, p1, p2, p3⟩ := closure_go f h1 h2 r acc (fun y hy => hl y (List.mem_cons_of_mem _ hy)) ha
      refine ⟨cl, ?_, p1, fun y hy hf => ?_, p3⟩
      · rw [List.forIn_cons, h1 n k acc hk, pure_bind]; exact e
      · rcases List.mem_cons.mp hy with rfl | hy
        · rw [show k = .free from hf] at hk; cases hk
        · exact p2 y hy hf
    | true =>
      have hkf : k = .free := eq_of_beq hk
      subst hkf
      obtain ⟨c, hc⟩ := hl (n, .free) List.mem_cons_self rfl
      have hc : env.cells.lookup n = some c := hc
      obtain ⟨cl, e, p1, p2, p3⟩ := closure_go f h1 h2 r ((n, c) :: acc) (fun y hy => hl y (List.mem_cons_of_mem _ hy)) (fun m d hm => by
        rw [List.lookup_cons] at hm
        cases hx : m == n with
        | true => rw [hx] at hm; cases hm; rw [eq_of_beq hx]; exact hc
        | false => rw [hx] at hm; exact ha m d hm)
      have here : ∃ c', cl.lookup n = some c' := p3 n c (by rw [List.lookup_cons]; simp)
      refine ⟨cl, ?_, p1, fun y hy hf => ?_, fun m d hm => ?_⟩
      · rw [List.forIn_cons, h2 n c acc hc, pure_bind]; exact e
      · rcases List.mem_cons.mp hy with rfl | hy
        · exact here
        · exact p2 y hy hf
      · cases hx : m == n with
        | true => rw [eq_of_beq hx]; exact here
        | false => exact p3 m d (by rw [List.lookup_cons, hx]; exact hm)
theorem closure_ex {scope : Scope} {env : Env} (h : ∀ y ∈ scope.names, y.2 = .free → ∃ c, env.cells.lookup y.1 = some c) :
    ∃ cl, closureFor scope env = pure cl ∧ (∀ n c, cl.lookup n = some c → env.cells.lookup n = some c) ∧ ∀ y ∈ scope.names, y.2 = .free → ∃ c, cl.lookup y.1 = some c := by
  obtain ⟨cl, e, p1, p2, _⟩ := closure_go (env := env) (fun x r => if (x.2 == NameKind.free) = true then (cellOf env x.1 >>= fun a => pure (ForInStep.yield ((x.1, a) :: r))) else pure (ForInStep.yield r))
    (fun n k r hk => by simp only [hk, Bool.false_eq_true, if_false]) (fun n c r hc => by simp only [cellOf, hc, beq_self_eq_true, if_true, pure_bind]) scope.names [] h (fun n c e => by simp at e)
  refine ⟨cl, ?_, p1, p2⟩
  rw [show closureFor scope env = (forIn scope.names [] (fun (x : Str × NameKind) (r : List (Str × Addr)) => if (x.2 == NameKind.free) = true then (cellOf env x.1 >>= fun a => pure (ForInStep.yield ((x.1, a) :: r))) else pure (ForInStep.yield r)) >>= fun cs => pure cs) from rfl, e, pure_bind]

section
variable {prog : Program} {w : World} {A : Around} {R : Result → Shared → Prop} {s : Shared}
theorem codeAny_compLoop_own {elt target iter : Expr} {scope : Scope} {pos : Pos} {it acc : Value} {env : Env} (I : Nat → Shared → Prop)
    (turn : ∀ n s, I n s → wpAny (model prog w) A (pyNext it) (fun r s1 => match r with
      | none => R (.ok .next) s1
      | some v => wpAny (model prog w) A (letOwnedTupleGo target it v) (fun _ s0 => wpAny (model prog w) A (assign target env v) (fun _ s2 => wpAny (model prog w) A (eval elt env) (fun x s3 =>
          wpAny (model prog w) A (call (.builtin "list.append") [acc, x]) (fun _ s4 => ∃ m, m < n ∧ I m s4) (notedBy (model prog w) A env fun e s' => R (.error e) s') s3)
          (notedBy (model prog w) A env fun e s' => R (.error e) s') s2) (notedBy (model prog w) A env fun e s' => R (.error e) s') s0) (notedBy (model prog w) A env fun e s' => R (.error e) s') s1) (notedBy (model prog w) A env fun e s' => R (.error e) s') s)
    (n : Nat) (h : I n s) :
    codeAny (model prog w) A (.compLoop (.ListComp elt [⟨target, iter, [], 0⟩] scope pos) 0 it acc env) R s := by
  refine codeAny_loop rfl I (fun n s hI => ?_) n h
  show wpAny _ _ ((compTurn (.ListComp elt [⟨target, iter, [], 0⟩] scope pos) 0 it acc env).onRaise (fun x => do noteFrame x env; theTreesLotGoes x)) _ _ s
  refine wpAny_noted ?_
  rw [compTurn_list1]
  refine wpAny_bind (wpAny_standAt (wpAny_bind (wpAny_mono (turn n s hI) (fun r s1 h1 => ?_) fun _ _ h' => h')))
  cases r with
  | none => exact wpAny_pure h1
  | some v =>
    refine wpAny_bind (wpAny_mono h1 (fun _ s0 h0 => ?_) fun _ _ h' => h')
    exact wpAny_bind (wpAny_mono h0 (fun _ s2 h2 => wpAny_bind (wpAny_bind (wpAny_mono h2 (fun x s3 h3 => wpAny_bind (wpAny_mono h3
      (fun _ s4 h4 => wpAny_pure (wpAny_pure ⟨rfl, h4⟩)) fun _ _ h' => h')) fun _ _ h' => h'))) fun _ _ h' => h')
end

/-- the block's names at its start: own ones unset, then the free ones as they are outside -/
def blkStart (own : Nat) (fv : List Nat) (σ : St) : St := List.replicate own none ++ fv.map fun j => (σ[j]?).getD none
def Cx.blk (X : Cx) (scope : Scope) (N' : List Str) (cl : List (Str × Addr)) (s3 : Shared) (H3 : Hp) (ex : List Addr) : Cx :=
  { X with N := N', s₀ := s3, H₀ := H3, env := compEnvC scope cl s3.heap.objs.size X.env, outer := X.stack, stack := X.stack, ex := ex, fn := fun _ => false, pn := [], xe := fun _ _ => False }
/-- what of the text a block must have; N': own names first (own of them), then the free ones, which stand in the slots fv of the names outside -/
structure BlkScope (X : Cx) (scope : Scope) (N' : List Str) (own : Nat) (fv : List Nat) : Prop where
  kind : scope.kind = .function
  nocell : ∀ y ∈ scope.names, y.2 ≠ .cell
  names : ∀ y ∈ scope.names, y.2 = .local → scope.names.lookup y.1 = some .local
  free : ∀ y ∈ scope.names, y.2 = .free → X.env.kindOf y.1 = some .cell ∨ X.env.kindOf y.1 = some .free
  len : N'.length = own + fv.length
  fvs : ∀ i : Fin fv.length, ∃ x, N'[own + i.val]? = some x ∧ X.N[fv[i.val]]? = some x ∧ scope.names.lookup x = some .free ∧ (X.env.kindOf x = some .cell ∨ X.env.kindOf x = some .free)

theorem mem_of_lookup {x : Str} {k : NameKind} : ∀ {l : List (Str × NameKind)}, l.lookup x = some k → (x, k) ∈ l
  | [], h => by simp at h
  | (n, j) :: r, h => by
    rw [List.lookup_cons] at h
    cases hx : x == n with
    | true => rw [hx] at h; cases h; rw [eq_of_beq hx]; exact List.mem_cons_self
    | false => rw [hx] at h; exact List.mem_cons_of_mem _ (mem_of_lookup h)

section
variable {X : Cx} {scope : Scope} {N' : List Str} {own : Nat} {fv : List Nat} {cl : List (Str × Addr)} {pins : List (Addr × Obj)} {σ : St} {H2 : Hp} {s3 : Shared} {fp : List Addr} {h1 : Heap} {t1 : Nat} {m1 : Str → Option Value}
theorem blk_inv (sc : BlkScope X scope N' own fv) (I : Inv X pins σ H2 s3) (f : ∀ b ∈ fp, FpOk X pins H2 b) (fo : ∀ b ∈ fp, b < s3.heap.objs.size)
    (c1 : ∀ n c, cl.lookup n = some c → X.env.cells.lookup n = some c) (c2 : ∀ y ∈ scope.names, y.2 = .free → ∃ c, cl.lookup y.1 = some c)
    (hns : h1.Ns s3.heap.objs.size m1) (old : ∀ b o, s3.heap.get? b = some o → h1.get? b = some o) :
    Inv (X.blk scope N' cl s3 H2 fp) [] (blkStart own fv σ) H2 { s3 with heap := h1, toks := t1 } where
  ok := {
    mod := I.ok.mod
    kind := sc.kind
    glob := I.ok.glob
    blt := I.ok.blt
    above := Nat.le_refl _
    inj := fun x y c hx hy => I.ok.inj x y c (c1 x c hx) (c1 y c hy)
    has := fun x hx => c2 (x, .free) (lookup_relabel_inv (env := X.env) sc.nocell hx) rfl
    cab := fun x c h => nomatch h
    hd := I.ok.hd
    frames := I.ok.frames
    stk := .inl rfl
    exf := fun b hb => ⟨Nat.ne_of_lt (fo b hb), fun x c hc => (f b hb).2.2.2.2.1 x c (c1 x c hc)⟩
    bs := fun b o e => I.bs b o e
    bsz := Nat.le_trans I.ok.bsz I.sz
    noex := fun b o e hb => by
      rcases (f b hb).2.2.2.1 with h | h
      · exact I.ok.noex b o e h
      · exact Nat.lt_irrefl _ (Nat.lt_of_lt_of_le (Heap.lt_size e) (Nat.le_trans I.ok.bsz h))
    exfs := fun b hb hf => by
      rcases List.mem_cons.mp (I.stkSub b hf) with h | h
      · exact (f b hb).2.1 h
      · exact (f b hb).2.2.1 h
    funs := I.stack
    frf := I.stkFree }
  os := rfl
  bare := I.bare
  base := Un.kept old
  loc := by
    refine ⟨m1, hns, fun i x v hi hv _ => ?_⟩
    have hi' : N'[i]? = some x := hi
    unfold blkStart at hv
    by_cases hlt : i < own
    · rw [List.getElem?_append_left (by rw [List.length_replicate]; exact hlt), List.getElem?_replicate, if_pos hlt] at hv
      cases hv
    · rw [List.getElem?_append_right (by rw [List.length_replicate]; omega), List.length_replicate, List.getElem?_map] at hv
      cases hj : fv[i - own]? with
      | none => rw [hj] at hv; cases hv
      | some j =>
        rw [hj] at hv
        have hv' : (σ[j]?).getD none = some v := Option.some.inj hv
        have hσ : σ[j]? = some (some v) := by
          cases e : σ[j]? with
          | none => rw [e] at hv'; cases hv'
          | some o => rw [e] at hv'; simp only [Option.getD_some] at hv'; rw [hv']
        obtain ⟨hk, ej⟩ := List.getElem?_eq_some_iff.mp hj
        obtain ⟨y, y1, y2, y3, y4⟩ := sc.fvs ⟨i - own, hk⟩
        have e1 : own + (i - own) = i := by omega
        simp only [e1] at y1
        rw [hi'] at y1; cases y1
        simp only [ej] at y2
        obtain ⟨m3, hn3, hl3⟩ := I.loc
        obtain ⟨u, ru, lk⟩ := hl3 j x v y2 hσ (by rcases y4 with h | h; exact .inr (.inl h); exact .inr (.inr h))
        refine ⟨u, ru, .inr ⟨lookup_relabel_free y3, ?_⟩⟩
        rcases lk with ⟨h, _⟩ | ⟨_, c, hc, ic⟩
        · rcases y4 with h' | h' <;> rw [h] at h' <;> cases h'
        · obtain ⟨c', hc'⟩ := c2 (x, .free) (mem_of_lookup y3) rfl
          have : c' = c := by have := c1 x c' hc'; rw [hc] at this; exact (Option.some.inj this).symm
          subst this
          exact ⟨c', hc', ic.keeps old⟩
  cell := fun x c hc => let ⟨v, hv⟩ := I.cell x c (c1 x c hc); ⟨v, hv.keeps old⟩
  free := I.fresh
  freeC := fun x c hc => I.freeC x c (c1 x c hc)
  pin := fun p hp => nomatch hp
  hok := I.hok.kept old
  len := by
    show (blkStart own fv σ).length = N'.length
    unfold blkStart
    rw [List.length_append, List.length_replicate, List.length_map, sc.len]
end

/-- W: the invariant by the turn and a measure; acc: where the new list stands -/
def compWalk (J : It) (H1 : Hp) (σ0 : St) (g : TG) (te : TE) (Q : Addr → Hp → Prop) : Prop :=
  ∀ acc, H1 acc = none → ∃ W : Nat → Nat → St → Hp → Prop, (∃ m, W 0 m σ0 (upd H1 acc (.lst []))) ∧ ∀ i m σ' H', W i m σ' H' →
    (J.stop i H' ∧ Q acc H') ∨ (J.go i H' ∧ ∀ x H2, J.yld i H' x H2 → g x σ' H2 fun σ2 H3 => te σ2 H3 fun y H4 => ∃ ys, H4 acc = some (.lst ys) ∧ ys.length < sizeLine ∧ ∃ m', m' < m ∧ W (i + 1) m' σ2 (upd H4 acc (.lst (ys ++ [y]))))
def tComp (wi : TI) (own : Nat) (fv : List Nat) (g : TG) (te : TE) : TE := fun σ H Q => wi σ H fun J H1 => compWalk J H1 (blkStart own fv σ) g te fun acc H' => Q (.ref acc) H'

section
variable {X : Cx} {elt tg iter : Expr} {scope : Scope} {N' : List Str} {own : Nat} {fv : List Nat} {cl : List (Str × Addr)} {pins : List (Addr × Obj)} {σ : St} {H2 : Hp} {s2 : Shared} {fp : List Addr} {it : Addr} {tn : Nat → Heap → Prop} {J : It} {pos : Pos} {g : TG} {te : TE} {Q : Addr → Hp → Prop}
theorem comp_block (hc : X.calm = true) (sc : BlkScope X scope N' own fv) (I2 : Inv X pins σ H2 s2) (T : Turn X.prog X.w X.K tg J fp it tn) (st2 : tn 0 s2.heap) (f2 : ∀ b ∈ fp, FpOk X pins H2 b)
    (c1 : ∀ n c, cl.lookup n = some c → X.env.cells.lookup n = some c) (c2 : ∀ y ∈ scope.names, y.2 = .free → ∃ c, cl.lookup y.1 = some c)
    (hg : ∀ cl s3 H3 ex, PG (X.blk scope N' cl s3 H3 ex) tg g) (he : ∀ cl s3 H3 ex, PE (X.blk scope N' cl s3 H3 ex) elt te)
    (hq : compWalk J H2 (blkStart own fv σ) g te Q) {RR : Value → Addr → Result → Shared → Prop}
    (hRR : ∀ acc C s' H' m, Inv X pins σ H' s' → Q acc H' → s'.heap.Ns C m → H' C = none → C ≠ X.env.locals → X.s₀.heap.objs.size ≤ C → (∀ x c, X.env.cells.lookup x = some c → c ≠ C) → (∀ p ∈ X.pn ++ pins, p.1 ≠ C) → RR (.ref acc) C (.ok .next) s') :
    wpAny (model X.prog X.w) X.A (newList []) (fun acc s3 => wpAny (model X.prog X.w) X.A (newFunctionEnv scope X.env.globals cl [] X.env.qual none .none (some X.env)) (fun cenv s4 =>
      codeAny (model X.prog X.w) X.A (.compStart (.ListComp elt [⟨tg, iter, [], 0⟩] scope pos) 0 (.ref it) acc { cenv with scope := relabel scope X.env }) (RR acc cenv.locals) s4) X.xe s3) X.xe s2 := by
  refine wpAny_newObj_type (wpAny_newFunctionEnv sc.nocell (by intro y hy; simp at hy) (fun h1 hns hsb => ?_) sc.kind)
  dsimp only at hns hsb ⊢
  have I3 : Inv X pins σ (upd H2 s2.heap.objs.size (.lst [])) { s2 with heap := s2.heap.push { cls := .type "list", dict := none, data := .seq ([] : List Value).toArray } } := I2.lnew (t' := s2.toks) .nil (Nat.zero_le _)
  have hacc : H2 s2.heap.objs.size = none := I2.fresh
  obtain ⟨W, ⟨m0, w0⟩, turn⟩ := hq s2.heap.objs.size hacc
  have flt : ∀ b ∈ fp, b < s2.heap.objs.size := fun b hb => by
    obtain ⟨o, e, _⟩ := T.obj _ _ st2 b hb
    exact Heap.lt_size e
  have f3 : ∀ b ∈ fp, FpOk X pins (upd H2 s2.heap.objs.size (.lst [])) b := fun b hb => ⟨by rw [upd_ne (Nat.ne_of_lt (flt b hb))]; exact (f2 b hb).1, (f2 b hb).2⟩
  have st3 : tn 0 (s2.heap.push { cls := .type "list", dict := none, data := .seq ([] : List Value).toArray }) := T.keep _ _ _ st2 fun b _ o e => Heap.get?_push_of_some _ e
  generalize hs3 : ({ s2 with heap := s2.heap.push { cls := .type "list", dict := none, data := .seq ([] : List Value).toArray } } : Shared) = s3 at I3 
  have eh : s2.heap.push { cls := .type "list", dict := none, data := .seq ([] : List Value).toArray } = s3.heap := by rw [← hs3]
  rw [eh] at hns hsb st3
  have old : ∀ b o, s3.heap.get? b = some o → h1.get? b = some o := fun b o e => hsb.extBut b o (Nat.ne_of_lt (Heap.lt_size e)) (Heap.get?_push_of_some _ e)
  have fo3 : ∀ b ∈ fp, b < s3.heap.objs.size := fun b hb => by
    obtain ⟨o, e, _⟩ := T.obj _ _ st3 b hb
    exact Heap.lt_size e
  have est : ({ s2 with heap := h1, toks := s2.toks + ([] : List (Str × Value)).length } : Shared) = { s3 with heap := h1, toks := s3.toks } := by rw [← hs3]; rfl
  have I4 : Inv (X.blk scope N' cl s3 (upd H2 s2.heap.objs.size (.lst [])) fp) [] (blkStart own fv σ) (upd H2 s2.heap.objs.size (.lst [])) { s3 with heap := h1, toks := s3.toks } :=
    blk_inv sc I3 f3 fo3 c1 c2 hns old
  have st4 : tn 0 h1 := T.keep _ _ _ st3 fun b _ o e => old b o e
  have stat : ∀ {H' : Hp}, (∀ b ∈ fp, H' b = none) → ∀ b ∈ fp, FpOk (X.blk scope N' cl s3 (upd H2 s2.heap.objs.size (.lst [])) fp) [] H' b := fun hn b hb =>
    ⟨hn b hb, Nat.ne_of_lt (fo3 b hb), fun hf => by
      rcases List.mem_cons.mp (I3.stkSub b hf) with h | h
      · exact (f3 b hb).2.1 h
      · exact (f3 b hb).2.2.1 h, .inl hb, fun x c hc' => (f3 b hb).2.2.2.2.1 x c (c1 x c hc'), fun p hp => nomatch hp⟩
  have loop : ∀ s4 : Shared, s4 = { s3 with heap := h1, toks := s3.toks } →
      codeAny (model X.prog X.w) X.A (.compLoop (.ListComp elt [⟨tg, iter, [], 0⟩] scope pos) 0 (.ref it) (.ref s2.heap.objs.size) (compEnvC scope cl s3.heap.objs.size X.env)) (RR (.ref s2.heap.objs.size) s3.heap.objs.size) s4 := by
    rintro s4 rfl
    refine codeAny_compLoop_own (fun n s' => ∃ i σ' H', Inv (X.blk scope N' cl s3 (upd H2 s2.heap.objs.size (.lst [])) fp) [] σ' H' s' ∧ tn i s'.heap ∧ (∀ b ∈ fp, H' b = none) ∧ W i n σ' H') ?_ m0
      ⟨0, _, _, I4, st4, fun b hb => (f3 b hb).1, w0⟩
    rintro n s5 ⟨i, σ5, H5, I5, st5, fr5, w5⟩
    rcases turn i n σ5 H5 w5 with ⟨stop, q⟩ | ⟨go, step⟩
    · refine thn (T.done (X.blk scope N' cl s3 (upd H2 s2.heap.objs.size (.lst [])) fp) rfl rfl rfl hc i [] s5 σ5 H5 _ I5 (stat fr5) st5 stop) fun r s6 ⟨hr, I6⟩ => ?_
      subst hr
      obtain ⟨m6, hn6, _⟩ := I6.loc
      refine hRR _ _ s6 H5 m6 (I3.call' (ch := fp) I6.os I6.base I6.hok I6.bare fun b hb => ⟨(f3 b hb).2.2.2.1, (f3 b hb).2.1, (f3 b hb).2.2.2.2.1, (f3 b hb).2.2.2.2.2⟩) q hn6 I6.free (Nat.ne_of_gt I3.lt) I3.sz (fun x c hc' => ?_) fun p hp => ?_
      · obtain ⟨v, o, ho, _⟩ := I3.cell x c hc'
        exact Nat.ne_of_lt (Heap.lt_size ho)
      · exact Nat.ne_of_lt (Heap.lt_size (I3.pin p hp).1)
    · refine thn (T.item (X.blk scope N' cl s3 (upd H2 s2.heap.objs.size (.lst [])) fp) rfl rfl rfl hc i [] s5 σ5 H5 _ I5 (stat fr5) st5 go) fun r s6 ⟨u, hr, h6⟩ => ?_
      subst hr
      refine thn h6 fun _ s7 ⟨x, H7, I7, r7, y7, st7, fr7⟩ => ?_
      have I7' := I7.pinned (stat fr7) (T.obj _ _ st7)
      refine wpAny_mono (hg cl s3 _ fp _ s7 σ5 H7 x u _ I7' r7 (step x H7 y7)) (fun _ s8 ⟨σ8, H8, I8, q8⟩ => ?_) fun _ _ z => z.elim
      refine wpAny_mono (he cl s3 _ fp _ s8 σ8 H8 _ I8 q8) (fun v s9 ⟨y, H9, I9, r9, ys, e9, z9, m', hm', w9⟩ => ?_) fun _ _ z => z.elim
      refine wpAny_mono (mt_append (X := X.blk scope N' cl s3 (upd H2 s2.heap.objs.size (.lst [])) fp) _ s9 σ8 H9 (.ref s2.heap.objs.size) [y] (.ref s2.heap.objs.size) [v] (fun _ H' => ∃ m', m' < n ∧ W (i + 1) m' σ8 H') I9 rfl (.cons r9 .nil) ⟨_, ys, y, rfl, rfl, e9, z9, m', hm', w9⟩) (fun _ s10 ⟨_, H10, I10, _, m10, hm10, w10⟩ => ?_) fun _ _ z => z.elim
      refine ⟨m10, hm10, i + 1, σ8, H10, I10.unpinned (pl := pinsAt fp s7.heap), T.keep _ _ _ st7 fun b hb o e => (I10.pin (b, o) (List.mem_append_right _ (List.mem_append_right _ (mem_pinsAt hb e)))).1, fun b hb => ?_, w10⟩
      obtain ⟨o, e, d⟩ := T.obj _ _ st7 b hb
      exact (I10.pin (b, o) (List.mem_append_right _ (List.mem_append_right _ (mem_pinsAt hb e)))).2.1
  rw [est]
  rw [eh]
  exact codeAny_compStart_list (loop _ rfl) (T.self _ 0 _ _ _ st4 (loop _ rfl))

theorem pe_comp {wi : TI} (hc : X.calm = true) (sc : BlkScope X scope N' own fv) (hi : PI X tg iter wi)
    (hg : ∀ cl s3 H3 ex, PG (X.blk scope N' cl s3 H3 ex) tg g) (he : ∀ cl s3 H3 ex, PE (X.blk scope N' cl s3 H3 ex) elt te)
    (hs : ∀ x, foldedSetIterable iter X.env x = pure x := by intro _; rfl) : PE X (.ListComp elt [⟨tg, iter, [], 0⟩] scope pos) (tComp wi own fv g te) := by
  intro pins s σ H Q I h
  obtain ⟨cl, hcl, c1, c2⟩ := closure_ex (scope := scope) (env := X.env) fun y hy hf => I.ok.has _ (sc.free y hy hf)
  rw [eval_ListComp]
  refine wpAny_comprehension_free (use := none) rfl hs hcl sc.kind sc.names (thn (hi pins s σ H _ I h) fun v s1 h1 => thn h1 fun itv s2 h2 => ?_)
  obtain ⟨it, fp, tn, J, H2, e, I2, T, st2, f2, hq⟩ := h2
  subst e
  refine comp_block (RR := fun acc C => compPost (model X.prog X.w) X.A X.xe none (EP X pins σ Q) acc C) hc sc I2 T st2 f2 c1 c2 hg he hq ?_
  intro acc C s' H' m I' q hn hC hL h0 hcc hp
  exact ⟨m, hn, fun h' sb => ⟨.ref acc, H', I'.turned (t' := s'.toks) (fun b o hb e => sb.extBut b o hb e) hC hL (.inr h0) hcc hp, rfl, q⟩⟩

/-- name = [..], a comprehension that is stored into a plain local name of its own row -/
theorem ps_setComp {wi : TI} {i : Nat} {x : Str} {pos' spos : Pos} (hc : X.calm = true) (sc : BlkScope X scope N' own fv) (hN : X.N.Nodup) (hix : X.N[i]? = some x) (hx : Loc X.env.scope x) (hi : PI X tg iter wi)
    (hg : ∀ cl s3 H3 ex, PG (X.blk scope N' cl s3 H3 ex) tg g) (he : ∀ cl s3 H3 ex, PE (X.blk scope N' cl s3 H3 ex) elt te)
    (hsw : swapsWith (.ListComp elt [⟨tg, iter, [], 0⟩] scope pos) (some (.Name x pos')) spos.line X.env = pure true := by rfl)
    (hs : ∀ x, foldedSetIterable iter X.env x = pure x := by intro _; rfl)
    (hf : X.fn x = true ∨ X.env.scope.names.lookup x = some .local := by first | exact .inl rfl | exact .inr rfl | assumption) :
    PS X (.Assign [.Name x pos'] (.ListComp elt [⟨tg, iter, [], 0⟩] scope pos) spos) (tAsg (tComp wi own fv g te) (gName i)) := by
  intro pins s σ H D I h
  obtain ⟨cl, hcl, c1, c2⟩ := closure_ex (scope := scope) (env := X.env) fun y hy hf => I.ok.has _ (sc.free y hy hf)
  rw [exec_Assign_Name_used _ _ _ _ hsw]
  refine wpAny_bind (wpAny_standAt (wpAny_bind ?_))
  show wpAny _ X.A (do let _ ← comprehension (.ListComp elt [⟨tg, iter, [], 0⟩] scope pos) scope X.env _ (newList []) false (eval iter X.env) (some (assign (.Name x pos') X.env))) _ _ s
  refine wpAny_bind (wpAny_mono (wpAny_comprehension_free (use := some (assign (.Name x pos') X.env)) (Q := fun _ s' => SP X pins D .next s') rfl hs hcl sc.kind sc.names
    (thn (hi pins s σ H _ I h) fun v s1 h1 => thn h1 fun itv s2 h2 => ?_)) (fun _ s' hq => wpAny_pure (wpAny_pure hq)) fun _ _ e => e)
  obtain ⟨it, fp, tn, J, H2, e, I2, T, st2, f2, hq⟩ := h2
  subst e
  refine comp_block (RR := fun acc C => compPost (model X.prog X.w) X.A X.xe (some (assign (.Name x pos') X.env)) (fun _ s' => SP X pins D .next s') acc C) hc sc I2 T st2 f2 c1 c2 hg he hq ?_
  intro acc C s' H' m I' q hn hC hL h0 hcc hp
  show wpAny _ X.A (assign (.Name x pos') X.env (.ref acc)) _ _ _
  refine wpAny_assign_Name (store_ok2 I' hN hix hx (v := .ref acc) rfl (fun s'' I'' ⟨a, sb, ha⟩ => ?_) hf)
  have hCa : C ≠ a := by
    rcases ha with rfl | ha
    · exact hL
    · exact fun z => hcc x a ha z.symm
  refine ⟨m, hn.sameBut sb hCa, fun h' sb' => ⟨_, H', I''.turned (t' := s''.toks) (fun b o hb e => sb'.extBut b o hb e) hC hL (.inr h0) hcc hp, q⟩⟩
end
end L2

set_option Elab.async false
set_option linter.all false
set_option maxRecDepth 100000

namespace L2
open PySem PySem.Spec PyProof.Rows

/-! ### a list taken apart: a, b = xs -/
section
variable {prog : Program} {w : World} {A : Around} {E : Value → Shared → Prop}
theorem draw_list {it t : Addr} {items : Array Value} (hne : t ≠ it) : ∀ (n i : Nat) (s : Shared) (Q : List Value → Shared → Prop), s.heap.IsListIter it t i → s.heap.IsList t items → i + n ≤ items.size →
    (∀ h', h'.IsListIter it t (i + n) → Heap.SameBut it s.heap h' → Q ((items.toList.drop i).take n) { s with heap := h' }) → wpAny (model prog w) A (draw (.ref it) n) Q E s
  | 0, i, s, Q, hit, _, _, hQ => by
    show wpAny _ _ (pure []) Q E s
    exact wpAny_pure (by simpa using hQ s.heap hit (Heap.SameBut.refl ..))
  | n + 1, i, s, Q, hit, ht, hle, hQ => by
    have hlt : i < items.size := by omega
    show wpAny _ _ (pyNext (.ref it) >>= _) Q E s
    refine wpAny_bind (wpAny_pyNext_list_item hit ht (x := items[i]) (by simp [hlt]) fun h1 hit1 hs1 => ?_)
    refine wpAny_bind (wpAny_holding (draw_list hne n (i + 1) _ _ hit1 (ht.extBut hs1.extBut hne) (by omega) fun h2 hit2 hs2 => wpAny_pure ?_))
    have hd : items.toList.drop i = items[i] :: items.toList.drop (i + 1) := by simp [List.drop_eq_getElem_cons, hlt]
    have := hQ h2 (by rw [show i + (n + 1) = i + 1 + n by omega]; exact hit2) (hs1.trans hs2)
    rw [hd, List.take_succ_cons] at this
    exact this
theorem unpackItems_list {s : Shared} {t : Addr} {items : Array Value} {Q : List Value → Shared → Prop} (hh : A.handled = none) (ht : s.heap.IsList t items)
    (hQ : ∀ h', Heap.ExtBut s.heap.objs.size s.heap h' → Q items.toList { s with heap := h' }) : wpAny (model prog w) A (unpackItems (.ref t) items.size none) Q E s := by
  have hlt : t ≠ s.heap.objs.size := by obtain ⟨o, ho, _⟩ := ht; exact Nat.ne_of_lt (Heap.lt_size ho)
  unfold unpackItems
  refine wpAny_bind ?_
  · unfold notIterableAtAll
    refine wpAny_bind (wpAny_specialOf ht.typeIs slot_list_iter.lookup ?_)
    refine wpAny_pure ?_
    simp only [Bool.false_eq_true, if_false]
    refine wpAny_bind (wpAny_holding (wpAny_pyIter_list ht ?_))
    refine wpAny_bind (wpAny_holding (draw_list hlt items.size 0 _ _ ⟨_, Heap.get?_push_size _ rfl, rfl, rfl⟩ (ht.push _) (by omega) fun h1 hit1 hs1 => ?_))
    have hall : List.take items.size (List.drop 0 items.toList) = items.toList := by
      rw [List.drop_zero]; exact List.take_of_length_le (by simp)
    rw [hall]
    rw [if_neg (by simp)]
    have ht1 : h1.IsList t items := (ht.push _).extBut hs1.extBut hlt
    refine wpAny_bind (wpAny_holding (wpAny_pyNext_list_end hh hit1 ht1 (by simp) fun h2 he2 => ?_))
    simp only [Option.isSome_none, Bool.false_eq_true, if_false]
    refine wpAny_pure (hQ h2 fun b o hb e => he2 b o hb (hs1.extBut b o hb (Heap.get?_push_of_some _ e)))
theorem assign_Tuple_list {s : Shared} {env : Env} {elts : List Expr} {x1} {pos : Pos} {t : Addr} {items : Array Value} {Q : Unit → Shared → Prop} (hh : A.handled = none) (ht : s.heap.IsList t items)
    (hn : (assignEach elts env).length = items.size) (hstar : (assignEach elts env).findIdx? (·.1) = none)
    (h : ∀ h', Heap.ExtBut s.heap.objs.size s.heap h' → wpAny (model prog w) A (assignInOrder ((assignEach elts env).map (·.2)) items.toList) Q E { s with heap := h' }) :
    wpAny (model prog w) A (assign (.Tuple elts x1 pos) env (.ref t)) Q E s := by
  rw [assign_Tuple]
  refine wpAny_bind (wpAny_standAt ?_)
  unfold unpack
  rw [hn, hstar]
  exact wpAny_bind (wpAny_holding (unpackItems_list hh ht h))
end
section
variable {X : Cx} {pos : Pos}
/-- (a, b, ..) = a list of that length -/
def gLst (K : PySem.W.Frag) (n : Nat) (t : TGs) : TG := fun v σ H Q => ∃ a xs, v = .ref a ∧ SqL K H a xs ∧ xs.length = n ∧ t xs σ H Q
theorem pg_lst {es : List Expr} {k : Nat} {t : TGs} {n : Nat} (hc : X.calm = true) (h : PGs X es t)
    (hn : (assignEach es X.env).length = n := by rfl) (hst : (assignEach es X.env).findIdx? (·.1) = none := by rfl) : PG X (.Tuple es k pos) (gLst X.K n t) := by
  intro pins s σ H v u Q I r hw
  obtain ⟨a, xs, e1, hq, hl, hw⟩ := hw
  subst e1
  cases r
  obtain ⟨its, rv, ht, hz⟩ := I.list hq
  refine assign_Tuple_list (I.ok.hd hc) ht.isList (by simp [hn, ← hl, rv.length]) hst fun h' hx => ?_
  have I1 : Inv X pins σ H { s with heap := h' } := I.kept (t' := s.toks) fun b o e => hx b o (Nat.ne_of_lt (Heap.lt_size e)) e
  exact h pins _ σ H xs _ Q I1 (by simpa using rv) hw

/-! ### all(list of bools) -/
theorem vals_bl {bs : List Bool} {us : List Value} (r : Vals (bs.map V.bl) us) {i : Nat} {v : Value} (e : us[i]? = some v) : ∃ b, bs[i]? = some b ∧ v = .bool b := by
  have hl := r.length
  rw [List.length_map] at hl
  obtain ⟨hi, _⟩ := List.getElem?_eq_some_iff.mp e
  have hb : (bs.map V.bl)[i]? = some (.bl (bs[i]'(by omega))) := by
    rw [List.getElem?_map, List.getElem?_eq_getElem (by omega)]; rfl
  obtain ⟨u, hu, ru⟩ := r.get hb
  rw [e] at hu; cases hu
  exact ⟨_, List.getElem?_eq_getElem (by omega), ru⟩
theorem call_allB (hc : X.calm = true) : CallR X (.builtin "all") (fun xs H Q => ∃ (p : Addr) (bs : List Bool), xs = [.ref p] ∧ SqL X.K H p (bs.map V.bl) ∧ Q (.bl (bs.all id)) H) := by
  intro pins s σ H xs us Q I r h
  obtain ⟨p, bs, rfl, hq, q⟩ := h
  obtain ⟨u, rfl, ru⟩ := vals1 r
  cases ru
  obtain ⟨its, rv, pl, hz⟩ := I.list hq
  have hl := pl.isList
  have hlt : p < s.heap.objs.size := by obtain ⟨_, e, _⟩ := hl; exact Heap.lt_size e
  have hlen := rv.length
  rw [List.length_map] at hlen
  refine call_all_walk (wpAny_pyIter_list hl ?_)
  refine ⟨s.heap.objs.size, [s.heap.objs.size, p], [s.heap.objs.size], its.toArray.size, _, _, fun i => (bs[i]?).getD true, rfl, Walks.list (A := X.A.in1) (I.ok.hd hc) _ p (Nat.ne_of_lt hlt) its.toArray,
    ⟨⟨_, Heap.get?_push_size _ rfl, rfl, rfl⟩, hl.push _⟩, fun i v s' Q' E' hP hQ => ?_, fun h' tk hk => ?_⟩
  · obtain ⟨b, e, rfl⟩ := vals_bl rv (by simpa using hP)
    simp only [e, Option.getD_some] at hQ
    exact wpAny_truthy_bool hQ
  · have e : ((List.range its.toArray.size).all fun i => (bs[i]?).getD true) = bs.all id := by
      rw [List.size_toArray, ← hlen]; exact LSm.range_all bs
    rw [e]
    exact ⟨.bl (bs.all id), H, I.kept (t' := tk) (LSm.kept_iter hk), rfl, q⟩

/-! ### min, max of a tuple of ints -/
end

/-! ### data within one another: what a value stands for -/
mutual
inductive Rep (K : PySem.W.Frag) (H : Hp) : V → PyData → Prop
  | non : Rep K H .non .none
  | bl (b : Bool) : Rep K H (.bl b) (.bool b)
  | int (i : Int) : Rep K H (.int i) (.int i)
  | str (x : Str) : Rep K H (.str x) (.str x)
  | lst {a : Addr} {xs : List V} {ds : List PyData} : SqL K H a xs → RepAll K H xs ds → Rep K H (.ref a) (.list ds)
  | tup {a : Addr} {xs : List V} {ds : List PyData} : SqT K H a xs → RepAll K H xs ds → Rep K H (.ref a) (.tuple ds)
inductive RepAll (K : PySem.W.Frag) (H : Hp) : List V → List PyData → Prop
  | nil : RepAll K H [] []
  | cons {x : V} {d : PyData} {xs : List V} {ds : List PyData} : Rep K H x d → RepAll K H xs ds → RepAll K H (x :: xs) (d :: ds)
end
theorem Same.seqT {K : PySem.W.Frag} {H H' : Hp} {a : Addr} {xs : List V} (e : Same H H') (h : SqT K H a xs) : SqT K H' a xs := by
  rcases h with (h | ⟨o, h⟩) | h
  · exact .inl (.inl (e _ _ h))
  · exact .inl (.inr ⟨o, e _ _ h⟩)
  · exact .inr h
mutual
theorem Rep.reads {X : Cx} {pins : List (Addr × Obj)} {σ : St} {H : Hp} {s : Shared} (I : Inv X pins σ H s) : ∀ {v : V} {d : PyData} {u : Value}, Rep X.K H v d → RelV v u → ∃ as, Reads s.heap u d as
  | _, _, _, .non, r => by cases r; exact ⟨_, .none⟩
  | _, _, _, .bl b, r => by cases r; exact ⟨_, .bool b⟩
  | _, _, _, .int i, r => by obtain ⟨t, rfl⟩ := r; exact ⟨_, .int i t⟩
  | _, _, _, .str x, r => by obtain ⟨t, rfl⟩ := r; exact ⟨_, .str x t⟩
  | _, _, _, .lst h q, r => by
    cases r
    obtain ⟨its, rv, pl, _⟩ := I.list h
    obtain ⟨as, ra⟩ := RepAll.reads I q rv
    obtain ⟨o, e, c, n, d⟩ := pl.isList
    exact ⟨_, .list e c d ra⟩
  | _, _, _, .tup h q, r => by
    cases r
    obtain ⟨its, rv, pl, _⟩ := I.tuple h
    obtain ⟨as, ra⟩ := RepAll.reads I q rv
    obtain ⟨o, e, c, n, d⟩ := pl
    exact ⟨_, .tuple e c d ra⟩
theorem RepAll.reads {X : Cx} {pins : List (Addr × Obj)} {σ : St} {H : Hp} {s : Shared} (I : Inv X pins σ H s) : ∀ {xs : List V} {ds : List PyData} {us : List Value}, RepAll X.K H xs ds → Vals xs us → ∃ as, ReadsAll s.heap us ds as
  | _, _, _, .nil, .nil => ⟨_, .nil⟩
  | _, _, _, .cons h q, .cons r rr => by
    obtain ⟨as, ra⟩ := Rep.reads I h r
    obtain ⟨bs, rb⟩ := RepAll.reads I q rr
    exact ⟨_, .cons ra rb⟩
end
section
variable {X : Cx}
/-- == of two things that are data; the parts of one may be the parts of the other -/
def rEqD (K : PySem.W.Frag) (neg : Bool) : R2 := fun x y H Q => ∃ d e, Rep K H x d ∧ Rep K H y e ∧ d.canLay0 = true ∧ e.canLay0 = true ∧ d.depth ≤ 64 ∧ Q (.bl (if neg then !PyData.eqv d e else PyData.eqv d e)) H
theorem op_eqD (hu : X.A.units + 64 < cLine) : OpR X (compareOp .Eq) (rEqD X.K false) := by
  intro pins s σ H x y v u Q I rx ry h
  obtain ⟨d, e, rd, re, ld, le, dd, q⟩ := h
  obtain ⟨as, ra⟩ := rd.reads I rx
  obtain ⟨bs, rb⟩ := re.reads I ry
  exact SeqAt.compareEq_reads ra rb ld le (by omega) ⟨.bl _, H, I, rfl, q⟩
theorem op_neD (hu : X.A.units + 64 < cLine) : OpR X (compareOp .NotEq) (rEqD X.K true) := by
  intro pins s σ H x y v u Q I rx ry h
  obtain ⟨d, e, rd, re, ld, le, dd, q⟩ := h
  obtain ⟨as, ra⟩ := rd.reads I rx
  obtain ⟨bs, rb⟩ := re.reads I ry
  exact SeqAt.compareNe_reads ra rb ld le (by omega) ⟨.bl _, H, I, rfl, q⟩

/-! ### isinstance(x, bool), isinstance(x, int) of a flat value; x is True -/
end
end L2

namespace L2
open PySem PySem.Spec PyProof.Rows
section
variable {X : Cx}

/-! ### the text of a block, by one look -/
def blkOk (sc0 : Scope) (N0 : List Str) (scope : Scope) (N' : List Str) (own : Nat) (fv : List Nat) : Bool :=
  decide (scope.kind = .function) && (scope.names.all fun y => decide (y.2 ≠ .cell)) && (scope.names.all fun y => decide (y.2 ≠ .local) || decide (scope.names.lookup y.1 = some .local)) &&
  (scope.names.all fun y => decide (y.2 ≠ .free) || (decide (sc0.names.lookup y.1 = some .cell) || decide (sc0.names.lookup y.1 = some .free))) && decide (N'.length = own + fv.length) &&
  ((List.range fv.length).all fun i => match N'[own + i]?, fv[i]? with
    | some x, some j => decide (N0[j]? = some x) && decide (scope.names.lookup x = some .free) && (decide (sc0.names.lookup x = some .cell) || decide (sc0.names.lookup x = some .free))
    | _, _ => false)
theorem blk_of {sc0 : Scope} {N0 : List Str} {scope : Scope} {N' : List Str} {own : Nat} {fv : List Nat} (h : blkOk sc0 N0 scope N' own fv = true) (h1 : X.env.scope = sc0) (h2 : X.N = N0) : BlkScope X scope N' own fv := by
  unfold blkOk at h
  simp only [Bool.and_eq_true, List.all_eq_true, decide_eq_true_eq, Bool.or_eq_true] at h
  obtain ⟨⟨⟨⟨⟨a1, a2⟩, a3⟩, a4⟩, a5⟩, a6⟩ := h
  refine ⟨a1, a2, fun y hy e => ?_, fun y hy e => ?_, a5, fun i => ?_⟩
  · rcases a3 y hy with z | z
    · exact absurd e z
    · exact z
  · rcases a4 y hy with z | z
    · exact absurd e z
    · show X.env.scope.names.lookup y.1 = _ ∨ X.env.scope.names.lookup y.1 = _
      rw [h1]; exact z
  · have := a6 i.val (List.mem_range.mpr i.isLt)
    split at this
    · rename_i x j e1 e2
      simp only [Bool.and_eq_true, decide_eq_true_eq, Bool.or_eq_true] at this
      refine ⟨x, e1, ?_, this.1.2, ?_⟩
      · have e3 : fv[i.val] = j := by
          have := List.getElem?_eq_getElem i.isLt
          rw [e2] at this; exact (Option.some.inj this).symm
        rw [h2, e3]; exact this.1.1
      · show X.env.scope.names.lookup x = _ ∨ X.env.scope.names.lookup x = _
        rw [h1]; exact this.2
    · cases this
end

/-! ### comprehensions: the forms one uses (one name, own slot 0, then the free names' values fvals) -/
theorem Same.put {H : Hp} {a : Addr} {o : HO} (h : H a = none) : Same H (upd H a o) := fun b u e => by
  rw [upd_ne (ne_of_none e h)]; exact e
theorem take_map_snoc {α β : Type} (f : α → β) (xs : List α) (i : Nat) (x : α) (h : xs[i]? = some x) : (xs.take i).map f ++ [f x] = (xs.take (i + 1)).map f := by
  rw [List.take_add_one, h, List.map_append]; rfl
theorem comp_map {K : PySem.W.Frag} {a : Addr} {xs : List V} {H1 : Hp} {fvals : St} {te : TE} {Q : Addr → Hp → Prop} (f : V → V) (hs : SqL K H1 a xs) (hz : xs.length ≤ sizeLine)
    (step : ∀ (i : Nat) (x : V) (H : Hp) (R : VK), xs[i]? = some x → Same H1 H → R (f x) H → te (some x :: fvals) H R)
    (q : ∀ acc, H1 acc = none → Q acc (upd H1 acc (.lst (xs.map f)))) : compWalk (Itl K a) H1 (none :: fvals) (gName 0) te Q := by
  intro acc hacc
  refine ⟨fun i m σ' H' => m = xs.length - i ∧ i ≤ xs.length ∧ (∃ o, σ' = o :: fvals) ∧ H' = upd H1 acc (.lst ((xs.take i).map f)), ⟨_, rfl, Nat.zero_le _, ⟨none, rfl⟩, by simp⟩, ?_⟩
  rintro i m σ' H' ⟨rfl, hi, ⟨o, rfl⟩, rfl⟩
  have sm : Same H1 (upd H1 acc (.lst ((xs.take i).map f))) := Same.put hacc
  by_cases hlt : i < xs.length
  · refine .inr ⟨⟨xs, xs[i], sm.seq hs, List.getElem?_eq_getElem hlt⟩, ?_⟩
    rintro x H2 ⟨rfl, hx⟩
    have hx' := hx xs (sm.seq hs)
    refine step i x _ _ hx' sm ⟨(xs.take i).map f, upd_same, ?_, xs.length - (i + 1), by omega, rfl, hlt, ⟨some x, rfl⟩, ?_⟩
    · rw [List.length_map, List.length_take]; omega
    · rw [upd_upd, take_map_snoc f xs i x hx']
  · refine .inl ⟨⟨xs, sm.seq hs, by omega⟩, ?_⟩
    have e : xs.take i = xs := List.take_of_length_le (by omega)
    rw [e]
    exact q acc hacc
theorem comp_mapT {K : PySem.W.Frag} {a : Addr} {xs : List V} {H1 : Hp} {fvals : St} {te : TE} {Q : Addr → Hp → Prop} (f : V → V) (hs : SqT K H1 a xs) (hz : xs.length ≤ sizeLine)
    (step : ∀ (i : Nat) (x : V) (H : Hp) (R : VK), xs[i]? = some x → Same H1 H → R (f x) H → te (some x :: fvals) H R)
    (q : ∀ acc, H1 acc = none → Q acc (upd H1 acc (.lst (xs.map f)))) : compWalk (Itt K a) H1 (none :: fvals) (gName 0) te Q := by
  intro acc hacc
  refine ⟨fun i m σ' H' => m = xs.length - i ∧ i ≤ xs.length ∧ (∃ o, σ' = o :: fvals) ∧ H' = upd H1 acc (.lst ((xs.take i).map f)), ⟨_, rfl, Nat.zero_le _, ⟨none, rfl⟩, by simp⟩, ?_⟩
  rintro i m σ' H' ⟨rfl, hi, ⟨o, rfl⟩, rfl⟩
  have sm : Same H1 (upd H1 acc (.lst ((xs.take i).map f))) := Same.put hacc
  by_cases hlt : i < xs.length
  · refine .inr ⟨⟨xs, xs[i], sm.seqT hs, List.getElem?_eq_getElem hlt⟩, ?_⟩
    rintro x H2 ⟨rfl, hx⟩
    have hx' := hx xs (sm.seqT hs)
    refine step i x _ _ hx' sm ⟨(xs.take i).map f, upd_same, ?_, xs.length - (i + 1), by omega, rfl, hlt, ⟨some x, rfl⟩, ?_⟩
    · rw [List.length_map, List.length_take]; omega
    · rw [upd_upd, take_map_snoc f xs i x hx']
  · refine .inl ⟨⟨xs, sm.seqT hs, by omega⟩, ?_⟩
    have e : xs.take i = xs := List.take_of_length_le (by omega)
    rw [e]
    exact q acc hacc
end L2

namespace L2
open PySem PySem.Spec PyProof.Rows
section
variable {X : Cx} {e : Expr}
/-- an expression that changes nothing, by its value -/
def tDetE (t : TE) : TE := fun σ H Q => ∃ v, t σ H (fun x H2 => x = v ∧ H2 = H) ∧ Q v H
theorem pe_det {t : TE} (h : PE X e t) : PE X e (tDetE t) := fun pins s σ H Q I ⟨d, ht, q⟩ =>
  thn (h pins s σ H _ I ht) fun b s' ⟨x, H', I', r, e1, e2⟩ => by subst e1 e2; exact ⟨_, _, I', r, q⟩
end
end L2

namespace L2
open PySem PySem.Spec PyProof.Rows
section
variable {X : Cx}
/-- // by a positive divisor of up to 512 bits -/
def CDivL (i j : Int) : Prop := 0 < j ∧ j < 2 ^ 512
theorem op_fdivL : OpR X (binaryOp .FloorDiv) (rI CDivL fun i j => .int (i / j)) := opI fun i j _ _ _ _ _ hc q => by
  have h0 := hc.1
  have h1 := hc.2
  refine floordiv_int (by omega) ?_ (.inl (PyProof.noPylong_of_log2 ?_))
  · rw [Int.fdiv_eq_ediv_of_nonneg i (by omega)]; exact q
  · have h2 : j.natAbs < 2 ^ 512 := by omega
    have h3 : j.natAbs ≠ 0 := by omega
    exact Nat.lt_trans ((Nat.log2_lt h3).mpr h2) (by decide)
end
end L2

namespace L2
open PySem PySem.Spec PyProof.Rows
section
variable {X : Cx} {K : PySem.W.Frag} {tg l : Expr} {tl : TE}
/-! ### the rules that speak of the written part, by its own letter (for a block) -/
theorem ix_listK (h : X.K = K := by rfl) : IxR X (rIxL K) := by subst h; exact ix_list
end
end L2

set_option Elab.async false
set_option linter.all false
set_option maxRecDepth 100000

namespace L2
open PySem PySem.Spec PyProof.Rows
/-! ### zip of two lists, taken apart at once -/
def Itz (K : PySem.W.Frag) (a b : Addr) : It :=
  ⟨fun i H => ∃ xs ys x y, SqL K H a xs ∧ xs[i]? = some x ∧ SqL K H b ys ∧ ys[i]? = some y,
   fun i H v H' => ∃ (T : Addr) (x y : V), v = .ref T ∧ H T = none ∧ H' = upd H T (.tup [x, y]) ∧ (∀ xs, SqL K H a xs → xs[i]? = some x) ∧ (∀ ys, SqL K H b ys → ys[i]? = some y),
   fun i H => ∃ xs ys, SqL K H a xs ∧ SqL K H b ys ∧ (xs.length ≤ i ∨ ys.length ≤ i)⟩
section
variable {X : Cx} {pins : List (Addr × Obj)} {σ : St} {H : Hp} {s : Shared} {h' : Heap} {t' : Nat} {fp : List Addr}
theorem Inv.turnedAll (I : Inv X pins σ H s) (hf : ∀ b ∈ fp, FpOk X pins H b) (k : ∀ b o, b ∉ fp → s.heap.get? b = some o → h'.get? b = some o) : Inv X pins σ H { s with heap := h', toks := t' } := by
  have nit : ∀ b u, H b = some u → b ∉ fp := fun b u e z => by rw [(hf b z).1] at e; cases e
  refine I.step (g' := s.gens) (d' := s.drawn) (ch := fp) (fun b hb => ⟨(hf b hb).2.2.2.1, (hf b hb).2.1, (hf b hb).2.2.2.2.1, (hf b hb).2.2.2.2.2⟩) (fun b o _ _ hc e _ => k b o hc e) (fun b o _ _ hc e _ => ⟨o.slots, k b o hc e⟩) (fun _ _ _ _ n => n)
    (fun b o hc e => ⟨o, k b o hc e⟩) (fun _ _ e => e) (fun _ _ _ e => e) (fun b ps e => ⟨#[], by rw [e]; simp⟩) (fun m hm => ?_) (fun b u e => ?_) I.bare
  · obtain ⟨o, es, ep, ho, r⟩ := hm
    exact ⟨o, es, ep, k _ o (fun z => (hf _ z).2.1 rfl) ho, r⟩
  · refine (I.hok b u e).stay (fun c v hc q => k c v ?_ q) (fun _ q => q) fun _ _ q => q
    rcases hc with z | z
    · rw [z]; exact nit b u e
    · exact nit c _ z
/-- .. and a new tuple is laid and tracked -/
theorem Inv.turnedTup {T : Addr} {x y : V} {vx vy : Value} (I : Inv X pins σ H s) (hf : ∀ b ∈ fp, FpOk X pins H b) (hT : s.heap.objs.size ≤ T) (hp : IsPair h' T vx vy) (rx : RelV x vx) (ry : RelV y vy)
    (k : ∀ b o, b ∉ fp → s.heap.get? b = some o → h'.get? b = some o) : Inv X pins σ (upd H T (.tup [x, y])) { s with heap := h', toks := t' } := by
  have hn : H T = none := I.hok.fresh hT
  have sm : Same H (upd H T (.tup [x, y])) := fun b u e => by rw [upd_ne (ne_of_none e hn)]; exact e
  have nit : ∀ b u, H b = some u → b ∉ fp := fun b u e z => by rw [(hf b z).1] at e; cases e
  refine I.step (g' := s.gens) (d' := s.drawn) (ch := fp) (fun b hb => ⟨(hf b hb).2.2.2.1, (hf b hb).2.1, (hf b hb).2.2.2.2.1, (hf b hb).2.2.2.2.2⟩) (fun b o _ _ hc e _ => k b o hc e) (fun b o _ _ hc e _ => ⟨o.slots, k b o hc e⟩)
    (fun b o _ e n => by rw [upd_ne (Nat.ne_of_lt (Nat.lt_of_lt_of_le (Heap.lt_size e) hT))]; exact n)
    (fun b o hc e => ⟨o, k b o hc e⟩) (fun b xs e => sm b _ e) (fun b o u e => sm b _ e) (fun b ps e => ⟨#[], by rw [sm b _ e]; simp⟩) (fun m hm => ?_) (fun b u e => ?_) I.bare
  · obtain ⟨o, es, ep, ho, r⟩ := hm
    exact ⟨o, es, ep, k _ o (fun z => (hf _ z).2.1 rfl) ho, r⟩
  · by_cases hb : b = T
    · subst hb
      rw [upd_same] at e; cases e
      exact ⟨by show 2 ≤ sizeLine; rw [sizeLine_eq]; decide, [vx, vy], .cons rx (.cons ry .nil), ⟨_, hp, rfl, _, rfl⟩⟩
    · rw [upd_ne hb] at e
      refine (I.hok b u e).stay (fun c v hc q => k c v ?_ q) (fun c q => sm c _ q) fun c xs q => sm c _ q
      rcases hc with z | z
      · rw [z]; exact nit b u e
      · exact nit c _ z
end
theorem turn_zip {P : Program} {w : World} {K : PySem.W.Frag} {elts : List Expr} {k0 : Nat} {pos : Pos} {z TI TO i1 i2 l1 l2 : Addr} (D : ZipApart z TI TO i1 i2 l1 l2) :
    Turn P w K (.Tuple elts k0 pos) (Itz K l1 l2) [z, TI, TO, i1, i2] z (fun i h => IsZip h z TI TO .none ∧ IsPair h TI (.ref i1) (.ref i2) ∧ (∃ a b, IsPair h TO a b) ∧ h.IsListIter i1 l1 i ∧ h.IsListIter i2 l2 i) where
  mem := by simp
  obj := fun i h st b hb => by
    obtain ⟨hz, hTI, ⟨a, c, hTO⟩, ⟨o1, e1, c1, d1⟩, ⟨o2, e2, c2, d2⟩⟩ := st
    simp only [List.mem_cons, List.not_mem_nil, or_false] at hb
    rcases hb with rfl | rfl | rfl | rfl | rfl
    · exact ⟨_, hz, fun v q => nomatch q⟩
    · exact ⟨_, hTI, fun v q => nomatch q⟩
    · exact ⟨_, hTO, fun v q => nomatch q⟩
    · exact ⟨o1, e1, fun v q => by rw [d1] at q; cases q⟩
    · exact ⟨o2, e2, fun v q => by rw [d2] at q; cases q⟩
  keep := fun i h h' st kp => by
    obtain ⟨hz, hTI, ⟨a, c, hTO⟩, h1, h2⟩ := st
    exact ⟨kp z (by simp) _ hz, kp TI (by simp) _ hTI, ⟨a, c, kp TO (by simp) _ hTO⟩, h1.at fun o e => kp i1 (by simp) o e, h2.at fun o e => kp i2 (by simp) o e⟩
  item := by
    intro X hP hw hK hc i pins s σ H E I hf st hg
    subst hP hw hK
    obtain ⟨xs, ys, x, y, hq1, hx, hq2, hy⟩ := hg
    obtain ⟨its1, rv1, p1, _⟩ := I.list hq1
    obtain ⟨its2, rv2, p2, _⟩ := I.list hq2
    obtain ⟨u1, hu1, ru1⟩ := rv1.get hx
    obtain ⟨u2, hu2, ru2⟩ := rv2.get hy
    obtain ⟨hz, hTI, ⟨a, b, hTO⟩, h1, h2⟩ := st
    refine wpAny_pyNext_zip_item D hz hTI hTO h1 h2 p1.isList p2.isList (x := u1) (y := u2) (by simpa using hu1) (by simpa using hu2) fun h' a1 a2 a3 a4 a5 a6 hk => ?_
    have kp : ∀ c o, c ∉ [z, TI, TO, i1, i2] → s.heap.get? c = some o → h'.get? c = some o := fun c o hc e => by
      simp only [List.mem_cons, List.not_mem_nil, or_false, not_or] at hc
      exact hk c o hc.1 hc.2.2.1 hc.2.2.2.1 hc.2.2.2.2 e
    have I1 : Inv X pins σ (upd H s.heap.objs.size (.tup [x, y])) { s with heap := h' } := I.turnedTup (t' := s.toks) hf (Nat.le_refl _) a5 ru1 ru2 kp
    have hTI' : IsPair h' TI (.ref i1) (.ref i2) := hk _ _ D.TIz D.TITO D.TIi1 D.TIi2 hTI
    have nz : ∀ b ∈ [z, TI, TO, i1, i2], b ≠ s.heap.objs.size := fun b hb q => by
      simp only [List.mem_cons, List.not_mem_nil, or_false] at hb
      rcases hb with rfl | rfl | rfl | rfl | rfl
      · exact Nat.lt_irrefl _ (q ▸ Heap.lt_size hz)
      · exact Nat.lt_irrefl _ (q ▸ Heap.lt_size hTI)
      · exact Nat.lt_irrefl _ (q ▸ Heap.lt_size hTO)
      · obtain ⟨_, e, _⟩ := h1; exact Nat.lt_irrefl _ (q ▸ Heap.lt_size e)
      · obtain ⟨_, e, _⟩ := h2; exact Nat.lt_irrefl _ (q ▸ Heap.lt_size e)
    have hf1 : ∀ b ∈ [z, TI, TO, i1, i2], FpOk X pins (upd H s.heap.objs.size (.tup [x, y])) b := fun b hb => ⟨by rw [upd_ne (nz b hb)]; exact (hf b hb).1, (hf b hb).2⟩
    refine ⟨.ref s.heap.objs.size, rfl, wpAny_letOwnedTupleGo_zip (s := { s with heap := h' }) a1 fun h2' hz' hs' => ?_⟩
    have I2 : Inv X pins σ (upd H s.heap.objs.size (.tup [x, y])) { s with heap := h2' } := I1.turnedAll (t' := s.toks) hf1 fun c o hc e => hs'.extBut c o (fun q => hc (by simp [q])) e
    exact ⟨.ref s.heap.objs.size, _, I2, rfl, ⟨_, x, y, rfl, I.hok.fresh (Nat.le_refl _), rfl, fun xs' hx' => by rw [I.list_inj hx' hq1]; exact hx, fun ys' hy' => by rw [I.list_inj hy' hq2]; exact hy⟩,
      ⟨hz', hs'.extBut _ _ D.TIz hTI', ⟨_, _, hs'.extBut _ _ D.TOz a2⟩, a3.extBut hs'.extBut D.i1z, a4.extBut hs'.extBut D.i2z⟩, fun b hb => (hf1 b hb).1⟩
  done := by
    intro X hP hw hK hc i pins s σ H E I hf st hg
    subst hP hw hK
    obtain ⟨xs, ys, hq1, hq2, he⟩ := hg
    obtain ⟨its1, rv1, p1, _⟩ := I.list hq1
    obtain ⟨its2, rv2, p2, _⟩ := I.list hq2
    have l1 := rv1.length
    have l2 := rv2.length
    obtain ⟨hz, hTI, ⟨a, b, hTO⟩, h1, h2⟩ := st
    refine wpAny_pyNext_zip_end (I.ok.hd hc) D hz hTI hTO h1 h2 p1.isList p2.isList (by
      rcases he with he | he
      · exact .inl (by simp; omega)
      · exact .inr (by simp; omega)) fun h' hk => ⟨rfl, I.turnedAll (t' := s.toks) hf fun c o hc e => ?_⟩
    simp only [List.mem_cons, List.not_mem_nil, or_false, not_or] at hc
    exact hk c o hc.1 hc.2.2.1 hc.2.2.2.1 hc.2.2.2.2 e
  self := fun _ _ _ _ _ st h => wpAny_pyIter_zip st.1 h
section
variable {X : Cx} {K : PySem.W.Frag}
def iZip (K : PySem.W.Frag) (ta : TA) : TI := fun σ H R => ta σ H fun vs H1 => ∃ l1 l2, vs = [.ref l1, .ref l2] ∧ (∃ xs, SqL K H1 l1 xs) ∧ (∃ ys, SqL K H1 l2 ys) ∧ R (Itz K l1 l2) H1
theorem pi_zip {elts : List Expr} {k0 : Nat} {tpos : Pos} {a b : Expr} {ta : TA} {p pos : Pos} (hg : Gl X "zip") (hm : X.mg "zip" = none) (ha : PA X [a, b] ta) (hK : X.K = K := by rfl)
    (hs : starEach [a, b] X.env = [(false, eval a X.env), (false, eval b X.env)] := by rfl) (hs2 : starEach [b] X.env = [(false, eval b X.env)] := by rfl) :
    PI X (.Tuple elts k0 tpos) (.Call (.Name "zip" p) [a, b] [] pos) (iZip K ta) := by
  subst hK
  intro pins s σ H R I h
  refine Call_ (ld_blt I hg hm (show bootBuiltins "zip" = some (.type "zip") by decide +kernel) (PyProof.Rows.callWith_type1 (thn (ha pos pins s σ H _ I h) fun us s1 ⟨vs, H1, I1, r1, q1⟩ => ?_) (by rw [hs, hs2]) (by rw [hs2]; rfl)))
  obtain ⟨l1, l2, e, ⟨xs, hx⟩, ⟨ys, hy⟩, q⟩ := q1
  subst e
  obtain ⟨u1, u2, rfl, r1, r2⟩ := vals2 r1
  cases r1
  cases r2
  obtain ⟨its1, rv1, p1, _⟩ := I1.list hx
  obtain ⟨its2, rv2, p2, _⟩ := I1.list hy
  have a1 : l1 < s1.heap.objs.size := by obtain ⟨_, e, _⟩ := p1.isList; exact Heap.lt_size e
  have a2 : l2 < s1.heap.objs.size := by obtain ⟨_, e, _⟩ := p2.isList; exact Heap.lt_size e
  refine call_zip_2 p1.isList p2.isList fun h' hz hTI hTO hi1 hi2 _ hk => ?_
  refine wpAny_pyIter_zip hz ⟨_, [s1.heap.objs.size + 4, s1.heap.objs.size + 2, s1.heap.objs.size + 3, s1.heap.objs.size, s1.heap.objs.size + 1], _, Itz X.K l1 l2, H1, rfl, I1.kept (t' := s1.toks) hk, turn_zip (zipApart_new a1 a2), ⟨hz, hTI, ⟨_, _, hTO⟩, hi1, hi2⟩, fun b hb => ?_, q⟩
  have hb' : s1.heap.objs.size ≤ b := by
    simp only [List.mem_cons, List.not_mem_nil, or_false] at hb
    rcases hb with rfl | rfl | rfl | rfl | rfl <;> first | exact Nat.le_add_right _ _ | exact Nat.le_refl _
  exact I1.fpOk hb' (I1.hok.fresh hb')
end

/-! ### comprehensions over zip(xs, ys), two own names -/
end L2

namespace L2
open PySem PySem.Spec PyProof.Rows
theorem pg_tupK {X : Cx} {K : PySem.W.Frag} {pos : Pos} {es : List Expr} {k : Nat} {t : TGs} {n : Nat} (hc : X.calm = true) (h : PGs X es t) (hK : X.K = K := by rfl)
    (hn : (assignEach es X.env).length = n := by rfl) (hst : (assignEach es X.env).findIdx? (·.1) = none := by rfl) : PG X (.Tuple es k pos) (gTup K n t) := by subst hK; exact pg_tup hc h hn hst
/-- a statement that only sets names, by what they are then -/
def tDetS (t : TS) : TS := fun D σ H => ∃ σ', t { nx := fun a b => a = σ' ∧ b = H, rt := fun _ _ => False } σ H ∧ D.nx σ' H
theorem ps_detS {X : Cx} {st : Stmt} {t : TS} (h : PS X st t) : PS X st (tDetS t) := fun pins s σ H D I ⟨σ', ht, q⟩ =>
  thn (h pins s σ H _ I ht) fun f s' q' => by
    cases f with
    | next => obtain ⟨a, b, I', e1, e2⟩ := q'; subst e1 e2; exact ⟨_, _, I', q⟩
    | brk => obtain ⟨_, _, _, z⟩ := q'; exact z.elim
    | cont => obtain ⟨_, _, _, z⟩ := q'; exact z.elim
    | ret v => obtain ⟨_, _, _, _, _, z⟩ := q'; exact z.elim
end L2

set_option Elab.async false
set_option linter.all false
set_option maxRecDepth 100000

namespace L2
open PySem PySem.Spec PyProof.Rows
/-! ### enumerate of a list, taken apart at once -/
def Ite (K : PySem.W.Frag) (a : Addr) : It :=
  ⟨fun i H => ∃ xs x, SqL K H a xs ∧ xs[i]? = some x,
   fun i H v H' => ∃ (T : Addr) (x : V), v = .ref T ∧ H T = none ∧ H' = upd H T (.tup [.int (i : Int), x]) ∧ (∀ xs, SqL K H a xs → xs[i]? = some x),
   fun i H => ∃ xs, SqL K H a xs ∧ xs.length ≤ i⟩
theorem turn_enum {P : Program} {w : World} {K : PySem.W.Frag} {elts : List Expr} {k0 : Nat} {pos : Pos} {e it l : Addr} (hne : e ≠ it) :
    Turn P w K (.Tuple elts k0 pos) (Ite K l) [e, it] e (fun i h => (∃ old, IsEnum h e it (i : Int) old) ∧ h.IsListIter it l i) where
  mem := by simp
  obj := fun i h st b hb => by
    obtain ⟨⟨old, he⟩, ⟨o1, e1, c1, d1⟩⟩ := st
    simp only [List.mem_cons, List.not_mem_nil, or_false] at hb
    rcases hb with rfl | rfl
    · exact ⟨_, he, fun v q => nomatch q⟩
    · exact ⟨o1, e1, fun v q => by rw [d1] at q; cases q⟩
  keep := fun i h h' st kp => by
    obtain ⟨⟨old, he⟩, h1⟩ := st
    exact ⟨⟨old, kp e (by simp) _ he⟩, h1.at fun o q => kp it (by simp) o q⟩
  item := by
    intro X hP hw hK hc i pins s σ H E I hf st hg
    subst hP hw hK
    obtain ⟨xs, x, hq1, hx⟩ := hg
    obtain ⟨its1, rv1, p1, _⟩ := I.list hq1
    obtain ⟨u1, hu1, ru1⟩ := rv1.get hx
    obtain ⟨⟨old, he⟩, h1⟩ := st
    refine wpAny_pyNext_enum_item he h1 p1.isList (x := u1) (by simpa using hu1) hne fun h' a1 a3 a5 a6 hk => ?_
    have kp : ∀ c o, c ∉ [e, it] → s.heap.get? c = some o → h'.get? c = some o := fun c o hc q => by
      simp only [List.mem_cons, List.not_mem_nil, or_false, not_or] at hc
      exact hk c o hc.1 hc.2 q
    have I1 : Inv X pins σ (upd H s.heap.objs.size (.tup [.int (i : Int), x])) { s with heap := h', toks := s.toks + 1 } := I.turnedTup (t' := s.toks + 1) hf (Nat.le_refl _) a5 ⟨_, rfl⟩ ru1 kp
    have nz : ∀ b ∈ [e, it], b ≠ s.heap.objs.size := fun b hb q => by
      simp only [List.mem_cons, List.not_mem_nil, or_false] at hb
      rcases hb with rfl | rfl
      · exact Nat.lt_irrefl _ (q ▸ Heap.lt_size he)
      · obtain ⟨_, e2, _⟩ := h1; exact Nat.lt_irrefl _ (q ▸ Heap.lt_size e2)
    have hf1 : ∀ b ∈ [e, it], FpOk X pins (upd H s.heap.objs.size (.tup [.int (i : Int), x])) b := fun b hb => ⟨by rw [upd_ne (nz b hb)]; exact (hf b hb).1, (hf b hb).2⟩
    refine ⟨.ref s.heap.objs.size, rfl, wpAny_letOwnedTupleGo_enum (s := { s with heap := h', toks := s.toks + 1 }) a1 fun h2' hz' hs' => ?_⟩
    have I2 : Inv X pins σ (upd H s.heap.objs.size (.tup [.int (i : Int), x])) { s with heap := h2', toks := s.toks + 1 } := I1.turnedAll (t' := s.toks + 1) hf1 fun c o hc q => hs'.extBut c o (fun z => hc (by simp [z])) q
    exact ⟨.ref s.heap.objs.size, _, I2, rfl, ⟨_, x, rfl, I.hok.fresh (Nat.le_refl _), rfl, fun xs' hx' => by rw [I.list_inj hx' hq1]; exact hx⟩,
      ⟨⟨_, by simpa using hz'⟩, a3.extBut hs'.extBut hne.symm⟩, fun b hb => (hf1 b hb).1⟩
  done := by
    intro X hP hw hK hc i pins s σ H E I hf st hg
    subst hP hw hK
    obtain ⟨xs, hq1, hl⟩ := hg
    obtain ⟨its1, rv1, p1, _⟩ := I.list hq1
    have l1 := rv1.length
    obtain ⟨⟨old, he⟩, h1⟩ := st
    refine wpAny_pyNext_enum_end (I.ok.hd hc) he h1 p1.isList (by simp; omega) fun h' hk => ⟨rfl, I.turnedAll (t' := s.toks) hf fun c o hc q => hk c o (fun z => hc (by simp [z])) q⟩
  self := fun _ _ _ _ _ st h => by obtain ⟨⟨old, he⟩, _⟩ := st; exact wpAny_pyIter_enum he h
section
variable {X : Cx} {K : PySem.W.Frag}
def iEnum (K : PySem.W.Frag) (ta : TA) : TI := fun σ H R => ta σ H fun vs H1 => ∃ (l : Addr) (xs : List V), vs = [.ref l] ∧ H1 l = some (.lst xs) ∧ R (Ite K l) H1
theorem pi_enum {elts : List Expr} {k0 : Nat} {tpos : Pos} {a : Expr} {ta : TA} {p pos : Pos} (hg : Gl X "enumerate") (hm : X.mg "enumerate" = none) (ha : PA X [a] ta) (hK : X.K = K := by rfl)
    (hs : starEach [a] X.env = [(false, eval a X.env)] := by rfl) : PI X (.Tuple elts k0 tpos) (.Call (.Name "enumerate" p) [a] [] pos) (iEnum K ta) := by
  subst hK
  intro pins s σ H R I h
  refine Call_ (ld_blt I hg hm (show bootBuiltins "enumerate" = some (.type "enumerate") by decide +kernel) (PyProof.Rows.callWith_type1 (thn (ha pos pins s σ H _ I h) fun us s1 ⟨vs, H1, I1, r1, q1⟩ => ?_) hs rfl))
  obtain ⟨l, xs, e, hx, q⟩ := q1
  subst e
  obtain ⟨u1, rfl, r2⟩ := vals1 r1
  have e1 : u1 = .ref l := r2
  subst e1
  obtain ⟨z, its, n, rv, el⟩ := I1.hok l _ hx
  refine call_enumerate_1 el fun h' hz hit _ hk => ?_
  refine wpAny_pyIter_enum hz ⟨_, [s1.heap.objs.size + 1, s1.heap.objs.size], _, Ite X.K l, H1, rfl, I1.kept (t' := s1.toks) hk, turn_enum (Nat.succ_ne_self _), ⟨⟨_, hz⟩, hit⟩, fun b hb => ?_, q⟩
  have hb' : s1.heap.objs.size ≤ b := by
    simp only [List.mem_cons, List.not_mem_nil, or_false] at hb
    rcases hb with rfl | rfl
    · exact Nat.le_succ _
    · exact Nat.le_refl _
  exact I1.fpOk hb' (I1.hok.fresh hb')

/-! ### xs.insert(i, y), 0 ≤ i -/

/-! ### range(..) as a thing, list(range(..)) -/
theorem call_rng2 : CallR X (.type "range") (fun xs H Q => ∃ i j, xs = [.int i, .int j] ∧ ∀ p, H p = none → Q (.ref p) (upd H p (.rng i j))) := by
  intro pins s σ H xs us Q I r h
  obtain ⟨i, j, rfl, q⟩ := h
  obtain ⟨u, w', rfl, ⟨t, rfl⟩, ⟨t', rfl⟩⟩ := vals2 r
  exact call_range_2 ⟨.ref s.heap.objs.size, _, I.laid (o := .rng i j) (t' := s.toks + 1) (fun b o e => Heap.get?_push_of_some _ e) (Nat.le_refl _) ⟨_, _, _, Heap.get?_push_size _ rfl⟩, rfl, q _ I.fresh⟩
def rngV (lo : Int) (n : Nat) : List V := (List.range n).map fun (i : Nat) => V.int (lo + (i : Int))
theorem call_list_rng (hc : X.calm = true) : CallR X (.type "list") (fun xs H Q => ∃ p lo hi, xs = [.ref p] ∧ H p = some (.rng lo hi) ∧ (-(2 ^ 62) ≤ lo ∧ lo < 2 ^ 62 ∧ -(2 ^ 62) ≤ hi ∧ hi < 2 ^ 62) ∧ hi - lo ≤ 1000000 ∧ ∀ l, H l = none → Q (.ref l) (upd H l (.lst (rngV lo (hi - lo).toNat)))) := by
  intro pins s σ H xs us Q I r h
  obtain ⟨p, lo, hi, rfl, hp, ⟨b1, b2, b3, b4⟩, b5, q⟩ := h
  obtain ⟨u, rfl, ru⟩ := vals1 r
  cases ru
  obtain ⟨t, u, v, e⟩ := I.hok p _ hp
  refine call_list_range (I.ok.hd hc) (n := (hi - lo).toNat) e (small_one b1 b2 b3 b4) (by rw [rangeSize_one]; split <;> omega) (by omega) fun h' tk acc' c' hk hS' hacc => ?_
  refine ⟨.ref s.heap.objs.size, _, I.laid (o := .lst (rngV lo (hi - lo).toNat)) (t' := tk) hk (Nat.le_refl _) ⟨?_, acc'.toList, c', ?_, hS'⟩, rfl, q _ I.fresh⟩
  · unfold rngV
    rw [List.length_map, List.length_range, sizeLine_eq]; omega
  · have hl : acc'.toList.length = (hi - lo).toNat := hacc.1
    have go : ∀ (m : Nat) (us : List Value) (k : Nat), us.length = m → (∀ (j : Nat) (v : Value), us[j]? = some v → ∃ t, v = Value.int (lo + ((k + j : Nat) : Int) * 1) t) → Vals ((List.range' k m).map fun (i : Nat) => V.int (lo + (i : Int))) us := by
      intro m
      induction m with
      | zero => intro us k hu _; cases us with
        | nil => exact .nil
        | cons _ _ => simp at hu
      | succ m ih =>
        intro us k hu hv
        cases us with
        | nil => simp at hu
        | cons u r =>
          rw [List.range'_succ, List.map_cons]
          refine .cons ?_ (ih r (k + 1) (by simpa using hu) fun j v hj => ?_)
          · obtain ⟨t, rfl⟩ := hv 0 u rfl
            exact ⟨t, by simp⟩
          · obtain ⟨t, rfl⟩ := hv (j + 1) v (by simpa using hj)
            exact ⟨t, by rw [show k + (j + 1) = k + 1 + j by omega]⟩
    unfold rngV
    rw [List.range_eq_range']
    exact go _ _ 0 hl fun j v hj => by
      obtain ⟨t, rfl⟩ := hacc.2 j v (by simpa using hj)
      exact ⟨t, by simp⟩
end
end L2

namespace L2
open PySem PySem.Spec PyProof.Rows
theorem for_zip {K : PySem.W.Frag} {a b : Addr} {xs ys : List V} {g : TG} {tb : TS} {D : Ends} {σ : St} {H : Hp} (Pv : Nat → St → Hp → Prop) (h0 : Pv 0 σ H) (hl : ∀ i σ H, Pv i σ H → SqL K H a xs ∧ SqL K H b ys) (he : xs.length = ys.length)
    (hs : ∀ i x y σ H T, xs[i]? = some x → ys[i]? = some y → Pv i σ H → H T = none → g (.ref T) σ (upd H T (.tup [x, y])) fun σ2 H2 => tb { D with nx := Pv (i + 1), ct := Pv (i + 1), bk := D.nx } σ2 H2) (hd : ∀ σ H, Pv xs.length σ H → D.nx σ H) :
    ∃ W : Nat → Nat → St → Hp → Prop, (∃ m, W 0 m σ H) ∧ ∀ i m σ H, W i m σ H →
      ((Itz K a b).stop i H ∧ D.nx σ H) ∨ ((Itz K a b).go i H ∧ ∃ N : St → Hp → Prop, (∀ σ' H', N σ' H' → ∃ m', m' < m ∧ W (i + 1) m' σ' H') ∧ ∀ x H', (Itz K a b).yld i H x H' → g x σ H' fun σ2 H2 => tb { D with nx := N, ct := N, bk := D.nx } σ2 H2) := by
  refine ⟨fun i m σ H => m = xs.length - i ∧ i ≤ xs.length ∧ Pv i σ H, ⟨_, rfl, Nat.zero_le _, h0⟩, ?_⟩
  rintro i m σ H ⟨rfl, hi, hp⟩
  obtain ⟨q1, q2⟩ := hl i σ H hp
  by_cases hlt : i < xs.length
  · refine .inr ⟨⟨xs, ys, xs[i], ys[i], q1, List.getElem?_eq_getElem hlt, q2, List.getElem?_eq_getElem (by omega)⟩, Pv (i + 1), fun σ' H' h' => ⟨xs.length - (i + 1), by omega, rfl, hlt, h'⟩, ?_⟩
    rintro v H' ⟨T, x, y, rfl, hT, rfl, hx, hy⟩
    exact hs i x y σ H T (hx xs q1) (hy ys q2) hp hT
  · have e : i = xs.length := by omega
    subst e
    exact .inl ⟨⟨xs, ys, q1, q2, .inl (Nat.le_refl _)⟩, hd σ H hp⟩
end L2

set_option Elab.async false
set_option linter.all false
set_option maxRecDepth 100000

namespace L2
open PySem PySem.Spec PyProof.Rows
section
variable {X : Cx} {K : PySem.W.Frag}
theorem call_sumI (hc : X.calm = true) (hK : X.K = K := by rfl) : CallR X (.builtin "sum") (fun xs H Q => ∃ (p : Addr) (ns : List Int), xs = [.ref p] ∧ SqL K H p (ns.map V.int) ∧ Q (.int ns.sum) H) := by
  subst hK
  intro pins s σ H xs us Q I r h
  obtain ⟨p, ns, rfl, hq, q⟩ := h
  obtain ⟨u, rfl, ru⟩ := vals1 r
  cases ru
  obtain ⟨its, rv, pl, hz⟩ := I.list hq
  have hl := pl.isList
  have hi := intsAre_of rv
  obtain ⟨ys, hx⟩ := hi.allInts.items
  have hl' : s.heap.IsList p (intItems ys) := hx ▸ hl
  refine sum_intListG (I.ok.hd hc) hl' fun h' tk t' hk => ?_
  have e1 : ns = ys.toList.map (·.1) := by
    rw [← nums_intItems, ← hx]
    exact (show numsOf its.toArray.toList = ns from hi.numsOf).symm
  have e2 : preSum (numAt ys) ys.size = ns.sum := by
    rw [preSum_eq, List.take_of_length_le (by simp), e1]
  rw [e2]
  exact ⟨.int ns.sum, H, I.kept (t' := tk) hk, ⟨t', rfl⟩, q⟩
end
/-- a comprehension over enumerate(xs) -/
theorem comp_enum {K : PySem.W.Frag} {a : Addr} {xs : List V} {H1 : Hp} {fvals : St} {te : TE} {Q : Addr → Hp → Prop} (f : Nat → V → V) (hx : SqL K H1 a xs) (hz : xs.length ≤ sizeLine)
    (step : ∀ (i : Nat) (x : V) (H : Hp) (R : VK), xs[i]? = some x → Same H1 H → R (f i x) H → te (some (.int (i : Int)) :: some x :: fvals) H R)
    (q : ∀ acc H', H1 acc = none → Same H1 H' → H' acc = some (.lst (xs.mapIdx f)) → Q acc H') :
    compWalk (Ite K a) H1 (none :: none :: fvals) (gTup K 2 (gCons (gName 0) (gCons (gName 1) gNil))) te Q := by
  intro acc hacc
  refine ⟨fun i m σ' H' => m = xs.length - i ∧ i ≤ xs.length ∧ (∃ o1 o2, σ' = o1 :: o2 :: fvals) ∧ Same H1 H' ∧ H' acc = some (.lst ((xs.mapIdx f).take i)), ⟨_, rfl, Nat.zero_le _, ⟨none, none, rfl⟩, Same.put hacc, by rw [upd_same]; simp⟩, ?_⟩
  rintro i m σ' H' ⟨rfl, hi, ⟨o1, o2, rfl⟩, sm, ha⟩
  have len : (xs.mapIdx f).length = xs.length := by simp
  by_cases hlt : i < xs.length
  · have hxi : xs[i]? = some xs[i] := List.getElem?_eq_getElem hlt
    refine .inr ⟨⟨xs, _, sm.seq hx, hxi⟩, ?_⟩
    rintro v H2 ⟨T, x, rfl, hT, rfl, h1⟩
    have ex := h1 xs (sm.seq hx)
    have sT : Same H' (upd H' T (.tup [.int (i : Int), x])) := Same.put hT
    refine ⟨T, _, rfl, SqT.of upd_same, rfl, _, _, rfl, _, _, rfl, rfl, ?_⟩
    refine step i x _ _ ex (sm.trans sT) ⟨_, sT _ _ ha, ?_, xs.length - (i + 1), by omega, rfl, hlt, ⟨_, _, rfl⟩, ?_, ?_⟩
    · rw [List.length_take]; omega
    · intro b' u e
      rw [upd_ne (ne_of_none e hacc)]
      exact sT _ _ (sm _ _ e)
    · rw [upd_same]
      have ez : (xs.mapIdx f)[i]? = some (f i x) := by rw [List.getElem?_mapIdx, ex]; rfl
      rw [List.take_add_one, ez]; rfl
  · refine .inl ⟨⟨xs, sm.seq hx, by omega⟩, q acc H' hacc sm ?_⟩
    rw [ha, List.take_of_length_le (by omega)]
/-- a comprehension over a list whose parts change the heap: an invariant of one's own -/
theorem comp_inv {K : PySem.W.Frag} {a : Addr} {xs : List V} {H1 : Hp} {fvals : St} {te : TE} {Q : Addr → Hp → Prop} (Pv : Addr → Nat → Hp → Prop) (hl : ∀ acc i H, Pv acc i H → SqL K H a xs)
    (h0 : ∀ acc, H1 acc = none → Pv acc 0 (upd H1 acc (.lst [])))
    (step : ∀ (acc : Addr) (i : Nat) (x : V) (H : Hp) (R : VK), xs[i]? = some x → Pv acc i H → (∀ v H2, (∃ ys, H2 acc = some (.lst ys) ∧ ys.length < sizeLine ∧ Pv acc (i + 1) (upd H2 acc (.lst (ys ++ [v])))) → R v H2) → te (some x :: fvals) H R)
    (q : ∀ acc H', H1 acc = none → Pv acc xs.length H' → Q acc H') :
    compWalk (Itl K a) H1 (none :: fvals) (gName 0) te Q := by
  intro acc hacc
  refine ⟨fun i m σ' H' => m = xs.length - i ∧ i ≤ xs.length ∧ (∃ o, σ' = o :: fvals) ∧ Pv acc i H', ⟨_, rfl, Nat.zero_le _, ⟨none, rfl⟩, h0 acc hacc⟩, ?_⟩
  rintro i m σ' H' ⟨rfl, hi, ⟨o, rfl⟩, pv⟩
  by_cases hlt : i < xs.length
  · have hxi : xs[i]? = some xs[i] := List.getElem?_eq_getElem hlt
    refine .inr ⟨⟨xs, _, hl _ _ _ pv, hxi⟩, ?_⟩
    rintro v H2 ⟨rfl, hx⟩
    exact step acc i v H2 _ (hx xs (hl _ _ _ pv)) pv fun u H3 ⟨ys, e1, e2, e3⟩ => ⟨ys, e1, e2, xs.length - (i + 1), by omega, rfl, hlt, ⟨some v, rfl⟩, e3⟩
  · have e : i = xs.length := by omega
    subst e
    exact .inl ⟨⟨xs, hl _ _ _ pv, Nat.le_refl _⟩, q acc H' hacc pv⟩
end L2

set_option Elab.async false
set_option linter.all false
set_option maxRecDepth 100000

namespace L2
open PySem PySem.Spec PyProof.Rows
/-- a comprehension over zip(xs, ys) whose parts change the heap -/
theorem comp_zipInv {K : PySem.W.Frag} {a b : Addr} {xs ys : List V} {H1 : Hp} {fvals : St} {te : TE} {Q : Addr → Hp → Prop} (Pv : Addr → Nat → Hp → Prop) (hl : ∀ acc i H, Pv acc i H → SqL K H a xs ∧ SqL K H b ys) (he : xs.length = ys.length)
    (h0 : ∀ acc, H1 acc = none → Pv acc 0 (upd H1 acc (.lst [])))
    (step : ∀ (acc : Addr) (i : Nat) (x y : V) (H : Hp) (T : Addr) (R : VK), xs[i]? = some x → ys[i]? = some y → Pv acc i H → H T = none → (∀ v H2, (∃ zs, H2 acc = some (.lst zs) ∧ zs.length < sizeLine ∧ Pv acc (i + 1) (upd H2 acc (.lst (zs ++ [v])))) → R v H2) → te (some x :: some y :: fvals) (upd H T (.tup [x, y])) R)
    (q : ∀ acc H', H1 acc = none → Pv acc xs.length H' → Q acc H') :
    compWalk (Itz K a b) H1 (none :: none :: fvals) (gTup K 2 (gCons (gName 0) (gCons (gName 1) gNil))) te Q := by
  intro acc hacc
  refine ⟨fun i m σ' H' => m = xs.length - i ∧ i ≤ xs.length ∧ (∃ o1 o2, σ' = o1 :: o2 :: fvals) ∧ Pv acc i H', ⟨_, rfl, Nat.zero_le _, ⟨none, none, rfl⟩, h0 acc hacc⟩, ?_⟩
  rintro i m σ' H' ⟨rfl, hi, ⟨o1, o2, rfl⟩, pv⟩
  obtain ⟨hx, hy⟩ := hl _ _ _ pv
  by_cases hlt : i < xs.length
  · have hxi : xs[i]? = some xs[i] := List.getElem?_eq_getElem hlt
    have hyi : ys[i]? = some ys[i] := List.getElem?_eq_getElem (by omega)
    refine .inr ⟨⟨xs, ys, _, _, hx, hxi, hy, hyi⟩, ?_⟩
    rintro v H2 ⟨T, x, y, rfl, hT, rfl, h1, h2⟩
    refine ⟨T, _, rfl, SqT.of upd_same, rfl, _, _, rfl, _, _, rfl, rfl, ?_⟩
    exact step acc i x y H' T _ (h1 xs hx) (h2 ys hy) pv hT fun u H3 ⟨zs, e1, e2, e3⟩ => ⟨zs, e1, e2, xs.length - (i + 1), by omega, rfl, hlt, ⟨_, _, rfl⟩, e3⟩
  · have e : i = xs.length := by omega
    subst e
    exact .inl ⟨⟨xs, ys, hx, hy, .inl (Nat.le_refl _)⟩, q acc H' hacc pv⟩
end L2

set_option Elab.async false
set_option linter.all false
set_option maxRecDepth 100000

namespace L2
open PySem PySem.Spec PyProof.Rows
/-- a comprehension over a list of pairs, taken apart, whose parts change the heap -/
theorem comp_tupInv {K : PySem.W.Frag} {a : Addr} {xs : List V} {H1 : Hp} {fvals : St} {te : TE} {Q : Addr → Hp → Prop} (Pv : Addr → Nat → Hp → Prop) (hl : ∀ acc i H, Pv acc i H → SqL K H a xs)
    (h0 : ∀ acc, H1 acc = none → Pv acc 0 (upd H1 acc (.lst [])))
    (tup : ∀ (acc : Addr) (i : Nat) (x : V) (H : Hp), xs[i]? = some x → Pv acc i H → ∃ (T : Addr) (x1 x2 : V), x = .ref T ∧ H T = some (.tup [x1, x2]))
    (step : ∀ (acc : Addr) (i : Nat) (T : Addr) (x1 x2 : V) (H : Hp) (R : VK), xs[i]? = some (.ref T) → H T = some (.tup [x1, x2]) → Pv acc i H → (∀ v H2, (∃ zs, H2 acc = some (.lst zs) ∧ zs.length < sizeLine ∧ Pv acc (i + 1) (upd H2 acc (.lst (zs ++ [v])))) → R v H2) → te (some x1 :: some x2 :: fvals) H R)
    (q : ∀ acc H', H1 acc = none → Pv acc xs.length H' → Q acc H') :
    compWalk (Itl K a) H1 (none :: none :: fvals) (gTup K 2 (gCons (gName 0) (gCons (gName 1) gNil))) te Q := by
  intro acc hacc
  refine ⟨fun i m σ' H' => m = xs.length - i ∧ i ≤ xs.length ∧ (∃ o1 o2, σ' = o1 :: o2 :: fvals) ∧ Pv acc i H', ⟨_, rfl, Nat.zero_le _, ⟨none, none, rfl⟩, h0 acc hacc⟩, ?_⟩
  rintro i m σ' H' ⟨rfl, hi, ⟨o1, o2, rfl⟩, pv⟩
  by_cases hlt : i < xs.length
  · have hxi : xs[i]? = some xs[i] := List.getElem?_eq_getElem hlt
    refine .inr ⟨⟨xs, _, hl _ _ _ pv, hxi⟩, ?_⟩
    rintro v H2 ⟨rfl, hx⟩
    have hxx := hx xs (hl _ _ _ pv)
    obtain ⟨T, x1, x2, rfl, hT⟩ := tup acc i v H2 hxx pv
    refine ⟨T, _, rfl, SqT.of hT, rfl, _, _, rfl, _, _, rfl, rfl, ?_⟩
    exact step acc i T x1 x2 H2 _ hxx hT pv fun u H3 ⟨zs, e1, e2, e3⟩ => ⟨zs, e1, e2, xs.length - (i + 1), by omega, rfl, hlt, ⟨_, _, rfl⟩, e3⟩
  · have e : i = xs.length := by omega
    subst e
    exact .inl ⟨⟨xs, hl _ _ _ pv, Nat.le_refl _⟩, q acc H' hacc pv⟩
/-- a comprehension over range(n) whose parts change the heap -/
theorem comp_rngInv {lo : Int} {n : Nat} {H1 : Hp} {fvals : St} {te : TE} {Q : Addr → Hp → Prop} (Pv : Addr → Nat → Hp → Prop)
    (h0 : ∀ acc, H1 acc = none → Pv acc 0 (upd H1 acc (.lst [])))
    (step : ∀ (acc : Addr) (i : Nat) (H : Hp) (R : VK), i < n → Pv acc i H → (∀ v H2, (∃ zs, H2 acc = some (.lst zs) ∧ zs.length < sizeLine ∧ Pv acc (i + 1) (upd H2 acc (.lst (zs ++ [v])))) → R v H2) → te (some (.int (lo + i)) :: fvals) H R)
    (q : ∀ acc H', H1 acc = none → Pv acc n H' → Q acc H') : compWalk (Itr lo n) H1 (none :: fvals) (gName 0) te Q := by
  intro acc hacc
  refine ⟨fun i m σ' H' => m = n - i ∧ i ≤ n ∧ (∃ o, σ' = o :: fvals) ∧ Pv acc i H', ⟨_, rfl, Nat.zero_le _, ⟨none, rfl⟩, h0 acc hacc⟩, ?_⟩
  rintro i m σ' H' ⟨rfl, hi, ⟨o, rfl⟩, pv⟩
  by_cases hlt : i < n
  · refine .inr ⟨hlt, ?_⟩
    rintro x H2 ⟨rfl, rfl⟩
    exact step acc i _ _ hlt pv fun u H3 ⟨zs, e1, e2, e3⟩ => ⟨zs, e1, e2, n - (i + 1), by omega, rfl, hlt, ⟨_, rfl⟩, e3⟩
  · have e : i = n := by omega
    subst e
    exact .inl ⟨Nat.le_refl _, q acc H' hacc pv⟩
end L2









set_option Elab.async false
set_option linter.all false
set_option maxRecDepth 100000

namespace L2
open PySem PySem.Spec PyProof.Rows
/-! ### zip of three lists, taken apart at once -/
abbrev IsTrip (h : Heap) (T : Addr) (a b c : Value) : Prop := h.get? T = some { cls := .type "tuple", data := .seq #[a, b, c] }
/-- the records of a zip of three stand apart from one another and from the lists -/
structure Zip3Apart (z P O i j k l t u : Addr) : Prop where
  Pz : P ≠ z
  Oz : O ≠ z
  iz : i ≠ z
  jz : j ≠ z
  kz : k ≠ z
  PO : P ≠ O
  Pi : P ≠ i
  Pj : P ≠ j
  Pk : P ≠ k
  Oi : O ≠ i
  Oj : O ≠ j
  Ok : O ≠ k
  ij : i ≠ j
  ik : i ≠ k
  jk : j ≠ k
  lz : l ≠ z
  lO : l ≠ O
  li : l ≠ i
  tz : t ≠ z
  tO : t ≠ O
  ti : t ≠ i
  tj : t ≠ j
  uz : u ≠ z
  uO : u ≠ O
  ui : u ≠ i
  uj : u ≠ j
  uk : u ≠ k
section
variable {s : Shared} {E : Value → Shared → Prop} {prog : Program} {w : World} {A : Around}
theorem upd_trip {T : Addr} {a b c x : Value} {k : Nat} {Q : Unit → Shared → Prop} (hT : IsTrip s.heap T a b c)
    (h : ∀ h', h'.get? T = some { cls := .type "tuple", data := .seq ((#[a, b, c] : Array Value).setIfInBounds k x) } → Heap.SameBut T s.heap h' → Q () { s with heap := h' }) :
    wpAny (model prog w) A (updateSeq T (·.setIfInBounds k x)) Q E s := by
  refine wpAny_updateSeq hT rfl (h _ ?_ (Heap.SameBut.update ..))
  rw [Heap.get?_update_self _ hT rfl]
  simp [Obj.mapSeq]
theorem zip3_item {z P O i j k l t u : Addr} {n : Nat} {xs ys zs : Array Value} {x y v a b c : Value} {R : Option Value → Shared → Prop} (D : Zip3Apart z P O i j k l t u) (gz : IsZip s.heap z P O .none) (gP : IsTrip s.heap P (.ref i) (.ref j) (.ref k)) (gO : IsTrip s.heap O a b c)
    (gi : s.heap.IsListIter i l n) (gj : s.heap.IsListIter j t n) (gk : s.heap.IsListIter k u n) (gl : s.heap.IsList l xs) (gt : s.heap.IsList t ys) (gu : s.heap.IsList u zs) (ex : xs[n]? = some x) (ey : ys[n]? = some y) (ev : zs[n]? = some v)
    (K : ∀ hp, IsZip hp z P O (rawInt s.heap.objs.size) → IsTrip hp O x y v → hp.IsListIter i l (n + 1) → hp.IsListIter j t (n + 1) → hp.IsListIter k u (n + 1) → IsTrip hp s.heap.objs.size x y v → (∀ c o, c ≠ z → c ≠ O → c ≠ i → c ≠ j → c ≠ k → s.heap.get? c = some o → hp.get? c = some o) → R (some (.ref s.heap.objs.size)) { s with heap := hp }) :
    wpAny (model prog w) A (pyNext (.ref z)) R E s := by
  have tz : s.TypeIs (.ref z) "zip" := ⟨_, gz, rfl⟩
  unfold pyNext
  refine wpAny_bind (wpAny_attempt (wpAny_callSpecial?_slot (name := Str.ofString "__next__") tz F.slot_zip_next (wpAny_call_entry F.slot_zip_next tz F.entry_zip_next ?_ (F.args_zip_next_1 _))))
  (show wpAny _ _ (field (.ref z) 2 >>= _) _ _ _); refine wpAny_bind (wpAny_field gz rfl (x := .bool false) rfl ?_)
  (show wpAny _ _ (field (.ref z) 3 >>= _) _ _ _); refine wpAny_bind (wpAny_field gz rfl (x := .ref P) rfl ?_)
  refine wpAny_bind (wpAny_seqItems gP rfl ?_)
  (show wpAny _ _ (Builtin.SmallTypes.ownedTupleIsFree (.ref z) >>= _) _ _ _); refine wpAny_bind ?_
  (unfold Builtin.SmallTypes.ownedTupleIsFree); refine wpAny_bind (wpAny_field gz rfl (x := .none) rfl (wpAny_pure ?_))
  simp only [if_true]
  refine wpAny_bind (wpAny_rule (wpAny_bind (wpAny_field gz rfl (x := .ref O) rfl ?_)))
  refine wpAny_bind (wpAny_setField_rec gz (by simp) fun u1 q1 m1 => ?_)
  replace q1 : IsZip u1 z P O .ellipsis := q1
  refine wpAny_bind ?_
  (simp only [List.zipIdx_cons, List.zipIdx_nil, List.forIn_cons, List.forIn_nil]); refine wpAny_bind (wpAny_bind (wpAny_onRaise ?_))
  (show wpAny _ _ (Builtin.SmallTypes.nextOf (.ref i) >>= _) _ _ _); refine wpAny_bind (wpAny_nextOf_list_item (gi.extBut m1.extBut D.iz) (gl.extBut m1.extBut D.lz) ex fun u2 r2 m2 => wpAny_pure ?_)
  have o2 : IsTrip u2 O a b c := m2.extBut _ _ D.Oi (m1.extBut _ _ D.Oz gO)
  refine wpAny_bind (wpAny_seqItems o2 rfl (wpAny_bind (upd_trip o2 fun u3 o3 m3 => ?_)))
  replace o3 : IsTrip u3 O x b c := o3
  refine wpAny_bind (wpAny_letGo (wpAny_pure (wpAny_bind (wpAny_bind (wpAny_onRaise ?_)))))
  have t3 : u3.IsList t ys := (((gt.extBut m1.extBut D.tz).extBut m2.extBut D.ti).extBut m3.extBut D.tO)
  (show wpAny _ _ (Builtin.SmallTypes.nextOf (.ref j) >>= _) _ _ _)
  refine wpAny_bind (wpAny_nextOf_list_item (((gj.extBut m1.extBut D.jz).extBut m2.extBut D.ij.symm).extBut m3.extBut D.Oj.symm) t3 ey fun u4 r4 m4 => wpAny_pure ?_)
  have o4 : IsTrip u4 O x b c := m4.extBut _ _ D.Oj o3
  refine wpAny_bind (wpAny_seqItems o4 rfl (wpAny_bind (upd_trip o4 fun u5 o5 m5 => ?_)))
  replace o5 : IsTrip u5 O x y c := o5
  refine wpAny_bind (wpAny_letGo (wpAny_pure (wpAny_bind (wpAny_bind (wpAny_onRaise ?_)))))
  have v5 : u5.IsList u zs := (((((gu.extBut m1.extBut D.uz).extBut m2.extBut D.ui).extBut m3.extBut D.uO).extBut m4.extBut D.uj).extBut m5.extBut D.uO)
  (show wpAny _ _ (Builtin.SmallTypes.nextOf (.ref k) >>= _) _ _ _)
  refine wpAny_bind (wpAny_nextOf_list_item (((((gk.extBut m1.extBut D.kz).extBut m2.extBut D.ik.symm).extBut m3.extBut D.Ok.symm).extBut m4.extBut D.jk.symm).extBut m5.extBut D.Ok.symm) v5 ev fun u6 r6 m6 => wpAny_pure ?_)
  have o6 : IsTrip u6 O x y c := m6.extBut _ _ D.Ok o5
  refine wpAny_bind (wpAny_seqItems o6 rfl (wpAny_bind (upd_trip o6 fun u7 o7 m7 => ?_)))
  replace o7 : IsTrip u7 O x y v := o7
  refine wpAny_bind (wpAny_letGo (wpAny_pure (wpAny_pure (wpAny_bind (wpAny_seqItems o7 rfl (wpAny_bind (wpAny_newTuple ?_)))))))
  have sz : u7.objs.size = s.heap.objs.size := by rw [m7.1, m6.1, m5.1, m4.1, m3.1, m2.1, m1.1]
  have q7 : IsZip u7 z P O .ellipsis := m7.extBut _ _ D.Oz.symm (m6.extBut _ _ D.kz.symm (m5.extBut _ _ D.Oz.symm (m4.extBut _ _ D.jz.symm (m3.extBut _ _ D.Oz.symm (m2.extBut _ _ D.iz.symm q1)))))
  have all7 : ∀ c o, c ≠ z → c ≠ O → c ≠ i → c ≠ j → c ≠ k → s.heap.get? c = some o → u7.get? c = some o := fun c o n1 n2 n3 n4 n5 e => m7.extBut _ _ n2 (m6.extBut _ _ n5 (m5.extBut _ _ n2 (m4.extBut _ _ n4 (m3.extBut _ _ n2 (m2.extBut _ _ n3 (m1.extBut _ _ n1 e))))))
  have ri : u7.IsListIter i l (n + 1) := ((((r2.extBut m3.extBut D.Oi.symm).extBut m4.extBut D.ij).extBut m5.extBut D.Oi.symm).extBut m6.extBut D.ik).extBut m7.extBut D.Oi.symm
  have rj : u7.IsListIter j t (n + 1) := ((r4.extBut m5.extBut D.Oj.symm).extBut m6.extBut D.jk).extBut m7.extBut D.Oj.symm
  have rk : u7.IsListIter k u (n + 1) := r6.extBut m7.extBut D.Ok.symm
  have zlt : z < u7.objs.size := Heap.lt_size q7
  (show wpAny _ _ (Builtin.SmallTypes.ownedTupleHandOut (.ref z) (.ref u7.objs.size) >>= _) _ _ _); refine wpAny_bind ?_
  (unfold Builtin.SmallTypes.ownedTupleHandOut); have q8 : IsZip (u7.push { cls := .type "tuple", data := .seq #[x, y, v] }) z P O .ellipsis := Heap.get?_push_of_some _ q7
  refine wpAny_bind (wpAny_setField_rec q8 (by simp) fun u9 q9 m9 => ?_)
  replace q9 : IsZip u9 z P O (rawInt u7.objs.size) := q9
  refine wpAny_setField_rec q9 (by simp) fun u0 q0 m0 => ?_
  replace q0 : IsZip u0 z P O (rawInt u7.objs.size) := q0
  have up : ∀ c o, c ≠ z → u7.get? c = some o → u0.get? c = some o := fun c o n1 e => m0.extBut _ _ n1 (m9.extBut _ _ n1 (Heap.get?_push_of_some _ e))
  have T0 : IsTrip u0 u7.objs.size x y v := m0.extBut _ _ (Nat.ne_of_gt zlt) (m9.extBut _ _ (Nat.ne_of_gt zlt) (Heap.get?_push_size _ rfl))
  rw [sz] at q0 T0
  refine wpAny_pure ⟨_, rfl, wpAny_pure ?_⟩
  show R (some (.ref u7.objs.size)) _
  rw [sz]
  exact K u0 q0 (up _ _ D.Oz o7) (ri.at fun o e => up _ o D.iz e) (rj.at fun o e => up _ o D.jz e) (rk.at fun o e => up _ o D.kz e) T0 fun c o n1 n2 n3 n4 n5 e => up c o n1 (all7 c o n1 n2 n3 n4 n5 e)
theorem zip3_end {z P O i j k l t u : Addr} {n : Nat} {xs : Array Value} {a b c : Value} {R : Option Value → Shared → Prop} (hh : A.handled = none) (D : Zip3Apart z P O i j k l t u) (gz : IsZip s.heap z P O .none) (gP : IsTrip s.heap P (.ref i) (.ref j) (.ref k)) (gO : IsTrip s.heap O a b c)
    (gi : s.heap.IsListIter i l n) (gl : s.heap.IsList l xs) (ex : xs[n]? = none) (K : ∀ hp, (∀ c o, c ≠ z → c ≠ i → s.heap.get? c = some o → hp.get? c = some o) → R none { s with heap := hp }) :
    wpAny (model prog w) A (pyNext (.ref z)) R E s := by
  have tz : s.TypeIs (.ref z) "zip" := ⟨_, gz, rfl⟩
  unfold pyNext
  refine wpAny_bind (wpAny_attempt (wpAny_callSpecial?_slot (name := Str.ofString "__next__") tz F.slot_zip_next (wpAny_call_entry F.slot_zip_next tz F.entry_zip_next ?_ (F.args_zip_next_1 _))))
  (show wpAny _ _ (field (.ref z) 2 >>= _) _ _ _); refine wpAny_bind (wpAny_field gz rfl (x := .bool false) rfl ?_)
  (show wpAny _ _ (field (.ref z) 3 >>= _) _ _ _); refine wpAny_bind (wpAny_field gz rfl (x := .ref P) rfl ?_)
  refine wpAny_bind (wpAny_seqItems gP rfl ?_)
  (show wpAny _ _ (Builtin.SmallTypes.ownedTupleIsFree (.ref z) >>= _) _ _ _); refine wpAny_bind ?_
  (unfold Builtin.SmallTypes.ownedTupleIsFree); refine wpAny_bind (wpAny_field gz rfl (x := .none) rfl (wpAny_pure ?_))
  simp only [if_true]
  refine wpAny_bind (wpAny_rule (wpAny_bind (wpAny_field gz rfl (x := .ref O) rfl ?_)))
  refine wpAny_bind (wpAny_setField_rec gz (by simp) fun u1 q1 m1 => ?_)
  replace q1 : IsZip u1 z P O .ellipsis := q1
  refine wpAny_bind ?_
  (simp only [List.zipIdx_cons, List.zipIdx_nil, List.forIn_cons, List.forIn_nil]); refine wpAny_bind (wpAny_bind (wpAny_onRaise ?_))
  (show wpAny _ _ (Builtin.SmallTypes.nextOf (.ref i) >>= _) _ _ _); refine wpAny_bind (wpAny_nextOf_list_end hh (gi.extBut m1.extBut D.iz) (gl.extBut m1.extBut D.lz) ex fun u2 e m2 he => ?_)
  obtain ⟨oe, ge, ce⟩ := he
  have q2 : IsZip u2 z P O .ellipsis := m2 _ _ D.iz.symm q1
  have ne : e ≠ z := fun h => by subst h; rw [q2] at ge; cases ge; simp at ce
  refine wpAny_setField_rec q2 (by simp) fun u3 _ m3 => ?_
  refine wpAny_bind (wpAny_isInstance (T := "StopIteration") (b := true) ⟨oe, m3.extBut _ _ ne ge, ce⟩ isSubtype_stop ?_)
  exact wpAny_pure (K _ fun c o n1 n3 h => m3.extBut _ _ n1 (m2 _ _ n3 (m1.extBut _ _ n1 h)))
end
end L2
namespace L2
open PySem PySem.Spec PyProof.Rows
def Itz3 (K : PySem.W.Frag) (a b c : Addr) : It :=
  ⟨fun i H => ∃ xs ys zs x y z, SqL K H a xs ∧ xs[i]? = some x ∧ SqL K H b ys ∧ ys[i]? = some y ∧ SqL K H c zs ∧ zs[i]? = some z,
   fun i H v H' => ∃ (T : Addr) (x y z : V), v = .ref T ∧ H T = none ∧ H' = upd H T (.tup [x, y, z]) ∧ (∀ xs, SqL K H a xs → xs[i]? = some x) ∧ (∀ ys, SqL K H b ys → ys[i]? = some y) ∧ (∀ zs, SqL K H c zs → zs[i]? = some z),
   fun i H => ∃ xs, SqL K H a xs ∧ xs.length ≤ i⟩
section
variable {X : Cx} {pins : List (Addr × Obj)} {σ : St} {H : Hp} {s : Shared} {h' : Heap} {t' : Nat} {fp : List Addr}
theorem Inv.turnedTrip {T : Addr} {x y v : V} {vx vy vv : Value} (I : Inv X pins σ H s) (hf : ∀ b ∈ fp, FpOk X pins H b) (hT : s.heap.objs.size ≤ T) (hp : IsTrip h' T vx vy vv) (rx : RelV x vx) (ry : RelV y vy) (rv : RelV v vv)
    (k : ∀ b o, b ∉ fp → s.heap.get? b = some o → h'.get? b = some o) : Inv X pins σ (upd H T (.tup [x, y, v])) { s with heap := h', toks := t' } := by
  have hn : H T = none := I.hok.fresh hT
  have sm : Same H (upd H T (.tup [x, y, v])) := fun b u e => by rw [upd_ne (ne_of_none e hn)]; exact e
  have nit : ∀ b u, H b = some u → b ∉ fp := fun b u e z => by rw [(hf b z).1] at e; cases e
  refine I.step (g' := s.gens) (d' := s.drawn) (ch := fp) (fun b hb => ⟨(hf b hb).2.2.2.1, (hf b hb).2.1, (hf b hb).2.2.2.2.1, (hf b hb).2.2.2.2.2⟩) (fun b o _ _ hc e _ => k b o hc e) (fun b o _ _ hc e _ => ⟨o.slots, k b o hc e⟩)
    (fun b o _ e n => by rw [upd_ne (Nat.ne_of_lt (Nat.lt_of_lt_of_le (Heap.lt_size e) hT))]; exact n)
    (fun b o hc e => ⟨o, k b o hc e⟩) (fun b xs e => sm b _ e) (fun b o u e => sm b _ e) (fun b ps e => ⟨#[], by rw [sm b _ e]; simp⟩) (fun m hm => ?_) (fun b u e => ?_) I.bare
  · obtain ⟨o, es, ep, ho, r⟩ := hm
    exact ⟨o, es, ep, k _ o (fun z => (hf _ z).2.1 rfl) ho, r⟩
  · by_cases hb : b = T
    · subst hb
      rw [upd_same] at e; cases e
      exact ⟨by show 3 ≤ sizeLine; rw [sizeLine_eq]; decide, [vx, vy, vv], .cons rx (.cons ry (.cons rv .nil)), ⟨_, hp, rfl, _, rfl⟩⟩
    · rw [upd_ne hb] at e
      refine (I.hok b u e).stay (fun c v hc q => k c v ?_ q) (fun c q => sm c _ q) fun c xs q => sm c _ q
      rcases hc with z | z
      · rw [z]; exact nit b u e
      · exact nit c _ z
end
theorem turn_zip3 {P : Program} {w : World} {K : PySem.W.Frag} {elts : List Expr} {k0 : Nat} {pos : Pos} {z TI TO i1 i2 i3 l1 l2 l3 : Addr} (D : Zip3Apart z TI TO i1 i2 i3 l1 l2 l3) :
    Turn P w K (.Tuple elts k0 pos) (Itz3 K l1 l2 l3) [z, TI, TO, i1, i2, i3] z (fun i h => IsZip h z TI TO .none ∧ IsTrip h TI (.ref i1) (.ref i2) (.ref i3) ∧ (∃ a b c, IsTrip h TO a b c) ∧ h.IsListIter i1 l1 i ∧ h.IsListIter i2 l2 i ∧ h.IsListIter i3 l3 i) where
  mem := by simp
  obj := fun i h st b hb => by
    obtain ⟨hz, hTI, ⟨a, c, d, hTO⟩, ⟨o1, e1, c1, d1⟩, ⟨o2, e2, c2, d2⟩, ⟨o3, e3, c3, d3⟩⟩ := st
    simp only [List.mem_cons, List.not_mem_nil, or_false] at hb
    rcases hb with rfl | rfl | rfl | rfl | rfl | rfl
    · exact ⟨_, hz, fun v q => nomatch q⟩
    · exact ⟨_, hTI, fun v q => nomatch q⟩
    · exact ⟨_, hTO, fun v q => nomatch q⟩
    · exact ⟨o1, e1, fun v q => by rw [d1] at q; cases q⟩
    · exact ⟨o2, e2, fun v q => by rw [d2] at q; cases q⟩
    · exact ⟨o3, e3, fun v q => by rw [d3] at q; cases q⟩
  keep := fun i h h' st kp => by
    obtain ⟨hz, hTI, ⟨a, c, d, hTO⟩, h1, h2, h3⟩ := st
    exact ⟨kp z (by simp) _ hz, kp TI (by simp) _ hTI, ⟨a, c, d, kp TO (by simp) _ hTO⟩, h1.at fun o e => kp i1 (by simp) o e, h2.at fun o e => kp i2 (by simp) o e, h3.at fun o e => kp i3 (by simp) o e⟩
  item := by
    intro X hP hw hK hc i pins s σ H E I hf st hg
    subst hP hw hK
    obtain ⟨xs, ys, zs, x, y, v, hq1, hx, hq2, hy, hq3, hv⟩ := hg
    obtain ⟨its1, rv1, p1, _⟩ := I.list hq1
    obtain ⟨its2, rv2, p2, _⟩ := I.list hq2
    obtain ⟨its3, rv3, p3, _⟩ := I.list hq3
    obtain ⟨u1, hu1, ru1⟩ := rv1.get hx
    obtain ⟨u2, hu2, ru2⟩ := rv2.get hy
    obtain ⟨u3, hu3, ru3⟩ := rv3.get hv
    obtain ⟨hz, hTI, ⟨a, c, d, hTO⟩, h1, h2, h3⟩ := st
    refine zip3_item D hz hTI hTO h1 h2 h3 p1.isList p2.isList p3.isList (x := u1) (y := u2) (v := u3) (by simpa using hu1) (by simpa using hu2) (by simpa using hu3) fun h' a1 a2 a3 a4 a6 a5 hk => ?_
    have kp : ∀ b o, b ∉ [z, TI, TO, i1, i2, i3] → s.heap.get? b = some o → h'.get? b = some o := fun b o hb q => by
      simp only [List.mem_cons, List.not_mem_nil, or_false, not_or] at hb
      exact hk b o hb.1 hb.2.2.1 hb.2.2.2.1 hb.2.2.2.2.1 hb.2.2.2.2.2 q
    have I1 : Inv X pins σ (upd H s.heap.objs.size (.tup [x, y, v])) { s with heap := h', toks := s.toks } := I.turnedTrip (t' := s.toks) hf (Nat.le_refl _) a5 ru1 ru2 ru3 kp
    have nz : ∀ b ∈ [z, TI, TO, i1, i2, i3], b ≠ s.heap.objs.size := fun b hb q => by
      simp only [List.mem_cons, List.not_mem_nil, or_false] at hb
      rcases hb with rfl | rfl | rfl | rfl | rfl | rfl
      · exact Nat.lt_irrefl _ (q ▸ Heap.lt_size hz)
      · exact Nat.lt_irrefl _ (q ▸ Heap.lt_size hTI)
      · exact Nat.lt_irrefl _ (q ▸ Heap.lt_size hTO)
      · obtain ⟨_, e2, _⟩ := h1; exact Nat.lt_irrefl _ (q ▸ Heap.lt_size e2)
      · obtain ⟨_, e2, _⟩ := h2; exact Nat.lt_irrefl _ (q ▸ Heap.lt_size e2)
      · obtain ⟨_, e2, _⟩ := h3; exact Nat.lt_irrefl _ (q ▸ Heap.lt_size e2)
    have hf1 : ∀ b ∈ [z, TI, TO, i1, i2, i3], FpOk X pins (upd H s.heap.objs.size (.tup [x, y, v])) b := fun b hb => ⟨by rw [upd_ne (nz b hb)]; exact (hf b hb).1, (hf b hb).2⟩
    refine ⟨.ref s.heap.objs.size, rfl, wpAny_letOwnedTupleGo_zip (s := { s with heap := h' }) a1 fun h2' hz' hs' => ?_⟩
    have I2 : Inv X pins σ (upd H s.heap.objs.size (.tup [x, y, v])) { s with heap := h2', toks := s.toks } := I1.turnedAll (t' := s.toks) hf1 fun c o hc q => hs'.extBut c o (fun z => hc (by simp [z])) q
    exact ⟨.ref s.heap.objs.size, _, I2, rfl, ⟨_, x, y, v, rfl, I.hok.fresh (Nat.le_refl _), rfl, fun xs' hx' => by rw [I.list_inj hx' hq1]; exact hx, fun ys' hy' => by rw [I.list_inj hy' hq2]; exact hy, fun zs' hz' => by rw [I.list_inj hz' hq3]; exact hv⟩,
      ⟨hz', hs'.extBut _ _ D.Pz (hk _ _ D.Pz D.PO D.Pi D.Pj D.Pk hTI), ⟨_, _, _, hs'.extBut _ _ D.Oz a2⟩, a3.extBut hs'.extBut D.iz, a4.extBut hs'.extBut D.jz, a6.extBut hs'.extBut D.kz⟩, fun b hb => (hf1 b hb).1⟩
  done := by
    intro X hP hw hK hc i pins s σ H E I hf st hg
    subst hP hw hK
    obtain ⟨xs, hq1, hl⟩ := hg
    obtain ⟨its1, rv1, p1, _⟩ := I.list hq1
    have l1' := rv1.length
    obtain ⟨hz, hTI, ⟨a, c, d, hTO⟩, h1, h2, h3⟩ := st
    refine zip3_end (I.ok.hd hc) D hz hTI hTO h1 p1.isList (by simp; omega) fun h' hk => ⟨rfl, I.turnedAll (t' := s.toks) hf fun c o hc q => ?_⟩
    simp only [List.mem_cons, List.not_mem_nil, or_false, not_or] at hc
    exact hk c o hc.1 hc.2.2.2.1 q
  self := fun _ _ _ _ _ st h => wpAny_pyIter_zip st.1 h
end L2

namespace L2
open PySem PySem.Spec PyProof.Rows
theorem typeCall_zip_3 (a b c : Value) : checkTypeCall "zip" ⟨[a, b, c], []⟩ = pure () := by kernel_rfl
theorem newCall_zip_3 (a b c : Value) : checkBuiltinCall "zip.__new__" ⟨[.type "zip", a, b, c], []⟩ = pure () := by kernel_rfl
theorem args_object_init_4 (a b c d : Value) : argsOk "object.__init__" ⟨[a, b, c, d], []⟩ := by
  unfold argsOk; rw [signature?_of (id := "object.__init__") (n := ['_', '_', 't', 'i', 'n', 'i', '_', '_']) (o := ['t', 'c', 'e', 'j', 'b', 'o']) (by kernel_rfl) F.owner_object]; kernel_rfl
abbrev wA (h : Heap) (l : Addr) : Heap := h.push { cls := .type "list_iterator", data := .fields #[.ref l, .int 0 0] }
abbrev wB (h : Heap) (l t : Addr) : Heap := (wA h l).push { cls := .type "list_iterator", data := .fields #[.ref t, .int 0 0] }
abbrev wC (h : Heap) (l t u : Addr) : Heap := (wB h l t).push { cls := .type "list_iterator", data := .fields #[.ref u, .int 0 0] }
abbrev wD (h : Heap) (l t u : Addr) : Heap := (wC h l t u).push { cls := .type "tuple", data := .seq #[.ref h.objs.size, .ref (wA h l).objs.size, .ref (wB h l t).objs.size] }
abbrev wE (h : Heap) (l t u : Addr) : Heap := (wD h l t u).push { cls := .type "tuple", data := .seq #[.none, .none, .none] }
abbrev wF (h : Heap) (l t u : Addr) : Heap := (wE h l t u).push { cls := .type "zip", data := .fields #[.none, .bool false, .bool false, .ref (wC h l t u).objs.size, .ref (wD h l t u).objs.size] }
set_option maxHeartbeats 4000000 in
theorem meets_zip3 (l t u : Addr) (xs ys zs : Array Value) :
    Meets (Builtin.«zip.__new__» ⟨[.type "zip", .ref l, .ref t, .ref u], []⟩) (fun _ R s => s.heap.IsList l xs ∧ s.heap.IsList t ys ∧ s.heap.IsList u zs ∧ R (.ok (.ret (.ref (wE s.heap l t u).objs.size))) { s with heap := wF s.heap l t u }) :=
  .of_wp fun prog w A R s h => by
    obtain ⟨hp, g, d, tk, os⟩ := s; obtain ⟨a1, a2, a3, h⟩ := h
    have hsub := sub_zip
    have b1 : Heap.IsList (Shared.heap ⟨hp, g, d, tk, os⟩) l xs := a1
    have b2 : Heap.IsList (Shared.heap ⟨hp.push { cls := .type "list_iterator", data := .fields #[.ref l, .int 0 0] }, g, d, tk, os⟩) t ys := Heap.IsList.push a2 _
    have b3 : Heap.IsList (Shared.heap ⟨(hp.push { cls := .type "list_iterator", data := .fields #[.ref l, .int 0 0] }).push { cls := .type "list_iterator", data := .fields #[.ref t, .int 0 0] }, g, d, tk, os⟩) u zs := Heap.IsList.push (Heap.IsList.push a3 _) _
    wp_walk using wpAny_pyIter_list b1, wpAny_pyIter_list b2, wpAny_pyIter_list b3
    exact ⟨_, rfl, h⟩
theorem call_zip3 {prog : Program} {w : World} {A : Around} {E : Value → Shared → Prop} {s : Shared} {l t u : Addr} {xs ys zs : Array Value} {Q : Value → Shared → Prop} (hl : s.heap.IsList l xs) (ht : s.heap.IsList t ys) (hu : s.heap.IsList u zs)
    (h : ∀ h', IsZip h' (s.heap.objs.size + 5) (s.heap.objs.size + 3) (s.heap.objs.size + 4) .none → IsTrip h' (s.heap.objs.size + 3) (.ref s.heap.objs.size) (.ref (s.heap.objs.size + 1)) (.ref (s.heap.objs.size + 2)) → IsTrip h' (s.heap.objs.size + 4) .none .none .none →
      h'.IsListIter s.heap.objs.size l 0 → h'.IsListIter (s.heap.objs.size + 1) t 0 → h'.IsListIter (s.heap.objs.size + 2) u 0 → (∀ c o, s.heap.get? c = some o → h'.get? c = some o) → Q (.ref (s.heap.objs.size + 5)) { s with heap := h' }) :
    wpAny (model prog w) A (call (.type "zip") [.ref l, .ref t, .ref u]) Q E s := by
  refine callType_new F.called_zip (by decide) (typeCall_zip_3 _ _ _) (newCall_zip_3 _ _ _) (fun obj => args_object_init_4 obj _ _ _) F.entry_zip_new (meets_zip3 l t u xs ys zs) ⟨hl, ht, hu, ?_⟩
  have n1 : (wA s.heap l).objs.size = s.heap.objs.size + 1 := Heap.size_push ..
  have n2 : (wB s.heap l t).objs.size = s.heap.objs.size + 2 := by rw [Heap.size_push, n1]
  have n3 : (wC s.heap l t u).objs.size = s.heap.objs.size + 3 := by rw [Heap.size_push, n2]
  have n4 : (wD s.heap l t u).objs.size = s.heap.objs.size + 4 := by rw [Heap.size_push, n3]
  have n5 : (wE s.heap l t u).objs.size = s.heap.objs.size + 5 := by rw [Heap.size_push, n4]
  have up : ∀ {h : Heap} {o o' : Obj} {c : Addr}, h.get? c = some o → (h.push o').get? c = some o := fun e => Heap.get?_push_of_some _ e
  have g6 : (wF s.heap l t u).get? (wE s.heap l t u).objs.size = some _ := Heap.get?_push_size _ rfl
  have g5 : (wF s.heap l t u).get? (wD s.heap l t u).objs.size = some _ := up (Heap.get?_push_size _ rfl)
  have g4 : (wF s.heap l t u).get? (wC s.heap l t u).objs.size = some _ := up (up (Heap.get?_push_size _ rfl))
  have g3 : (wF s.heap l t u).get? (wB s.heap l t).objs.size = some _ := up (up (up (Heap.get?_push_size _ rfl)))
  have g2 : (wF s.heap l t u).get? (wA s.heap l).objs.size = some _ := up (up (up (up (Heap.get?_push_size _ rfl))))
  have g1 : (wF s.heap l t u).get? s.heap.objs.size = some _ := up (up (up (up (up (Heap.get?_push_size _ rfl)))))
  show _ ∧ _
  rw [n3, n4, n5] at g6
  rw [n1, n2, n3] at g4
  rw [n4] at g5
  rw [n2] at g3
  rw [n1] at g2
  rw [n5]
  exact ⟨⟨_, g6, rfl⟩, h _ g6 g4 g5 ⟨_, g1, rfl, rfl⟩ ⟨_, g2, rfl, rfl⟩ ⟨_, g3, rfl, rfl⟩ fun c o e => up (up (up (up (up (up e)))))⟩
theorem zip3Apart_new {n l t u : Nat} (hl : l < n) (ht : t < n) (hu : u < n) : Zip3Apart (n + 5) (n + 3) (n + 4) n (n + 1) (n + 2) l t u := by
  constructor <;> (intro e; have e' : (_ : Nat) = _ := e; omega)
theorem vals3 {x y z : V} {us : List Value} (r : Vals [x, y, z] us) : ∃ u v w', us = [u, v, w'] ∧ RelV x u ∧ RelV y v ∧ RelV z w' := by
  cases r with
  | cons h1 r => cases r with
    | cons h2 r => cases r with
      | cons h3 r => cases r; exact ⟨_, _, _, rfl, h1, h2, h3⟩
section
variable {X : Cx} {K : PySem.W.Frag}
def iZip3 (K : PySem.W.Frag) (ta : TA) : TI := fun σ H R => ta σ H fun vs H1 => ∃ l1 l2 l3, vs = [.ref l1, .ref l2, .ref l3] ∧ (∃ xs, SqL K H1 l1 xs) ∧ (∃ ys, SqL K H1 l2 ys) ∧ (∃ zs, SqL K H1 l3 zs) ∧ R (Itz3 K l1 l2 l3) H1
theorem pi_zip3 {elts : List Expr} {k0 : Nat} {tpos : Pos} {a b c : Expr} {ta : TA} {p pos : Pos} (hg : Gl X "zip") (hm : X.mg "zip" = none) (ha : PA X [a, b, c] ta) (hK : X.K = K := by rfl)
    (hs : starEach [a, b, c] X.env = (false, eval a X.env) :: starEach [b, c] X.env := by rfl) (hs2 : starEach [b, c] X.env = [(false, eval b X.env), (false, eval c X.env)] := by rfl) :
    PI X (.Tuple elts k0 tpos) (.Call (.Name "zip" p) [a, b, c] [] pos) (iZip3 K ta) := by
  subst hK
  intro pins s σ H R I h
  refine Call_ (ld_blt I hg hm (show bootBuiltins "zip" = some (.type "zip") by decide +kernel) (PyProof.Rows.callWith_type1 (thn (ha pos pins s σ H _ I h) fun us s1 ⟨vs, H1, I1, r1, q1⟩ => ?_) hs (by rw [hs2]; rfl)))
  obtain ⟨l1, l2, l3, e, ⟨xs, hx⟩, ⟨ys, hy⟩, ⟨zs, hz0⟩, q⟩ := q1
  subst e
  obtain ⟨u1, u2, u3, rfl, r1, r2, r3⟩ := vals3 r1
  cases r1
  cases r2
  cases r3
  obtain ⟨its1, rv1, p1, _⟩ := I1.list hx
  obtain ⟨its2, rv2, p2, _⟩ := I1.list hy
  obtain ⟨its3, rv3, p3, _⟩ := I1.list hz0
  have a1 : l1 < s1.heap.objs.size := by obtain ⟨_, e, _⟩ := p1.isList; exact Heap.lt_size e
  have a2 : l2 < s1.heap.objs.size := by obtain ⟨_, e, _⟩ := p2.isList; exact Heap.lt_size e
  have a3 : l3 < s1.heap.objs.size := by obtain ⟨_, e, _⟩ := p3.isList; exact Heap.lt_size e
  refine call_zip3 p1.isList p2.isList p3.isList fun h' hz hTI hTO hi1 hi2 hi3 hk => ?_
  refine wpAny_pyIter_zip hz ⟨_, [s1.heap.objs.size + 5, s1.heap.objs.size + 3, s1.heap.objs.size + 4, s1.heap.objs.size, s1.heap.objs.size + 1, s1.heap.objs.size + 2], _, Itz3 X.K l1 l2 l3, H1, rfl, I1.kept (t' := s1.toks) hk, turn_zip3 (zip3Apart_new a1 a2 a3), ⟨hz, hTI, ⟨_, _, _, hTO⟩, hi1, hi2, hi3⟩, fun b hb => ?_, q⟩
  have hb' : s1.heap.objs.size ≤ b := by
    simp only [List.mem_cons, List.not_mem_nil, or_false] at hb
    rcases hb with rfl | rfl | rfl | rfl | rfl | rfl <;> first | exact Nat.le_add_right _ _ | exact Nat.le_refl _
  exact I1.fpOk hb' (I1.hok.fresh hb')
end
/-- a comprehension over zip(a, b, c), the first no longer than the others: an invariant of one's own -/
theorem comp_zip3Inv {K : PySem.W.Frag} {a b c : Addr} {xs ys zs : List V} {H1 : Hp} {fvals : St} {te : TE} {Q : Addr → Hp → Prop} (Pv : Addr → Nat → Hp → Prop) (hl : ∀ acc i H, Pv acc i H → SqL K H a xs ∧ SqL K H b ys ∧ SqL K H c zs) (h2 : xs.length ≤ ys.length) (h3 : xs.length ≤ zs.length)
    (hp : ∀ acc i H T o, Pv acc i H → H T = none → Pv acc i (upd H T o)) (h0 : ∀ acc, H1 acc = none → Pv acc 0 (upd H1 acc (.lst [])))
    (step : ∀ (acc : Addr) (i : Nat) (x y z : V) (H : Hp) (R : VK), xs[i]? = some x → ys[i]? = some y → zs[i]? = some z → Pv acc i H → (∀ v H2, (∃ ws, H2 acc = some (.lst ws) ∧ ws.length < sizeLine ∧ Pv acc (i + 1) (upd H2 acc (.lst (ws ++ [v])))) → R v H2) → te (some x :: some y :: some z :: fvals) H R)
    (q : ∀ acc H', H1 acc = none → Pv acc xs.length H' → Q acc H') :
    compWalk (Itz3 K a b c) H1 (none :: none :: none :: fvals) (gTup K 3 (gCons (gName 0) (gCons (gName 1) (gCons (gName 2) gNil)))) te Q := by
  intro acc hacc
  refine ⟨fun i m σ' H' => m = xs.length - i ∧ i ≤ xs.length ∧ (∃ o1 o2 o3, σ' = o1 :: o2 :: o3 :: fvals) ∧ Pv acc i H', ⟨_, rfl, Nat.zero_le _, ⟨none, none, none, rfl⟩, h0 acc hacc⟩, ?_⟩
  rintro i m σ' H' ⟨rfl, hi, ⟨o1, o2, o3, rfl⟩, pv⟩
  obtain ⟨s1, s2, s3⟩ := hl _ _ _ pv
  by_cases hlt : i < xs.length
  · refine .inr ⟨⟨xs, ys, zs, xs[i], ys[i], zs[i], s1, List.getElem?_eq_getElem hlt, s2, List.getElem?_eq_getElem (by omega), s3, List.getElem?_eq_getElem (by omega)⟩, ?_⟩
    rintro v H2 ⟨T, x, y, z, rfl, hT, rfl, e1, e2, e3⟩
    refine ⟨T, _, rfl, SqT.of upd_same, rfl, _, _, rfl, _, _, rfl, _, _, rfl, rfl, ?_⟩
    exact step acc i x y z _ _ (e1 xs s1) (e2 ys s2) (e3 zs s3) (hp _ _ _ _ _ pv hT) fun u H3 ⟨ws, f1, f2, f3⟩ => ⟨ws, f1, f2, xs.length - (i + 1), by omega, rfl, hlt, ⟨_, _, _, rfl⟩, f3⟩
  · have e : i = xs.length := by omega
    subst e
    exact .inl ⟨⟨xs, s1, Nat.le_refl _⟩, q acc H' hacc pv⟩
end L2

set_option Elab.async false
set_option linter.all false
set_option maxRecDepth 100000
set_option maxHeartbeats 4000000
namespace K9
open PySem L2
def top (i : Nat) : Stmt := PySem.Challenge.pw_gatetown_k09_whole_counting_nets.main.body.getD i (.Pass ⟨0, 0, 0, 0⟩)
abbrev s_added : Stmt := top 1
abbrev s_others_of : Stmt := top 2
abbrev s_all_chosen : Stmt := top 3
abbrev s_is_none : Stmt := top 4
abbrev s_is_less : Stmt := top 5
abbrev s_picked_figure : Stmt := top 6
abbrev s_picked : Stmt := top 7
abbrev s_are_wires : Stmt := top 10
abbrev s_is_net : Stmt := top 11
abbrev s_beat : Stmt := top 12
abbrev s_Maker___init__ : Stmt := inClass (top 13) 0
abbrev s_Maker_inputs : Stmt := inClass (top 13) 1
abbrev s_Maker_keepers : Stmt := inClass (top 13) 2
abbrev s_Maker_nand : Stmt := inClass (top 13) 3
abbrev s_Maker_other : Stmt := inClass (top 13) 4
abbrev s_Maker_both : Stmt := inClass (top 13) 5
abbrev s_Maker_either : Stmt := inClass (top 13) 6
abbrev s_Maker_unlike : Stmt := inClass (top 13) 7
abbrev s_Maker_chosen : Stmt := inClass (top 13) 8
abbrev s_Maker_net : Stmt := inClass (top 13) 9
abbrev s_law_cell : Stmt := top 15
abbrev s_law_mixed : Stmt := top 16
abbrev s_law_numbers : Stmt := top 17
abbrev s_law_counter : Stmt := top 18
abbrev s_law_next : Stmt := top 19
abbrev s_law_spread : Stmt := top 20
abbrev s_law : Stmt := top 21
/-! ### the mirror -/
structure NetD where
  ins : Int
  keeps : Int
  gates : List (Int × Int)
  nexts : List Int
  outs : List Int
def wiresOk (ns : List Int) (c : Int) : Bool := ns.all fun n => decide (0 ≤ n) && decide (n < c)
def gatesOk (c : Int) (ps : List (Int × Int)) : Bool := (List.range ps.length).all fun i => match ps[i]? with
  | some p => wiresOk [p.1, p.2] (c + (i : Int))
  | none => true
theorem gok_iff {c : Int} {ps : List (Int × Int)} : gatesOk c ps = true ↔ ∀ (i : Nat) (p : Int × Int), ps[i]? = some p → wiresOk [p.1, p.2] (c + (i : Int)) = true := by
  unfold gatesOk
  rw [List.all_eq_true]
  constructor
  · intro h i p e
    have hi := (List.getElem?_eq_some_iff.mp e).1
    have := h i (List.mem_range.mpr hi)
    rw [e] at this
    exact this
  · intro h i hi
    cases e : ps[i]? with
    | none => rfl
    | some p => exact h i p e
def isNet (N : NetD) : Bool := if N.ins < 0 ∨ N.keeps < 0 ∨ (N.nexts.length : Int) ≠ N.keeps then false else
  gatesOk (2 + N.ins + N.keeps) N.gates && (wiresOk N.nexts (2 + N.ins + N.keeps + N.gates.length) && wiresOk N.outs (2 + N.ins + N.keeps + N.gates.length))
def GateAt (H : Hp) (v : V) (p : Int × Int) : Prop := ∃ q, v = .ref q ∧ H q = some (.tup [.int p.1, .int p.2])
structure NetAt (H : Hp) (v : V) (N : NetD) : Prop where
  ex : ∃ (p g n o : Addr) (gs : List V), v = .ref p ∧ H p = some (.tup [.int N.ins, .int N.keeps, .ref g, .ref n, .ref o]) ∧ H g = some (.lst gs) ∧ Paired (GateAt H) gs N.gates ∧
    H n = some (.lst (N.nexts.map V.int)) ∧ H o = some (.lst (N.outs.map V.int))
  sm : N.gates.length ≤ 1000 ∧ N.nexts.length ≤ 1000 ∧ N.outs.length ≤ 1000
theorem GateAt.same {H H' : Hp} (e : Same H H') {v : V} {p : Int × Int} (h : GateAt H v p) : GateAt H' v p := let ⟨q, a, b⟩ := h; ⟨q, a, e _ _ b⟩
theorem paired_get {α β : Type} {F : α → β → Prop} : ∀ {l1 : List α} {l2 : List β} {i : Nat} {x : α}, Paired F l1 l2 → l1[i]? = some x → ∃ y, l2[i]? = some y ∧ F x y
  | _, _, _, _, .nil, e => by simp at e
  | _, _, 0, _, .cons r _, e => by simp at e; subst e; exact ⟨_, rfl, r⟩
  | _, _, i + 1, x, .cons _ t, e => by
    obtain ⟨y, h1, h2⟩ := paired_get (i := i) (x := x) t (by simpa using e)
    exact ⟨y, by simpa using h1, h2⟩
theorem map_int_get {ns : List Int} {i : Nat} {x : V} (h : (ns.map V.int)[i]? = some x) : ∃ n, ns[i]? = some n ∧ x = .int n := by
  rw [List.getElem?_map] at h
  cases e : ns[i]? with
  | none => rw [e] at h; cases h
  | some n => rw [e] at h; exact ⟨n, rfl, (Option.some.inj h).symm⟩

def sp_cell (K : PySem.W.Frag) : Sp := fun vs H Q _ => ∃ (a : Addr) (ns : List Int) (k : Int), vs = [.ref a, .int k] ∧ SqL K H a (ns.map V.int) ∧ 0 ≤ k ∧ ∀ v : Int, Q (.int v) H
def sp_mixed : Sp := fun vs H Q _ => ∃ (c k : Int), vs = [.int c, .int k] ∧ 0 ≤ k ∧ k ≤ 1000000000 ∧ ∀ v : Int, 0 ≤ v → v < 998244353 → Q (.int v) H
def sp_numbers (K : PySem.W.Frag) : Sp := fun vs H Q _ => ∃ (a : Addr) (ns : List Int) (t many base : Int), vs = [.ref a, .int t, .int many, .int base] ∧ SqL K H a (ns.map V.int) ∧ (0 ≤ t ∧ t ≤ 1000000) ∧ (0 ≤ many ∧ many ≤ 1000000) ∧ (0 < base ∧ base < 2 ^ 512) ∧
  ∀ (l : Addr) (ms : List Int), H l = none → (ms.length : Int) = many → (∀ m ∈ ms, 0 ≤ m ∧ m < base) → Q (.ref l) (upd H l (.lst (ms.map V.int)))
structure Fn (K : PySem.W.Frag) (mg : Str → Option Value) (x : Str) (st : Stmt) (ps : List Str) (a : Addr) (fd : FuncData) : Prop where
  F : Fun K x x st a fd
  m : mg x = some (.ref a)
  b : Binds K fd ps []
structure Bt (mg : Str → Option Value) : Prop where
  b_len : mg "len" = none
  b_abs : mg "abs" = none
  b_max : mg "max" = none
  b_range : mg "range" = none
  b_list : mg "list" = none
  b_all : mg "all" = none
  b_zip : mg "zip" = none
  b_enumerate : mg "enumerate" = none
  b_sum : mg "sum" = none
  b_int : mg "int" = none
  b_isinstance : mg "isinstance" = none
theorem cmul_l {i j : Int} (h1 : -18446744073709551616 < i) (h2 : i < 18446744073709551616) : CMul i j := .inl ⟨by omega, by omega⟩
theorem cpow_of {i j : Int} (h0 : 0 ≤ j) (h1 : j ≤ 1000000) (h2 : -18446744073709551616 < i) (h3 : i < 18446744073709551616) : CPow i j := ⟨h0, h1, by omega⟩
theorem atI_ix {ns : List Int} {i : Int} (h0 : 0 ≤ i) (h1 : i < (ns.map V.int).length) : ∃ n, n ∈ ns ∧ atI (ns.map V.int) i = some (.int n) := by
  rw [List.length_map] at h1
  have hj : i.toNat < ns.length := by omega
  refine ⟨ns[i.toNat], List.getElem_mem hj, ?_⟩
  have := atI_nat (xs := ns.map V.int) (j := i.toNat) (v := .int ns[i.toNat]) (by rw [List.getElem?_map, List.getElem?_eq_getElem hj]; rfl)
  rw [Int.toNat_of_nonneg h0] at this
  exact this
theorem isNet_bad {N : NetD} (h : N.ins < 0 ∨ N.keeps < 0 ∨ (N.nexts.length : Int) ≠ N.keeps) : isNet N = false := by unfold isNet; rw [if_pos h]
theorem isNet_good {N : NetD} (h : ¬ (N.ins < 0 ∨ N.keeps < 0 ∨ (N.nexts.length : Int) ≠ N.keeps)) : isNet N = (gatesOk (2 + N.ins + N.keeps) N.gates && (wiresOk N.nexts (2 + N.ins + N.keeps + N.gates.length) && wiresOk N.outs (2 + N.ins + N.keeps + N.gates.length))) := by
  unfold isNet; rw [if_neg h]
structure Small (N : NetD) : Prop where
  g : N.gates.length ≤ 900
  n : N.nexts.length ≤ 100
  o : N.outs.length ≤ 100
  i : N.ins ≤ 200
def cutN (ns : List Int) (lo hi : Option Int) : List Int := (ns.drop (HT.sIx ns.length 0 lo)).take (HT.sIx ns.length ns.length hi - HT.sIx ns.length 0 lo)
theorem cut_ints (ns : List Int) (lo hi : Option Int) : cutV (ns.map V.int) lo hi = (cutN ns lo hi).map V.int := by
  unfold cutV cutN
  rw [List.length_map, List.map_take, List.map_drop]
theorem sIx_pos (n d : Nat) (k : Int) (h0 : 0 ≤ k) : HT.sIx n d (some k) = min k.toNat n := by
  show (if k < 0 then _ else _) = _
  rw [if_neg (by omega)]
theorem cutV_map {α : Type} (f : α → V) (xs : List α) (lo hi : Option Int) : cutV (xs.map f) lo hi = ((xs.drop (HT.sIx xs.length 0 lo)).take (HT.sIx xs.length xs.length hi - HT.sIx xs.length 0 lo)).map f := by
  unfold cutV
  rw [List.length_map, List.map_take, List.map_drop]
theorem cutV_to {α : Type} (f : α → V) (xs : List α) (k : Int) (h0 : 0 ≤ k) (h1 : k ≤ xs.length) : cutV (xs.map f) none (some k) = (xs.take k.toNat).map f := by
  rw [cutV_map, sIx_pos _ _ _ h0, HT.sIx_none, List.drop_zero, Nat.sub_zero, Nat.min_eq_left (by omega)]
theorem cutV_from {α : Type} (f : α → V) (xs : List α) (k : Int) (h0 : 0 ≤ k) (h1 : k ≤ xs.length) : cutV (xs.map f) (some k) none = (xs.drop k.toNat).map f := by
  rw [cutV_map, sIx_pos _ _ _ h0, HT.sIx_none, Nat.min_eq_left (by omega), List.take_of_length_le (by rw [List.length_drop]; exact Nat.le_refl _)]
/-! ### numbers on wires, plainly -/
def nv (ns : List Nat) : List V := ns.map fun (n : Nat) => V.int (n : Int)
theorem nv_length (ns : List Nat) : (nv ns).length = ns.length := List.length_map _
theorem nv_snoc (ns : List Nat) (n : Nat) : nv ns ++ [V.int (n : Int)] = nv (ns ++ [n]) := by unfold nv; rw [List.map_append]; rfl
theorem nv_app (a b : List Nat) : nv a ++ nv b = nv (a ++ b) := by unfold nv; rw [List.map_append]
theorem nv_get {ns : List Nat} {i : Nat} {x : V} (h : (nv ns)[i]? = some x) : ∃ n, ns[i]? = some n ∧ x = .int (n : Int) := by
  unfold nv at h
  rw [List.getElem?_map] at h
  cases e : ns[i]? with
  | none => rw [e] at h; cases h
  | some n => rw [e] at h; exact ⟨n, rfl, (Option.some.inj h).symm⟩
def wAt (ws : List Nat) (i : Int) : Nat := ws.getD i.toNat 0
theorem atI_nv {ws : List Nat} {i : Int} (h0 : 0 ≤ i) (h1 : i < ws.length) : atI (nv ws) i = some (.int (wAt ws i : Int)) := by
  have hj : i.toNat < ws.length := by omega
  have := atI_nat (xs := nv ws) (j := i.toNat) (v := .int (wAt ws i : Int)) (by
    unfold nv wAt
    rw [List.getElem?_map, List.getD_eq_getElem?_getD, List.getElem?_eq_getElem hj]; rfl)
  rw [Int.toNat_of_nonneg h0] at this
  exact this
theorem nat_of : ∀ {ms : List Int} {b : Int}, (∀ m ∈ ms, 0 ≤ m ∧ m < b) → ∃ ns : List Nat, ms.map V.int = nv ns ∧ ns.length = ms.length ∧ ∀ n ∈ ns, (n : Int) < b
  | [], _, _ => ⟨[], rfl, rfl, fun n h => absurd h List.not_mem_nil⟩
  | m :: r, b, h => by
    obtain ⟨ns, e, l, hb⟩ := nat_of fun x hx => h x (List.mem_cons_of_mem _ hx)
    have hm := h m List.mem_cons_self
    refine ⟨m.toNat :: ns, ?_, by rw [List.length_cons, l, List.length_cons], fun n hn => ?_⟩
    · show V.int m :: r.map V.int = V.int ((m.toNat : Nat) : Int) :: nv ns
      rw [e, Int.toNat_of_nonneg hm.1]
    · rcases List.mem_cons.mp hn with rfl | hn
      · omega
      · exact hb n hn
def stepW (w : Nat) (ws : List Nat) (p : Int × Int) : List Nat := ws ++ [2 ^ w - 1 - (wAt ws p.1 &&& wAt ws p.2)]
def runW (w : Nat) (g : List (Int × Int)) (ws : List Nat) : List Nat := g.foldl (stepW w) ws
def bit (k v : Nat) : Nat := v / 2 ^ k % 2
theorem bit_zero (k : Nat) : bit k 0 = 0 := by unfold bit; simp
theorem bit_le (k v : Nat) : bit k v ≤ 1 := by unfold bit; omega
theorem bit_test (k v : Nat) : bit k v = (v.testBit k).toNat := by
  unfold bit
  rw [Nat.testBit_eq_decide_div_mod_eq]
  have h := Nat.mod_two_eq_zero_or_one (v / 2 ^ k)
  rcases h with h | h <;> rw [h] <;> rfl
theorem wAt_lt {ws : List Nat} {b : Nat} (hb : 0 < b) (h : ∀ n ∈ ws, n < b) (i : Int) : wAt ws i < b := by
  unfold wAt
  rw [List.getD_eq_getElem?_getD]
  cases e : ws[i.toNat]? with
  | none => exact hb
  | some v => exact h v (List.mem_of_getElem? e)
theorem stepW_lt {w : Nat} {ws : List Nat} {p : Int × Int} (h : ∀ n ∈ ws, n < 2 ^ w) : ∀ n ∈ stepW w ws p, n < 2 ^ w := fun n hn => by
  rcases List.mem_append.mp hn with hn | hn
  · exact h n hn
  · rw [List.mem_singleton.mp hn]
    have := Nat.two_pow_pos w
    omega
theorem runW_lt {w : Nat} : ∀ (g : List (Int × Int)) (ws : List Nat), (∀ n ∈ ws, n < 2 ^ w) → ∀ n ∈ runW w g ws, n < 2 ^ w
  | [], ws, h => h
  | p :: r, ws, h => runW_lt r (stepW w ws p) (stepW_lt h)
theorem runW_length {w : Nat} : ∀ (g : List (Int × Int)) (ws : List Nat), (runW w g ws).length = ws.length + g.length
  | [], ws => rfl
  | p :: r, ws => by
    show (runW w r (stepW w ws p)).length = _
    rw [runW_length r, stepW, List.length_append]; simp only [List.length_cons, List.length_nil]; omega
theorem runW_take {w : Nat} {g : List (Int × Int)} {ws : List Nat} {i : Nat} {p : Int × Int} (h : g[i]? = some p) : runW w (g.take (i + 1)) ws = stepW w (runW w (g.take i) ws) p := by
  unfold runW
  rw [List.take_add_one, h, List.foldl_append]; rfl
theorem xor_high {w c : Nat} (h : c < 2 ^ w) : PySem.Builtin.bitXor ((2 ^ w - 1 : Nat) : Int) (c : Int) = ((2 ^ w - 1 - c : Nat) : Int) := by
  have e : PySem.Builtin.bitAnd ((2 ^ w - 1 : Nat) : Int) (c : Int) = (c : Int) := by
    rw [PyProof.Rows.bitAnd_pp (by omega) (by omega), Int.toNat_natCast, Int.toNat_natCast, Nat.and_comm, Nat.and_two_pow_sub_one_eq_mod, Nat.mod_eq_of_lt h]
  rw [PyProof.Rows.bitXor_and, e]
  have := Nat.two_pow_pos w
  omega
theorem and_nat (a b : Nat) : PySem.Builtin.bitAnd (a : Int) (b : Int) = ((a &&& b : Nat) : Int) := by
  rw [PyProof.Rows.bitAnd_pp (by omega) (by omega), Int.toNat_natCast, Int.toNat_natCast]
theorem and_high {w n : Nat} (h : n < 2 ^ w) : PySem.Builtin.bitAnd (n : Int) ((2 ^ w - 1 : Nat) : Int) = (n : Int) := by
  rw [and_nat, Nat.and_two_pow_sub_one_eq_mod, Nat.mod_eq_of_lt h]
theorem shr_bit (n k : Nat) : PySem.Builtin.bitAnd ((n : Int) / 2 ^ k) 1 = ((bit k n : Nat) : Int) := by
  have e : (n : Int) / 2 ^ k = ((n / 2 ^ k : Nat) : Int) := by push_cast; rfl
  rw [e, show (1 : Int) = ((1 : Nat) : Int) from rfl, and_nat, Nat.and_one_is_mod]; rfl
end K9

set_option Elab.async false
set_option linter.all false
set_option maxRecDepth 100000
set_option maxHeartbeats 4000000
namespace K9
open PySem L2
/-! ### the maker -/
theorem f_ik : ¬ (("ins" : Str) = "keeps") := by decide +kernel
theorem f_ig : ¬ (("ins" : Str) = "gates") := by decide +kernel
theorem f_kg : ¬ (("keeps" : Str) = "gates") := by decide +kernel
def flds (g : Addr) (i k : Int) : List (Str × V) := putF "gates" (.ref g) (putF "keeps" (.int k) (putF "ins" (.int i) []))
theorem fl_ins {g : Addr} {i k : Int} : (flds g i k).lookup ("ins" : Str) = some (.int i) := by
  unfold flds; rw [lookup_putF, if_neg f_ig, lookup_putF, if_neg f_ik, lookup_putF, if_pos rfl]
theorem fl_keeps {g : Addr} {i k : Int} : (flds g i k).lookup ("keeps" : Str) = some (.int k) := by
  unfold flds; rw [lookup_putF, if_neg f_kg, lookup_putF, if_pos rfl]
theorem fl_gates {g : Addr} {i k : Int} : (flds g i k).lookup ("gates" : Str) = some (.ref g) := by
  unfold flds; rw [lookup_putF, if_pos rfl]
theorem fl_no {g : Addr} {i k : Int} {m : Str} (h1 : ¬ m = "gates") (h2 : ¬ m = "keeps") (h3 : ¬ m = "ins") : (flds g i k).lookup m = none := by
  unfold flds; rw [lookup_putF, if_neg h1, lookup_putF, if_neg h2, lookup_putF, if_neg h3]; rfl
/-- a maker at p, its list of gates at g -/
structure MakerAt (C : Addr) (H : Hp) (p g : Addr) (i k : Int) (ps : List (Int × Int)) : Prop where
  ob : ∃ dx, H p = some (.ins C dx (flds g i k))
  gl : ∃ gs, H g = some (.lst gs) ∧ Paired (GateAt H) gs ps
/-- all stays but the list of gates -/
def Kp (g : Addr) (H H' : Hp) : Prop := ∀ b o, H b = some o → b ≠ g → H' b = some o
theorem Kp.refl {g : Addr} {H : Hp} : Kp g H H := fun _ _ e _ => e
theorem Kp.trans {g : Addr} {H H1 H2 : Hp} (a : Kp g H H1) (b : Kp g H1 H2) : Kp g H H2 := fun x o e n => b x o (a x o e n) n
theorem Kp.of {g : Addr} {H H' : Hp} (s : Same H H') : Kp g H H' := fun _ _ e _ => s _ _ e
theorem Kp.same {g : Addr} {H0 H H' : Hp} (s : Same H0 H) (n : H0 g = none) (k : Kp g H H') : Same H0 H' := fun b o e => k b o (s b o e) (ne_of_none e n)
theorem MakerAt.same {C : Addr} {H H' : Hp} {p g : Addr} {i k : Int} {ps : List (Int × Int)} (s : Same H H') (M : MakerAt C H p g i k ps) : MakerAt C H' p g i k ps := by
  obtain ⟨⟨dx, h1⟩, gs, h2, h3⟩ := M
  exact ⟨⟨dx, s _ _ h1⟩, gs, s _ _ h2, Paired.mapP h3 fun _ _ z => z.same s⟩
theorem GateAt.kp {g : Addr} {gs : List V} {H H' : Hp} (hg : H g = some (.lst gs)) (s : Kp g H H') {v : V} {p : Int × Int} (h : GateAt H v p) : GateAt H' v p := let ⟨q, a, b⟩ := h; ⟨q, a, s _ _ b (ne_of b hg (by intro z; cases z))⟩
theorem Paired.app {α β : Type} {F : α → β → Prop} : ∀ {l1 m1 : List α} {l2 m2 : List β}, Paired F l1 l2 → Paired F m1 m2 → Paired F (l1 ++ m1) (l2 ++ m2)
  | _, _, _, _, .nil, b => b
  | _, _, _, _, .cons r t, b => .cons r (Paired.app t b)
abbrev Gs := List (Int × Int)
def mNand (c : Int) (ps : Gs) (a b : Int) : Gs × Int := (ps ++ [(a, b)], c + ps.length)
def mOther (c : Int) (ps : Gs) (a : Int) : Gs × Int := mNand c ps a a
def mBoth (c : Int) (ps : Gs) (a b : Int) : Gs × Int := mOther c (mNand c ps a b).1 (mNand c ps a b).2
def mEither (c : Int) (ps : Gs) (a b : Int) : Gs × Int := mNand c (mOther c (mOther c ps a).1 b).1 (mOther c ps a).2 (mOther c (mOther c ps a).1 b).2
def mUnlike (c : Int) (ps : Gs) (a b : Int) : Gs × Int :=
  mNand c (mNand c (mNand c (mNand c ps a b).1 a (mNand c ps a b).2).1 b (mNand c ps a b).2).1 (mNand c (mNand c ps a b).1 a (mNand c ps a b).2).2 (mNand c (mNand c (mNand c ps a b).1 a (mNand c ps a b).2).1 b (mNand c ps a b).2).2
def mChosen (c : Int) (ps : Gs) (w a b : Int) : Gs × Int :=
  mNand c (mNand c (mOther c (mNand c ps w a).1 w).1 (mOther c (mNand c ps w a).1 w).2 b).1 (mNand c ps w a).2 (mNand c (mOther c (mNand c ps w a).1 w).1 (mOther c (mNand c ps w a).1 w).2 b).2
theorem mNand_len {c : Int} {ps : Gs} {a b : Int} : (mNand c ps a b).1.length = ps.length + 1 := by unfold mNand; rw [List.length_append]; rfl
theorem mOther_len {c : Int} {ps : Gs} {a : Int} : (mOther c ps a).1.length = ps.length + 1 := mNand_len
theorem mBoth_len {c : Int} {ps : Gs} {a b : Int} : (mBoth c ps a b).1.length = ps.length + 2 := by unfold mBoth; rw [mOther_len, mNand_len]
theorem mEither_len {c : Int} {ps : Gs} {a b : Int} : (mEither c ps a b).1.length = ps.length + 3 := by unfold mEither; rw [mNand_len, mOther_len, mOther_len]
theorem mUnlike_len {c : Int} {ps : Gs} {a b : Int} : (mUnlike c ps a b).1.length = ps.length + 4 := by unfold mUnlike; rw [mNand_len, mNand_len, mNand_len, mNand_len]
theorem mChosen_len {c : Int} {ps : Gs} {w a b : Int} : (mChosen c ps w a b).1.length = ps.length + 4 := by unfold mChosen; rw [mNand_len, mNand_len, mOther_len, mNand_len]
def sp_init (C : Addr) : Sp := fun vs H Q _ => ∃ (p dx : Addr) (i k : Int), vs = [.ref p, .int i, .int k] ∧ H p = some (.ins C dx []) ∧ ∀ (g : Addr) (H' : Hp), H g = none → MakerAt C H' p g i k [] → (∀ b o, H b = some o → b ≠ p → H' b = some o) → Q .non H'
def sp_m1 (C : Addr) (B : Nat) (f : Int → Gs → Int → Gs × Int) : Sp := fun vs H Q _ => ∃ (p g : Addr) (i k : Int) (ps : Gs) (a : Int), vs = [.ref p, .int a] ∧ MakerAt C H p g i k ps ∧ ps.length ≤ B ∧
  ∀ H', MakerAt C H' p g i k (f (2 + i + k) ps a).1 → Kp g H H' → Q (.int (f (2 + i + k) ps a).2) H'
def sp_m2 (C : Addr) (B : Nat) (f : Int → Gs → Int → Int → Gs × Int) : Sp := fun vs H Q _ => ∃ (p g : Addr) (i k : Int) (ps : Gs) (a b : Int), vs = [.ref p, .int a, .int b] ∧ MakerAt C H p g i k ps ∧ ps.length ≤ B ∧
  ∀ H', MakerAt C H' p g i k (f (2 + i + k) ps a b).1 → Kp g H H' → Q (.int (f (2 + i + k) ps a b).2) H'
def sp_m3 (C : Addr) (B : Nat) (f : Int → Gs → Int → Int → Int → Gs × Int) : Sp := fun vs H Q _ => ∃ (p g : Addr) (i k : Int) (ps : Gs) (w a b : Int), vs = [.ref p, .int w, .int a, .int b] ∧ MakerAt C H p g i k ps ∧ ps.length ≤ B ∧
  ∀ H', MakerAt C H' p g i k (f (2 + i + k) ps w a b).1 → Kp g H H' → Q (.int (f (2 + i + k) ps w a b).2) H'
/-- the whole numbers from a on, n of them -/
def fromN (a n : Int) : List Int := (List.range n.toNat).map fun (j : Nat) => a + (j : Int)
/-- a method of the maker -/
structure Mt (K : PySem.W.Frag) (C : Addr) (m q : Str) (st : Stmt) (ps : List Str) (a : Addr) (fd : FuncData) : Prop where
  F : Fun K m q st a fd
  me : Meth K C m a
  b : Binds K fd ps []
/-- the class as the top has made it -/
structure Mc (K : PySem.W.Frag) (mg : Str → Option Value) (C : Addr) (f : Addr) (fd : FuncData) : Prop where
  cl : Cls K C
  mks : Mk K C f
  F : Fun K "__init__" "Maker.__init__" s_Maker___init__ f fd
  b : Binds K fd ["self", "ins", "keeps"] []
  mg : mg "Maker" = some (.ref C)
  nI : NoAttr K C "ins"
  nK : NoAttr K C "keeps"
  nG : NoAttr K C "gates"
section
variable {P : Program} {w : World} {K : PySem.W.Frag} {mg : Str → Option Value} {base : Heap}
theorem sc_Maker___init__ : FnScope ["self", "ins", "keeps"] ["self", "ins", "keeps"] (defScope s_Maker___init__) := ⟨rfl, rfl, rfl, by decide +kernel, rfl, by decide +kernel, by decide +kernel⟩
theorem ok_Maker___init__ {f C : Addr} {fd : FuncData} (T_Maker : Mc K mg C f fd) : FnOk P w K mg base CX0 1 f fd ["self", "ins", "keeps"] (sp_init C) := by
  refine T_Maker.F.ok sc_Maker___init__ (fun vs H Q E h => ?_) (fun cdv A outer s H vs Q E hr h => ?_)
  · obtain ⟨p, dx, i, k, rfl, _⟩ := h; rfl
  · obtain ⟨p, dx, i, k, rfl, hp, q⟩ := h
    refine ⟨_, (pss_cons (ps_fld (pv 0) (pv 1) rfl)
      (pss_cons (ps_fld (pv 0) (pv 2) rfl)
      (pss_one (ps_fld (pv 0) (pe_lst pa_nil) rfl)))), ?_⟩
    refine ⟨_, rfl, _, rfl, p, C, dx, [], rfl, hp, T_Maker.cl, T_Maker.nI, (by show 0 < 1000; decide), ?_⟩
    refine ⟨_, rfl, _, rfl, p, C, dx, _, rfl, upd_same, T_Maker.cl, T_Maker.nK, (by show 1 < 1000; decide), ?_⟩
    refine ⟨Nat.zero_le _, fun g hg => ?_⟩
    have npg : p ≠ g := ne_of_none upd_same hg
    refine ⟨_, rfl, p, C, dx, _, rfl, (by rw [upd_ne npg]; exact upd_same), T_Maker.cl, T_Maker.nG, ?_, ?_⟩
    · show (if ("ins" : Str) = "keeps" then [(("ins" : Str), V.int k)] else (("ins" : Str), V.int i) :: putF "keeps" (V.int k) []).length < 1000
      rw [if_neg f_ik]; show 2 < 1000; decide
    have hg0 : H g = none := by rw [upd_ne npg.symm, upd_ne npg.symm] at hg; exact hg
    refine q g _ hg0 ⟨⟨dx, upd_same⟩, [], by rw [upd_ne npg.symm]; exact upd_same, .nil⟩ fun b o e hb => ?_
    rw [upd_ne hb, upd_ne (ne_of_none e hg0), upd_ne hb, upd_ne hb]
    exact e
theorem sc_Maker_nand : FnScope ["self", "a", "b", "wire"] ["self", "a", "b"] (defScope s_Maker_nand) := ⟨rfl, rfl, rfl, by decide +kernel, rfl, by decide +kernel, by decide +kernel⟩
theorem ok_Maker_nand {f C fi : Addr} {fd fdi : FuncData} {tk : Tok} (T_Maker : Mc K mg C fi fdi) (T : Bt mg) (hfw : mg "FIXED_WIRES" = some (.int 2 tk)) (T_Maker_nand : Mt K C "nand" "Maker.nand" s_Maker_nand ["self", "a", "b"] f fd) : FnOk P w K mg base CX0 1 f fd ["self", "a", "b"] (sp_m2 C 1000100 mNand) := by
  refine T_Maker_nand.F.ok sc_Maker_nand (fun vs H Q E h => ?_) (fun cdv A outer s H vs Q E hr h => ?_)
  · obtain ⟨p, g, i, k, ps, a, b, rfl, _⟩ := h; rfl
  · obtain ⟨p, g, i, k, ps, a, b, rfl, M, hl, q⟩ := h
    obtain ⟨⟨dx, h1⟩, gs, hg, hG⟩ := id M
    have hs : sizeLine = 16777216 := sizeLine_eq
    have hgl : gs.length = ps.length := hG.length
    refine ⟨_, (pss_cons (ps_set (i := 3) sc_Maker_nand.nd rfl (Or.inl rfl) (pe_op op_add (pe_op op_add (pe_op op_add (pe_glob (v := .int 2) rfl hfw ⟨_, rfl⟩) (pe_fld (pv 0) rfl)) (pe_fld (pv 0) rfl)) (pe_callB call_len_seq rfl T.b_len (by decide +kernel) (pa_cons (pe_fld (pv 0) rfl) pa_nil))))
      (pss_cons (ps_expr (pe_bm PySem.F.plainAttrs_list PySem.F.slot_list_append PySem.F.type_list_append mt_append (pe_fld (pv 0) rfl) (pa_cons (pe_tup (pa_cons (pv 1) (pa_cons (pv 2) pa_nil))) pa_nil)))
      (pss_one (ps_ret (pv 3))))), ?_⟩
    refine ⟨_, rfl, p, C, dx, _, _, rfl, h1, T_Maker.cl, T_Maker.nI, fl_ins, _, _, rfl, rfl, _, rfl, p, C, dx, _, _, rfl, h1, T_Maker.cl, T_Maker.nK, fl_keeps, _, _, rfl, rfl, _, rfl, p, C, dx, _, _, rfl, h1, T_Maker.cl, T_Maker.nG, fl_gates, g, gs, rfl, .inl (SqL.of hg), _, _, rfl, rfl, ?_⟩
    refine ⟨_, rfl, p, C, dx, _, _, rfl, h1, T_Maker.cl, T_Maker.nG, fl_gates, .inl ⟨rfl, _, SqL.of hg⟩, _, rfl, _, rfl, (by show 2 ≤ sizeLine; omega), fun t ht => ?_⟩
    have s1 := Same.put (o := .tup [V.int a, V.int b]) ht
    have ngt : g ≠ t := ne_of_none hg ht
    refine ⟨g, gs, .ref t, rfl, rfl, s1 _ _ hg, (by omega), ?_⟩
    refine ⟨_, rfl, ?_⟩
    have e : (2 + i + k + (gs.length : Int)) = (mNand (2 + i + k) ps a b).2 := by unfold mNand; rw [hgl]
    have kp : Kp g H (upd (upd H t (.tup [V.int a, V.int b])) g (.lst (gs ++ [V.ref t]))) := fun x o ex hx => by rw [upd_ne hx]; exact s1 _ _ ex
    have := q (upd (upd H t (.tup [V.int a, V.int b])) g (.lst (gs ++ [V.ref t]))) ⟨⟨dx, kp _ _ h1 (ne_of h1 hg (by intro z; cases z))⟩, gs ++ [V.ref t], upd_same, ?_⟩ kp
    · rw [← e] at this; exact this
    · exact Paired.app (Paired.mapP hG fun _ _ z => z.kp hg kp) (.cons ⟨t, rfl, by rw [upd_ne ngt.symm]; exact upd_same⟩ .nil)
end
end K9

set_option Elab.async false
set_option linter.all false
set_option maxRecDepth 100000
set_option maxHeartbeats 4000000
namespace K9
open PySem L2
section
variable {P : Program} {w : World} {K : PySem.W.Frag} {mg : Str → Option Value} {base : Heap}
theorem sc_Maker_other : FnScope ["self", "a"] ["self", "a"] (defScope s_Maker_other) := ⟨rfl, rfl, rfl, by decide +kernel, rfl, by decide +kernel, by decide +kernel⟩
theorem ok_Maker_other {f C fi fn : Addr} {fd fdi fdn : FuncData} (T_Maker : Mc K mg C fi fdi) (T_Maker_nand : Mt K C "nand" "Maker.nand" s_Maker_nand ["self", "a", "b"] fn fdn) (T_Maker_other : Mt K C "other" "Maker.other" s_Maker_other ["self", "a"] f fd) (G_Maker_nand : FnOk P w K mg base CX0 1 fn fdn ["self", "a", "b"] (sp_m2 C 1000100 mNand)) : FnOk P w K mg base CX0 2 f fd ["self", "a"] (sp_m1 C 1000050 mOther) := by
  refine T_Maker_other.F.ok sc_Maker_other (fun vs H Q E h => ?_) (fun cdv A outer s H vs Q E hr h => ?_)
  · obtain ⟨p, g, i, k, ps, a, rfl, _⟩ := h; rfl
  · obtain ⟨p, g, i, k, ps, a, rfl, M, hl, q⟩ := h
    obtain ⟨⟨dx, h1⟩, _⟩ := id M
    refine ⟨_, (pss_one (ps_ret (pe_meth (pv 0) T_Maker.cl T_Maker_nand.me G_Maker_nand (hr.mono (by decide)) T_Maker_nand.b .nil pass0 (pa_cons (pv 1) (pa_cons (pv 1) pa_nil))))), ?_⟩
    exact ⟨_, rfl, p, dx, _, rfl, h1, fl_no (by decide +kernel) (by decide +kernel) (by decide +kernel), _, rfl, _, rfl, p, g, i, k, ps, a, a, rfl, M, by omega, q⟩
end
section
variable {P : Program} {w : World} {K : PySem.W.Frag} {mg : Str → Option Value} {base : Heap}
theorem sc_Maker_both : FnScope ["self", "a", "b"] ["self", "a", "b"] (defScope s_Maker_both) := ⟨rfl, rfl, rfl, by decide +kernel, rfl, by decide +kernel, by decide +kernel⟩
theorem ok_Maker_both {f C fi fn fo : Addr} {fd fdi fdn fdo : FuncData} (T_Maker : Mc K mg C fi fdi) (T_Maker_nand : Mt K C "nand" "Maker.nand" s_Maker_nand ["self", "a", "b"] fn fdn) (T_Maker_other : Mt K C "other" "Maker.other" s_Maker_other ["self", "a"] fo fdo) (T_Maker_both : Mt K C "both" "Maker.both" s_Maker_both ["self", "a", "b"] f fd) (G_Maker_nand : FnOk P w K mg base CX0 1 fn fdn ["self", "a", "b"] (sp_m2 C 1000100 mNand)) (G_Maker_other : FnOk P w K mg base CX0 2 fo fdo ["self", "a"] (sp_m1 C 1000050 mOther)) : FnOk P w K mg base CX0 3 f fd ["self", "a", "b"] (sp_m2 C 1000000 mBoth) := by
  refine T_Maker_both.F.ok sc_Maker_both (fun vs H Q E h => ?_) (fun cdv A outer s H vs Q E hr h => ?_)
  · obtain ⟨p, g, i, k, ps, a, b, rfl, _⟩ := h; rfl
  · obtain ⟨p, g, i, k, ps, a, b, rfl, M, hl, q⟩ := h
    obtain ⟨⟨dx, h1⟩, _⟩ := id M
    refine ⟨_, (pss_one (ps_ret (pe_meth (pv 0) T_Maker.cl T_Maker_other.me G_Maker_other (hr.mono (by decide)) T_Maker_other.b .nil pass0 (pa_cons (pe_meth (pv 0) T_Maker.cl T_Maker_nand.me G_Maker_nand (hr.mono (by decide)) T_Maker_nand.b .nil pass0 (pa_cons (pv 1) (pa_cons (pv 2) pa_nil))) pa_nil)))), ?_⟩
    refine ⟨_, rfl, p, dx, _, rfl, h1, fl_no (by decide +kernel) (by decide +kernel) (by decide +kernel), _, rfl, p, dx, _, rfl, h1, fl_no (by decide +kernel) (by decide +kernel) (by decide +kernel), _, rfl, _, rfl, p, g, i, k, ps, a, b, rfl, M, by omega, fun H1 M1 k1 => ?_⟩
    exact ⟨p, g, i, k, _, _, rfl, M1, by rw [mNand_len]; omega, fun H2 M2 k2 => q H2 M2 (k1.trans k2)⟩
end
section
variable {P : Program} {w : World} {K : PySem.W.Frag} {mg : Str → Option Value} {base : Heap}
theorem sc_Maker_either : FnScope ["self", "a", "b"] ["self", "a", "b"] (defScope s_Maker_either) := ⟨rfl, rfl, rfl, by decide +kernel, rfl, by decide +kernel, by decide +kernel⟩
theorem ok_Maker_either {f C fi fn fo : Addr} {fd fdi fdn fdo : FuncData} (T_Maker : Mc K mg C fi fdi) (T_Maker_nand : Mt K C "nand" "Maker.nand" s_Maker_nand ["self", "a", "b"] fn fdn) (T_Maker_other : Mt K C "other" "Maker.other" s_Maker_other ["self", "a"] fo fdo) (T_Maker_either : Mt K C "either" "Maker.either" s_Maker_either ["self", "a", "b"] f fd) (G_Maker_nand : FnOk P w K mg base CX0 1 fn fdn ["self", "a", "b"] (sp_m2 C 1000100 mNand)) (G_Maker_other : FnOk P w K mg base CX0 2 fo fdo ["self", "a"] (sp_m1 C 1000050 mOther)) : FnOk P w K mg base CX0 3 f fd ["self", "a", "b"] (sp_m2 C 1000000 mEither) := by
  refine T_Maker_either.F.ok sc_Maker_either (fun vs H Q E h => ?_) (fun cdv A outer s H vs Q E hr h => ?_)
  · obtain ⟨p, g, i, k, ps, a, b, rfl, _⟩ := h; rfl
  · obtain ⟨p, g, i, k, ps, a, b, rfl, M, hl, q⟩ := h
    obtain ⟨⟨dx, h1⟩, _⟩ := id M
    refine ⟨_, (pss_one (ps_ret (pe_meth (pv 0) T_Maker.cl T_Maker_nand.me G_Maker_nand (hr.mono (by decide)) T_Maker_nand.b .nil pass0 (pa_cons (pe_meth (pv 0) T_Maker.cl T_Maker_other.me G_Maker_other (hr.mono (by decide)) T_Maker_other.b .nil pass0 (pa_cons (pv 1) pa_nil)) (pa_cons (pe_meth (pv 0) T_Maker.cl T_Maker_other.me G_Maker_other (hr.mono (by decide)) T_Maker_other.b .nil pass0 (pa_cons (pv 2) pa_nil)) pa_nil))))), ?_⟩
    refine ⟨_, rfl, p, dx, _, rfl, h1, fl_no (by decide +kernel) (by decide +kernel) (by decide +kernel), _, rfl, p, dx, _, rfl, h1, fl_no (by decide +kernel) (by decide +kernel) (by decide +kernel), _, rfl, p, g, i, k, ps, a, rfl, M, by omega, fun H1 M1 k1 => ?_⟩
    obtain ⟨⟨dx1, h11⟩, _⟩ := id M1
    refine ⟨_, rfl, p, dx1, _, rfl, h11, fl_no (by decide +kernel) (by decide +kernel) (by decide +kernel), _, rfl, p, g, i, k, _, b, rfl, M1, by rw [mOther_len]; omega, fun H2 M2 k2 => ?_⟩
    exact ⟨p, g, i, k, _, _, _, rfl, M2, by rw [mOther_len, mOther_len]; omega, fun H3 M3 k3 => q H3 M3 ((k1.trans k2).trans k3)⟩
end
section
variable {P : Program} {w : World} {K : PySem.W.Frag} {mg : Str → Option Value} {base : Heap}
theorem sc_Maker_unlike : FnScope ["self", "a", "b", "shared"] ["self", "a", "b"] (defScope s_Maker_unlike) := ⟨rfl, rfl, rfl, by decide +kernel, rfl, by decide +kernel, by decide +kernel⟩
theorem ok_Maker_unlike {f C fi fn : Addr} {fd fdi fdn : FuncData} (T_Maker : Mc K mg C fi fdi) (T_Maker_nand : Mt K C "nand" "Maker.nand" s_Maker_nand ["self", "a", "b"] fn fdn) (T_Maker_unlike : Mt K C "unlike" "Maker.unlike" s_Maker_unlike ["self", "a", "b"] f fd) (G_Maker_nand : FnOk P w K mg base CX0 1 fn fdn ["self", "a", "b"] (sp_m2 C 1000100 mNand)) : FnOk P w K mg base CX0 3 f fd ["self", "a", "b"] (sp_m2 C 1000000 mUnlike) := by
  refine T_Maker_unlike.F.ok sc_Maker_unlike (fun vs H Q E h => ?_) (fun cdv A outer s H vs Q E hr h => ?_)
  · obtain ⟨p, g, i, k, ps, a, b, rfl, _⟩ := h; rfl
  · obtain ⟨p, g, i, k, ps, a, b, rfl, M, hl, q⟩ := h
    obtain ⟨⟨dx, h1⟩, _⟩ := id M
    refine ⟨_, (pss_cons (ps_set (i := 3) sc_Maker_unlike.nd rfl (Or.inl rfl) (pe_meth (pv 0) T_Maker.cl T_Maker_nand.me G_Maker_nand (hr.mono (by decide)) T_Maker_nand.b .nil pass0 (pa_cons (pv 1) (pa_cons (pv 2) pa_nil))))
      (pss_one (ps_ret (pe_meth (pv 0) T_Maker.cl T_Maker_nand.me G_Maker_nand (hr.mono (by decide)) T_Maker_nand.b .nil pass0 (pa_cons (pe_meth (pv 0) T_Maker.cl T_Maker_nand.me G_Maker_nand (hr.mono (by decide)) T_Maker_nand.b .nil pass0 (pa_cons (pv 1) (pa_cons (pv 3) pa_nil))) (pa_cons (pe_meth (pv 0) T_Maker.cl T_Maker_nand.me G_Maker_nand (hr.mono (by decide)) T_Maker_nand.b .nil pass0 (pa_cons (pv 2) (pa_cons (pv 3) pa_nil))) pa_nil)))))), ?_⟩
    refine ⟨_, rfl, p, dx, _, rfl, h1, fl_no (by decide +kernel) (by decide +kernel) (by decide +kernel), _, rfl, _, rfl, p, g, i, k, ps, a, b, rfl, M, by omega, fun H1 M1 k1 => ?_⟩
    obtain ⟨⟨dx1, h11⟩, _⟩ := id M1
    refine ⟨_, rfl, p, dx1, _, rfl, h11, fl_no (by decide +kernel) (by decide +kernel) (by decide +kernel), _, rfl, p, dx1, _, rfl, h11, fl_no (by decide +kernel) (by decide +kernel) (by decide +kernel), _, rfl, _, rfl, p, g, i, k, _, a, _, rfl, M1, by rw [mNand_len]; omega, fun H2 M2 k2 => ?_⟩
    obtain ⟨⟨dx2, h12⟩, _⟩ := id M2
    refine ⟨_, rfl, p, dx2, _, rfl, h12, fl_no (by decide +kernel) (by decide +kernel) (by decide +kernel), _, rfl, _, rfl, p, g, i, k, _, b, _, rfl, M2, by rw [mNand_len, mNand_len]; omega, fun H3 M3 k3 => ?_⟩
    exact ⟨p, g, i, k, _, _, _, rfl, M3, by rw [mNand_len, mNand_len, mNand_len]; omega, fun H4 M4 k4 => q H4 M4 (((k1.trans k2).trans k3).trans k4)⟩
end
section
variable {P : Program} {w : World} {K : PySem.W.Frag} {mg : Str → Option Value} {base : Heap}
theorem sc_Maker_chosen : FnScope ["self", "which", "a", "b"] ["self", "which", "a", "b"] (defScope s_Maker_chosen) := ⟨rfl, rfl, rfl, by decide +kernel, rfl, by decide +kernel, by decide +kernel⟩
theorem ok_Maker_chosen {f C fi fn fo : Addr} {fd fdi fdn fdo : FuncData} (T_Maker : Mc K mg C fi fdi) (T_Maker_nand : Mt K C "nand" "Maker.nand" s_Maker_nand ["self", "a", "b"] fn fdn) (T_Maker_other : Mt K C "other" "Maker.other" s_Maker_other ["self", "a"] fo fdo) (T_Maker_chosen : Mt K C "chosen" "Maker.chosen" s_Maker_chosen ["self", "which", "a", "b"] f fd) (G_Maker_nand : FnOk P w K mg base CX0 1 fn fdn ["self", "a", "b"] (sp_m2 C 1000100 mNand)) (G_Maker_other : FnOk P w K mg base CX0 2 fo fdo ["self", "a"] (sp_m1 C 1000050 mOther)) : FnOk P w K mg base CX0 3 f fd ["self", "which", "a", "b"] (sp_m3 C 1000000 mChosen) := by
  refine T_Maker_chosen.F.ok sc_Maker_chosen (fun vs H Q E h => ?_) (fun cdv A outer s H vs Q E hr h => ?_)
  · obtain ⟨p, g, i, k, ps, w, a, b, rfl, _⟩ := h; rfl
  · obtain ⟨p, g, i, k, ps, w, a, b, rfl, M, hl, q⟩ := h
    obtain ⟨⟨dx, h1⟩, _⟩ := id M
    refine ⟨_, (pss_one (ps_ret (pe_meth (pv 0) T_Maker.cl T_Maker_nand.me G_Maker_nand (hr.mono (by decide)) T_Maker_nand.b .nil pass0 (pa_cons (pe_meth (pv 0) T_Maker.cl T_Maker_nand.me G_Maker_nand (hr.mono (by decide)) T_Maker_nand.b .nil pass0 (pa_cons (pv 1) (pa_cons (pv 2) pa_nil))) (pa_cons (pe_meth (pv 0) T_Maker.cl T_Maker_nand.me G_Maker_nand (hr.mono (by decide)) T_Maker_nand.b .nil pass0 (pa_cons (pe_meth (pv 0) T_Maker.cl T_Maker_other.me G_Maker_other (hr.mono (by decide)) T_Maker_other.b .nil pass0 (pa_cons (pv 1) pa_nil)) (pa_cons (pv 3) pa_nil))) pa_nil))))), ?_⟩
    refine ⟨_, rfl, p, dx, _, rfl, h1, fl_no (by decide +kernel) (by decide +kernel) (by decide +kernel), _, rfl, p, dx, _, rfl, h1, fl_no (by decide +kernel) (by decide +kernel) (by decide +kernel), _, rfl, _, rfl, p, g, i, k, ps, w, a, rfl, M, by omega, fun H1 M1 k1 => ?_⟩
    obtain ⟨⟨dx1, h11⟩, _⟩ := id M1
    refine ⟨_, rfl, p, dx1, _, rfl, h11, fl_no (by decide +kernel) (by decide +kernel) (by decide +kernel), _, rfl, p, dx1, _, rfl, h11, fl_no (by decide +kernel) (by decide +kernel) (by decide +kernel), _, rfl, p, g, i, k, _, w, rfl, M1, by rw [mNand_len]; omega, fun H2 M2 k2 => ?_⟩
    refine ⟨_, rfl, p, g, i, k, _, _, b, rfl, M2, by rw [mOther_len, mNand_len]; omega, fun H3 M3 k3 => ?_⟩
    exact ⟨p, g, i, k, _, _, _, rfl, M3, by rw [mNand_len, mOther_len, mNand_len]; omega, fun H4 M4 k4 => q H4 M4 (((k1.trans k2).trans k3).trans k4)⟩
end
section
variable {P : Program} {w : World} {K : PySem.W.Frag} {mg : Str → Option Value} {base : Heap}
theorem fromN_rng (a n : Int) : rngV a n.toNat = (fromN a n).map V.int := by unfold rngV fromN; rw [List.map_map]; rfl
def sp_told (C : Addr) (f : Int → Int → List Int) : Sp := fun vs H Q _ => ∃ (p g : Addr) (i k : Int) (ps : Gs), vs = [.ref p] ∧ MakerAt C H p g i k ps ∧ (0 ≤ i ∧ i ≤ 1000) ∧ (0 ≤ k ∧ k ≤ 1000) ∧
  ∀ (l : Addr) (H' : Hp), Same H H' → H l = none → H' l = some (.lst ((f i k).map V.int)) → Q (.ref l) H'
theorem sc_Maker_inputs : FnScope ["self"] ["self"] (defScope s_Maker_inputs) := ⟨rfl, rfl, rfl, by decide +kernel, rfl, by decide +kernel, by decide +kernel⟩
theorem ok_Maker_inputs {f C fi : Addr} {fd fdi : FuncData} {tk : Tok} (T_Maker : Mc K mg C fi fdi) (T : Bt mg) (hfw : mg "FIXED_WIRES" = some (.int 2 tk)) (T_Maker_inputs : Mt K C "inputs" "Maker.inputs" s_Maker_inputs ["self"] f fd) : FnOk P w K mg base CX0 1 f fd ["self"] (sp_told C fun i _ => fromN 2 i) := by
  refine T_Maker_inputs.F.ok sc_Maker_inputs (fun vs H Q E h => ?_) (fun cdv A outer s H vs Q E hr h => ?_)
  · obtain ⟨p, g, i, k, ps, rfl, _⟩ := h; rfl
  · obtain ⟨p, g, i, k, ps, rfl, M, hi, hk, q⟩ := h
    obtain ⟨⟨dx, h1⟩, _⟩ := id M
    refine ⟨_, (pss_one (ps_ret (pe_callTy (call_list_rng rfl) rfl T.b_list (by decide +kernel) (pa_cons (pe_callTy call_rng2 rfl T.b_range (by decide +kernel) (pa_cons (pe_glob (v := .int 2) rfl hfw ⟨_, rfl⟩) (pa_cons (pe_op op_add (pe_glob (v := .int 2) rfl hfw ⟨_, rfl⟩) (pe_fld (pv 0) rfl)) pa_nil))) pa_nil)))), ?_⟩
    refine ⟨_, rfl, p, C, dx, _, _, rfl, h1, T_Maker.cl, T_Maker.nI, fl_ins, _, _, rfl, rfl, _, _, rfl, fun r hr1 => ⟨r, _, _, rfl, upd_same, ⟨by omega, by omega, by omega, by omega⟩, by omega, fun l hl => ?_⟩⟩
    have s1 := Same.put (o := .rng 2 (2 + i)) hr1
    have s2 := s1.trans (Same.put (o := .lst (rngV 2 (2 + i - 2).toNat)) hl)
    refine q l _ s2 (s1.free hl) ?_
    rw [upd_same, ← fromN_rng, show 2 + i - 2 = i by omega]
theorem sc_Maker_keepers : FnScope ["self", "first"] ["self"] (defScope s_Maker_keepers) := ⟨rfl, rfl, rfl, by decide +kernel, rfl, by decide +kernel, by decide +kernel⟩
theorem ok_Maker_keepers {f C fi : Addr} {fd fdi : FuncData} {tk : Tok} (T_Maker : Mc K mg C fi fdi) (T : Bt mg) (hfw : mg "FIXED_WIRES" = some (.int 2 tk)) (T_Maker_keepers : Mt K C "keepers" "Maker.keepers" s_Maker_keepers ["self"] f fd) : FnOk P w K mg base CX0 1 f fd ["self"] (sp_told C fun i k => fromN (2 + i) k) := by
  refine T_Maker_keepers.F.ok sc_Maker_keepers (fun vs H Q E h => ?_) (fun cdv A outer s H vs Q E hr h => ?_)
  · obtain ⟨p, g, i, k, ps, rfl, _⟩ := h; rfl
  · obtain ⟨p, g, i, k, ps, rfl, M, hi, hk, q⟩ := h
    obtain ⟨⟨dx, h1⟩, _⟩ := id M
    refine ⟨_, (pss_cons (ps_set (i := 1) sc_Maker_keepers.nd rfl (Or.inl rfl) (pe_op op_add (pe_glob (v := .int 2) rfl hfw ⟨_, rfl⟩) (pe_fld (pv 0) rfl)))
      (pss_one (ps_ret (pe_callTy (call_list_rng rfl) rfl T.b_list (by decide +kernel) (pa_cons (pe_callTy call_rng2 rfl T.b_range (by decide +kernel) (pa_cons (pv 1) (pa_cons (pe_op op_add (pv 1) (pe_fld (pv 0) rfl)) pa_nil))) pa_nil))))), ?_⟩
    refine ⟨_, rfl, p, C, dx, _, _, rfl, h1, T_Maker.cl, T_Maker.nI, fl_ins, _, _, rfl, rfl, ?_⟩
    refine ⟨_, rfl, _, rfl, _, rfl, p, C, dx, _, _, rfl, h1, T_Maker.cl, T_Maker.nK, fl_keeps, _, _, rfl, rfl, _, _, rfl, fun r hr1 => ⟨r, _, _, rfl, upd_same, ⟨by omega, by omega, by omega, by omega⟩, by omega, fun l hl => ?_⟩⟩
    have s1 := Same.put (o := .rng (2 + i) (2 + i + k)) hr1
    have s2 := s1.trans (Same.put (o := .lst (rngV (2 + i) (2 + i + k - (2 + i)).toNat)) hl)
    refine q l _ s2 (s1.free hl) ?_
    rw [upd_same, ← fromN_rng, show 2 + i + k - (2 + i) = k by omega]
end
end K9

set_option Elab.async false
set_option linter.all false
set_option maxRecDepth 100000
set_option maxHeartbeats 4000000
namespace K9
open PySem L2
section
variable {P : Program} {w : World} {K : PySem.W.Frag} {mg : Str → Option Value} {base : Heap}
/-- a net, place by place -/
structure NetF (H : Hp) (t g n o : Addr) (gs : List V) (N : NetD) : Prop where
  t : H t = some (.tup [.int N.ins, .int N.keeps, .ref g, .ref n, .ref o])
  g : H g = some (.lst gs)
  gs : Paired (GateAt H) gs N.gates
  n : H n = some (.lst (N.nexts.map V.int))
  o : H o = some (.lst (N.outs.map V.int))
theorem NetF.same {H H' : Hp} {t g n o : Addr} {gs : List V} {N : NetD} (s : Same H H') (h : NetF H t g n o gs N) : NetF H' t g n o gs N := ⟨s _ _ h.t, s _ _ h.g, Paired.mapP h.gs fun _ _ z => z.same s, s _ _ h.n, s _ _ h.o⟩
theorem NetF.net {H : Hp} {t g n o : Addr} {gs : List V} {N : NetD} (h : NetF H t g n o gs N) (sm : N.gates.length ≤ 1000 ∧ N.nexts.length ≤ 1000 ∧ N.outs.length ≤ 1000) : NetAt H (.ref t) N := ⟨⟨t, g, n, o, gs, rfl, h.t, h.g, h.gs, h.n, h.o⟩, sm⟩
def sp_mnet (C : Addr) : Sp := fun vs H Q _ => ∃ (p g n o : Addr) (i k : Int) (ps : Gs) (ns os : List Int), vs = [.ref p, .ref n, .ref o] ∧ MakerAt C H p g i k ps ∧ H n = some (.lst (ns.map V.int)) ∧ H o = some (.lst (os.map V.int)) ∧ ps.length ≤ 1000 ∧ ns.length ≤ 1000 ∧ os.length ≤ 1000 ∧
  ∀ (t : Addr) (g' n' o' : Addr) (gs : List V) (H' : Hp), Same H H' → H t = none → H g' = none → H n' = none → H o' = none → NetF H' t g' n' o' gs ⟨i, k, ps, ns, os⟩ → Q (.ref t) H'
theorem sc_Maker_net : FnScope ["self", "nexts", "outs"] ["self", "nexts", "outs"] (defScope s_Maker_net) := ⟨rfl, rfl, rfl, by decide +kernel, rfl, by decide +kernel, by decide +kernel⟩
theorem ok_Maker_net {f C fi : Addr} {fd fdi : FuncData} (T_Maker : Mc K mg C fi fdi) (T : Bt mg) (T_Maker_net : Mt K C "net" "Maker.net" s_Maker_net ["self", "nexts", "outs"] f fd) : FnOk P w K mg base CX0 1 f fd ["self", "nexts", "outs"] (sp_mnet C) := by
  refine T_Maker_net.F.ok sc_Maker_net (fun vs H Q E h => ?_) (fun cdv A outer s H vs Q E hr h => ?_)
  · obtain ⟨p, g, n, o, i, k, ps, ns, os, rfl, _⟩ := h; rfl
  · obtain ⟨p, g, n, o, i, k, ps, ns, os, rfl, M, hn, ho, l1, l2, l3, q⟩ := h
    obtain ⟨⟨dx, h1⟩, gs, hg, hG⟩ := id M
    have hs : sizeLine = 16777216 := sizeLine_eq
    refine ⟨_, (pss_one (ps_ret (pe_tup (pa_cons (pe_fld (pv 0) rfl) (pa_cons (pe_fld (pv 0) rfl) (pa_cons (pe_callTy call_list_of rfl T.b_list (by decide +kernel) (pa_cons (pe_fld (pv 0) rfl) pa_nil)) (pa_cons (pe_callTy call_list_of rfl T.b_list (by decide +kernel) (pa_cons (pv 1) pa_nil)) (pa_cons (pe_callTy call_list_of rfl T.b_list (by decide +kernel) (pa_cons (pv 2) pa_nil)) pa_nil)))))))), ?_⟩
    refine ⟨_, rfl, p, C, dx, _, _, rfl, h1, T_Maker.cl, T_Maker.nI, fl_ins, _, rfl, p, C, dx, _, _, rfl, h1, T_Maker.cl, T_Maker.nK, fl_keeps, _, rfl, p, C, dx, _, _, rfl, h1, T_Maker.cl, T_Maker.nG, fl_gates, g, gs, rfl, .inl (SqL.of hg), fun g' e1 => ?_⟩
    have s1 := Same.put (o := .lst gs) e1
    refine ⟨_, rfl, n, _, rfl, .inl (SqL.of (s1 _ _ hn)), fun n' e2 => ?_⟩
    have y2 := Same.put (o := .lst (ns.map V.int)) e2
    have s2 := s1.trans y2
    refine ⟨_, rfl, o, _, rfl, .inl (SqL.of (s2 _ _ ho)), fun o' e3 => ?_⟩
    have y3 := Same.put (o := .lst (os.map V.int)) e3
    have s3 := s2.trans y3
    refine ⟨by show 5 ≤ sizeLine; omega, fun t e4 => ?_⟩
    have y4 := Same.put (o := .tup [V.int i, V.int k, V.ref g', V.ref n', V.ref o']) e4
    have s4 := s3.trans y4
    refine q t g' n' o' gs _ s4 (s3.free e4) e1 (s1.free e2) (s2.free e3) ⟨upd_same, y4 _ _ (y3 _ _ (y2 _ _ upd_same)), Paired.mapP hG fun _ _ z => z.same s4, y4 _ _ (y3 _ _ upd_same), y4 _ _ upd_same⟩
end
def sp_are_wires (K : PySem.W.Frag) : Sp := fun vs H Q _ => ∃ (a : Addr) (ns : List Int) (c : Int), vs = [.ref a, .int c] ∧ (SqL K H a (ns.map V.int) ∨ SqT K H a (ns.map V.int)) ∧ ns.length ≤ 1000 ∧ ∀ H', Same H H' → Q (.bl (wiresOk ns c)) H'
def sp_is_net : Sp := fun vs H Q _ => ∃ (v : V) (N : NetD), vs = [v] ∧ NetAt H v N ∧ ∀ H', Same H H' → Q (.bl (isNet N)) H'
section
variable {P : Program} {w : World} {K : PySem.W.Frag} {mg : Str → Option Value} {base : Heap}
theorem sc_are_wires : FnScope ["wires", "count"] ["wires", "count"] (defScope s_are_wires) := ⟨rfl, rfl, rfl, by decide +kernel, rfl, by decide +kernel, by decide +kernel⟩
def fW (c : Int) : V → V := fun x => match x with
  | .int i => .bl (decide (0 ≤ i) && decide (i < c))
  | _ => .bl false
theorem fW_map (ns : List Int) (c : Int) : (ns.map V.int).map (fW c) = (ns.map fun n => decide (0 ≤ n) && decide (n < c)).map V.bl := by
  rw [List.map_map, List.map_map]; rfl
theorem fW_all (ns : List Int) (c : Int) : (ns.map fun n => decide (0 ≤ n) && decide (n < c)).all id = wiresOk ns c := by
  unfold wiresOk
  rw [List.all_map]; rfl
theorem ok_are_wires {f : Addr} {fd : FuncData} (F : Fun K "are_wires" "are_wires" s_are_wires f fd) (T : Bt mg) : FnOk P w K mg base CX0 1 f fd ["wires", "count"] (sp_are_wires K) := by
  refine F.ok sc_are_wires (fun vs H Q E h => ?_) (fun cdv A outer s H vs Q E hr h => ?_)
  · obtain ⟨a, ns, c, rfl, _⟩ := h; rfl
  · obtain ⟨a, ns, c, rfl, hq, hz, k⟩ := h
    have hz' : (ns.map V.int).length ≤ sizeLine := by rw [List.length_map]; exact Nat.le_of_lt (small1000 hz)
    have step : ∀ (x : V) (H2 : Hp) (R : VK), x ∈ ns.map V.int → R (fW c x) H2 → tChain (rI0 fun i j => .bl (decide (i ≤ j))) (rI0 fun i j => .bl (decide (i < j))) (tC (.int 0)) (tVar 0) (tVar 1) [some x, some (.int c)] H2 R := by
      intro x H2 R hx hR
      obtain ⟨n, _, rfl⟩ := List.mem_map.mp hx
      refine ⟨_, rfl, _, _, rfl, rfl, _, rfl, ?_⟩
      by_cases h0 : 0 ≤ n
      · rw [if_pos (decide_eq_true h0)]
        refine ⟨_, rfl, _, _, rfl, rfl, ?_⟩
        have hR' : R (.bl (decide (0 ≤ n) && decide (n < c))) H2 := hR
        rw [decide_eq_true h0, Bool.true_and] at hR'
        exact hR'
      · rw [if_neg (by simp [h0])]
        have hR' : R (.bl (decide (0 ≤ n) && decide (n < c))) H2 := hR
        rw [decide_eq_false h0, Bool.false_and] at hR'
        exact hR'
    have fin : ∀ acc, H acc = none → ∃ (p : Addr) (bs : List Bool), [V.ref acc] = [.ref p] ∧ SqL K (upd H acc (.lst ((ns.map V.int).map (fW c)))) p (bs.map V.bl) ∧ Q (.bl (bs.all id)) (upd H acc (.lst ((ns.map V.int).map (fW c)))) := fun acc hacc =>
      ⟨acc, _, rfl, SqL.of (by rw [upd_same, fW_map]), by rw [fW_all]; exact k _ (Same.put hacc)⟩
    rcases hq with hq | hq
    · refine ⟨_, (pss_one (ps_ret (pe_callB (call_allB rfl) rfl T.b_all (by decide +kernel) (pa_cons (pe_comp rfl (blk_of (sc0 := defScope s_are_wires) (N0 := ["wires", "count"]) (N' := ["wire", "count"]) (own := 1) (fv := [1]) (by decide +kernel) rfl rfl) (pi_list (pv 0)) (fun _ _ _ _ => (pg_name (i := 0) (by show List.Nodup (["wire", "count"] : List Str); decide +kernel) rfl (Or.inl rfl))) (fun _ _ _ _ => (pe_chain op_le op_lt pe_int (pv 0) (pv 1)))) pa_nil)))), ?_⟩
      refine ⟨_, rfl, a, rfl, ⟨_, hq⟩, ?_⟩
      exact comp_map (fvals := [some (.int c)]) (fW c) hq hz' (fun i x H2 R hx _ hR => step x H2 R (List.mem_of_getElem? hx) hR) fin
    · refine ⟨_, (pss_one (ps_ret (pe_callB (call_allB rfl) rfl T.b_all (by decide +kernel) (pa_cons (pe_comp rfl (blk_of (sc0 := defScope s_are_wires) (N0 := ["wires", "count"]) (N' := ["wire", "count"]) (own := 1) (fv := [1]) (by decide +kernel) rfl rfl) (pi_tup (pv 0)) (fun _ _ _ _ => (pg_name (i := 0) (by show List.Nodup (["wire", "count"] : List Str); decide +kernel) rfl (Or.inl rfl))) (fun _ _ _ _ => (pe_chain op_le op_lt pe_int (pv 0) (pv 1)))) pa_nil)))), ?_⟩
      refine ⟨_, rfl, a, rfl, ⟨_, hq⟩, ?_⟩
      exact comp_mapT (fvals := [some (.int c)]) (fW c) hq hz' (fun i x H2 R hx _ hR => step x H2 R (List.mem_of_getElem? hx) hR) fin
theorem sc_is_net : FnScope ["net", "ins", "keeps", "gates", "nexts", "outs", "count", "gate"] ["net"] (defScope s_is_net) := ⟨rfl, rfl, rfl, by decide +kernel, rfl, by decide +kernel, by decide +kernel⟩
theorem ok_is_net {f fa : Addr} {fd fda : FuncData} {tk : Tok} (F : Fun K "is_net" "is_net" s_is_net f fd) (T : Bt mg) (T_are_wires : Fn K mg "are_wires" s_are_wires ["wires", "count"] fa fda)
    (hfw : mg "FIXED_WIRES" = some (.int 2 tk)) : FnOk P w K mg base CX0 2 f fd ["net"] sp_is_net := by
  have G_are_wires := ok_are_wires (P := P) (w := w) (base := base) T_are_wires.F T
  refine F.ok sc_is_net (fun vs H Q E h => ?_) (fun cdv A outer s H vs Q E hr h => ?_)
  · obtain ⟨v, N, rfl, _⟩ := h; rfl
  · obtain ⟨v, N, rfl, hN, q⟩ := h
    obtain ⟨⟨p, g, n, o, gs, rfl, hp, hg, hG, hn, ho⟩, sm⟩ := id hN
    refine ⟨_, (pss_cons (ps_set (i := 1) sc_is_net.nd rfl (Or.inl rfl) (pe_ix ix_tup (pv 0) pe_int (fun _ _ => rfl)))
      (pss_cons (ps_set (i := 2) sc_is_net.nd rfl (Or.inl rfl) (pe_ix ix_tup (pv 0) pe_int (fun _ _ => rfl)))
      (pss_cons (ps_set (i := 3) sc_is_net.nd rfl (Or.inl rfl) (pe_ix ix_tup (pv 0) pe_int (fun _ _ => rfl)))
      (pss_cons (ps_set (i := 4) sc_is_net.nd rfl (Or.inl rfl) (pe_ix ix_tup (pv 0) pe_int (fun _ _ => rfl)))
      (pss_cons (ps_set (i := 5) sc_is_net.nd rfl (Or.inl rfl) (pe_ix ix_tup (pv 0) pe_int (fun _ _ => rfl)))
      (pss_cons (ps_if (PW.pt (pw_or (pt_cmpR op_lt (pv 1) pe_int (nomark _)) (pw_or (pt_cmpR op_lt (pv 2) pe_int (nomark _)) (pw_or1 (pt_cmpR op_ne (pe_callB call_len_seq rfl T.b_len (by decide +kernel) (pa_cons (pv 4) pa_nil)) (pv 2) (nomark _))))))
        (pss_one (ps_ret pe_bl))
        pss_nil)
      (pss_cons (ps_set (i := 6) sc_is_net.nd rfl (Or.inl rfl) (pe_op op_add (pe_op op_add (pe_glob (v := .int 2) rfl hfw ⟨_, rfl⟩) (pv 1)) (pv 2)))
      (pss_cons (ps_for PassesOwn.never rfl (pi_list (pv 3)) (pg_name (i := 7) sc_is_net.nd rfl (Or.inl rfl))
        (pss_cons (ps_if (pt_not (pt_val (pe_call G_are_wires (hr.mono (by decide)) rfl T_are_wires.m T_are_wires.F.kp T_are_wires.b .nil pass0 (pa_cons (pv 7) (pa_cons (pv 6) pa_nil)))))
          (pss_one (ps_ret pe_bl))
          pss_nil)
        (pss_one (ps_set (i := 6) sc_is_net.nd rfl (Or.inl rfl) (pe_op op_add (pv 6) pe_int)))))
      (pss_one (ps_ret (pe_and (pe_call G_are_wires (hr.mono (by decide)) rfl T_are_wires.m T_are_wires.F.kp T_are_wires.b .nil pass0 (pa_cons (pv 4) (pa_cons (pv 6) pa_nil))) (pe_one (pe_call G_are_wires (hr.mono (by decide)) rfl T_are_wires.m T_are_wires.F.kp T_are_wires.b .nil pass0 (pa_cons (pv 5) (pa_cons (pv 6) pa_nil))))))))))))))), ?_⟩
    refine ⟨_, rfl, p, _, _, _, rfl, rfl, SqT.of hp, rfl, ?_⟩
    refine ⟨_, rfl, p, _, _, _, rfl, rfl, SqT.of hp, rfl, ?_⟩
    refine ⟨_, rfl, p, _, _, _, rfl, rfl, SqT.of hp, rfl, ?_⟩
    refine ⟨_, rfl, p, _, _, _, rfl, rfl, SqT.of hp, rfl, ?_⟩
    refine ⟨_, rfl, p, _, _, _, rfl, rfl, SqT.of hp, rfl, ?_⟩
    have no : isNet N = false → ∀ H', Same H H' → Q (.bl false) H' := fun e H' s' => by have := q H' s'; rw [e] at this; exact this
    refine ⟨_, rfl, _, _, rfl, rfl, _, rfl, ite2 (fun h1 => iteT (no (isNet_bad (.inl (of_decide_eq_true h1))) H (Same.refl H))) (fun h1 => ?_)⟩
    refine ⟨_, rfl, _, _, rfl, rfl, _, rfl, ite2 (fun h2 => iteT (no (isNet_bad (.inr (.inl (of_decide_eq_true h2)))) H (Same.refl H))) (fun h2 => ?_)⟩
    refine ⟨_, rfl, n, _, rfl, .inl (SqL.of hn), _, rfl, rfl, _, rfl, ite2 (fun h3 => ?_) (fun h3 => ?_)⟩
    · refine no (isNet_bad (.inr (.inr fun e => ?_))) H (Same.refl H)
      rw [List.length_map, e] at h3
      simp at h3
    have hlen : (N.nexts.length : Int) = N.keeps := by
      simp only [List.length_map, Bool.not_eq_true', decide_eq_false_iff_not, V.int.injEq, Decidable.not_not] at h3
      exact h3
    have hgood : ¬ (N.ins < 0 ∨ N.keeps < 0 ∨ (N.nexts.length : Int) ≠ N.keeps) := by
      rintro (z | z | z)
      · exact h1 (decide_eq_true z)
      · exact h2 (decide_eq_true z)
      · exact z hlen
    refine ⟨_, rfl, _, _, rfl, rfl, _, rfl, _, _, rfl, rfl, ?_⟩
    refine ⟨_, rfl, g, rfl, ⟨_, SqL.of hg⟩, for_list (K := K) (a := g) (xs := gs) (fun i σ H2 => ∃ (v7 : Option V) (c : Int),
      σ = [some (.ref p), some (.int N.ins), some (.int N.keeps), some (.ref g), some (.ref n), some (.ref o), some (.int c), v7] ∧ Same H H2 ∧ c = 2 + N.ins + N.keeps + (i : Int) ∧
      ∀ (j : Nat) (pr : Int × Int), j < i → N.gates[j]? = some pr → wiresOk [pr.1, pr.2] (2 + N.ins + N.keeps + (j : Int)) = true)
      ⟨none, _, rfl, Same.refl H, by simp, fun j pr hj => absurd hj (Nat.not_lt_zero _)⟩ (fun i σ H2 _ ⟨_, _, _, s2, _⟩ => s2.seq (SqL.of hg)) ?_ ?_⟩
    · rintro i y σ H2 hi ⟨v7, c, rfl, s2, hc, hok⟩
      obtain ⟨pr, hpr, qa, rfl, hqa⟩ := paired_get hG hi
      refine ⟨_, rfl, _, rfl, qa, [pr.1, pr.2], c, rfl, .inr (SqT.of (s2 _ _ hqa)), (by show 2 ≤ 1000; decide), fun H3 s3 => ⟨_, rfl, ite2 (fun hw => ?_) (fun hw => ?_)⟩⟩
      · refine no ?_ H3 (s2.trans s3)
        have hw' : wiresOk [pr.1, pr.2] c = false := by simpa using hw
        rw [isNet_good hgood]
        have : gatesOk (2 + N.ins + N.keeps) N.gates = false := by
          cases e : gatesOk (2 + N.ins + N.keeps) N.gates with
          | false => rfl
          | true => have := gok_iff.mp e i pr hpr; rw [← hc, hw'] at this; cases this
        rw [this, Bool.false_and]
      · have hw' : wiresOk [pr.1, pr.2] c = true := by simpa using hw
        refine ⟨_, rfl, _, _, rfl, rfl, some (.ref qa), c + 1, rfl, s2.trans s3, by push_cast; omega, fun j pr' hj e => ?_⟩
        by_cases hji : j = i
        · subst hji; rw [hpr] at e; cases e; rw [← hc]; exact hw'
        · exact hok j pr' (by omega) e
    · rintro σ H2 ⟨v7, c, rfl, s2, hc, hok⟩
      have hgl : gs.length = N.gates.length := hG.length
      have hgo : gatesOk (2 + N.ins + N.keeps) N.gates = true := gok_iff.mpr fun i pr e => hok i pr (by have := (List.getElem?_eq_some_iff.mp e).1; omega) e
      have e0 : isNet N = (wiresOk N.nexts c && wiresOk N.outs c) := by rw [isNet_good hgood, hgo, Bool.true_and, hc, hgl]
      refine ⟨_, rfl, _, rfl, n, N.nexts, c, rfl, .inl (SqL.of (s2 _ _ hn)), sm.2.1, fun H3 s3 => ⟨_, rfl, ite2 (fun h4 => ?_) (fun h4 => ?_)⟩⟩
      · refine ⟨_, rfl, _, rfl, o, N.outs, c, rfl, .inl (SqL.of ((s2.trans s3) _ _ ho)), sm.2.2, fun H4 s4 => ?_⟩
        have := q H4 ((s2.trans s3).trans s4)
        rw [e0, h4, Bool.true_and] at this
        exact this
      · have h4' : wiresOk N.nexts c = false := by simpa using h4
        refine no ?_ H3 (s2.trans s3)
        rw [e0, h4', Bool.false_and]

end
end K9

set_option Elab.async false
set_option linter.all false
set_option maxRecDepth 100000
set_option maxHeartbeats 4000000
namespace K9
open PySem L2
section
variable {P : Program} {w : World} {K : PySem.W.Frag} {mg : Str → Option Value} {base : Heap}
local macro_rules | `(tactic| walk_at "sd") => `(tactic| ((try dsimp only); first | omega | decide | exact cmul_l (by omega) (by omega) | exact cmul_r (by omega) (by omega) | exact ⟨by omega, by omega⟩ | exact cpow_of (by omega) (by omega) (by omega) (by omega) | (split <;> omega)))
local macro_rules | `(tactic| walk_at "rd") => `(tactic| repeat (first | refine ⟨_, rfl, ?_⟩ | refine ⟨_, _, rfl, rfl, ?_⟩ | refine And.intro (by walk_at "sd") ?_))

theorem sc_law_cell : FnScope ["_law_script", "_law_k"] ["_law_script", "_law_k"] (defScope s_law_cell) := ⟨rfl, rfl, rfl, by decide +kernel, rfl, by decide +kernel, by decide +kernel⟩
theorem ok_law_cell {f : Addr} {fd : FuncData} (F : Fun K "_law_cell" "_law_cell" s_law_cell f fd) (T : Bt mg) : FnOk P w K mg base CX0 1 f fd ["_law_script", "_law_k"] (sp_cell K) := by
  refine F.ok sc_law_cell (fun vs H Q E h => ?_) (fun cdv A outer s H vs Q E hr h => ?_)
  · obtain ⟨a, ns, k, rfl, _⟩ := h; rfl
  · obtain ⟨a, ns, k, rfl, hq, hk, q⟩ := h
    refine ⟨_, (pss_cons (ps_if (pt_cmpR op_lt (pv 1) (pe_callB call_len_seq rfl T.b_len (by decide +kernel) (pa_cons (pv 0) pa_nil)) (nomark _))
        (pss_one (ps_ret (pe_ix ix_list (pv 0) (pv 1) (fun _ _ => rfl))))
        pss_nil)
      (pss_one (ps_ret pe_int))), ?_⟩
    refine ⟨_, rfl, _, rfl, a, _, rfl, .inl hq, _, _, rfl, rfl, _, rfl, ?_⟩
    refine ite2 (fun h => ?_) (fun h => ?_)
    · obtain ⟨n, _, e⟩ := atI_ix (ns := ns) hk (of_decide_eq_true h)
      exact ⟨_, rfl, _, rfl, a, _, _, _, rfl, rfl, hq, e, q n⟩
    · exact q 0

theorem sc_law_mixed : FnScope ["_law_cell_here", "_law_k", "_law_once"] ["_law_cell_here", "_law_k"] (defScope s_law_mixed) := ⟨rfl, rfl, rfl, by decide +kernel, rfl, by decide +kernel, by decide +kernel⟩
theorem ok_law_mixed {f : Addr} {fd : FuncData} (F : Fun K "_law_mixed" "_law_mixed" s_law_mixed f fd) : FnOk P w K mg base CX0 1 f fd ["_law_cell_here", "_law_k"] sp_mixed := by
  refine F.ok sc_law_mixed (fun vs H Q E h => ?_) (fun cdv A outer s H vs Q E hr h => ?_)
  · obtain ⟨c, k, rfl, _⟩ := h; rfl
  · obtain ⟨c, k, rfl, h0, h1, q⟩ := h
    refine ⟨_, (pss_cons (ps_set (i := 2) sc_law_mixed.nd rfl (Or.inl rfl) (pe_op op_mod (pe_op op_mul (pe_op op_add (pe_op op_add (pe_op op_mod (pv 0) pe_int) (pe_op op_mul pe_int (pv 1))) pe_int) (pe_op op_add (pe_op op_mul (pv 1) (pv 1)) pe_int)) pe_int))
      (pss_one (ps_ret (pe_op op_mod (pe_op op_mul (pv 2) (pe_op op_add (pe_op op_add (pe_op op_mod (pv 2) pe_int) (pv 1)) pe_int)) pe_int)))), ?_⟩
    walk_at "rd"
    exact q _ (Int.emod_nonneg _ (by decide)) (Int.emod_lt_of_pos _ (by decide))
end
section
variable {P : Program} {w : World} {K : PySem.W.Frag} {mg : Str → Option Value} {base : Heap}
local macro_rules | `(tactic| walk_at "sd") => `(tactic| ((try dsimp only); first | omega | decide | exact cmul_l (by omega) (by omega) | exact cmul_r (by omega) (by omega) | exact ⟨by omega, by omega⟩ | exact cpow_of (by omega) (by omega) (by omega) (by omega) | (split <;> omega)))
local macro_rules | `(tactic| walk_at "rd") => `(tactic| repeat (first | refine ⟨_, rfl, ?_⟩ | refine ⟨_, _, rfl, rfl, ?_⟩ | refine And.intro (by walk_at "sd") ?_))
theorem sc_law_numbers : FnScope ["_law_script", "_law_at", "_law_many", "_law_base", "_law_numbers_here", "_law_rest", "_law_plain", "_law_k", "_law_cell_here", "_law_mixed_here"] ["_law_script", "_law_at", "_law_many", "_law_base"] (defScope s_law_numbers) := ⟨rfl, rfl, rfl, by decide +kernel, rfl, by decide +kernel, by decide +kernel⟩
theorem snoc_int (ms : List Int) (m : Int) : ms.map V.int ++ [V.int m] = (ms ++ [m]).map V.int := by rw [List.map_append]; rfl
theorem snoc_all {ms : List Int} {m b : Int} (h : ∀ x ∈ ms, 0 ≤ x ∧ x < b) (hm : 0 ≤ m ∧ m < b) : ∀ x ∈ ms ++ [m], 0 ≤ x ∧ x < b := fun x hx => by
  rcases List.mem_append.mp hx with z | z
  · exact h x z
  · rw [List.mem_singleton.mp z]; exact hm
theorem ok_law_numbers {f fc fm : Addr} {fd fdc fdm : FuncData} (F : Fun K "_law_numbers" "_law_numbers" s_law_numbers f fd) (T : Bt mg)
    (T_law_cell : Fn K mg "_law_cell" s_law_cell ["_law_script", "_law_k"] fc fdc) (T_law_mixed : Fn K mg "_law_mixed" s_law_mixed ["_law_cell_here", "_law_k"] fm fdm) :
    FnOk P w K mg base CX0 2 f fd ["_law_script", "_law_at", "_law_many", "_law_base"] (sp_numbers K) := by
  have G_law_cell := ok_law_cell (P := P) (w := w) (base := base) T_law_cell.F T
  have G_law_mixed := ok_law_mixed (P := P) (w := w) (mg := mg) (base := base) T_law_mixed.F
  refine F.ok sc_law_numbers (fun vs H Q E h => ?_) (fun cdv A outer s H vs Q E hr h => ?_)
  · obtain ⟨a, ns, t, many, bs, rfl, _⟩ := h; rfl
  · obtain ⟨a, ns, t, many, bs, rfl, hq, ht, hm, hb, q⟩ := h
    have hs : sizeLine = 16777216 := sizeLine_eq
    refine ⟨_, (pss_cons (ps_set (i := 4) sc_law_numbers.nd rfl (Or.inl rfl) (pe_lst pa_nil))
      (pss_cons (ps_set (i := 5) sc_law_numbers.nd rfl (Or.inl rfl) (pe_callB call_abs rfl T.b_abs (by decide +kernel) (pa_cons (pe_call G_law_cell (hr.mono (by decide)) rfl T_law_cell.m T_law_cell.F.kp T_law_cell.b .nil pass0 (pa_cons (pv 0) (pa_cons (pv 1) pa_nil))) pa_nil)))
      (pss_cons (ps_set (i := 6) sc_law_numbers.nd rfl (Or.inl rfl) (pe_cmpR op_ge (pv 5) (pe_op op_pow pe_int pe_int) (nomark _)))
      (pss_cons (ps_for PassesOwn.never rfl (pi_range1 rfl T.b_range (pa_cons (pv 2) pa_nil)) (pg_name (i := 7) sc_law_numbers.nd rfl (Or.inl rfl))
        (pss_one (ps_if (PW.pt (pw_and (pt_val (pv 6)) (pw_and1 (pt_cmpR op_gt (pv 5) pe_int (nomark _)))))
          (pss_cons (ps_expr (pe_bm PySem.F.plainAttrs_list PySem.F.slot_list_append PySem.F.type_list_append mt_append (pv 4) (pa_cons (pe_op op_mod (pv 5) (pv 3)) pa_nil)))
          (pss_one (ps_set (i := 5) sc_law_numbers.nd rfl (Or.inl rfl) (pe_op op_fdivL (pv 5) (pv 3)))))
          (pss_cons (ps_set (i := 8) sc_law_numbers.nd rfl (Or.inl rfl) (pe_call G_law_cell (hr.mono (by decide)) rfl T_law_cell.m T_law_cell.F.kp T_law_cell.b .nil pass0 (pa_cons (pv 0) (pa_cons (pe_op op_mod (pe_op op_add (pv 1) (pv 7)) (pe_callB (call_max2 rfl) rfl T.b_max (by decide +kernel) (pa_cons pe_int (pa_cons (pe_callB call_len_seq rfl T.b_len (by decide +kernel) (pa_cons (pv 0) pa_nil)) pa_nil)))) pa_nil))))
          (pss_cons (ps_set (i := 9) sc_law_numbers.nd rfl (Or.inl rfl) (pe_call G_law_mixed (hr.mono (by decide)) rfl T_law_mixed.m T_law_mixed.F.kp T_law_mixed.b .nil pass0 (pa_cons (pe_call G_law_mixed (hr.mono (by decide)) rfl T_law_mixed.m T_law_mixed.F.kp T_law_mixed.b .nil pass0 (pa_cons (pv 8) (pa_cons (pv 7) pa_nil))) (pa_cons (pv 1) pa_nil))))
          (pss_one (ps_expr (pe_bm PySem.F.plainAttrs_list PySem.F.slot_list_append PySem.F.type_list_append mt_append (pv 4) (pa_cons (pe_op op_mod (pe_op op_mul (pe_op op_add (pe_op op_mul (pv 9) pe_int) (pe_call G_law_mixed (hr.mono (by decide)) rfl T_law_mixed.m T_law_mixed.F.kp T_law_mixed.b .nil pass0 (pa_cons (pv 9) (pa_cons (pe_op op_add (pv 7) pe_int) pa_nil)))) (pe_op op_pow (pe_op op_add (pv 9) pe_int) pe_int)) (pv 3)) pa_nil)))))))))
      (pss_one (ps_ret (pv 4))))))), ?_⟩
    refine ⟨Nat.zero_le _, fun l hl => ?_⟩
    have sm : ∀ o, Same H (upd H l o) := fun o => Same.put hl
    refine ⟨_, rfl, _, rfl, a, ns, t, rfl, (sm _).seq hq, ht.1, fun v => ?_⟩
    refine ⟨_, rfl, ?_⟩
    have habs : 0 ≤ (if v < 0 then -v else v) := by split <;> omega
    generalize (if v < 0 then -v else v) = r0 at habs ⊢
    refine ⟨_, rfl, _, _, rfl, rfl, (by walk_at "sd"), _, _, rfl, rfl, ?_⟩
    obtain ⟨pl, hpl⟩ : ∃ pl, decide ((10 : Int) ^ Int.toNat 18 ≤ r0) = pl := ⟨_, rfl⟩
    refine ⟨_, rfl, many, rfl, by omega, by omega, for_range (lo := 0) (n := many.toNat) (fun i σ H2 => ∃ (ms : List Int) (r : Int) (v7 v8 v9 : Option V),
      σ = [some (.ref a), some (.int t), some (.int many), some (.int bs), some (.ref l), some (.int r), some (.bl pl), v7, v8, v9] ∧ H2 = upd H l (.lst (ms.map V.int)) ∧ ms.length = i ∧ (∀ m ∈ ms, 0 ≤ m ∧ m < bs) ∧ 0 ≤ r)
      ⟨[], r0, none, none, none, (by rw [← hpl]; rfl), rfl, rfl, (fun m hm => absurd hm List.not_mem_nil), habs⟩ ?_ ?_⟩
    · rintro i σ H2 hi ⟨ms, r, v7, v8, v9, rfl, rfl, hlen, hall, hr0⟩
      have hlt : (ms.map V.int).length < sizeLine := by rw [List.length_map, hs]; omega
      have hmod : ∀ x : Int, 0 ≤ x % bs ∧ x % bs < bs := fun x => ⟨Int.emod_nonneg _ (by omega), Int.emod_lt_of_pos _ hb.1⟩
      have sq : SqL K (upd H l (.lst (ms.map V.int))) a (ns.map V.int) := (sm _).seq hq
      have again : ∀ (m : Int), upd (upd H l (.lst (ms.map V.int))) l (.lst (ms.map V.int ++ [V.int m])) = upd H l (.lst ((ms ++ [m]).map V.int)) := fun m => by rw [upd_upd, snoc_int]
      have hM : (0 : Int) < (if ((ns.map V.int).length : Int) > 1 then ((ns.map V.int).length : Int) else 1) := by split <;> omega
      refine ⟨_, rfl, _, rfl, ?_⟩
      have two : pl = false ∨ pl = true := by cases pl <;> simp
      rcases two with rfl | rfl
      rotate_left
      refine iteT ⟨_, rfl, _, _, rfl, rfl, _, rfl, ite2 (fun h => ?_) (fun h => ?_)⟩
      · refine ⟨_, rfl, .inl ⟨rfl, _, SqL.of upd_same⟩, _, rfl, _, rfl, _, _, rfl, rfl, hb.1, l, _, _, rfl, rfl, upd_same, hlt, ?_⟩
        refine ⟨_, rfl, _, rfl, _, _, rfl, rfl, hb, ?_⟩
        exact ⟨ms ++ [r % bs], r / bs, _, v8, v9, rfl, again _, by rw [List.length_append, hlen]; rfl, snoc_all hall (hmod r), Int.ediv_nonneg hr0 (by omega)⟩
      rotate_left
      refine iteF (iteF ?_)
      all_goals
        refine ⟨_, rfl, _, rfl, _, rfl, _, _, rfl, rfl, _, rfl, a, _, rfl, .inl sq, _, _, rfl, _, _, rfl, rfl, hM, a, ns, _, rfl, sq, Int.emod_nonneg _ (by omega), fun c => ?_⟩
        refine ⟨_, rfl, _, rfl, _, _, rfl, by omega, by omega, fun x hx0 hx1 => ?_⟩
        refine ⟨_, rfl, _, _, rfl, ht.1, by omega, fun y hy0 hy1 => ?_⟩
        refine ⟨_, rfl, .inl ⟨rfl, _, SqL.of upd_same⟩, _, rfl, _, _, rfl, rfl, cmul_l (by omega) (by omega), _, rfl, _, rfl, _, _, rfl, rfl, _, _, rfl, by omega, by omega, fun z hz0 hz1 => ?_⟩
        refine ⟨_, _, rfl, rfl, _, rfl, _, _, rfl, rfl, _, _, rfl, rfl, cpow_of (by omega) (by omega) (by omega) (by omega), _, _, rfl, rfl, cmul_l (by omega) (by omega), _, rfl, _, _, rfl, rfl, hb.1, l, _, _, rfl, rfl, upd_same, hlt, ?_⟩
        exact ⟨ms ++ [_], r, _, _, _, rfl, again _, by rw [List.length_append, hlen]; rfl, snoc_all hall (hmod _), hr0⟩
    · rintro σ H2 ⟨ms, r, v7, v8, v9, rfl, rfl, hlen, hall, hr0⟩
      exact ⟨_, rfl, q l ms hl (by omega) hall⟩
end
end K9

set_option Elab.async false
set_option linter.all false
set_option maxRecDepth 100000
set_option maxHeartbeats 4000000
namespace K9
open PySem L2
theorem isNet_facts {N : NetD} (h : isNet N = true) : 0 ≤ N.ins ∧ 0 ≤ N.keeps ∧ (N.nexts.length : Int) = N.keeps ∧ (∀ (i : Nat) (p : Int × Int), N.gates[i]? = some p → wiresOk [p.1, p.2] (2 + N.ins + N.keeps + (i : Int)) = true) ∧
    wiresOk N.nexts (2 + N.ins + N.keeps + N.gates.length) = true ∧ wiresOk N.outs (2 + N.ins + N.keeps + N.gates.length) = true := by
  by_cases hb : N.ins < 0 ∨ N.keeps < 0 ∨ (N.nexts.length : Int) ≠ N.keeps
  · rw [isNet_bad hb] at h; cases h
  · rw [isNet_good hb, Bool.and_eq_true, Bool.and_eq_true] at h
    exact ⟨by omega, by omega, by omega, gok_iff.mp h.1, h.2.1, h.2.2⟩
theorem wires_mem {ns : List Int} {c : Int} (h : wiresOk ns c = true) : ∀ n ∈ ns, 0 ≤ n ∧ n < c := fun n hn => by
  have := List.all_eq_true.mp h n hn
  simpa using this
def fA (c : Int) : V → V := fun x => match x with
  | .int i => .int (PySem.Builtin.bitAnd i c)
  | _ => .int 0
theorem fA_map {w : Nat} {ns : List Nat} (h : ∀ n ∈ ns, n < 2 ^ w) : (nv ns).map (fA ((2 ^ w - 1 : Nat) : Int)) = nv ns := by
  unfold nv
  rw [List.map_map]
  refine List.map_congr_left fun n hn => ?_
  show V.int (PySem.Builtin.bitAnd (n : Int) ((2 ^ w - 1 : Nat) : Int)) = V.int (n : Int)
  rw [and_high (h n hn)]
def fX (W : List Nat) : V → V := fun x => match x with
  | .int i => .int (wAt W i : Int)
  | _ => .int 0
theorem fX_map (W : List Nat) (ns : List Int) : (ns.map V.int).map (fX W) = nv (ns.map (wAt W)) := by
  unfold nv
  rw [List.map_map, List.map_map]; rfl
theorem high_eq (w : Nat) : (1 * 2 ^ w - 1 : Int) = ((2 ^ w - 1 : Nat) : Int) := by
  have h := Nat.two_pow_pos w
  have e : ((2 ^ w : Nat) : Int) = (2 : Int) ^ w := by push_cast; rfl
  omega
/-- what a beat is handed: a net, kept and input values below 2 ^ w -/
structure Handed (H : Hp) (v : V) (kp ip : Addr) (N : NetD) (ks is : List Nat) : Prop where
  net : NetAt H v N
  sm : Small N
  ok : isNet N = true
  hk : H kp = some (.lst (nv ks))
  hi : H ip = some (.lst (nv is))
  lk : (ks.length : Int) = N.keeps
  li : (is.length : Int) = N.ins
  sk : ks.length ≤ 200
  si : is.length ≤ 200
def wires (w : Nat) (N : NetD) (ks is : List Nat) : List Nat := runW w N.gates ([0, 2 ^ w - 1] ++ (is ++ ks))
def sp_beat : Sp := fun vs H Q _ => ∃ (v : V) (kp ip : Addr) (N : NetD) (ks is : List Nat) (w : Nat), vs = [v, .ref kp, .ref ip, .int (w : Int)] ∧ Handed H v kp ip N ks is ∧ w ≤ 1000 ∧ (∀ n ∈ is ++ ks, n < 2 ^ w) ∧
  ∀ (p l1 l2 : Addr) (H' : Hp), Same H H' → H p = none → H l1 = none → H l2 = none → l1 ≠ l2 → H' p = some (.tup [.ref l1, .ref l2]) → H' l1 = some (.lst (nv (N.nexts.map (wAt (wires w N ks is))))) → H' l2 = some (.lst (nv (N.outs.map (wAt (wires w N ks is))))) → Q (.ref p) H'
section
variable {P : Program} {w : World} {K : PySem.W.Frag} {mg : Str → Option Value} {base : Heap}
theorem sc_beat : FnScope ["net", "kept", "ins", "worlds", "high", "wires", "a", "b"] ["net", "kept", "ins", "worlds"] (defScope s_beat) := ⟨rfl, rfl, rfl, by decide +kernel, rfl, by decide +kernel, by decide +kernel⟩
theorem ok_beat {f : Addr} {fd : FuncData} (F : Fun K "beat" "beat" s_beat f fd) : FnOk P w K mg base CX0 1 f fd ["net", "kept", "ins", "worlds"] sp_beat := by
  refine F.ok sc_beat (fun vs H Q E h => ?_) (fun cdv A outer s H vs Q E hr h => ?_)
  · obtain ⟨v, kp, ip, N, ks, is, w, rfl, _⟩ := h; rfl
  · obtain ⟨v, kp, ip, N, ks, is, wn, rfl, hd, hw, hlt, q⟩ := h
    obtain ⟨hN, hsm, hok, hk, hi, lk, li, sk, si⟩ := id hd
    obtain ⟨⟨p, g, n, o, gs, rfl, hp, hg, hG, hn, ho⟩, sm⟩ := id hN
    obtain ⟨n0, n1, n2, n3, n4, n5⟩ := isNet_facts hok
    have hgl : gs.length = N.gates.length := hG.length
    have hs : sizeLine = 16777216 := sizeLine_eq
    have hng : N.gates.length ≤ 900 := hsm.g
    have hnn : N.nexts.length ≤ 100 := hsm.n
    have hno : N.outs.length ≤ 100 := hsm.o
    have hpw := Nat.two_pow_pos wn
    refine ⟨_, (pss_cons (ps_set (i := 4) sc_beat.nd rfl (Or.inr rfl) (pe_det (pe_op op_sub (pe_op op_shl pe_int (pv 3)) pe_int)))
      (pss_cons (ps_set (i := 5) sc_beat.nd rfl (Or.inr rfl) (pe_op op_cat (pe_lst (pa_cons pe_int (pa_cons (pv 4) pa_nil))) (pe_comp rfl (blk_of (sc0 := defScope s_beat) (N0 := ["net", "kept", "ins", "worlds", "high", "wires", "a", "b"]) (N' := ["value", "high"]) (own := 1) (fv := [4]) (by decide +kernel) rfl rfl) (pi_list (pe_op op_cat (pv 2) (pv 1))) (fun _ _ _ _ => (pg_name (i := 0) (by show List.Nodup (["value", "high"] : List Str); decide +kernel) rfl (Or.inl rfl))) (fun _ _ _ _ => (pe_op op_and (pv 0) (pv 1))))))
      (pss_cons (ps_for PassesOwn.never rfl (pi_list (pe_ix ix_tup (pv 0) pe_int (fun _ _ => rfl))) (pg_tup rfl (pgs_cons (pg_name (i := 6) sc_beat.nd rfl (Or.inl rfl)) (pgs_cons (pg_name (i := 7) sc_beat.nd rfl (Or.inl rfl)) pgs_nil)))
        (pss_one (ps_expr (pe_bm PySem.F.plainAttrs_list PySem.F.slot_list_append PySem.F.type_list_append mt_append (pv 5) (pa_cons (pe_op op_xor (pv 4) (pe_op op_and (pe_ix ix_list (pv 5) (pv 6) (fun _ _ => rfl)) (pe_ix ix_list (pv 5) (pv 7) (fun _ _ => rfl)))) pa_nil)))))
      (pss_one (ps_ret (pe_tup (pa_cons (pe_comp rfl (blk_of (sc0 := defScope s_beat) (N0 := ["net", "kept", "ins", "worlds", "high", "wires", "a", "b"]) (N' := ["wire", "wires"]) (own := 1) (fv := [5]) (by decide +kernel) rfl rfl) (pi_list (pe_ix ix_tup (pv 0) pe_int (fun _ _ => rfl))) (fun _ _ _ _ => (pg_name (i := 0) (by show List.Nodup (["wire", "wires"] : List Str); decide +kernel) rfl (Or.inl rfl))) (fun _ _ _ _ => (pe_ix (ix_listK (K := K)) (pv 1) (pv 0) (fun _ _ => rfl)))) (pa_cons (pe_comp rfl (blk_of (sc0 := defScope s_beat) (N0 := ["net", "kept", "ins", "worlds", "high", "wires", "a", "b"]) (N' := ["wire", "wires"]) (own := 1) (fv := [5]) (by decide +kernel) rfl rfl) (pi_list (pe_ix ix_tup (pv 0) pe_int (fun _ _ => rfl))) (fun _ _ _ _ => (pg_name (i := 0) (by show List.Nodup (["wire", "wires"] : List Str); decide +kernel) rfl (Or.inl rfl))) (fun _ _ _ _ => (pe_ix (ix_listK (K := K)) (pv 1) (pv 0) (fun _ _ => rfl)))) pa_nil)))))))), ?_⟩
    refine ⟨.int ((2 ^ wn - 1 : Nat) : Int), ?_, ?_⟩
    · refine ⟨_, rfl, _, _, rfl, rfl, cpow_of (by omega) (by omega) (by omega) (by omega), _, _, rfl, rfl, ?_, rfl⟩
      show V.int (1 * 2 ^ (Int.toNat (wn : Int)) - 1) = _
      rw [Int.toNat_natCast, high_eq]
    refine ⟨_, rfl, Nat.le_of_ble_eq_true rfl, fun p1 h1 => ?_⟩
    have s1 := Same.put (o := .lst (nv [0, 2 ^ wn - 1])) h1
    refine ⟨_, rfl, _, rfl, ip, kp, _, _, rfl, rfl, s1 _ _ hi, s1 _ _ hk, (by rw [nv_length, nv_length]; omega), fun p2 h2 => ?_⟩
    rw [nv_app]
    have y2 := Same.put (o := .lst (nv (is ++ ks))) h2
    have s2 := s1.trans y2
    refine ⟨p2, rfl, ⟨_, SqL.of upd_same⟩, ?_⟩
    refine comp_map (fvals := [some (.int ((2 ^ wn - 1 : Nat) : Int))]) (fA ((2 ^ wn - 1 : Nat) : Int)) (SqL.of upd_same) (by rw [nv_length, List.length_append]; omega) (fun i x H3 R hx s3 hR => ?_) (fun p3 h3 => ?_)
    · obtain ⟨z, _, rfl⟩ := nv_get hx
      exact ⟨_, rfl, _, rfl, _, _, rfl, rfl, hR⟩
    rw [fA_map hlt]
    have y3 := Same.put (o := .lst (nv (is ++ ks))) h3
    have s3 := s2.trans y3
    refine ⟨p1, p3, _, _, rfl, rfl, y3 _ _ (y2 _ _ upd_same), upd_same, (by rw [nv_length, List.length_append]; show 2 + _ ≤ _; omega), fun p4 h4 => ?_⟩
    have n4' : H p4 = none := s3.free h4
    generalize upd (upd (upd H p1 (.lst [V.int 0, V.int ((2 ^ wn - 1 : Nat) : Int)])) p2 (.lst (nv (is ++ ks)))) p3 (.lst (nv (is ++ ks))) = H3 at s3 h4 ⊢
    rw [show ([V.int 0, V.int ((2 ^ wn - 1 : Nat) : Int)] : List V) = nv [0, 2 ^ wn - 1] from rfl, nv_app]
    have sW : ∀ o', Same H (upd H3 p4 o') := fun o' => s3.trans (Same.put h4)
    refine ⟨_, rfl, p, _, _, _, rfl, rfl, SqT.of (sW _ _ _ hp), rfl, g, rfl, ⟨_, SqL.of (sW _ _ _ hg)⟩, for_list (K := K) (a := g) (xs := gs) (fun i σ H2 => ∃ (v6 v7 : Option V),
      σ = [some (.ref p), some (.ref kp), some (.ref ip), some (.int (wn : Int)), some (.int ((2 ^ wn - 1 : Nat) : Int)), some (.ref p4), v6, v7] ∧ H2 = upd H3 p4 (.lst (nv (runW wn (N.gates.take i) ([0, 2 ^ wn - 1] ++ (is ++ ks))))))
      ⟨none, none, rfl, rfl⟩ (fun i σ H2 _ ⟨_, _, _, e⟩ => by rw [e]; exact SqL.of (sW _ _ _ hg)) ?_ ?_⟩
    · rintro i y σ H2 hi' ⟨v6, v7, rfl, rfl⟩
      obtain ⟨pr, hpr, qa, rfl, hqa⟩ := paired_get hG hi'
      have hil : i < N.gates.length := (List.getElem?_eq_some_iff.mp hpr).1
      have hwl : (runW wn (N.gates.take i) ([0, 2 ^ wn - 1] ++ (is ++ ks))).length = 2 + is.length + ks.length + i := by
        rw [runW_length, List.length_append, List.length_append, List.length_take]; show 2 + _ + _ = _; omega
      have hb := wires_mem (n3 i pr hpr)
      have ha := hb pr.1 (by simp)
      have hb' := hb pr.2 (by simp)
      have hlt0 : ∀ n ∈ runW wn (N.gates.take i) ([0, 2 ^ wn - 1] ++ (is ++ ks)), n < 2 ^ wn := runW_lt _ _ fun n hn => by
        rcases List.mem_append.mp hn with hn | hn
        · simp only [List.mem_cons, List.not_mem_nil, or_false] at hn; omega
        · exact hlt n hn
      refine ⟨qa, _, rfl, SqT.of (sW _ _ _ hqa), rfl, _, _, rfl, _, _, rfl, rfl, ?_⟩
      refine ⟨_, rfl, .inl ⟨rfl, _, SqL.of upd_same⟩, _, rfl, _, rfl, _, rfl, p4, _, _, _, rfl, rfl, SqL.of upd_same, atI_nv ha.1 (by omega), _, rfl, _, rfl, p4, _, _, _, rfl, rfl, SqL.of upd_same, atI_nv hb'.1 (by omega), _, _, rfl, rfl, _, _, rfl, rfl, p4, _, _, rfl, rfl, upd_same, (by rw [nv_length, hwl]; omega), ?_⟩
      refine ⟨_, _, rfl, ?_⟩
      show upd (upd H3 p4 _) p4 (.lst (nv _ ++ [V.int (PySem.Builtin.bitXor _ (PySem.Builtin.bitAnd _ _))])) = _
      rw [upd_upd, and_nat, xor_high (Nat.lt_of_le_of_lt Nat.and_le_left (wAt_lt hpw hlt0 _)), nv_snoc, runW_take hpr]
      rfl
    · rintro σ H2 ⟨v6, v7, rfl, rfl⟩
      rw [hgl, List.take_of_length_le (Nat.le_refl _)]
      have hWl : (wires wn N ks is).length = 2 + is.length + ks.length + N.gates.length := by
        unfold wires
        rw [runW_length, List.length_append, List.length_append]; show 2 + _ + _ = _; omega
      rw [show runW wn N.gates ([0, 2 ^ wn - 1] ++ (is ++ ks)) = wires wn N ks is from rfl]
      have hW : upd H3 p4 (.lst (nv (wires wn N ks is))) p4 = some (.lst (nv (wires wn N ks is))) := upd_same
      have sH := sW (.lst (nv (wires wn N ks is)))
      generalize upd H3 p4 (.lst (nv (wires wn N ks is))) = HW at hW sH ⊢
      generalize hWd : wires wn N ks is = W at hW hWl q
      have look : ∀ (ns : List Int), wiresOk ns (2 + N.ins + N.keeps + N.gates.length) = true → ∀ (i : Nat) (x : V) (H3 : Hp) (R : VK), (ns.map V.int)[i]? = some x → H3 p4 = some (.lst (nv W)) → R (fX W x) H3 → tOp (rIxL K) (tVar 1) (tVar 0) [some x, some (.ref p4)] H3 R := fun ns hns i x H3 R hx h3 hR => by
        obtain ⟨z, hz, rfl⟩ := map_int_get hx
        have hz' := wires_mem hns z (List.mem_of_getElem? hz)
        exact ⟨_, rfl, _, rfl, p4, _, _, _, rfl, rfl, SqL.of h3, atI_nv hz'.1 (by omega), hR⟩
      refine ⟨_, rfl, p, _, _, _, rfl, rfl, SqT.of (sH _ _ hp), rfl, n, rfl, ⟨_, SqL.of (sH _ _ hn)⟩, comp_map (fvals := [some (.ref p4)]) (fX W) (SqL.of (sH _ _ hn)) (by rw [List.length_map]; omega) (fun i x H3 R hx s3' hR => look _ n4 i x H3 R hx (s3' _ _ hW) hR) (fun l1 hl1 => ?_)⟩
      rw [fX_map]
      have z1 := Same.put (o := .lst (nv (N.nexts.map (wAt W)))) hl1
      have sH1 := sH.trans z1
      refine ⟨_, rfl, p, _, _, _, rfl, rfl, SqT.of (sH1 _ _ hp), rfl, o, rfl, ⟨_, SqL.of (sH1 _ _ ho)⟩, comp_map (fvals := [some (.ref p4)]) (fX W) (SqL.of (sH1 _ _ ho)) (by rw [List.length_map]; omega) (fun i x H3 R hx s3' hR => look _ n5 i x H3 R hx (s3' _ _ (z1 _ _ hW)) hR) (fun l2 hl2 => ?_)⟩
      rw [fX_map]
      have z2 := Same.put (o := .lst (nv (N.outs.map (wAt W)))) hl2
      refine ⟨Nat.le_of_ble_eq_true rfl, fun pp hpp => ?_⟩
      have z3 := Same.put (o := .tup [.ref l1, .ref l2]) hpp
      exact q pp l1 l2 _ ((sH1.trans z2).trans z3) ((sH1.trans z2).free hpp) (sH.free hl1) (sH1.free hl2) (fun e => by subst e; rw [upd_same] at hl2; cases hl2) upd_same (z3 _ _ (z2 _ _ upd_same)) (z3 _ _ upd_same)
end
theorem bit_high {w k : Nat} (h : k < w) : bit k (2 ^ w - 1) = 1 := by
  rw [bit_test, Nat.testBit_two_pow_sub_one]
  simp [h]
theorem rep_nv (K : PySem.W.Frag) (H : Hp) : ∀ ns : List Nat, RepAll K H (nv ns) (ns.map fun (n : Nat) => PyData.int (n : Int))
  | [] => .nil
  | n :: r => .cons (.int _) (rep_nv K H r)
theorem lay_nv : ∀ ns : List Nat, PyData.canLayAll0 (ns.map fun (n : Nat) => PyData.int (n : Int)) = true
  | [] => rfl
  | n :: r => by
    show (true && PyData.canLayAll0 (r.map fun (n : Nat) => PyData.int (n : Int))) = true
    rw [lay_nv r]; rfl
theorem dep_nv : ∀ ns : List Nat, PyData.depthAll (ns.map fun (n : Nat) => PyData.int (n : Int)) ≤ 0
  | [] => Nat.le_refl _
  | n :: r => by
    show max 0 (PyData.depthAll (r.map fun (n : Nat) => PyData.int (n : Int))) ≤ 0
    have := dep_nv r; omega
def dL (ns : List Nat) : PyData := .list (ns.map fun (n : Nat) => PyData.int (n : Int))
theorem rep_dL (K : PySem.W.Frag) {H : Hp} {a : Addr} {ns : List Nat} (h : H a = some (.lst (nv ns))) : Rep K H (.ref a) (dL ns) := .lst (SqL.of h) (rep_nv K H ns)
theorem lay_dL (ns : List Nat) : (dL ns).canLay0 = true := lay_nv ns
theorem dep_dL (ns : List Nat) : (dL ns).depth ≤ 1 := by
  show PyData.depthAll _ + 1 ≤ 1
  have := dep_nv ns; omega
def sp_law (K : PySem.W.Frag) : Sp := fun vs H Q _ => ∃ (a : Addr) (ns : List Int), vs = [.ref a] ∧ SqL K H a (ns.map V.int) ∧ ns.length ≤ 63 ∧ ∀ H', Q (.bl true) H'
end K9

set_option Elab.async false
set_option linter.all false
set_option maxRecDepth 100000
set_option maxHeartbeats 4000000
namespace K9
open PySem L2
theorem add_xor_and : ∀ (n a b : Nat), a < 2 ^ n → b < 2 ^ n → a + b = (a ^^^ b) + 2 * (a &&& b)
  | 0, a, b, ha, hb => by
    have h1 : a = 0 := by simpa using ha
    have h2 : b = 0 := by simpa using hb
    subst h1 h2; rfl
  | n + 1, a, b, ha, hb => by
    rw [Nat.pow_succ] at ha hb
    have ih := add_xor_and n (a / 2) (b / 2) (by omega) (by omega)
    have x1 := Nat.xor_div_two (a := a) (b := b)
    have x2 := Nat.and_div_two (a := a) (b := b)
    have x3 : (a ^^^ b) % 2 = 1 ↔ ¬ (a % 2 = 1 ↔ b % 2 = 1) := Nat.xor_mod_two_eq_one
    have x4 := Nat.and_mod_two_eq_one (a := a) (b := b)
    have h1 := Nat.div_add_mod (a ^^^ b) 2
    have h2 := Nat.div_add_mod (a &&& b) 2
    by_cases ea : a % 2 = 1 <;> by_cases eb : b % 2 = 1
    · have := x4.mpr ⟨ea, eb⟩; omega
    · have : ¬ (a &&& b) % 2 = 1 := fun z => eb (x4.mp z).2
      omega
    · have : ¬ (a &&& b) % 2 = 1 := fun z => ea (x4.mp z).1
      omega
    · have : ¬ (a &&& b) % 2 = 1 := fun z => ea (x4.mp z).1
      omega
theorem lt_test {c w k : Nat} (h : c < 2 ^ w) (hk : w ≤ k) : c.testBit k = false := Nat.testBit_lt_two_pow (Nat.lt_of_lt_of_le h (Nat.pow_le_pow_right (by decide) hk))
theorem or_nat (a b : Nat) : PySem.Builtin.bitOr (a : Int) (b : Int) = ((a ||| b : Nat) : Int) := by
  rw [PyProof.Rows.bitOr_and, and_nat]
  have h1 := add_xor_and (a + b) a b (Nat.lt_of_le_of_lt (Nat.le_add_right a b) Nat.lt_two_pow_self) (Nat.lt_of_le_of_lt (Nat.le_add_left b a) Nat.lt_two_pow_self)
  have l1 : (a ^^^ b) < 2 ^ (a + b + 1) := Nat.xor_lt_two_pow (Nat.lt_of_le_of_lt (show a ≤ a + b + 1 by omega) Nat.lt_two_pow_self) (Nat.lt_of_le_of_lt (show b ≤ a + b + 1 by omega) Nat.lt_two_pow_self)
  have l2 : (a &&& b) < 2 ^ (a + b + 1) := Nat.lt_of_le_of_lt Nat.and_le_left (Nat.lt_of_le_of_lt (show a ≤ a + b + 1 by omega) Nat.lt_two_pow_self)
  have h2 := add_xor_and (a + b + 1) (a ^^^ b) (a &&& b) l1 l2
  have e1 : (a ^^^ b) ^^^ (a &&& b) = a ||| b := by
    apply Nat.eq_of_testBit_eq
    intro i
    rw [Nat.testBit_xor, Nat.testBit_xor, Nat.testBit_and, Nat.testBit_or]
    cases a.testBit i <;> cases b.testBit i <;> rfl
  have e2 : (a ^^^ b) &&& (a &&& b) = 0 := by
    apply Nat.eq_of_testBit_eq
    intro i
    rw [Nat.testBit_and, Nat.testBit_xor, Nat.testBit_and, Nat.zero_testBit]
    cases a.testBit i <;> cases b.testBit i <;> rfl
  rw [e1, e2] at h2
  omega
theorem not_test {w x i : Nat} (h : x < 2 ^ w) : (2 ^ w - 1 - x).testBit i = (decide (i < w) && !x.testBit i) := by
  have h1 : 2 ^ w - 1 - x = 2 ^ w - (x + 1) := by omega
  rw [h1, Nat.testBit_two_pow_sub_succ h]
theorem not_lt (w x : Nat) : 2 ^ w - 1 - x < 2 ^ w := by have := Nat.two_pow_pos w; omega
theorem and_lt {w a : Nat} (b : Nat) (h : a < 2 ^ w) : (a &&& b) < 2 ^ w := Nat.lt_of_le_of_lt Nat.and_le_left h
theorem b_both {w a b : Nat} (ha : a < 2 ^ w) : 2 ^ w - 1 - ((2 ^ w - 1 - (a &&& b)) &&& (2 ^ w - 1 - (a &&& b))) = a &&& b := by
  rw [Nat.and_self]; have := and_lt b ha; omega
theorem lt_cases {w a i : Nat} (ha : a < 2 ^ w) : i < w ∨ a.testBit i = false := by
  by_cases h : i < w
  · exact .inl h
  · exact .inr (lt_test ha (by omega))
theorem b_either {w a b : Nat} (ha : a < 2 ^ w) (hb : b < 2 ^ w) : 2 ^ w - 1 - ((2 ^ w - 1 - (a &&& a)) &&& (2 ^ w - 1 - (b &&& b))) = a ||| b := by
  rw [Nat.and_self, Nat.and_self]
  apply Nat.eq_of_testBit_eq
  intro i
  rw [not_test (and_lt _ (not_lt w a)), Nat.testBit_and, not_test ha, not_test hb, Nat.testBit_or]
  rcases lt_cases (i := i) ha with h | h
  · simp [h]
  · rcases lt_cases (i := i) hb with h' | h'
    · simp [h']
    · rw [h, h']; cases decide (i < w) <;> rfl
theorem b_unlike {w a b s : Nat} (ha : a < 2 ^ w) (hb : b < 2 ^ w) (hs : s = 2 ^ w - 1 - (a &&& b)) : 2 ^ w - 1 - ((2 ^ w - 1 - (a &&& s)) &&& (2 ^ w - 1 - (b &&& s))) = a ^^^ b := by
  subst hs
  apply Nat.eq_of_testBit_eq
  intro i
  rw [not_test (and_lt _ (not_lt w _)), Nat.testBit_and, not_test (and_lt _ ha), not_test (and_lt _ hb), Nat.testBit_and, Nat.testBit_and, not_test (and_lt _ ha), Nat.testBit_and, Nat.testBit_xor]
  by_cases h : i < w
  · simp only [h, decide_true, Bool.true_and]
    cases a.testBit i <;> cases b.testBit i <;> rfl
  · rw [lt_test ha (by omega), lt_test hb (by omega)]; simp [h]
theorem b_chosen {w x a b : Nat} (hx : x < 2 ^ w) (ha : a < 2 ^ w) (hb : b < 2 ^ w) : 2 ^ w - 1 - ((2 ^ w - 1 - (x &&& a)) &&& (2 ^ w - 1 - ((2 ^ w - 1 - (x &&& x)) &&& b))) = (x &&& a) ||| ((2 ^ w - 1 - x) &&& b) := by
  rw [Nat.and_self]
  apply Nat.eq_of_testBit_eq
  intro i
  rw [not_test (and_lt _ (not_lt w _)), Nat.testBit_and, not_test (and_lt _ hx), not_test (and_lt _ (not_lt w _)), Nat.testBit_and, Nat.testBit_and, Nat.testBit_or, Nat.testBit_and, Nat.testBit_and, not_test hx]
  by_cases h : i < w
  · simp only [h, decide_true, Bool.true_and]
    cases x.testBit i <;> cases a.testBit i <;> cases b.testBit i <;> rfl
  · rw [lt_test hx (by omega), lt_test ha (by omega), lt_test hb (by omega)]; simp [h]
/-! ### what a wire is worth -/
def vl (w : Nat) (S : List Nat) (ps : Gs) (x : Int) : Nat := wAt (runW w ps S) x
def In (S : List Nat) (ps : Gs) (x : Int) : Prop := 0 ≤ x ∧ x < (S.length : Int) + (ps.length : Int)
theorem wAt_app {W U : List Nat} {x : Int} (h0 : 0 ≤ x) (h : x < W.length) : wAt (W ++ U) x = wAt W x := by
  unfold wAt
  rw [List.getD_eq_getElem?_getD, List.getD_eq_getElem?_getD, List.getElem?_append_left (by omega)]
theorem wAt_end {W : List Nat} {v : Nat} {x : Int} (h : x = (W.length : Int)) : wAt (W ++ [v]) x = v := by
  unfold wAt
  rw [h, Int.toNat_natCast, List.getD_eq_getElem?_getD, List.getElem?_append_right (Nat.le_refl _), Nat.sub_self]; rfl
theorem runW_snoc {w : Nat} {ps : Gs} {p : Int × Int} {S : List Nat} : runW w (ps ++ [p]) S = stepW w (runW w ps S) p := by
  unfold runW; rw [List.foldl_append]; rfl
structure Made (w : Nat) (S : List Nat) (ps : Gs) (r : Gs × Int) (v : Nat) : Prop where
  le : ps.length ≤ r.1.length
  old : ∀ x, In S ps x → vl w S r.1 x = vl w S ps x
  inn : In S r.1 r.2
  val : vl w S r.1 r.2 = v
  well : gatesOk (S.length : Int) ps = true → gatesOk (S.length : Int) r.1 = true
theorem In.mono {S : List Nat} {ps qs : Gs} {x : Int} (h : In S ps x) (l : ps.length ≤ qs.length) : In S qs x := ⟨h.1, by have := h.2; omega⟩
section
variable {w : Nat} {S : List Nat} {ps : Gs} {c a b d : Int}
theorem vl_lt (hS : ∀ n ∈ S, n < 2 ^ w) : vl w S ps a < 2 ^ w := wAt_lt (Nat.two_pow_pos w) (runW_lt ps S hS) a
theorem made_nand (hc : c = S.length) (ha : In S ps a) (hb : In S ps b) : Made w S ps (mNand c ps a b) (2 ^ w - 1 - (vl w S ps a &&& vl w S ps b)) := by
  have hl := runW_length (w := w) ps S
  refine ⟨by rw [mNand_len]; omega, fun x hx => ?_, ⟨?_, ?_⟩, ?_, fun hw => ?_⟩
  · show wAt (runW w (ps ++ [(a, b)]) S) x = _
    rw [runW_snoc]
    exact wAt_app hx.1 (by have := hx.2; omega)
  · show 0 ≤ c + (ps.length : Int); omega
  · rw [mNand_len]; show c + (ps.length : Int) < _; omega
  · show wAt (runW w (ps ++ [(a, b)]) S) (c + (ps.length : Int)) = _
    rw [runW_snoc]
    exact wAt_end (by omega)
  · refine gok_iff.mpr fun i p e => ?_
    have e' : (ps ++ [(a, b)])[i]? = some p := e
    by_cases hi : i < ps.length
    · rw [List.getElem?_append_left hi] at e'
      exact gok_iff.mp hw i p e'
    · rw [List.getElem?_append_right (by omega)] at e'
      have hi' : i - ps.length = 0 := by have := (List.getElem?_eq_some_iff.mp e').1; simp at this; omega
      rw [hi'] at e'
      obtain rfl : (a, b) = p := Option.some.inj e'
      have h1 := ha.1; have h2 := ha.2; have h3 := hb.1; have h4 := hb.2
      unfold wiresOk
      simp only [List.all_cons, List.all_nil, Bool.and_true, Bool.and_eq_true, decide_eq_true_eq]
      omega
theorem Made.thn {r r' : Gs × Int} {v v' : Nat} (h : Made w S ps r v) (h' : Made w S r.1 r' v') : Made w S ps r' v' :=
  ⟨Nat.le_trans h.le h'.le, fun x hx => (h'.old x (hx.mono h.le)).trans (h.old x hx), h'.inn, h'.val, fun e => h'.well (h.well e)⟩
theorem Made.is {r : Gs × Int} {v v' : Nat} (h : Made w S ps r v) (e : v = v') : Made w S ps r v' := e ▸ h
theorem made_other (hc : c = S.length) (ha : In S ps a) : Made w S ps (mOther c ps a) (2 ^ w - 1 - vl w S ps a) := (made_nand hc ha ha).is (by rw [Nat.and_self])
theorem made_both (hS : ∀ n ∈ S, n < 2 ^ w) (hc : c = S.length) (ha : In S ps a) (hb : In S ps b) : Made w S ps (mBoth c ps a b) (vl w S ps a &&& vl w S ps b) := by
  have h1 := made_nand (w := w) hc ha hb
  have h2 := made_nand (w := w) hc h1.inn h1.inn
  rw [h1.val] at h2
  exact (h1.thn h2).is (b_both (vl_lt hS))
theorem made_either (hS : ∀ n ∈ S, n < 2 ^ w) (hc : c = S.length) (ha : In S ps a) (hb : In S ps b) : Made w S ps (mEither c ps a b) (vl w S ps a ||| vl w S ps b) := by
  have h1 := made_nand (w := w) hc ha ha
  have h2 := made_nand (w := w) hc (hb.mono h1.le) (hb.mono h1.le)
  have h3 := made_nand (w := w) hc (h1.inn.mono h2.le) h2.inn
  rw [h2.old _ h1.inn, h1.val, h2.val, h1.old _ hb] at h3
  exact ((h1.thn h2).thn h3).is (b_either (vl_lt hS) (vl_lt hS))
theorem made_unlike (hS : ∀ n ∈ S, n < 2 ^ w) (hc : c = S.length) (ha : In S ps a) (hb : In S ps b) : Made w S ps (mUnlike c ps a b) (vl w S ps a ^^^ vl w S ps b) := by
  have h1 := made_nand (w := w) hc ha hb
  have h2 := made_nand (w := w) hc (ha.mono h1.le) h1.inn
  have h3 := made_nand (w := w) hc ((hb.mono h1.le).mono h2.le) (h1.inn.mono h2.le)
  have h4 := made_nand (w := w) hc (h2.inn.mono h3.le) h3.inn
  rw [h3.old _ h2.inn, h2.val, h3.val, h2.old _ h1.inn, h1.val, h2.old _ (hb.mono h1.le), h1.old _ hb, h1.old _ ha] at h4
  exact (((h1.thn h2).thn h3).thn h4).is (b_unlike (vl_lt hS) (vl_lt hS) rfl)
theorem made_chosen (hS : ∀ n ∈ S, n < 2 ^ w) (hc : c = S.length) (hd : In S ps d) (ha : In S ps a) (hb : In S ps b) : Made w S ps (mChosen c ps d a b) ((vl w S ps d &&& vl w S ps a) ||| ((2 ^ w - 1 - vl w S ps d) &&& vl w S ps b)) := by
  have h1 := made_nand (w := w) hc hd ha
  have h2 := made_nand (w := w) hc (hd.mono h1.le) (hd.mono h1.le)
  have h3 := made_nand (w := w) hc h2.inn ((hb.mono h1.le).mono h2.le)
  have h4 := made_nand (w := w) hc ((h1.inn.mono h2.le).mono h3.le) h3.inn
  rw [h3.old _ (h1.inn.mono h2.le), h2.old _ h1.inn, h1.val, h3.val, h2.val, h2.old _ (hb.mono h1.le), h1.old _ hb, h1.old _ hd] at h4
  exact (((h1.thn h2).thn h3).thn h4).is (b_chosen (vl_lt hS) (vl_lt hS) (vl_lt hS))
end
end K9

set_option Elab.async false
set_option linter.all false
set_option maxRecDepth 100000
set_option maxHeartbeats 4000000
namespace K9
open PySem L2
theorem MakerAt.kp {C : Addr} {H H' : Hp} {p g a : Addr} {i k : Int} {ps : Gs} {xs : List V} (M : MakerAt C H p g i k ps) (ha : H a = some (.lst xs)) (n : a ≠ g) (s : Kp a H H') : MakerAt C H' p g i k ps := by
  obtain ⟨⟨dx, h1⟩, gs, h2, h3⟩ := M
  exact ⟨⟨dx, s _ _ h1 (ne_of h1 ha (by intro z; cases z))⟩, gs, s _ _ h2 n.symm, Paired.mapP h3 fun _ _ z => z.kp ha s⟩
theorem Kp.one {a : Addr} {o : HO} {H : Hp} : Kp a H (upd H a o) := fun b o' e n => by rw [upd_ne n]; exact e
theorem Kp.put {g a : Addr} {o : HO} {H H' : Hp} (s : Kp g H H') (n : H a = none) : Kp g H (upd H' a o) := fun b o' e hb => by rw [upd_ne (ne_of_none e n)]; exact s b o' e hb
theorem MakerAt.ne {C : Addr} {H : Hp} {p g a : Addr} {i k : Int} {ps : Gs} (M : MakerAt C H p g i k ps) (ha : H a = none) : a ≠ g := by
  obtain ⟨_, gs, eg, _⟩ := M
  exact (ne_of_none eg ha).symm
/-! ### what grows -/
structure Gr (w : Nat) (S : List Nat) (ps qs : Gs) : Prop where
  le : ps.length ≤ qs.length
  old : ∀ x, In S ps x → vl w S qs x = vl w S ps x
  well : gatesOk (S.length : Int) ps = true → gatesOk (S.length : Int) qs = true
theorem Gr.refl {w : Nat} {S : List Nat} {ps : Gs} : Gr w S ps ps := ⟨Nat.le_refl _, fun _ _ => rfl, id⟩
theorem Gr.trans {w : Nat} {S : List Nat} {ps qs rs : Gs} (a : Gr w S ps qs) (b : Gr w S qs rs) : Gr w S ps rs := ⟨Nat.le_trans a.le b.le, fun x hx => (b.old x (hx.mono a.le)).trans (a.old x hx), fun e => b.well (a.well e)⟩
theorem Made.gr {w : Nat} {S : List Nat} {ps : Gs} {r : Gs × Int} {v : Nat} (h : Made w S ps r v) : Gr w S ps r.1 := ⟨h.le, h.old, h.well⟩
theorem Gr.map {w : Nat} {S : List Nat} {ps qs : Gs} (a : Gr w S ps qs) {l : List Int} (h : ∀ x ∈ l, In S ps x) : l.map (vl w S qs) = l.map (vl w S ps) := List.map_congr_left fun x hx => a.old x (h x hx)
def num (bs : List Nat) : Nat := bs.foldr (fun b n => b + 2 * n) 0
theorem num_cons (b : Nat) (bs : List Nat) : num (b :: bs) = b + 2 * num bs := rfl
structure Ad where
  ps : Gs
  ws : List Int
  cy : Int
def aStep (c : Int) (s : Ad) (p : Int × Int) : Ad :=
  ⟨(mChosen c (mUnlike c (mUnlike c s.ps p.1 p.2).1 (mUnlike c s.ps p.1 p.2).2 s.cy).1 (mUnlike c s.ps p.1 p.2).2 s.cy p.1).1, s.ws ++ [(mUnlike c (mUnlike c s.ps p.1 p.2).1 (mUnlike c s.ps p.1 p.2).2 s.cy).2],
   (mChosen c (mUnlike c (mUnlike c s.ps p.1 p.2).1 (mUnlike c s.ps p.1 p.2).2 s.cy).1 (mUnlike c s.ps p.1 p.2).2 s.cy p.1).2⟩
def aRun (c : Int) (s : Ad) (l : List (Int × Int)) : Ad := l.foldl (aStep c) s
theorem aRun_take {c : Int} {s : Ad} {l : List (Int × Int)} {i : Nat} {p : Int × Int} (h : l[i]? = some p) : aRun c s (l.take (i + 1)) = aStep c (aRun c s (l.take i)) p := by
  unfold aRun
  rw [List.take_add_one, h, List.foldl_append]; rfl
theorem aStep_len {c : Int} {s : Ad} {p : Int × Int} : (aStep c s p).ps.length = s.ps.length + 12 := by
  unfold aStep
  show (mChosen _ _ _ _ _).1.length = _
  rw [mChosen_len, mUnlike_len, mUnlike_len]
theorem aRun_len {c : Int} : ∀ (l : List (Int × Int)) (s : Ad), (aRun c s l).ps.length = s.ps.length + 12 * l.length
  | [], s => by show s.ps.length = _; simp
  | p :: l, s => by
    show (aRun c (aStep c s p) l).ps.length = _
    rw [aRun_len l, aStep_len, List.length_cons]; omega
theorem add_bit {w k a b y : Nat} (hk : k < w) (ha : a < 2 ^ w) (hb : b < 2 ^ w) (hy : y < 2 ^ w) : bit k ((a ^^^ b) ^^^ y) + 2 * bit k (((a ^^^ b) &&& y) ||| ((2 ^ w - 1 - (a ^^^ b)) &&& a)) = bit k a + bit k b + bit k y := by
  rw [bit_test, bit_test, bit_test, bit_test, bit_test, Nat.testBit_xor, Nat.testBit_xor, Nat.testBit_or, Nat.testBit_and, Nat.testBit_and, not_test (Nat.xor_lt_two_pow ha hb), Nat.testBit_xor]
  simp only [hk, decide_true, Bool.true_and]
  cases a.testBit k <;> cases b.testBit k <;> cases y.testBit k <;> rfl
theorem add_sem {w : Nat} {S : List Nat} {c : Int} (hS : ∀ n ∈ S, n < 2 ^ w) (hc : c = S.length) : ∀ (l : List (Int × Int)) (s : Ad), (∀ p ∈ l, In S s.ps p.1 ∧ In S s.ps p.2) → In S s.ps s.cy →
    Gr w S s.ps (aRun c s l).ps ∧ In S (aRun c s l).ps (aRun c s l).cy ∧ ∃ new : List Int, (aRun c s l).ws = s.ws ++ new ∧ new.length = l.length ∧ (∀ x ∈ new, In S (aRun c s l).ps x) ∧
      ∀ k < w, num (new.map fun x => bit k (vl w S (aRun c s l).ps x)) + 2 ^ l.length * bit k (vl w S (aRun c s l).ps (aRun c s l).cy) = num (l.map fun p => bit k (vl w S s.ps p.1)) + num (l.map fun p => bit k (vl w S s.ps p.2)) + bit k (vl w S s.ps s.cy)
  | [], s, _, hy => ⟨Gr.refl, hy, [], by show s.ws = _; simp, rfl, fun x hx => absurd hx List.not_mem_nil, fun k _ => by show 0 + 2 ^ 0 * bit k (vl w S s.ps s.cy) = 0 + 0 + bit k (vl w S s.ps s.cy); omega⟩
  | p :: l, s, hp, hy => by
    have hp0 := hp p List.mem_cons_self
    have m1 := made_unlike hS hc hp0.1 hp0.2
    have m2 := made_unlike hS hc m1.inn (hy.mono m1.le)
    have g12 := m1.gr.trans m2.gr
    have m3 := made_chosen hS hc (m1.inn.mono m2.le) (hy.mono g12.le) (hp0.1.mono g12.le)
    rw [m1.val, m1.old _ hy] at m2
    rw [m2.old _ m1.inn, m1.val, g12.old _ hy, g12.old _ hp0.1] at m3
    have g3 : Gr w S s.ps (aStep c s p).ps := g12.trans m3.gr
    obtain ⟨g4, i4, new, e4, l4, n4, s4⟩ := add_sem hS hc l (aStep c s p) (fun q hq => ⟨(hp q (List.mem_cons_of_mem _ hq)).1.mono g3.le, (hp q (List.mem_cons_of_mem _ hq)).2.mono g3.le⟩) m3.inn
    refine ⟨g3.trans g4, i4, (mUnlike c (mUnlike c s.ps p.1 p.2).1 (mUnlike c s.ps p.1 p.2).2 s.cy).2 :: new, ?_, by rw [List.length_cons, l4, List.length_cons], ?_, fun k hk => ?_⟩
    · show (aRun c (aStep c s p) l).ws = _
      rw [e4]
      show (s.ws ++ [_]) ++ new = _
      rw [List.append_assoc]; rfl
    · intro x hx
      rcases List.mem_cons.mp hx with rfl | hx
      · exact (m2.inn.mono m3.le).mono g4.le
      · exact n4 x hx
    · have s4 := s4 k hk
      have v1 : vl w S (aRun c (aStep c s p) l).ps (mUnlike c (mUnlike c s.ps p.1 p.2).1 (mUnlike c s.ps p.1 p.2).2 s.cy).2 = (vl w S s.ps p.1 ^^^ vl w S s.ps p.2) ^^^ vl w S s.ps s.cy := by
        rw [g4.old _ (m2.inn.mono m3.le)]
        exact (m3.old _ m2.inn).trans m2.val
      have v2 : vl w S (aStep c s p).ps (aStep c s p).cy = _ := m3.val
      have e1 : (l.map fun q => bit k (vl w S (aStep c s p).ps q.1)) = l.map fun q => bit k (vl w S s.ps q.1) := List.map_congr_left fun q hq => by rw [g3.old _ (hp q (List.mem_cons_of_mem _ hq)).1]
      have e2 : (l.map fun q => bit k (vl w S (aStep c s p).ps q.2)) = l.map fun q => bit k (vl w S s.ps q.2) := List.map_congr_left fun q hq => by rw [g3.old _ (hp q (List.mem_cons_of_mem _ hq)).2]
      rw [e1, e2, v2] at s4
      have ab := add_bit hk (vl_lt (ps := s.ps) (a := p.1) hS) (vl_lt (ps := s.ps) (a := p.2) hS) (vl_lt (ps := s.ps) (a := s.cy) hS)
      show num (bit k (vl w S (aRun c (aStep c s p) l).ps _) :: new.map fun x => bit k (vl w S (aRun c (aStep c s p) l).ps x)) + 2 ^ (l.length + 1) * bit k (vl w S (aRun c (aStep c s p) l).ps (aRun c (aStep c s p) l).cy) = num (bit k (vl w S s.ps p.1) :: l.map _) + num (bit k (vl w S s.ps p.2) :: l.map _) + _
      rw [num_cons, num_cons, num_cons, v1, Nat.pow_succ, Nat.mul_comm (2 ^ l.length) 2, Nat.mul_assoc]
      omega
def oStep (c : Int) (s : Gs × List Int) (x : Int) : Gs × List Int := ((mOther c s.1 x).1, s.2 ++ [(mOther c s.1 x).2])
def oRun (c : Int) (s : Gs × List Int) (l : List Int) : Gs × List Int := l.foldl (oStep c) s
theorem oRun_take {c : Int} {s : Gs × List Int} {l : List Int} {i : Nat} {p : Int} (h : l[i]? = some p) : oRun c s (l.take (i + 1)) = oStep c (oRun c s (l.take i)) p := by
  unfold oRun
  rw [List.take_add_one, h, List.foldl_append]; rfl
theorem oRun_len {c : Int} : ∀ (l : List Int) (s : Gs × List Int), (oRun c s l).1.length = s.1.length + l.length ∧ (oRun c s l).2.length = s.2.length + l.length
  | [], s => ⟨rfl, rfl⟩
  | p :: l, s => by
    have h := oRun_len (c := c) l (oStep c s p)
    have e : (oStep c s p).1.length = s.1.length + 1 := mOther_len (c := c)
    have e2 : (oStep c s p).2.length = s.2.length + 1 := by show (s.2 ++ [_]).length = _; rw [List.length_append]; rfl
    rw [e, e2] at h
    show (oRun c (oStep c s p) l).1.length = _ ∧ (oRun c (oStep c s p) l).2.length = _
    rw [List.length_cons]; omega
theorem oth_sem {w : Nat} {S : List Nat} {c : Int} (hc : c = S.length) : ∀ (l : List Int) (s : Gs × List Int), (∀ x ∈ l, In S s.1 x) →
    Gr w S s.1 (oRun c s l).1 ∧ ∃ new : List Int, (oRun c s l).2 = s.2 ++ new ∧ new.length = l.length ∧ (∀ x ∈ new, In S (oRun c s l).1 x) ∧ new.map (vl w S (oRun c s l).1) = l.map fun x => 2 ^ w - 1 - vl w S s.1 x
  | [], s, _ => ⟨Gr.refl, [], by show s.2 = _; simp, rfl, fun x hx => absurd hx List.not_mem_nil, rfl⟩
  | p :: l, s, hp => by
    have m1 := made_other (w := w) hc (hp p List.mem_cons_self)
    have g1 : Gr w S s.1 (oStep c s p).1 := m1.gr
    obtain ⟨g4, new, e4, l4, n4, s4⟩ := oth_sem (w := w) hc l (oStep c s p) (fun q hq => (hp q (List.mem_cons_of_mem _ hq)).mono g1.le)
    refine ⟨g1.trans g4, (mOther c s.1 p).2 :: new, ?_, by rw [List.length_cons, l4, List.length_cons], ?_, ?_⟩
    · show (oRun c (oStep c s p) l).2 = _
      rw [e4]
      show (s.2 ++ [_]) ++ new = _
      rw [List.append_assoc]; rfl
    · intro x hx
      rcases List.mem_cons.mp hx with rfl | hx
      · exact m1.inn.mono g4.le
      · exact n4 x hx
    · show vl w S (oRun c (oStep c s p) l).1 _ :: new.map (vl w S (oRun c (oStep c s p) l).1) = _ :: l.map _
      have v1 : vl w S (oRun c (oStep c s p) l).1 (mOther c s.1 p).2 = 2 ^ w - 1 - vl w S s.1 p := (g4.old _ m1.inn).trans m1.val
      rw [v1, s4]
      congr 1
      exact List.map_congr_left fun q hq => by rw [g1.old _ (hp q (List.mem_cons_of_mem _ hq))]
theorem num_rep1 : ∀ n : Nat, num (List.replicate n 1) + 1 = 2 ^ n
  | 0 => rfl
  | n + 1 => by
    rw [List.replicate_succ, num_cons, Nat.pow_succ]
    have := num_rep1 n; omega
theorem num_rep0 : ∀ n : Nat, num (List.replicate n 0) = 0
  | 0 => rfl
  | n + 1 => by rw [List.replicate_succ, num_cons, num_rep0 n]
theorem num_not : ∀ {bs : List Nat}, (∀ b ∈ bs, b ≤ 1) → num bs + num (bs.map fun b => 1 - b) = num (List.replicate bs.length 1)
  | [], _ => rfl
  | b :: bs, h => by
    have := num_not fun z hz => h z (List.mem_cons_of_mem _ hz)
    have hb := h b List.mem_cons_self
    show b + 2 * num bs + (1 - b + 2 * num (bs.map fun b => 1 - b)) = 1 + 2 * num (List.replicate bs.length 1)
    omega
theorem bit_not {w k v : Nat} (hk : k < w) (hv : v < 2 ^ w) : bit k (2 ^ w - 1 - v) = 1 - bit k v := by
  rw [bit_test, bit_test, not_test hv]
  simp only [hk, decide_true, Bool.true_and]
  cases v.testBit k <;> rfl
theorem zip_fst {α β : Type} {xs : List α} {ys : List β} (h : xs.length = ys.length) : (xs.zip ys).map (·.1) = xs := List.map_fst_zip (by omega)
theorem zip_snd {α β : Type} {xs : List α} {ys : List β} (h : xs.length = ys.length) : (xs.zip ys).map (·.2) = ys := List.map_snd_zip (by omega)
end K9

set_option Elab.async false
set_option linter.all false
set_option maxRecDepth 100000
set_option maxHeartbeats 4000000
namespace K9
open PySem L2
def sp_added (C : Addr) : Sp := fun vs H Q _ => ∃ (p g l1 l2 : Addr) (i k : Int) (ps : Gs) (os as : List Int) (cy : Int), vs = [.ref p, .ref l1, .ref l2, .int cy] ∧ MakerAt C H p g i k ps ∧ H l1 = some (.lst (os.map V.int)) ∧ H l2 = some (.lst (as.map V.int)) ∧ l1 ≠ g ∧ l2 ≠ g ∧
  os.length = as.length ∧ os.length ≤ 100 ∧ ps.length ≤ 100000 ∧
  ∀ (t wl : Addr) (H' : Hp) (r : Ad), r = aRun (2 + i + k) ⟨ps, [], cy⟩ (os.zip as) → H t = none → H wl = none → wl ≠ g → MakerAt C H' p g i k r.ps → Kp g H H' → H' wl = some (.lst (r.ws.map V.int)) → H' t = some (.tup [.ref wl, .int r.cy]) → Q (.ref t) H'
def sp_others (C : Addr) : Sp := fun vs H Q _ => ∃ (p g l1 : Addr) (i k : Int) (ps : Gs) (os : List Int), vs = [.ref p, .ref l1] ∧ MakerAt C H p g i k ps ∧ H l1 = some (.lst (os.map V.int)) ∧ l1 ≠ g ∧ os.length ≤ 100 ∧ ps.length ≤ 100000 ∧
  ∀ (wl : Addr) (H' : Hp) (r : Gs × List Int), r = oRun (2 + i + k) (ps, []) os → H wl = none → wl ≠ g → MakerAt C H' p g i k r.1 → Kp g H H' → H' wl = some (.lst (r.2.map V.int)) → Q (.ref wl) H'
section
variable {P : Program} {w : World} {K : PySem.W.Frag} {mg : Str → Option Value} {base : Heap}
theorem sc_added : FnScope ["maker", "ones", "others", "carry", "wires", "one", "another", "odd"] ["maker", "ones", "others", "carry"] (defScope s_added) := ⟨rfl, rfl, rfl, by decide +kernel, rfl, by decide +kernel, by decide +kernel⟩
theorem ok_added {f C fi f1 f2 : Addr} {fd fdi d1 d2 : FuncData} (F : Fun K "added" "added" s_added f fd) (T : Bt mg) (T_Maker : Mc K mg C fi fdi)
    (T_Maker_unlike : Mt K C "unlike" "Maker.unlike" s_Maker_unlike ["self", "a", "b"] f1 d1) (T_Maker_chosen : Mt K C "chosen" "Maker.chosen" s_Maker_chosen ["self", "which", "a", "b"] f2 d2)
    (G_Maker_unlike : FnOk P w K mg base CX0 3 f1 d1 ["self", "a", "b"] (sp_m2 C 1000000 mUnlike)) (G_Maker_chosen : FnOk P w K mg base CX0 3 f2 d2 ["self", "which", "a", "b"] (sp_m3 C 1000000 mChosen)) :
    FnOk P w K mg base CX0 4 f fd ["maker", "ones", "others", "carry"] (sp_added C) := by
  refine F.ok sc_added (fun vs H Q E h => ?_) (fun cdv A outer s H vs Q E hr h => ?_)
  · obtain ⟨p, g, l1, l2, i, k, ps, os, as, cy, rfl, _⟩ := h; rfl
  · obtain ⟨p, g, l1, l2, i, k, ps, os, as, cy, rfl, M, h1, h2, n1, n2, hlen, hle, hpl, q⟩ := h
    have hs : sizeLine = 16777216 := sizeLine_eq
    refine ⟨_, (pss_cons (ps_set (i := 4) sc_added.nd rfl (Or.inl rfl) (pe_lst pa_nil))
      (pss_cons (ps_for PassesOwn.never rfl (pi_zip (K := K) rfl T.b_zip (pa_cons (pv 1) (pa_cons (pv 2) pa_nil))) (pg_tup rfl (pgs_cons (pg_name (i := 5) sc_added.nd rfl (Or.inl rfl)) (pgs_cons (pg_name (i := 6) sc_added.nd rfl (Or.inl rfl)) pgs_nil)))
        (pss_cons (ps_set (i := 7) sc_added.nd rfl (Or.inl rfl) (pe_meth (pv 0) T_Maker.cl T_Maker_unlike.me G_Maker_unlike (hr.mono (by decide)) T_Maker_unlike.b .nil pass0 (pa_cons (pv 5) (pa_cons (pv 6) pa_nil))))
        (pss_cons (ps_expr (pe_bm PySem.F.plainAttrs_list PySem.F.slot_list_append PySem.F.type_list_append mt_append (pv 4) (pa_cons (pe_meth (pv 0) T_Maker.cl T_Maker_unlike.me G_Maker_unlike (hr.mono (by decide)) T_Maker_unlike.b .nil pass0 (pa_cons (pv 7) (pa_cons (pv 3) pa_nil))) pa_nil)))
        (pss_one (ps_set (i := 3) sc_added.nd rfl (Or.inl rfl) (pe_meth (pv 0) T_Maker.cl T_Maker_chosen.me G_Maker_chosen (hr.mono (by decide)) T_Maker_chosen.b .nil pass0 (pa_cons (pv 7) (pa_cons (pv 3) (pa_cons (pv 5) pa_nil)))))))))
      (pss_one (ps_ret (pe_tup (pa_cons (pv 4) (pa_cons (pv 3) pa_nil))))))), ?_⟩
    refine ⟨Nat.zero_le _, fun wl hwl => ?_⟩
    have nwg := M.ne hwl
    have s0 := Same.put (o := .lst []) hwl
    have M0 := M.same s0
    obtain ⟨r0, er0⟩ : ∃ r0 : Ad, r0 = ⟨ps, [], cy⟩ := ⟨_, rfl⟩
    refine ⟨_, rfl, _, rfl, l1, l2, rfl, ⟨_, SqL.of (s0 _ _ h1)⟩, ⟨_, SqL.of (s0 _ _ h2)⟩, for_zip (K := K) (a := l1) (b := l2) (xs := os.map V.int) (ys := as.map V.int) (fun j σ H2 => ∃ (r : Ad) (v5 v6 v7 : Option V),
      r = aRun (2 + i + k) r0 ((os.zip as).take j) ∧ σ = [some (.ref p), some (.ref l1), some (.ref l2), some (.int r.cy), some (.ref wl), v5, v6, v7] ∧ MakerAt C H2 p g i k r.ps ∧ r.ps.length ≤ 100000 + 12 * j ∧ r.ws.length = j ∧ Kp g H H2 ∧ H2 wl = some (.lst (r.ws.map V.int)))
      ⟨r0, none, none, none, rfl, by rw [er0]; rfl, by rw [er0]; exact M0, by rw [er0]; show ps.length ≤ _; omega, by rw [er0]; rfl, Kp.of s0, by rw [er0]; exact upd_same⟩ ?_ (by rw [List.length_map, List.length_map]; exact hlen) ?_ ?_⟩
    · rintro j σ H2 ⟨r, v5, v6, v7, _, _, _, _, _, kp, _⟩
      exact ⟨SqL.of (kp _ _ h1 n1), SqL.of (kp _ _ h2 n2)⟩
    · rintro j x y σ H2 Tt hx hy ⟨r, v5, v6, v7, er, rfl, MM, hl, hwn, kp, ew⟩ hT
      obtain ⟨a, ha, rfl⟩ := map_int_get hx
      obtain ⟨b, hb, rfl⟩ := map_int_get hy
      have hj : j < os.length := (List.getElem?_eq_some_iff.mp ha).1
      have hz : (os.zip as)[j]? = some (a, b) := by rw [List.getElem?_zip_eq_some]; exact ⟨ha, hb⟩
      refine ⟨Tt, _, rfl, SqT.of upd_same, rfl, _, _, rfl, _, _, rfl, rfl, ?_⟩
      have sT := Same.put (o := .tup [V.int a, V.int b]) hT
      have M1 := MM.same sT
      obtain ⟨⟨dx1, o1⟩, _⟩ := id M1
      have HT : H Tt = none := by
        cases e : H Tt with
        | none => rfl
        | some o =>
          by_cases hg : Tt = g
          · exact absurd hg (MM.ne hT)
          · have := kp _ _ e hg; rw [hT] at this; cases this
      refine ⟨_, rfl, p, dx1, _, rfl, o1, fl_no (by decide +kernel) (by decide +kernel) (by decide +kernel), _, rfl, _, rfl, p, g, i, k, r.ps, a, b, rfl, M1, by omega, fun H3 M3 k3 => ?_⟩
      obtain ⟨⟨dx3, o3⟩, _⟩ := id M3
      have ew3 := k3 _ _ (sT _ _ ew) nwg
      refine ⟨_, rfl, .inl ⟨rfl, _, SqL.of ew3⟩, _, rfl, p, dx3, _, rfl, o3, fl_no (by decide +kernel) (by decide +kernel) (by decide +kernel), _, rfl, _, rfl, p, g, i, k, _, _, r.cy, rfl, M3, by rw [mUnlike_len]; omega, fun H4 M4 k4 => ⟨wl, _, _, rfl, rfl, k4 _ _ ew3 nwg, (by rw [List.length_map, hwn]; omega), ?_⟩⟩
      rw [snoc_int]
      have ew4 := k4 _ _ ew3 nwg
      have c4 : Kp wl H4 (upd H4 wl (.lst ((r.ws ++ [(mUnlike (2 + i + k) (mUnlike (2 + i + k) r.ps a b).1 (mUnlike (2 + i + k) r.ps a b).2 r.cy).2]).map V.int))) := Kp.one
      have M5 := M4.kp ew4 nwg c4
      have ew5 : upd H4 wl (.lst ((r.ws ++ [(mUnlike (2 + i + k) (mUnlike (2 + i + k) r.ps a b).1 (mUnlike (2 + i + k) r.ps a b).2 r.cy).2]).map V.int)) wl = _ := upd_same
      have kp5 : Kp g H (upd H4 wl (.lst ((r.ws ++ [(mUnlike (2 + i + k) (mUnlike (2 + i + k) r.ps a b).1 (mUnlike (2 + i + k) r.ps a b).2 r.cy).2]).map V.int))) := fun c o e hc => c4 _ _ (k4 _ _ (k3 _ _ (sT _ _ (kp _ _ e hc)) hc) hc) (ne_of_none e hwl)
      generalize upd H4 wl (.lst ((r.ws ++ [(mUnlike (2 + i + k) (mUnlike (2 + i + k) r.ps a b).1 (mUnlike (2 + i + k) r.ps a b).2 r.cy).2]).map V.int)) = H5 at c4 M5 ew5 kp5 ⊢
      obtain ⟨⟨dx5, o5⟩, _⟩ := id M5
      refine ⟨_, rfl, p, dx5, _, rfl, o5, fl_no (by decide +kernel) (by decide +kernel) (by decide +kernel), _, rfl, _, rfl, _, rfl, p, g, i, k, _, _, r.cy, a, rfl, M5, by rw [mUnlike_len, mUnlike_len]; omega, fun H6 M6 k6 => ?_⟩
      refine ⟨aStep (2 + i + k) r (a, b), _, _, _, by rw [aRun_take hz, ← er], rfl, M6, by rw [aStep_len]; omega, by show (r.ws ++ [_]).length = _; rw [List.length_append, hwn]; rfl, kp5.trans k6, k6 _ _ ew5 nwg⟩
    · rintro σ H2 ⟨r, v5, v6, v7, er, rfl, MM, hl, hwn, kp, ew⟩
      rw [List.length_map] at er
      have hzl : (os.zip as).length = os.length := by rw [List.length_zip]; omega
      rw [List.take_of_length_le (by omega)] at er
      refine ⟨_, rfl, _, rfl, (by show 2 ≤ sizeLine; omega), fun t ht => ?_⟩
      have st := Same.put (o := .tup [V.ref wl, V.int r.cy]) ht
      have Ht : H t = none := by
        cases e : H t with
        | none => rfl
        | some o =>
          by_cases hg : t = g
          · exact absurd hg (MM.ne ht)
          · have := kp _ _ e hg; rw [ht] at this; cases this
      exact q t wl _ r (by rw [er, er0]) Ht hwl nwg (MM.same st) (kp.put Ht) (st _ _ ew) upd_same
theorem sc_others_of : FnScope ["maker", "ones"] ["maker", "ones"] (defScope s_others_of) := ⟨rfl, rfl, rfl, by decide +kernel, rfl, by decide +kernel, by decide +kernel⟩
theorem ok_others_of {f C fi f1 : Addr} {fd fdi d1 : FuncData} (F : Fun K "others_of" "others_of" s_others_of f fd) (T_Maker : Mc K mg C fi fdi)
    (T_Maker_other : Mt K C "other" "Maker.other" s_Maker_other ["self", "a"] f1 d1) (G_Maker_other : FnOk P w K mg base CX0 2 f1 d1 ["self", "a"] (sp_m1 C 1000050 mOther)) :
    FnOk P w K mg base CX0 3 f fd ["maker", "ones"] (sp_others C) := by
  refine F.ok sc_others_of (fun vs H Q E h => ?_) (fun cdv A outer s H vs Q E hr h => ?_)
  · obtain ⟨p, g, l1, i, k, ps, os, rfl, _⟩ := h; rfl
  · obtain ⟨p, g, l1, i, k, ps, os, rfl, M, h1, n1, hle, hpl, q⟩ := h
    have hs : sizeLine = 16777216 := sizeLine_eq
    refine ⟨_, (pss_one (ps_ret (pe_comp rfl (blk_of (sc0 := defScope s_others_of) (N0 := ["maker", "ones"]) (N' := ["wire", "maker"]) (own := 1) (fv := [0]) (by decide +kernel) rfl rfl) (pi_list (pv 1)) (fun _ _ _ _ => (pg_name (i := 0) (by show List.Nodup (["wire", "maker"] : List Str); decide +kernel) rfl (Or.inl rfl))) (fun _ _ _ _ => (pe_meth (pv 1) T_Maker.cl T_Maker_other.me G_Maker_other (hr.mono (by decide)) T_Maker_other.b .nil pass0 (pa_cons (pv 0) pa_nil)))))), ?_⟩
    refine ⟨_, rfl, l1, rfl, ⟨_, SqL.of h1⟩, comp_inv (fvals := [some (.ref p)]) (xs := os.map V.int) (fun acc j H2 => ∃ r : Gs × List Int, r = oRun (2 + i + k) (ps, []) (os.take j) ∧ acc ≠ g ∧ H acc = none ∧ MakerAt C H2 p g i k r.1 ∧ Kp g H H2 ∧ H2 acc = some (.lst (r.2.map V.int))) ?_ ?_ ?_ ?_⟩
    · rintro acc j H2 ⟨r, _, _, _, _, kp, _⟩
      exact SqL.of (kp _ _ h1 n1)
    · intro acc hacc
      exact ⟨(ps, []), rfl, M.ne hacc, hacc, M.same (Same.put hacc), Kp.of (Same.put hacc), upd_same⟩
    · rintro acc j x H2 R hx ⟨r, er, ng, hn, MM, kp, ea⟩ hR
      obtain ⟨a, ha, rfl⟩ := map_int_get hx
      have hj : j < os.length := (List.getElem?_eq_some_iff.mp ha).1
      have ll := oRun_len (c := 2 + i + k) (os.take j) (ps, [])
      rw [← er, List.length_take] at ll
      have ll1 : r.1.length = ps.length + min j os.length := ll.1
      have ll2 : r.2.length = 0 + min j os.length := ll.2
      obtain ⟨⟨dx, o1⟩, _⟩ := id MM
      refine ⟨_, rfl, p, dx, _, rfl, o1, fl_no (by decide +kernel) (by decide +kernel) (by decide +kernel), _, rfl, p, g, i, k, r.1, a, rfl, MM, by omega, fun H3 M3 k3 => ?_⟩
      have ea3 := k3 _ _ ea ng
      refine hR _ _ ⟨_, ea3, by rw [List.length_map]; omega, oStep (2 + i + k) r a, by rw [oRun_take ha, ← er], ng, hn, M3.kp ea3 ng Kp.one, fun c o e hc => Kp.one _ _ (k3 _ _ (kp _ _ e hc) hc) (ne_of_none e hn), ?_⟩
      rw [upd_same, snoc_int]; rfl
    · rintro acc H2 _ ⟨r, er, ng, hn, MM, kp, ea⟩
      rw [List.length_map, List.take_of_length_le (Nat.le_refl _)] at er
      exact q acc H2 r er hn ng MM kp ea
end
end K9

set_option Elab.async false
set_option linter.all false
set_option maxRecDepth 100000
set_option maxHeartbeats 4000000
namespace K9
open PySem L2
def cStep (c wh : Int) (s : Gs × List Int) (p : Int × Int) : Gs × List Int := ((mChosen c s.1 wh p.1 p.2).1, s.2 ++ [(mChosen c s.1 wh p.1 p.2).2])
def cRun (c wh : Int) (s : Gs × List Int) (l : List (Int × Int)) : Gs × List Int := l.foldl (cStep c wh) s
theorem cRun_take {c wh : Int} {s : Gs × List Int} {l : List (Int × Int)} {i : Nat} {p : Int × Int} (h : l[i]? = some p) : cRun c wh s (l.take (i + 1)) = cStep c wh (cRun c wh s (l.take i)) p := by
  unfold cRun
  rw [List.take_add_one, h, List.foldl_append]; rfl
theorem cRun_len {c wh : Int} : ∀ (l : List (Int × Int)) (s : Gs × List Int), (cRun c wh s l).1.length = s.1.length + 4 * l.length ∧ (cRun c wh s l).2.length = s.2.length + l.length
  | [], s => ⟨rfl, rfl⟩
  | p :: l, s => by
    have h := cRun_len (c := c) (wh := wh) l (cStep c wh s p)
    have e : (cStep c wh s p).1.length = s.1.length + 4 := mChosen_len (c := c)
    have e2 : (cStep c wh s p).2.length = s.2.length + 1 := by show (s.2 ++ [_]).length = _; rw [List.length_append]; rfl
    rw [e, e2] at h
    show (cRun c wh (cStep c wh s p) l).1.length = _ ∧ (cRun c wh (cStep c wh s p) l).2.length = _
    rw [List.length_cons]; omega
def nStep (c : Int) (s : Gs × Int) (x : Int) : Gs × Int := mEither c s.1 s.2 x
def nRun (c : Int) (s : Gs × Int) (l : List Int) : Gs × Int := l.foldl (nStep c) s
theorem nRun_take {c : Int} {s : Gs × Int} {l : List Int} {i : Nat} {p : Int} (h : l[i]? = some p) : nRun c s (l.take (i + 1)) = nStep c (nRun c s (l.take i)) p := by
  unfold nRun
  rw [List.take_add_one, h, List.foldl_append]; rfl
theorem nRun_len {c : Int} : ∀ (l : List Int) (s : Gs × Int), (nRun c s l).1.length = s.1.length + 3 * l.length
  | [], s => rfl
  | p :: l, s => by
    have h := nRun_len (c := c) l (nStep c s p)
    have e : (nStep c s p).1.length = s.1.length + 3 := mEither_len (c := c)
    rw [e] at h
    show (nRun c (nStep c s p) l).1.length = _
    rw [List.length_cons]; omega
def nRes (c : Int) (ps : Gs) (l : List Int) : Gs × Int := mOther c (nRun c (ps, 0) l).1 (nRun c (ps, 0) l).2
theorem nRes_len {c : Int} {ps : Gs} {l : List Int} : (nRes c ps l).1.length = ps.length + 3 * l.length + 1 := by
  unfold nRes
  rw [mOther_len, nRun_len]
def lStep (c : Int) (s : Gs × Int) (p : Int × Int) : Gs × Int := mChosen c (mUnlike c s.1 p.1 p.2).1 (mUnlike c s.1 p.1 p.2).2 p.2 s.2
def lRun (c : Int) (s : Gs × Int) (l : List (Int × Int)) : Gs × Int := l.foldl (lStep c) s
theorem lRun_take {c : Int} {s : Gs × Int} {l : List (Int × Int)} {i : Nat} {p : Int × Int} (h : l[i]? = some p) : lRun c s (l.take (i + 1)) = lStep c (lRun c s (l.take i)) p := by
  unfold lRun
  rw [List.take_add_one, h, List.foldl_append]; rfl
theorem lStep_len {c : Int} {s : Gs × Int} {p : Int × Int} : (lStep c s p).1.length = s.1.length + 8 := by
  unfold lStep
  rw [mChosen_len, mUnlike_len]
theorem lRun_len {c : Int} : ∀ (l : List (Int × Int)) (s : Gs × Int), (lRun c s l).1.length = s.1.length + 8 * l.length
  | [], s => rfl
  | p :: l, s => by
    have h := lRun_len (c := c) l (lStep c s p)
    rw [lStep_len] at h
    show (lRun c (lStep c s p) l).1.length = _
    rw [List.length_cons]; omega
theorem bit_chosen {w k x a b : Nat} (hk : k < w) (hx : x < 2 ^ w) : bit k ((x &&& a) ||| ((2 ^ w - 1 - x) &&& b)) = if bit k x = 1 then bit k a else bit k b := by
  rw [bit_test, bit_test, bit_test, bit_test, Nat.testBit_or, Nat.testBit_and, Nat.testBit_and, not_test hx]
  simp only [hk, decide_true, Bool.true_and]
  cases x.testBit k <;> cases a.testBit k <;> cases b.testBit k <;> rfl
theorem bit_or' (k a b : Nat) : bit k (a ||| b) = 0 ↔ bit k a = 0 ∧ bit k b = 0 := by
  rw [bit_test, bit_test, bit_test, Nat.testBit_or]
  cases a.testBit k <;> cases b.testBit k <;> simp
theorem bit_xor' (k a b : Nat) : bit k (a ^^^ b) = 1 ↔ bit k a ≠ bit k b := by
  rw [bit_test, bit_test, bit_test, Nat.testBit_xor]
  cases a.testBit k <;> cases b.testBit k <;> simp
theorem cho_sem {w : Nat} {S : List Nat} {c wh : Int} (hS : ∀ n ∈ S, n < 2 ^ w) (hc : c = S.length) : ∀ (l : List (Int × Int)) (s : Gs × List Int), (∀ p ∈ l, In S s.1 p.1 ∧ In S s.1 p.2) → In S s.1 wh →
    Gr w S s.1 (cRun c wh s l).1 ∧ ∃ new : List Int, (cRun c wh s l).2 = s.2 ++ new ∧ new.length = l.length ∧ (∀ x ∈ new, In S (cRun c wh s l).1 x) ∧
      ∀ k < w, (new.map fun x => bit k (vl w S (cRun c wh s l).1 x)) = l.map fun p => if bit k (vl w S s.1 wh) = 1 then bit k (vl w S s.1 p.1) else bit k (vl w S s.1 p.2)
  | [], s, _, _ => ⟨Gr.refl, [], by show s.2 = _; simp, rfl, fun x hx => absurd hx List.not_mem_nil, fun k _ => rfl⟩
  | p :: l, s, hp, hw => by
    have hp0 := hp p List.mem_cons_self
    have m1 := made_chosen hS hc hw hp0.1 hp0.2
    have g1 : Gr w S s.1 (cStep c wh s p).1 := m1.gr
    obtain ⟨g4, new, e4, l4, n4, s4⟩ := cho_sem (wh := wh) hS hc l (cStep c wh s p) (fun q hq => ⟨(hp q (List.mem_cons_of_mem _ hq)).1.mono g1.le, (hp q (List.mem_cons_of_mem _ hq)).2.mono g1.le⟩) (hw.mono g1.le)
    refine ⟨g1.trans g4, (mChosen c s.1 wh p.1 p.2).2 :: new, ?_, by rw [List.length_cons, l4, List.length_cons], ?_, fun k hk => ?_⟩
    · show (cRun c wh (cStep c wh s p) l).2 = _
      rw [e4]
      show (s.2 ++ [_]) ++ new = _
      rw [List.append_assoc]; rfl
    · intro x hx
      rcases List.mem_cons.mp hx with rfl | hx
      · exact m1.inn.mono g4.le
      · exact n4 x hx
    · show bit k (vl w S (cRun c wh (cStep c wh s p) l).1 _) :: (new.map fun x => bit k (vl w S (cRun c wh (cStep c wh s p) l).1 x)) = _ :: l.map _
      have v1 : vl w S (cRun c wh (cStep c wh s p) l).1 (mChosen c s.1 wh p.1 p.2).2 = _ := (g4.old _ m1.inn).trans m1.val
      rw [v1, s4 k hk, bit_chosen hk (vl_lt hS)]
      congr 1
      exact List.map_congr_left fun q hq => by rw [g1.old _ (hp q (List.mem_cons_of_mem _ hq)).1, g1.old _ (hp q (List.mem_cons_of_mem _ hq)).2, g1.old _ hw]
theorem non_sem {w : Nat} {S : List Nat} {c : Int} (hS : ∀ n ∈ S, n < 2 ^ w) (hc : c = S.length) : ∀ (l : List Int) (s : Gs × Int), (∀ x ∈ l, In S s.1 x) → In S s.1 s.2 →
    Gr w S s.1 (nRun c s l).1 ∧ In S (nRun c s l).1 (nRun c s l).2 ∧ ∀ k < w, (bit k (vl w S (nRun c s l).1 (nRun c s l).2) = 0 ↔ bit k (vl w S s.1 s.2) = 0 ∧ num (l.map fun x => bit k (vl w S s.1 x)) = 0)
  | [], s, _, h => ⟨Gr.refl, h, fun k _ => by show bit k (vl w S s.1 s.2) = 0 ↔ bit k (vl w S s.1 s.2) = 0 ∧ 0 = 0; simp⟩
  | p :: l, s, hp, h => by
    have hp0 := hp p List.mem_cons_self
    have m1 := made_either hS hc h hp0
    have g1 : Gr w S s.1 (nStep c s p).1 := m1.gr
    obtain ⟨g4, i4, s4⟩ := non_sem hS hc l (nStep c s p) (fun q hq => (hp q (List.mem_cons_of_mem _ hq)).mono g1.le) m1.inn
    refine ⟨g1.trans g4, i4, fun k hk => ?_⟩
    have h4 := s4 k hk
    have v1 : vl w S (nStep c s p).1 (nStep c s p).2 = _ := m1.val
    have e1 : (l.map fun x => bit k (vl w S (nStep c s p).1 x)) = l.map fun x => bit k (vl w S s.1 x) := List.map_congr_left fun q hq => by rw [g1.old _ (hp q (List.mem_cons_of_mem _ hq))]
    rw [v1, e1, bit_or'] at h4
    show bit k (vl w S (nRun c (nStep c s p) l).1 (nRun c (nStep c s p) l).2) = 0 ↔ _ ∧ bit k (vl w S s.1 p) + 2 * num (l.map fun x => bit k (vl w S s.1 x)) = 0
    rw [h4]
    omega
theorem les_sem {w : Nat} {S : List Nat} {c : Int} (hS : ∀ n ∈ S, n < 2 ^ w) (hc : c = S.length) : ∀ (l : List (Int × Int)) (s : Gs × Int), (∀ p ∈ l, In S s.1 p.1 ∧ In S s.1 p.2) → In S s.1 s.2 →
    Gr w S s.1 (lRun c s l).1 ∧ In S (lRun c s l).1 (lRun c s l).2 ∧ ∀ k < w, (bit k (vl w S (lRun c s l).1 (lRun c s l).2) = 1 ↔ num (l.map fun p => bit k (vl w S s.1 p.1)) < num (l.map fun p => bit k (vl w S s.1 p.2)) ∨
      (num (l.map fun p => bit k (vl w S s.1 p.1)) = num (l.map fun p => bit k (vl w S s.1 p.2)) ∧ bit k (vl w S s.1 s.2) = 1))
  | [], s, _, h => ⟨Gr.refl, h, fun k _ => by show bit k (vl w S s.1 s.2) = 1 ↔ 0 < 0 ∨ (0 = 0 ∧ bit k (vl w S s.1 s.2) = 1); simp⟩
  | p :: l, s, hp, h => by
    have hp0 := hp p List.mem_cons_self
    have m1 := made_unlike hS hc hp0.1 hp0.2
    have m2 := made_chosen hS hc m1.inn (hp0.2.mono m1.le) (h.mono m1.le)
    rw [m1.val, m1.old _ hp0.2, m1.old _ h] at m2
    have g1 : Gr w S s.1 (lStep c s p).1 := m1.gr.trans m2.gr
    obtain ⟨g4, i4, s4⟩ := les_sem hS hc l (lStep c s p) (fun q hq => ⟨(hp q (List.mem_cons_of_mem _ hq)).1.mono g1.le, (hp q (List.mem_cons_of_mem _ hq)).2.mono g1.le⟩) m2.inn
    refine ⟨g1.trans g4, i4, fun k hk => ?_⟩
    have h4 := s4 k hk
    have v1 : vl w S (lStep c s p).1 (lStep c s p).2 = _ := m2.val
    have e1 : (l.map fun q => bit k (vl w S (lStep c s p).1 q.1)) = l.map fun q => bit k (vl w S s.1 q.1) := List.map_congr_left fun q hq => by rw [g1.old _ (hp q (List.mem_cons_of_mem _ hq)).1]
    have e2 : (l.map fun q => bit k (vl w S (lStep c s p).1 q.2)) = l.map fun q => bit k (vl w S s.1 q.2) := List.map_congr_left fun q hq => by rw [g1.old _ (hp q (List.mem_cons_of_mem _ hq)).2]
    rw [v1, e1, e2, bit_chosen hk (Nat.xor_lt_two_pow (vl_lt hS) (vl_lt hS))] at h4
    have hx := bit_xor' k (vl w S s.1 p.1) (vl w S s.1 p.2)
    have b1 := bit_le k (vl w S s.1 p.1)
    have b2 := bit_le k (vl w S s.1 p.2)
    have b3 := bit_le k (vl w S s.1 s.2)
    show bit k (vl w S (lRun c (lStep c s p) l).1 (lRun c (lStep c s p) l).2) = 1 ↔ bit k (vl w S s.1 p.1) + 2 * num (l.map fun q => bit k (vl w S s.1 q.1)) < bit k (vl w S s.1 p.2) + 2 * num (l.map fun q => bit k (vl w S s.1 q.2)) ∨
      (bit k (vl w S s.1 p.1) + 2 * num (l.map fun q => bit k (vl w S s.1 q.1)) = bit k (vl w S s.1 p.2) + 2 * num (l.map fun q => bit k (vl w S s.1 q.2)) ∧ _)
    rw [h4]
    by_cases hne : bit k (vl w S s.1 p.1) = bit k (vl w S s.1 p.2)
    · rw [if_neg (fun z => hx.mp z hne)]
      omega
    · rw [if_pos (hx.mpr hne)]
      omega
structure Right (m : Nat) (fs : List Nat) (one other wh : Nat) : Prop where
  len : fs.length = m + 5
  bits : ∀ b ∈ fs, b ≤ 1
  h1 : num (fs.take m) = if wh = 1 then one else other
  h2 : fs.drop m = [if one = 0 then 1 else 0, if other = 0 then 1 else 0, if one < other then 1 else 0, if other < one then 1 else 0, 0]
structure Out (c wh : Int) (os as : List Int) (r1 : Gs × List Int) (r2 r3 r4 r5 r6 : Gs × Int) : Prop where
  e1 : r1 = cRun c wh ([], []) (os.zip as)
  e2 : r2 = nRes c r1.1 os
  e3 : r3 = nRes c r2.1 as
  e4 : r4 = lRun c (r3.1, 0) (os.zip as)
  e5 : r5 = lRun c (r4.1, 0) (as.zip os)
  e6 : r6 = lRun c (r5.1, 0) (os.zip os)
theorem zmap {os as : List Int} (h : os.length = as.length) (f : Int → Nat) : ((os.zip as).map fun p => f p.1) = os.map f ∧ ((os.zip as).map fun p => f p.2) = as.map f := by
  have a1 : ((os.zip as).map fun p => f p.1) = ((os.zip as).map (·.1)).map f := by rw [List.map_map]; rfl
  have a2 : ((os.zip as).map fun p => f p.2) = ((os.zip as).map (·.2)).map f := by rw [List.map_map]; rfl
  exact ⟨by rw [a1, zip_fst h], by rw [a2, zip_snd h]⟩
theorem bit01 {b : Nat} {p : Prop} [Decidable p] (hb : b ≤ 1) (h : b = 1 ↔ p) : b = if p then 1 else 0 := by
  by_cases hp : p
  · rw [if_pos hp]; exact h.mpr hp
  · rw [if_neg hp]
    have : ¬ b = 1 := fun z => hp (h.mp z)
    omega
def sp_chosen (C : Addr) : Sp := fun vs H Q _ => ∃ (p g l1 l2 : Addr) (i k : Int) (ps : Gs) (os as : List Int) (wh : Int), vs = [.ref p, .int wh, .ref l1, .ref l2] ∧ MakerAt C H p g i k ps ∧ H l1 = some (.lst (os.map V.int)) ∧ H l2 = some (.lst (as.map V.int)) ∧ l1 ≠ g ∧ l2 ≠ g ∧
  os.length = as.length ∧ os.length ≤ 100 ∧ ps.length ≤ 100000 ∧
  ∀ (wl : Addr) (H' : Hp) (r : Gs × List Int), r = cRun (2 + i + k) wh (ps, []) (os.zip as) → H wl = none → wl ≠ g → MakerAt C H' p g i k r.1 → Kp g H H' → H' wl = some (.lst (r.2.map V.int)) → Q (.ref wl) H'
def sp_none (C : Addr) : Sp := fun vs H Q _ => ∃ (p g l1 : Addr) (i k : Int) (ps : Gs) (os : List Int), vs = [.ref p, .ref l1] ∧ MakerAt C H p g i k ps ∧ H l1 = some (.lst (os.map V.int)) ∧ l1 ≠ g ∧ os.length ≤ 100 ∧ ps.length ≤ 100000 ∧
  ∀ (H' : Hp) (r : Gs × Int), r = nRes (2 + i + k) ps os → MakerAt C H' p g i k r.1 → Kp g H H' → Q (.int r.2) H'
def sp_less (C : Addr) : Sp := fun vs H Q _ => ∃ (p g l1 l2 : Addr) (i k : Int) (ps : Gs) (os as : List Int), vs = [.ref p, .ref l1, .ref l2] ∧ MakerAt C H p g i k ps ∧ H l1 = some (.lst (os.map V.int)) ∧ H l2 = some (.lst (as.map V.int)) ∧ l1 ≠ g ∧ l2 ≠ g ∧
  os.length = as.length ∧ os.length ≤ 100 ∧ ps.length ≤ 100000 ∧
  ∀ (H' : Hp) (r : Gs × Int), r = lRun (2 + i + k) (ps, 0) (os.zip as) → MakerAt C H' p g i k r.1 → Kp g H H' → Q (.int r.2) H'
section
variable {P : Program} {w : World} {K : PySem.W.Frag} {mg : Str → Option Value} {base : Heap}
theorem sc_all_chosen : FnScope ["maker", "which", "ones", "others"] ["maker", "which", "ones", "others"] (defScope s_all_chosen) := ⟨rfl, rfl, rfl, by decide +kernel, rfl, by decide +kernel, by decide +kernel⟩
theorem ok_all_chosen {f C fi f2 : Addr} {fd fdi d2 : FuncData} (F : Fun K "all_chosen" "all_chosen" s_all_chosen f fd) (T : Bt mg) (T_Maker : Mc K mg C fi fdi)
    (T_Maker_chosen : Mt K C "chosen" "Maker.chosen" s_Maker_chosen ["self", "which", "a", "b"] f2 d2) (G_Maker_chosen : FnOk P w K mg base CX0 3 f2 d2 ["self", "which", "a", "b"] (sp_m3 C 1000000 mChosen)) :
    FnOk P w K mg base CX0 4 f fd ["maker", "which", "ones", "others"] (sp_chosen C) := by
  refine F.ok sc_all_chosen (fun vs H Q E h => ?_) (fun cdv A outer s H vs Q E hr h => ?_)
  · obtain ⟨p, g, l1, l2, i, k, ps, os, as, wh, rfl, _⟩ := h; rfl
  · obtain ⟨p, g, l1, l2, i, k, ps, os, as, wh, rfl, M, h1, h2, n1, n2, hlen, hle, hpl, q⟩ := h
    have hs : sizeLine = 16777216 := sizeLine_eq
    refine ⟨_, (pss_one (ps_ret (pe_comp rfl (blk_of (sc0 := defScope s_all_chosen) (N0 := ["maker", "which", "ones", "others"]) (N' := ["one", "another", "which", "maker"]) (own := 2) (fv := [1, 0]) (by decide +kernel) rfl rfl) (pi_zip (K := K) rfl T.b_zip (pa_cons (pv 2) (pa_cons (pv 3) pa_nil))) (fun _ _ _ _ => (pg_tupK (K := K) (n := 2) rfl (pgs_cons (pg_name (i := 0) (by show List.Nodup (["one", "another", "which", "maker"] : List Str); decide +kernel) rfl (Or.inl rfl)) (pgs_cons (pg_name (i := 1) (by show List.Nodup (["one", "another", "which", "maker"] : List Str); decide +kernel) rfl (Or.inl rfl)) pgs_nil)))) (fun _ _ _ _ => (pe_meth (pv 3) T_Maker.cl T_Maker_chosen.me G_Maker_chosen (hr.mono (by decide)) T_Maker_chosen.b .nil pass0 (pa_cons (pv 2) (pa_cons (pv 0) (pa_cons (pv 1) pa_nil)))))))), ?_⟩
    refine ⟨_, rfl, _, rfl, l1, l2, rfl, ⟨_, SqL.of h1⟩, ⟨_, SqL.of h2⟩, comp_zipInv (fvals := [some (.int wh), some (.ref p)]) (xs := os.map V.int) (ys := as.map V.int) (fun acc j H2 => ∃ r : Gs × List Int, r = cRun (2 + i + k) wh (ps, []) ((os.zip as).take j) ∧ acc ≠ g ∧ H acc = none ∧ MakerAt C H2 p g i k r.1 ∧ Kp g H H2 ∧ H2 acc = some (.lst (r.2.map V.int))) ?_ (by rw [List.length_map, List.length_map]; exact hlen) ?_ ?_ ?_⟩
    · rintro acc j H2 ⟨r, _, _, _, _, kp, _⟩
      exact ⟨SqL.of (kp _ _ h1 n1), SqL.of (kp _ _ h2 n2)⟩
    · intro acc hacc
      exact ⟨(ps, []), rfl, M.ne hacc, hacc, M.same (Same.put hacc), Kp.of (Same.put hacc), upd_same⟩
    · rintro acc j x y H2 Tt R hx hy ⟨r, er, ng, hn, MM, kp, ea⟩ hT hR
      obtain ⟨a, ha, rfl⟩ := map_int_get hx
      obtain ⟨b, hb, rfl⟩ := map_int_get hy
      have hj : j < os.length := (List.getElem?_eq_some_iff.mp ha).1
      have hz : (os.zip as)[j]? = some (a, b) := by rw [List.getElem?_zip_eq_some]; exact ⟨ha, hb⟩
      have ll := cRun_len (c := 2 + i + k) (wh := wh) ((os.zip as).take j) (ps, [])
      rw [← er, List.length_take, List.length_zip] at ll
      have ll1 : r.1.length = ps.length + 4 * min j (min os.length as.length) := ll.1
      have ll2 : r.2.length = 0 + min j (min os.length as.length) := ll.2
      have sT := Same.put (o := .tup [V.int a, V.int b]) hT
      have M1 := MM.same sT
      obtain ⟨⟨dx, o1⟩, _⟩ := id M1
      refine ⟨_, rfl, p, dx, _, rfl, o1, fl_no (by decide +kernel) (by decide +kernel) (by decide +kernel), _, rfl, _, rfl, _, rfl, p, g, i, k, r.1, wh, a, b, rfl, M1, by omega, fun H3 M3 k3 => ?_⟩
      have ea3 := k3 _ _ (sT _ _ ea) ng
      refine hR _ _ ⟨_, ea3, by rw [List.length_map]; omega, cStep (2 + i + k) wh r (a, b), by rw [cRun_take hz, ← er], ng, hn, M3.kp ea3 ng Kp.one, fun c o e hc => Kp.one _ _ (k3 _ _ (sT _ _ (kp _ _ e hc)) hc) (ne_of_none e hn), ?_⟩
      rw [upd_same, snoc_int]; rfl
    · rintro acc H2 _ ⟨r, er, ng, hn, MM, kp, ea⟩
      rw [List.length_map, List.take_of_length_le (by rw [List.length_zip]; omega)] at er
      exact q acc H2 r er hn ng MM kp ea
theorem sc_is_none : FnScope ["maker", "ones", "some", "wire"] ["maker", "ones"] (defScope s_is_none) := ⟨rfl, rfl, rfl, by decide +kernel, rfl, by decide +kernel, by decide +kernel⟩
theorem ok_is_none {f C fi f1 f2 : Addr} {fd fdi d1 d2 : FuncData} (F : Fun K "is_none" "is_none" s_is_none f fd) (T_Maker : Mc K mg C fi fdi)
    (T_Maker_other : Mt K C "other" "Maker.other" s_Maker_other ["self", "a"] f1 d1) (G_Maker_other : FnOk P w K mg base CX0 2 f1 d1 ["self", "a"] (sp_m1 C 1000050 mOther))
    (T_Maker_either : Mt K C "either" "Maker.either" s_Maker_either ["self", "a", "b"] f2 d2) (G_Maker_either : FnOk P w K mg base CX0 3 f2 d2 ["self", "a", "b"] (sp_m2 C 1000000 mEither)) :
    FnOk P w K mg base CX0 4 f fd ["maker", "ones"] (sp_none C) := by
  refine F.ok sc_is_none (fun vs H Q E h => ?_) (fun cdv A outer s H vs Q E hr h => ?_)
  · obtain ⟨p, g, l1, i, k, ps, os, rfl, _⟩ := h; rfl
  · obtain ⟨p, g, l1, i, k, ps, os, rfl, M, h1, n1, hle, hpl, q⟩ := h
    refine ⟨_, (pss_cons (ps_set (i := 2) sc_is_none.nd rfl (Or.inl rfl) pe_int)
      (pss_cons (ps_for PassesOwn.never rfl (pi_list (pv 1)) (pg_name (i := 3) sc_is_none.nd rfl (Or.inl rfl))
        (pss_one (ps_set (i := 2) sc_is_none.nd rfl (Or.inl rfl) (pe_meth (pv 0) T_Maker.cl T_Maker_either.me G_Maker_either (hr.mono (by decide)) T_Maker_either.b .nil pass0 (pa_cons (pv 2) (pa_cons (pv 3) pa_nil))))))
      (pss_one (ps_ret (pe_meth (pv 0) T_Maker.cl T_Maker_other.me G_Maker_other (hr.mono (by decide)) T_Maker_other.b .nil pass0 (pa_cons (pv 2) pa_nil)))))), ?_⟩
    refine ⟨_, rfl, l1, rfl, ⟨_, SqL.of h1⟩, for_list (K := K) (a := l1) (xs := os.map V.int) (fun j σ H2 => ∃ (r : Gs × Int) (v3 : Option V), r = nRun (2 + i + k) (ps, 0) (os.take j) ∧ σ = [some (.ref p), some (.ref l1), some (.int r.2), v3] ∧ MakerAt C H2 p g i k r.1 ∧ Kp g H H2)
      ⟨(ps, 0), none, rfl, rfl, M, Kp.refl⟩ (fun j σ H2 _ ⟨_, _, _, _, _, kp⟩ => SqL.of (kp _ _ h1 n1)) ?_ ?_⟩
    · rintro j x σ H2 hx ⟨r, v3, er, rfl, MM, kp⟩
      obtain ⟨a, ha, rfl⟩ := map_int_get hx
      have hj : j < os.length := (List.getElem?_eq_some_iff.mp ha).1
      have ll := nRun_len (c := 2 + i + k) (os.take j) (ps, 0)
      rw [← er, List.length_take] at ll
      have ll1 : r.1.length = ps.length + 3 * min j os.length := ll
      obtain ⟨⟨dx, o1⟩, _⟩ := id MM
      refine ⟨_, rfl, p, dx, _, rfl, o1, fl_no (by decide +kernel) (by decide +kernel) (by decide +kernel), _, rfl, _, rfl, p, g, i, k, r.1, r.2, a, rfl, MM, by omega, fun H3 M3 k3 => ?_⟩
      exact ⟨nStep (2 + i + k) r a, _, by rw [nRun_take ha, ← er], rfl, M3, kp.trans k3⟩
    · rintro σ H2 ⟨r, v3, er, rfl, MM, kp⟩
      rw [List.length_map, List.take_of_length_le (Nat.le_refl _)] at er
      have ll := nRun_len (c := 2 + i + k) os (ps, 0)
      rw [← er] at ll
      have ll1 : r.1.length = ps.length + 3 * os.length := ll
      obtain ⟨⟨dx, o1⟩, _⟩ := id MM
      refine ⟨_, rfl, p, dx, _, rfl, o1, fl_no (by decide +kernel) (by decide +kernel) (by decide +kernel), _, rfl, p, g, i, k, r.1, r.2, rfl, MM, by omega, fun H3 M3 k3 => ?_⟩
      exact q H3 (mOther (2 + i + k) r.1 r.2) (by unfold nRes; rw [er]) M3 (kp.trans k3)
theorem sc_is_less : FnScope ["maker", "ones", "others", "less", "one", "another"] ["maker", "ones", "others"] (defScope s_is_less) := ⟨rfl, rfl, rfl, by decide +kernel, rfl, by decide +kernel, by decide +kernel⟩
theorem ok_is_less {f C fi f1 f2 : Addr} {fd fdi d1 d2 : FuncData} (F : Fun K "is_less" "is_less" s_is_less f fd) (T : Bt mg) (T_Maker : Mc K mg C fi fdi)
    (T_Maker_unlike : Mt K C "unlike" "Maker.unlike" s_Maker_unlike ["self", "a", "b"] f1 d1) (T_Maker_chosen : Mt K C "chosen" "Maker.chosen" s_Maker_chosen ["self", "which", "a", "b"] f2 d2)
    (G_Maker_unlike : FnOk P w K mg base CX0 3 f1 d1 ["self", "a", "b"] (sp_m2 C 1000000 mUnlike)) (G_Maker_chosen : FnOk P w K mg base CX0 3 f2 d2 ["self", "which", "a", "b"] (sp_m3 C 1000000 mChosen)) :
    FnOk P w K mg base CX0 4 f fd ["maker", "ones", "others"] (sp_less C) := by
  refine F.ok sc_is_less (fun vs H Q E h => ?_) (fun cdv A outer s H vs Q E hr h => ?_)
  · obtain ⟨p, g, l1, l2, i, k, ps, os, as, rfl, _⟩ := h; rfl
  · obtain ⟨p, g, l1, l2, i, k, ps, os, as, rfl, M, h1, h2, n1, n2, hlen, hle, hpl, q⟩ := h
    refine ⟨_, (pss_cons (ps_set (i := 3) sc_is_less.nd rfl (Or.inl rfl) pe_int)
      (pss_cons (ps_for PassesOwn.never rfl (pi_zip (K := K) rfl T.b_zip (pa_cons (pv 1) (pa_cons (pv 2) pa_nil))) (pg_tup rfl (pgs_cons (pg_name (i := 4) sc_is_less.nd rfl (Or.inl rfl)) (pgs_cons (pg_name (i := 5) sc_is_less.nd rfl (Or.inl rfl)) pgs_nil)))
        (pss_one (ps_set (i := 3) sc_is_less.nd rfl (Or.inl rfl) (pe_meth (pv 0) T_Maker.cl T_Maker_chosen.me G_Maker_chosen (hr.mono (by decide)) T_Maker_chosen.b .nil pass0 (pa_cons (pe_meth (pv 0) T_Maker.cl T_Maker_unlike.me G_Maker_unlike (hr.mono (by decide)) T_Maker_unlike.b .nil pass0 (pa_cons (pv 4) (pa_cons (pv 5) pa_nil))) (pa_cons (pv 5) (pa_cons (pv 3) pa_nil)))))))
      (pss_one (ps_ret (pv 3))))), ?_⟩
    refine ⟨_, rfl, _, rfl, l1, l2, rfl, ⟨_, SqL.of h1⟩, ⟨_, SqL.of h2⟩, for_zip (K := K) (a := l1) (b := l2) (xs := os.map V.int) (ys := as.map V.int) (fun j σ H2 => ∃ (r : Gs × Int) (v4 v5 : Option V),
      r = lRun (2 + i + k) (ps, 0) ((os.zip as).take j) ∧ σ = [some (.ref p), some (.ref l1), some (.ref l2), some (.int r.2), v4, v5] ∧ MakerAt C H2 p g i k r.1 ∧ Kp g H H2)
      ⟨(ps, 0), none, none, rfl, rfl, M, Kp.refl⟩ ?_ (by rw [List.length_map, List.length_map]; exact hlen) ?_ ?_⟩
    · rintro j σ H2 ⟨r, v4, v5, _, _, _, kp⟩
      exact ⟨SqL.of (kp _ _ h1 n1), SqL.of (kp _ _ h2 n2)⟩
    · rintro j x y σ H2 Tt hx hy ⟨r, v4, v5, er, rfl, MM, kp⟩ hT
      obtain ⟨a, ha, rfl⟩ := map_int_get hx
      obtain ⟨b, hb, rfl⟩ := map_int_get hy
      have hj : j < os.length := (List.getElem?_eq_some_iff.mp ha).1
      have hz : (os.zip as)[j]? = some (a, b) := by rw [List.getElem?_zip_eq_some]; exact ⟨ha, hb⟩
      have ll := lRun_len (c := 2 + i + k) ((os.zip as).take j) (ps, 0)
      rw [← er, List.length_take, List.length_zip] at ll
      have ll1 : r.1.length = ps.length + 8 * min j (min os.length as.length) := ll
      refine ⟨Tt, _, rfl, SqT.of upd_same, rfl, _, _, rfl, _, _, rfl, rfl, ?_⟩
      have sT := Same.put (o := .tup [V.int a, V.int b]) hT
      have M1 := MM.same sT
      obtain ⟨⟨dx1, o1⟩, _⟩ := id M1
      refine ⟨_, rfl, p, dx1, _, rfl, o1, fl_no (by decide +kernel) (by decide +kernel) (by decide +kernel), _, rfl, p, dx1, _, rfl, o1, fl_no (by decide +kernel) (by decide +kernel) (by decide +kernel), _, rfl, _, rfl, p, g, i, k, r.1, a, b, rfl, M1, by omega, fun H3 M3 k3 => ?_⟩
      refine ⟨_, rfl, _, rfl, p, g, i, k, _, _, b, r.2, rfl, M3, by rw [mUnlike_len]; omega, fun H4 M4 k4 => ?_⟩
      exact ⟨lStep (2 + i + k) r (a, b), _, _, by rw [lRun_take hz, ← er], rfl, M4, fun c o e hc => k4 _ _ (k3 _ _ (sT _ _ (kp _ _ e hc)) hc) hc⟩
    · rintro σ H2 ⟨r, v4, v5, er, rfl, MM, kp⟩
      rw [List.length_map, List.take_of_length_le (by rw [List.length_zip]; omega)] at er
      exact ⟨_, rfl, q H2 r er MM kp⟩
end
end K9

set_option Elab.async false
set_option linter.all false
set_option maxRecDepth 100000
set_option maxHeartbeats 4000000
namespace K9
open PySem L2
/-- the two lists handed in, and their copies -/
structure Hd (H : Hp) (l1 l2 h1 h2 hl : Addr) (os as : List Int) : Prop where
  e1 : H l1 = some (.lst (os.map V.int))
  e2 : H l2 = some (.lst (as.map V.int))
  f1 : H h1 = some (.lst (os.map V.int))
  f2 : H h2 = some (.lst (as.map V.int))
  fl : H hl = some (.lst [.ref h1, .ref h2])
def fStep (c : Int) (fig : Nat) (s : Gs × Int) (pr : Int × List Int) : Gs × Int := mEither c (mBoth c s.1 pr.1 (pr.2.getD fig 0)).1 s.2 (mBoth c s.1 pr.1 (pr.2.getD fig 0)).2
def fRun (c : Int) (fig : Nat) (s : Gs × Int) (prs : List (Int × List Int)) : Gs × Int := prs.foldl (fStep c fig) s
theorem fRun_take {c : Int} {fig : Nat} {s : Gs × Int} {l : List (Int × List Int)} {i : Nat} {p : Int × List Int} (h : l[i]? = some p) : fRun c fig s (l.take (i + 1)) = fStep c fig (fRun c fig s (l.take i)) p := by
  unfold fRun
  rw [List.take_add_one, h, List.foldl_append]; rfl
theorem fStep_len {c : Int} {fig : Nat} {s : Gs × Int} {p : Int × List Int} : (fStep c fig s p).1.length = s.1.length + 5 := by
  unfold fStep
  rw [mEither_len, mBoth_len]
theorem fRun_len {c : Int} {fig : Nat} : ∀ (l : List (Int × List Int)) (s : Gs × Int), (fRun c fig s l).1.length = s.1.length + 5 * l.length
  | [], s => rfl
  | p :: l, s => by
    have h := fRun_len (c := c) (fig := fig) l (fStep c fig s p)
    rw [fStep_len] at h
    show (fRun c fig (fStep c fig s p) l).1.length = _
    rw [List.length_cons]; omega
def pStep (c : Int) (prs : List (Int × List Int)) (s : Gs × List Int) (fig : Nat) : Gs × List Int := ((fRun c fig (s.1, 0) prs).1, s.2 ++ [(fRun c fig (s.1, 0) prs).2])
def pRun (c : Int) (prs : List (Int × List Int)) (ps : Gs) (n : Nat) : Gs × List Int := (List.range n).foldl (pStep c prs) (ps, [])
theorem pRun_succ {c : Int} {prs : List (Int × List Int)} {ps : Gs} {n : Nat} : pRun c prs ps (n + 1) = pStep c prs (pRun c prs ps n) n := by
  unfold pRun
  rw [List.range_succ, List.foldl_append]; rfl
theorem pRun_len {c : Int} {prs : List (Int × List Int)} {ps : Gs} : ∀ n : Nat, (pRun c prs ps n).1.length = ps.length + 5 * prs.length * n ∧ (pRun c prs ps n).2.length = n
  | 0 => ⟨rfl, rfl⟩
  | n + 1 => by
    have h := pRun_len (c := c) (prs := prs) (ps := ps) n
    rw [pRun_succ]
    constructor
    · show (fRun c n ((pRun c prs ps n).1, 0) prs).1.length = _
      rw [fRun_len]
      show (pRun c prs ps n).1.length + _ = _
      rw [h.1, Nat.mul_add]; omega
    · show ((pRun c prs ps n).2 ++ [_]).length = _
      rw [List.length_append, h.2]; rfl
/-- what is due of a figure, by the wires' values -/
def due (val : Int → Nat) (fig : Nat) (prs : List (Int × List Int)) (d : Nat) : Nat := prs.foldl (fun d pr => d ||| (val pr.1 &&& val (pr.2.getD fig 0))) d
theorem due_congr {f g : Int → Nat} {fig : Nat} : ∀ {prs : List (Int × List Int)} {d : Nat}, (∀ pr ∈ prs, f pr.1 = g pr.1 ∧ f (pr.2.getD fig 0) = g (pr.2.getD fig 0)) → due f fig prs d = due g fig prs d
  | [], _, _ => rfl
  | pr :: prs, d, h => by
    have h0 := h pr List.mem_cons_self
    show due f fig prs (d ||| (f pr.1 &&& f (pr.2.getD fig 0))) = due g fig prs (d ||| (g pr.1 &&& g (pr.2.getD fig 0)))
    rw [h0.1, h0.2]
    exact due_congr fun q hq => h q (List.mem_cons_of_mem _ hq)
theorem fig_sem {w : Nat} {S : List Nat} {c : Int} {fig : Nat} (hS : ∀ n ∈ S, n < 2 ^ w) (hc : c = S.length) : ∀ (l : List (Int × List Int)) (s : Gs × Int), (∀ pr ∈ l, In S s.1 pr.1 ∧ In S s.1 (pr.2.getD fig 0)) → In S s.1 s.2 →
    Gr w S s.1 (fRun c fig s l).1 ∧ In S (fRun c fig s l).1 (fRun c fig s l).2 ∧ vl w S (fRun c fig s l).1 (fRun c fig s l).2 = due (vl w S s.1) fig l (vl w S s.1 s.2)
  | [], s, _, h => ⟨Gr.refl, h, rfl⟩
  | p :: l, s, hp, h => by
    have hp0 := hp p List.mem_cons_self
    have m1 := made_both hS hc hp0.1 hp0.2
    have m2 := made_either hS hc (h.mono m1.le) m1.inn
    rw [m1.val, m1.old _ h] at m2
    have g1 : Gr w S s.1 (fStep c fig s p).1 := m1.gr.trans m2.gr
    obtain ⟨g4, i4, s4⟩ := fig_sem (fig := fig) hS hc l (fStep c fig s p) (fun q hq => ⟨(hp q (List.mem_cons_of_mem _ hq)).1.mono g1.le, (hp q (List.mem_cons_of_mem _ hq)).2.mono g1.le⟩) m2.inn
    refine ⟨g1.trans g4, i4, ?_⟩
    show vl w S (fRun c fig (fStep c fig s p) l).1 (fRun c fig (fStep c fig s p) l).2 = due (vl w S s.1) fig l (vl w S s.1 s.2 ||| (vl w S s.1 p.1 &&& vl w S s.1 (p.2.getD fig 0)))
    rw [s4, show vl w S (fStep c fig s p).1 (fStep c fig s p).2 = _ from m2.val]
    exact due_congr fun q hq => ⟨g1.old _ (hp q (List.mem_cons_of_mem _ hq)).1, g1.old _ (hp q (List.mem_cons_of_mem _ hq)).2⟩
theorem pick_sem {w : Nat} {S : List Nat} {c : Int} {prs : List (Int × List Int)} {ps : Gs} (hS : ∀ n ∈ S, n < 2 ^ w) (hc : c = S.length) (h0 : In S ps 0) (v0 : vl w S ps 0 = 0) : ∀ n : Nat, (∀ pr ∈ prs, In S ps pr.1 ∧ ∀ fig < n, In S ps (pr.2.getD fig 0)) →
    Gr w S ps (pRun c prs ps n).1 ∧ (∀ x ∈ (pRun c prs ps n).2, In S (pRun c prs ps n).1 x) ∧ (pRun c prs ps n).2.map (vl w S (pRun c prs ps n).1) = (List.range n).map fun fig => due (vl w S ps) fig prs 0
  | 0, _ => ⟨Gr.refl, fun x hx => absurd hx List.not_mem_nil, rfl⟩
  | n + 1, hp => by
    obtain ⟨g1, i1, s1⟩ := pick_sem hS hc h0 v0 n fun pr hpr => ⟨(hp pr hpr).1, fun fig hf => (hp pr hpr).2 fig (by omega)⟩
    obtain ⟨g2, i2, s2⟩ := fig_sem (fig := n) hS hc prs ((pRun c prs ps n).1, 0) (fun pr hpr => ⟨(hp pr hpr).1.mono g1.le, ((hp pr hpr).2 n (by omega)).mono g1.le⟩) (h0.mono g1.le)
    rw [pRun_succ]
    refine ⟨g1.trans g2, fun x hx => ?_, ?_⟩
    · rcases List.mem_append.mp hx with hx | hx
      · exact (i1 x hx).mono g2.le
      · rw [List.mem_singleton.mp hx]; exact i2
    · show ((pRun c prs ps n).2 ++ [_]).map (vl w S (fRun c n ((pRun c prs ps n).1, 0) prs).1) = _
      rw [List.map_append, g2.map i1, s1, List.range_succ, List.map_append]
      congr 1
      show [vl w S (fRun c n ((pRun c prs ps n).1, 0) prs).1 (fRun c n ((pRun c prs ps n).1, 0) prs).2] = [due (vl w S ps) n prs 0]
      rw [s2]
      congr 1
      rw [show vl w S ((pRun c prs ps n).1, (0 : Int)).1 ((pRun c prs ps n).1, (0 : Int)).2 = 0 from (g1.old 0 h0).trans v0]
      exact due_congr fun pr hpr => ⟨g1.old _ (hp pr hpr).1, g1.old _ ((hp pr hpr).2 n (by omega))⟩
/-! ### pairs of a wire and wires -/
def PairAt (X : Addr → Prop) (H : Hp) (v : V) (pr : Int × List Int) : Prop := ∃ t l, v = .ref t ∧ H t = some (.tup [.int pr.1, .ref l]) ∧ H l = some (.lst (pr.2.map V.int)) ∧ ¬ X l
theorem PairAt.same {X : Addr → Prop} {H H' : Hp} (s : Same H H') {v : V} {pr : Int × List Int} (h : PairAt X H v pr) : PairAt X H' v pr := let ⟨t, l, e, a, b, n⟩ := h; ⟨t, l, e, s _ _ a, s _ _ b, n⟩
theorem PairAt.kp {X : Addr → Prop} {H H' : Hp} {g : Addr} {xs : List V} (hg : H g = some (.lst xs)) (hX : X g) (s : Kp g H H') {v : V} {pr : Int × List Int} (h : PairAt X H v pr) : PairAt X H' v pr :=
  let ⟨t, l, e, a, b, n⟩ := h; ⟨t, l, e, s _ _ a (ne_of a hg (by intro z; cases z)), s _ _ b (fun z => n (z ▸ hX)), n⟩
theorem atI_getD {ns : List Int} {i : Nat} (h : i < ns.length) : atI (ns.map V.int) (i : Int) = some (.int (ns.getD i 0)) :=
  atI_nat (by rw [List.getElem?_map, List.getD_eq_getElem?_getD, List.getElem?_eq_getElem h]; rfl)
theorem getD_mem {ns : List Int} {i : Nat} (h : i < ns.length) : ns.getD i 0 ∈ ns := by
  rw [List.getD_eq_getElem?_getD, List.getElem?_eq_getElem h]
  exact List.getElem_mem h
def sp_fig (C : Addr) : Sp := fun vs H Q _ => ∃ (X : Addr → Prop) (p g pl : Addr) (i k : Int) (ps : Gs) (us : List V) (prs : List (Int × List Int)) (fig : Nat), vs = [.ref p, .ref pl, .int (fig : Int)] ∧ MakerAt C H p g i k ps ∧ H pl = some (.lst us) ∧ pl ≠ g ∧ X g ∧ Paired (PairAt X H) us prs ∧
  (∀ pr ∈ prs, fig < pr.2.length) ∧ prs.length ≤ 100 ∧ ps.length ≤ 100000 ∧ ∀ (H' : Hp) (r : Gs × Int), r = fRun (2 + i + k) fig (ps, 0) prs → MakerAt C H' p g i k r.1 → Kp g H H' → Q (.int r.2) H'
def sp_picked (C : Addr) : Sp := fun vs H Q _ => ∃ (X : Addr → Prop) (p g pl : Addr) (i k : Int) (ps : Gs) (us : List V) (prs : List (Int × List Int)) (n : Nat), vs = [.ref p, .ref pl] ∧ MakerAt C H p g i k ps ∧ H pl = some (.lst us) ∧ pl ≠ g ∧ X g ∧ Paired (PairAt X H) us prs ∧
  (∀ pr ∈ prs, pr.2.length = n) ∧ 0 < prs.length ∧ prs.length ≤ 100 ∧ n ≤ 100 ∧ ps.length ≤ 10000 ∧ ∀ (wl : Addr) (H' : Hp) (r : Gs × List Int), r = pRun (2 + i + k) prs ps n → H wl = none → wl ≠ g → MakerAt C H' p g i k r.1 → Kp g H H' → H' wl = some (.lst (r.2.map V.int)) → Q (.ref wl) H'
section
variable {P : Program} {w : World} {K : PySem.W.Frag} {mg : Str → Option Value} {base : Heap}
theorem sc_picked_figure : FnScope ["maker", "pairs", "figure", "some", "wire", "wires"] ["maker", "pairs", "figure"] (defScope s_picked_figure) := ⟨rfl, rfl, rfl, by decide +kernel, rfl, by decide +kernel, by decide +kernel⟩
theorem ok_picked_figure {f C fi f1 f2 : Addr} {fd fdi d1 d2 : FuncData} (F : Fun K "picked_figure" "picked_figure" s_picked_figure f fd) (T_Maker : Mc K mg C fi fdi)
    (T_Maker_both : Mt K C "both" "Maker.both" s_Maker_both ["self", "a", "b"] f1 d1) (G_Maker_both : FnOk P w K mg base CX0 3 f1 d1 ["self", "a", "b"] (sp_m2 C 1000000 mBoth))
    (T_Maker_either : Mt K C "either" "Maker.either" s_Maker_either ["self", "a", "b"] f2 d2) (G_Maker_either : FnOk P w K mg base CX0 3 f2 d2 ["self", "a", "b"] (sp_m2 C 1000000 mEither)) :
    FnOk P w K mg base CX0 4 f fd ["maker", "pairs", "figure"] (sp_fig C) := by
  refine F.ok sc_picked_figure (fun vs H Q E h => ?_) (fun cdv A outer s H vs Q E hr h => ?_)
  · obtain ⟨X, p, g, pl, i, k, ps, us, prs, fig, rfl, _⟩ := h; rfl
  · obtain ⟨X, p, g, pl, i, k, ps, us, prs, fig, rfl, M, hpl, npl, hX, hP, hf, hle, hps, q⟩ := h
    have hul : us.length = prs.length := hP.length
    refine ⟨_, (pss_cons (ps_set (i := 3) sc_picked_figure.nd rfl (Or.inl rfl) pe_int)
      (pss_cons (ps_for PassesOwn.never rfl (pi_list (pv 1)) (pg_tup rfl (pgs_cons (pg_name (i := 4) sc_picked_figure.nd rfl (Or.inl rfl)) (pgs_cons (pg_name (i := 5) sc_picked_figure.nd rfl (Or.inl rfl)) pgs_nil)))
        (pss_one (ps_set (i := 3) sc_picked_figure.nd rfl (Or.inl rfl) (pe_meth (pv 0) T_Maker.cl T_Maker_either.me G_Maker_either (hr.mono (by decide)) T_Maker_either.b .nil pass0 (pa_cons (pv 3) (pa_cons (pe_meth (pv 0) T_Maker.cl T_Maker_both.me G_Maker_both (hr.mono (by decide)) T_Maker_both.b .nil pass0 (pa_cons (pv 4) (pa_cons (pe_ix ix_list (pv 5) (pv 2) (fun _ _ => rfl)) pa_nil))) pa_nil))))))
      (pss_one (ps_ret (pv 3))))), ?_⟩
    refine ⟨_, rfl, pl, rfl, ⟨_, SqL.of hpl⟩, for_list (K := K) (a := pl) (xs := us) (fun j σ H2 => ∃ (r : Gs × Int) (v4 v5 : Option V), r = fRun (2 + i + k) fig (ps, 0) (prs.take j) ∧ σ = [some (.ref p), some (.ref pl), some (.int (fig : Int)), some (.int r.2), v4, v5] ∧ MakerAt C H2 p g i k r.1 ∧ Kp g H H2)
      ⟨(ps, 0), none, none, rfl, rfl, M, Kp.refl⟩ (fun j σ H2 _ ⟨_, _, _, _, _, _, kp⟩ => SqL.of (kp _ _ hpl npl)) ?_ ?_⟩
    · rintro j x σ H2 hx ⟨r, v4, v5, er, rfl, MM, kp⟩
      obtain ⟨pr, hpr, t, l, rfl, ht, hl, nX⟩ := paired_get hP hx
      have hj : j < us.length := (List.getElem?_eq_some_iff.mp hx).1
      have hfig := hf pr (List.mem_of_getElem? hpr)
      obtain ⟨_, gs, eg, _⟩ := id M
      have ht2 := kp _ _ ht (ne_of ht eg (by intro z; cases z))
      have hl2 := kp _ _ hl (fun z => nX (z ▸ hX))
      have ll := fRun_len (c := 2 + i + k) (fig := fig) (prs.take j) (ps, 0)
      rw [← er, List.length_take] at ll
      have ll1 : r.1.length = ps.length + 5 * min j prs.length := ll
      obtain ⟨⟨dx, o1⟩, _⟩ := id MM
      refine ⟨t, _, rfl, SqT.of ht2, rfl, _, _, rfl, _, _, rfl, rfl, ?_⟩
      refine ⟨_, rfl, p, dx, _, rfl, o1, fl_no (by decide +kernel) (by decide +kernel) (by decide +kernel), _, rfl, _, rfl, p, dx, _, rfl, o1, fl_no (by decide +kernel) (by decide +kernel) (by decide +kernel), _, rfl, _, rfl, _, rfl, l, _, _, _, rfl, rfl, SqL.of hl2, atI_getD hfig, p, g, i, k, r.1, pr.1, pr.2.getD fig 0, rfl, MM, by omega, fun H3 M3 k3 => ?_⟩
      refine ⟨p, g, i, k, _, r.2, _, rfl, M3, by rw [mBoth_len]; omega, fun H4 M4 k4 => ?_⟩
      exact ⟨fStep (2 + i + k) fig r pr, _, _, by rw [fRun_take hpr, ← er], rfl, M4, (kp.trans k3).trans k4⟩
    · rintro σ H2 ⟨r, v4, v5, er, rfl, MM, kp⟩
      rw [List.take_of_length_le (by omega)] at er
      exact ⟨_, rfl, q H2 r er MM kp⟩
theorem sc_picked : FnScope ["maker", "pairs"] ["maker", "pairs"] (defScope s_picked) := ⟨rfl, rfl, rfl, by decide +kernel, rfl, by decide +kernel, by decide +kernel⟩
theorem ok_picked {f C fi f1 f2 f3 : Addr} {fd fdi d1 d2 d3 : FuncData} (F : Fun K "picked" "picked" s_picked f fd) (T : Bt mg) (T_picked_figure : Fn K mg "picked_figure" s_picked_figure ["maker", "pairs", "figure"] f3 d3) (T_Maker : Mc K mg C fi fdi)
    (T_Maker_both : Mt K C "both" "Maker.both" s_Maker_both ["self", "a", "b"] f1 d1) (G_Maker_both : FnOk P w K mg base CX0 3 f1 d1 ["self", "a", "b"] (sp_m2 C 1000000 mBoth))
    (T_Maker_either : Mt K C "either" "Maker.either" s_Maker_either ["self", "a", "b"] f2 d2) (G_Maker_either : FnOk P w K mg base CX0 3 f2 d2 ["self", "a", "b"] (sp_m2 C 1000000 mEither)) :
    FnOk P w K mg base CX0 5 f fd ["maker", "pairs"] (sp_picked C) := by
  have G_picked_figure := ok_picked_figure (P := P) (w := w) (base := base) T_picked_figure.F T_Maker T_Maker_both G_Maker_both T_Maker_either G_Maker_either
  refine F.ok sc_picked (fun vs H Q E h => ?_) (fun cdv A outer s H vs Q E hr h => ?_)
  · obtain ⟨X, p, g, pl, i, k, ps, us, prs, n, rfl, _⟩ := h; rfl
  · obtain ⟨X, p, g, pl, i, k, ps, us, prs, n, rfl, M, hpl, npl, hX, hP, hn, hpos, hle, hn100, hps, q⟩ := h
    have hs : sizeLine = 16777216 := sizeLine_eq
    have hul : us.length = prs.length := hP.length
    have hx0 : us[0]? = some us[0] := List.getElem?_eq_getElem (by omega)
    obtain ⟨pr, hpr, t, l, e0, ht, hl, nX⟩ := paired_get hP hx0
    have l0 := hn pr (List.mem_of_getElem? hpr)
    have eat : atI us 0 = some (.ref t) := by rw [← e0]; exact atI_nat hx0
    refine ⟨_, (pss_one (ps_ret (pe_comp rfl (blk_of (sc0 := defScope s_picked) (N0 := ["maker", "pairs"]) (N' := ["figure", "maker", "pairs"]) (own := 1) (fv := [0, 1]) (by decide +kernel) rfl rfl) (pi_range1 rfl T.b_range (pa_cons (pe_callB call_len_seq rfl T.b_len (by decide +kernel) (pa_cons (pe_ix ix_tup (pe_ix ix_list (pv 1) pe_int (fun _ _ => rfl)) pe_int (fun _ _ => rfl)) pa_nil)) pa_nil)) (fun _ _ _ _ => (pg_name (i := 0) (by show List.Nodup (["figure", "maker", "pairs"] : List Str); decide +kernel) rfl (Or.inl rfl))) (fun _ _ _ _ => (pe_call G_picked_figure (hr.mono (by decide)) rfl T_picked_figure.m T_picked_figure.F.kp T_picked_figure.b .nil pass0 (pa_cons (pv 1) (pa_cons (pv 2) (pa_cons (pv 0) pa_nil)))))))), ?_⟩
    refine ⟨_, rfl, pl, _, _, _, rfl, rfl, SqL.of hpl, eat, t, _, _, _, rfl, rfl, SqT.of ht, rfl, l, _, rfl, .inl (SqL.of hl), _, rfl, ?_⟩
    rw [List.length_map, l0]
    refine ⟨by omega, by omega, comp_rngInv (lo := 0) (n := (n : Int).toNat) (fvals := [some (.ref p), some (.ref pl)]) (fun acc j H2 => ∃ r : Gs × List Int, r = pRun (2 + i + k) prs ps j ∧ acc ≠ g ∧ H acc = none ∧ MakerAt C H2 p g i k r.1 ∧ Kp g H H2 ∧ H2 acc = some (.lst (r.2.map V.int))) ?_ ?_ ?_⟩
    · intro acc hacc
      exact ⟨(ps, []), rfl, M.ne hacc, hacc, M.same (Same.put hacc), Kp.of (Same.put hacc), upd_same⟩
    · rintro acc j H2 R hj ⟨r, er, ng, hn0, MM, kp, ea⟩ hR
      rw [Int.toNat_natCast] at hj
      have ll := pRun_len (c := 2 + i + k) (prs := prs) (ps := ps) j
      rw [← er] at ll
      have ll1 : r.1.length = ps.length + 5 * prs.length * j := ll.1
      have hb : 5 * prs.length * j ≤ 5 * 100 * 100 := Nat.mul_le_mul (by omega) (by omega)
      obtain ⟨_, gs, eg, _⟩ := id M
      have e0j : (0 + (j : Int)) = (j : Int) := by omega
      refine ⟨_, rfl, _, rfl, _, rfl, X, p, g, pl, i, k, r.1, us, prs, j, congrArg (fun z => [V.ref p, V.ref pl, V.int z]) e0j, MM, kp _ _ hpl npl, npl, hX, Paired.mapP hP (fun _ _ z => z.kp eg hX kp), (fun pr hpr => by rw [hn pr hpr]; exact hj), hle, by omega, fun H3 r3 er3 M3 k3 => ?_⟩
      have ea3 := k3 _ _ ea ng
      refine hR _ _ ⟨_, ea3, by rw [List.length_map, ll.2]; omega, pStep (2 + i + k) prs r j, by rw [pRun_succ, ← er], ng, hn0, ?_, fun c o e hc => Kp.one _ _ (k3 _ _ (kp _ _ e hc) hc) (ne_of_none e hn0), ?_⟩
      · have : (pStep (2 + i + k) prs r j).1 = r3.1 := by rw [er3]; rfl
        rw [this]
        exact M3.kp ea3 ng Kp.one
      · rw [upd_same, snoc_int, er3]; rfl
    · rintro acc H2 _ ⟨r, er, ng, hn0, MM, kp, ea⟩
      rw [Int.toNat_natCast] at er
      exact q acc H2 r er hn0 ng MM kp ea
end
end K9

set_option Elab.async false
set_option linter.all false
set_option maxRecDepth 100000
set_option maxHeartbeats 4000000
namespace K9
open PySem L2
theorem sum_num : ∀ (bs : List Nat) (j : Nat), (bs.mapIdx fun k b => ((b * 2 ^ (k + j) : Nat) : Int)).sum = ((2 ^ j * num bs : Nat) : Int)
  | [], j => by show (0 : Int) = ((2 ^ j * 0 : Nat) : Int); rfl
  | b :: bs, j => by
    rw [List.mapIdx_cons, List.sum_cons]
    have e : (bs.mapIdx fun k c => ((c * 2 ^ (k + 1 + j) : Nat) : Int)) = bs.mapIdx fun k c => ((c * 2 ^ (k + (j + 1)) : Nat) : Int) := by
      congr 1; funext k c; rw [show k + 1 + j = k + (j + 1) by omega]
    rw [e, sum_num bs (j + 1), num_cons, Nat.zero_add, ← Int.natCast_add]
    congr 1
    rw [Nat.pow_succ, Nat.mul_add, Nat.mul_assoc, Nat.mul_comm b]
theorem sum_num0 (bs : List Nat) : (bs.mapIdx fun k b => ((b * 2 ^ k : Nat) : Int)).sum = ((num bs : Nat) : Int) := by
  have := sum_num bs 0
  simpa using this

theorem shl_natN (a b : Nat) : (a : Int) * 2 ^ b = ((a * 2 ^ b : Nat) : Int) := by push_cast; rfl
def fSp (k i : Nat) : V → V
  | .int n => .int ((bit k n.toNat * 2 ^ i : Nat) : Int)
  | v => v
theorem fSp_map (k : Nat) (ns : List Nat) : (nv ns).mapIdx (fSp k) = ((ns.map (bit k)).mapIdx fun i b => ((b * 2 ^ i : Nat) : Int)).map V.int := by
  unfold nv
  apply List.ext_getElem?
  intro j
  simp only [List.getElem?_mapIdx, List.getElem?_map]
  cases ns[j]? with
  | none => rfl
  | some b => rfl
def spreadN (ns : List Nat) (m : Nat) : List Nat := (List.range m).map fun k => num (ns.map (bit k))
theorem spreadN_succ (ns : List Nat) (m : Nat) : spreadN ns (m + 1) = spreadN ns m ++ [num (ns.map (bit m))] := by unfold spreadN; rw [List.range_succ, List.map_append]; rfl
theorem spreadN_len (ns : List Nat) (m : Nat) : (spreadN ns m).length = m := by unfold spreadN; rw [List.length_map, List.length_range]
def sp_spread : Sp := fun vs H Q _ => ∃ (l : Addr) (ns : List Nat) (m : Nat), vs = [.ref l, .int (m : Int)] ∧ H l = some (.lst (nv ns)) ∧ ns.length ≤ 1000 ∧ m ≤ 1000 ∧
  ∀ (r : Addr) (H' : Hp), H r = none → Same H H' → H' r = some (.lst (nv (spreadN ns m))) → Q (.ref r) H'
def nextI (own given wires full : Int) : Int :=
  if wires = 0 then own else
    let a := if Builtin.bitAnd wires 1 > 0 then Builtin.bitOr 0 (Builtin.bitAnd (own + given) full) else 0
    let b := if Builtin.bitAnd wires 2 > 0 then Builtin.bitOr a (Builtin.bitAnd (own - given) full) else a
    let c := if Builtin.bitAnd wires 4 > 0 then Builtin.bitOr b given else b
    if Builtin.bitAnd wires 8 > 0 ∧ own ≥ given then Builtin.bitOr c own else c
def sp_next : Sp := fun vs H Q _ => ∃ (own given wires full : Int), vs = [.int own, .int given, .int wires, .int full] ∧ Q (.int (nextI own given wires full)) H
section
variable {P : Program} {w : World} {K : PySem.W.Frag} {mg : Str → Option Value} {base : Heap}
theorem sc_law_spread : FnScope ["_law_numbers_here", "_law_many", "_law_values", "_law_k"] ["_law_numbers_here", "_law_many"] (defScope s_law_spread) := ⟨rfl, rfl, rfl, by decide +kernel, rfl, by decide +kernel, by decide +kernel⟩
theorem ok_law_spread {f : Addr} {fd : FuncData} (F : Fun K "_law_spread" "_law_spread" s_law_spread f fd) (T : Bt mg) : FnOk P w K mg base CX0 1 f fd ["_law_numbers_here", "_law_many"] sp_spread := by
  refine F.ok sc_law_spread (fun vs H Q E h => ?_) (fun cdv A outer s H vs Q E hr h => ?_)
  · obtain ⟨l, ns, m, rfl, _⟩ := h; rfl
  · obtain ⟨l, ns, m, rfl, hl, hle, hm, q⟩ := h
    have hs : sizeLine = 16777216 := sizeLine_eq
    refine ⟨_, (pss_cons (ps_set (i := 2) sc_law_spread.nd rfl (Or.inl rfl) (pe_lst pa_nil))
      (pss_cons (ps_for PassesOwn.never rfl (pi_range1 rfl T.b_range (pa_cons (pv 1) pa_nil)) (pg_name (i := 3) sc_law_spread.nd rfl (Or.inr rfl))
        (pss_one (ps_expr (pe_bm PySem.F.plainAttrs_list PySem.F.slot_list_append PySem.F.type_list_append mt_append (pv 2) (pa_cons (pe_callB (call_sumI (K := K) rfl) rfl T.b_sum (by decide +kernel) (pa_cons (pe_comp rfl (blk_of (sc0 := defScope s_law_spread) (N0 := ["_law_numbers_here", "_law_many", "_law_values", "_law_k"]) (N' := ["_law_world", "_law_number", "_law_k"]) (own := 2) (fv := [3]) (by decide +kernel) rfl rfl) (pi_enum (K := K) rfl T.b_enumerate (pa_cons (pv 0) pa_nil)) (fun _ _ _ _ => (pg_tupK (K := K) (n := 2) rfl (pgs_cons (pg_name (i := 0) (by show List.Nodup (["_law_world", "_law_number", "_law_k"] : List Str); decide +kernel) rfl (Or.inl rfl)) (pgs_cons (pg_name (i := 1) (by show List.Nodup (["_law_world", "_law_number", "_law_k"] : List Str); decide +kernel) rfl (Or.inl rfl)) pgs_nil)))) (fun _ _ _ _ => (pe_op op_shl (pe_op op_and (pe_op op_shr (pv 1) (pv 2)) pe_int) (pv 0)))) pa_nil)) pa_nil)))))
      (pss_one (ps_ret (pv 2))))), ?_⟩
    refine ⟨Nat.zero_le _, fun r hr0 => ?_⟩
    have y0 := Same.put (o := .lst []) hr0
    refine ⟨_, rfl, _, rfl, by omega, by omega, for_range (lo := 0) (n := (m : Int).toNat) (fun i σ H2 => ∃ (v3 : Option V), σ = [some (.ref l), some (.int (m : Int)), some (.ref r), v3] ∧ Same H H2 ∧ H2 r = some (.lst (nv (spreadN ns i))))
      ⟨none, rfl, y0, upd_same⟩ ?_ ?_⟩
    · rintro i σ H2 hi ⟨v3, rfl, s2, er⟩
      rw [Int.toNat_natCast] at hi
      have e0 : (0 + (i : Int)).toNat = i := by omega
      refine ⟨_, rfl, .inl ⟨rfl, _, SqL.of er⟩, _, rfl, l, _, rfl, s2 _ _ hl, comp_enum (fvals := [some (.int (0 + (i : Int)))]) (fSp i) (SqL.of (s2 _ _ hl)) (by rw [nv_length]; omega) (fun j x H3 R hx s3 hR => ?_) (fun acc H3 hacc s3 ea => ?_)⟩
      · obtain ⟨z, hz, rfl⟩ := nv_get hx
        have hj : j < ns.length := (List.getElem?_eq_some_iff.mp hz).1
        refine ⟨_, rfl, _, rfl, _, _, rfl, rfl, (by show (0 : Int) ≤ 0 + (i : Int); omega), _, _, rfl, rfl, _, rfl, _, _, rfl, rfl, ?_, ?_⟩
        · rw [e0, shr_bit]
          exact cpow_of (by omega) (by omega) (by omega) (by have := bit_le i z; omega)
        · have hR' : R (V.int ((bit i z * 2 ^ j : Nat) : Int)) H3 := hR
          show R (V.int (PySem.Builtin.bitAnd ((z : Int) / 2 ^ (0 + (i : Int)).toNat) 1 * 2 ^ (Int.toNat (j : Int)))) H3
          rw [e0, Int.toNat_natCast, shr_bit, shl_natN]
          exact hR'
      · rw [fSp_map] at ea
        refine ⟨acc, _, rfl, SqL.of ea, ?_⟩
        rw [sum_num0]
        have er3 := s3 _ _ er
        refine ⟨r, _, _, rfl, rfl, er3, by rw [nv_length, spreadN_len]; omega, ?_⟩
        rw [nv_snoc, ← spreadN_succ]
        refine ⟨_, rfl, fun b o e => ?_, upd_same⟩
        rw [upd_ne (ne_of_none e hr0)]
        exact s3 _ _ (s2 _ _ e)
    · rintro σ H2 ⟨v3, rfl, s2, er⟩
      rw [Int.toNat_natCast] at er
      exact ⟨_, rfl, q r H2 hr0 s2 er⟩
end
end K9

set_option Elab.async false
set_option linter.all false
set_option maxRecDepth 100000
set_option maxHeartbeats 4000000
namespace K9
open PySem L2
section
variable {P : Program} {w : World} {K : PySem.W.Frag} {mg : Str → Option Value} {base : Heap}
theorem sc_law_next : FnScope ["_law_own", "_law_given", "_law_wires", "_law_full", "_law_later"] ["_law_own", "_law_given", "_law_wires", "_law_full"] (defScope s_law_next) := ⟨rfl, rfl, rfl, by decide +kernel, rfl, by decide +kernel, by decide +kernel⟩
theorem ok_law_next {f : Addr} {fd : FuncData} (F : Fun K "_law_next" "_law_next" s_law_next f fd) : FnOk P w K mg base CX0 1 f fd ["_law_own", "_law_given", "_law_wires", "_law_full"] sp_next := by
  refine F.ok sc_law_next (fun vs H Q E h => ?_) (fun cdv A outer s H vs Q E hr h => ?_)
  · obtain ⟨a, b, c, d, rfl, _⟩ := h; rfl
  · obtain ⟨own, given, wires, full, rfl, q⟩ := h
    refine ⟨_, (pss_cons (ps_if (pt_cmpR op_eq (pv 2) pe_int (nomark _))
        (pss_one (ps_ret (pv 0)))
        pss_nil)
      (pss_cons (ps_set (i := 4) sc_law_next.nd rfl (Or.inl rfl) pe_int)
      (pss_cons (ps_detS (ps_if (pt_cmpR op_gt (pe_op op_and (pv 2) pe_int) pe_int (nomark _))
        (pss_one (ps_set (i := 4) sc_law_next.nd rfl (Or.inl rfl) (pe_op op_or (pv 4) (pe_op op_and (pe_op op_add (pv 0) (pv 1)) (pv 3)))))
        pss_nil))
      (pss_cons (ps_detS (ps_if (pt_cmpR op_gt (pe_op op_and (pv 2) pe_int) pe_int (nomark _))
        (pss_one (ps_set (i := 4) sc_law_next.nd rfl (Or.inl rfl) (pe_op op_or (pv 4) (pe_op op_and (pe_op op_sub (pv 0) (pv 1)) (pv 3)))))
        pss_nil))
      (pss_cons (ps_detS (ps_if (pt_cmpR op_gt (pe_op op_and (pv 2) pe_int) pe_int (nomark _))
        (pss_one (ps_set (i := 4) sc_law_next.nd rfl (Or.inl rfl) (pe_op op_or (pv 4) (pv 1))))
        pss_nil))
      (pss_cons (ps_detS (ps_if (PW.pt (pw_and (pt_cmpR op_gt (pe_op op_and (pv 2) pe_int) pe_int (nomark _)) (pw_and1 (pt_cmpR op_ge (pv 0) (pv 1) (nomark _)))))
        (pss_one (ps_set (i := 4) sc_law_next.nd rfl (Or.inl rfl) (pe_op op_or (pv 4) (pv 0))))
        pss_nil))
      (pss_one (ps_ret (pv 4))))))))), ?_⟩
    unfold nextI at q
    refine ⟨_, rfl, rfl, _, rfl, ite2 (fun h => ?_) (fun h => ?_)⟩
    · have e : wires = 0 := by simpa using h
      rw [if_pos e] at q
      exact ⟨_, rfl, q⟩
    have e : ¬ wires = 0 := by simpa using h
    rw [if_neg e] at q
    obtain ⟨a, ha⟩ : ∃ a : Int, a = if Builtin.bitAnd wires 1 > 0 then Builtin.bitOr 0 (Builtin.bitAnd (own + given) full) else 0 := ⟨_, rfl⟩
    obtain ⟨b, hb⟩ : ∃ b : Int, b = if Builtin.bitAnd wires 2 > 0 then Builtin.bitOr a (Builtin.bitAnd (own - given) full) else a := ⟨_, rfl⟩
    obtain ⟨c, hc⟩ : ∃ c : Int, c = if Builtin.bitAnd wires 4 > 0 then Builtin.bitOr b given else b := ⟨_, rfl⟩
    obtain ⟨d, hd⟩ : ∃ d : Int, d = if Builtin.bitAnd wires 8 > 0 ∧ own ≥ given then Builtin.bitOr c own else c := ⟨_, rfl⟩
    have q' : Q (.int d) H := by rw [hd, hc, hb, ha]; exact q
    refine ⟨[some (.int own), some (.int given), some (.int wires), some (.int full), some (.int a)], ?_, ?_⟩
    · refine ⟨_, rfl, _, _, rfl, rfl, _, _, rfl, rfl, _, rfl, ite2 (fun h1 => ?_) (fun h1 => ?_)⟩
      · rw [if_pos (of_decide_eq_true h1)] at ha
        refine ⟨_, rfl, _, rfl, _, rfl, _, _, rfl, rfl, _, rfl, _, _, rfl, rfl, _, _, rfl, rfl, ?_, rfl⟩
        rw [ha]; rfl
      · rw [if_neg (fun z => by rw [decide_eq_true z] at h1; exact h1 rfl)] at ha
        exact ⟨by rw [ha]; rfl, rfl⟩
    refine ⟨[some (.int own), some (.int given), some (.int wires), some (.int full), some (.int b)], ?_, ?_⟩
    · refine ⟨_, rfl, _, _, rfl, rfl, _, _, rfl, rfl, _, rfl, ite2 (fun h1 => ?_) (fun h1 => ?_)⟩
      · rw [if_pos (of_decide_eq_true h1)] at hb
        refine ⟨_, rfl, _, rfl, _, rfl, _, _, rfl, rfl, _, rfl, _, _, rfl, rfl, _, _, rfl, rfl, ?_, rfl⟩
        rw [hb]; rfl
      · rw [if_neg (fun z => by rw [decide_eq_true z] at h1; exact h1 rfl)] at hb
        exact ⟨by rw [hb], rfl⟩
    refine ⟨[some (.int own), some (.int given), some (.int wires), some (.int full), some (.int c)], ?_, ?_⟩
    · refine ⟨_, rfl, _, _, rfl, rfl, _, _, rfl, rfl, _, rfl, ite2 (fun h1 => ?_) (fun h1 => ?_)⟩
      · rw [if_pos (of_decide_eq_true h1)] at hc
        refine ⟨_, rfl, _, rfl, _, _, rfl, rfl, ?_, rfl⟩
        rw [hc]; rfl
      · rw [if_neg (fun z => by rw [decide_eq_true z] at h1; exact h1 rfl)] at hc
        exact ⟨by rw [hc], rfl⟩
    refine ⟨[some (.int own), some (.int given), some (.int wires), some (.int full), some (.int d)], ?_, ?_⟩
    · refine ⟨_, rfl, _, _, rfl, rfl, _, _, rfl, rfl, _, rfl, ite2 (fun h1 => ?_) (fun h1 => ?_)⟩
      · refine ⟨_, rfl, _, rfl, _, _, rfl, rfl, _, rfl, ite2 (fun h2 => ?_) (fun h2 => ?_)⟩
        · rw [if_pos ⟨of_decide_eq_true h1, of_decide_eq_true h2⟩] at hd
          refine ⟨_, rfl, _, rfl, _, _, rfl, rfl, ?_, rfl⟩
          rw [hd]; rfl
        · rw [if_neg (fun z => by rw [decide_eq_true z.2] at h2; exact h2 rfl)] at hd
          exact ⟨by rw [hd], rfl⟩
      · rw [if_neg (fun z => by rw [decide_eq_true z.1] at h1; exact h1 rfl)] at hd
        exact ⟨by rw [hd], rfl⟩
    exact ⟨_, rfl, q'⟩
end
end K9

set_option Elab.async false
set_option linter.all false
set_option maxRecDepth 100000
set_option maxHeartbeats 4000000
namespace K9
open PySem L2
/-! ### what the counter's maker holds, step by step -/
structure Ct9 where
  r0 : Gs × Int
  r1 : Gs × Int
  r2 : Ad
  r3 : Gs × List Int
  r4 : Ad
  r5 : Gs × List Int
  r6 : Gs × List Int
  r7 : Gs × Int
  r8 : Gs × List Int
def ctGiven (m : Nat) : List Int := fromN 2 (m : Int)
def ctWires (m : Nat) : List Int := fromN (2 + (m : Int)) 4
def ctOwn (m : Nat) : List Int := fromN (2 + ((m : Int) + 4)) (m : Int)
def ct9 (m : Nat) : Ct9 :=
  let c : Int := 2 + ((m : Int) + 4) + (m : Int)
  let r0 := nRes c [] (ctOwn m)
  let r1 := lRun c (r0.1, 0) ((ctOwn m).zip (ctGiven m))
  let r2 := aRun c ⟨r1.1, [], 0⟩ ((ctOwn m).zip (ctGiven m))
  let r3 := oRun c (r2.ps, []) (ctGiven m)
  let r4 := aRun c ⟨r3.1, [], 1⟩ ((ctOwn m).zip r3.2)
  let r5 := cRun c r1.2 (r4.ps, []) ((List.replicate m 0).zip (ctOwn m))
  let r6 := pRun c [(2 + (m : Int), r2.ws), (2 + (m : Int) + 1, r4.ws), (2 + (m : Int) + 2, ctGiven m), (2 + (m : Int) + 3, r5.2)] r5.1 m
  let r7 := nRes c r6.1 (ctWires m)
  let r8 := cRun c r7.2 (r7.1, []) ((ctOwn m).zip r6.2)
  ⟨r0, r1, r2, r3, r4, r5, r6, r7, r8⟩
def ctNet (m : Nat) : NetD := ⟨(m : Int) + 4, (m : Int), (ct9 m).r8.1, (ct9 m).r8.2, [(ct9 m).r0.2, (ct9 m).r1.2]⟩
end K9

set_option Elab.async false
set_option linter.all false
set_option maxRecDepth 100000
set_option maxHeartbeats 4000000
namespace K9
open PySem L2
/-! ### what the counter reckons -/
theorem num_test : ∀ {bs : List Nat} (i : Nat), (∀ b ∈ bs, b ≤ 1) → (num bs).testBit i = decide (bs.getD i 0 = 1)
  | [], i, _ => by show (0 : Nat).testBit i = decide (([] : List Nat).getD i 0 = 1); simp
  | b :: bs, 0, h => by
    have := h b List.mem_cons_self
    rw [num_cons, Nat.testBit_zero]
    show decide ((b + 2 * num bs) % 2 = 1) = decide (b = 1)
    congr 1; apply propext; omega
  | b :: bs, i + 1, h => by
    have := h b List.mem_cons_self
    rw [num_cons, Nat.testBit_succ, show (b + 2 * num bs) / 2 = num bs by omega]
    exact num_test i fun z hz => h z (List.mem_cons_of_mem _ hz)
theorem num_lt : ∀ {bs : List Nat}, (∀ b ∈ bs, b ≤ 1) → num bs < 2 ^ bs.length
  | [], _ => by show 0 < 1; decide
  | b :: bs, h => by
    have h0 := h b List.mem_cons_self
    have h1 := num_lt fun z hz => h z (List.mem_cons_of_mem _ hz)
    rw [num_cons, List.length_cons, Nat.pow_succ]; omega
theorem bits_le {α : Type} (k : Nat) (f : α → Nat) (L : List α) : ∀ b ∈ L.map (fun x => bit k (f x)), b ≤ 1 := fun b hb => by
  obtain ⟨x, _, rfl⟩ := List.mem_map.mp hb
  exact bit_le _ _
theorem getD_map {α : Type} {L : List α} {f : α → Nat} {d : α} {i : Nat} (h : i < L.length) : (L.map f).getD i 0 = f (L.getD i d) := by
  rw [List.getD_eq_getElem?_getD, List.getElem?_map, List.getD_eq_getElem?_getD, List.getElem?_eq_getElem h]; rfl
theorem getD_over {L : List Nat} {i : Nat} (h : L.length ≤ i) : L.getD i 0 = 0 := by
  rw [List.getD_eq_getElem?_getD, List.getElem?_eq_none h]; rfl
theorem bit_one (k v : Nat) : decide (bit k v = 1) = v.testBit k := by
  rw [bit_test]; cases v.testBit k <;> rfl
theorem num_bits {m n : Nat} (h : n < 2 ^ m) : num ((List.range m).map fun i => bit i n) = n := by
  apply Nat.eq_of_testBit_eq
  intro i
  rw [num_test i (fun b hb => by obtain ⟨x, _, rfl⟩ := List.mem_map.mp hb; exact bit_le _ _)]
  by_cases hi : i < m
  · rw [getD_map (d := 0) (by rw [List.length_range]; exact hi), List.getD_eq_getElem?_getD, List.getElem?_range hi]
    exact bit_one _ _
  · rw [getD_over (by rw [List.length_map, List.length_range]; omega), lt_test h (by omega)]; rfl
theorem pick1 {m k i : Nat} {f : Int → Nat} {x : Int} {L : List Int} (l : L.length = m) : (if bit k (f x) = 1 then num (L.map fun y => bit k (f y)) else 0).testBit i = (decide (i < m) && ((f x).testBit k && (f (L.getD i 0)).testBit k)) := by
  have e := bit_one k (f x)
  by_cases h : bit k (f x) = 1
  · rw [if_pos h, num_test i (bits_le k f L)]
    rw [decide_eq_true h] at e
    rw [← e, Bool.true_and]
    by_cases hi : i < m
    · rw [getD_map (f := fun y => bit k (f y)) (d := 0) (by omega), decide_eq_true hi, Bool.true_and]; exact bit_one _ _
    · rw [getD_over (by rw [List.length_map]; omega), decide_eq_false hi]; rfl
  · rw [if_neg h, Nat.zero_testBit]
    rw [decide_eq_false h] at e
    rw [← e]; simp
theorem pick_num {m : Nat} {f : Int → Nat} (k : Nat) {x0 x1 x2 x3 : Int} {L0 L1 L2 L3 : List Int} (l0 : L0.length = m) (l1 : L1.length = m) (l2 : L2.length = m) (l3 : L3.length = m) :
    num ((List.range m).map fun fig => bit k (due f fig [(x0, L0), (x1, L1), (x2, L2), (x3, L3)] 0)) =
      (((if bit k (f x0) = 1 then num (L0.map fun y => bit k (f y)) else 0) ||| (if bit k (f x1) = 1 then num (L1.map fun y => bit k (f y)) else 0)) ||| (if bit k (f x2) = 1 then num (L2.map fun y => bit k (f y)) else 0)) ||| (if bit k (f x3) = 1 then num (L3.map fun y => bit k (f y)) else 0) := by
  apply Nat.eq_of_testBit_eq
  intro i
  rw [Nat.testBit_or, Nat.testBit_or, Nat.testBit_or, pick1 l0, pick1 l1, pick1 l2, pick1 l3, num_test i (bits_le k _ _)]
  by_cases hi : i < m
  · rw [getD_map (f := fun fig => bit k (due f fig [(x0, L0), (x1, L1), (x2, L2), (x3, L3)] 0)) (d := 0) (by rw [List.length_range]; exact hi), List.getD_eq_getElem?_getD, List.getElem?_range hi, bit_one]
    show (0 ||| (f x0 &&& f (L0.getD i 0)) ||| (f x1 &&& f (L1.getD i 0)) ||| (f x2 &&& f (L2.getD i 0)) ||| (f x3 &&& f (L3.getD i 0))).testBit k = _
    simp only [Nat.testBit_or, Nat.testBit_and, Nat.zero_testBit, decide_eq_true hi, Bool.true_and, Bool.false_or]
  · rw [getD_over (by rw [List.length_map, List.length_range]; omega), decide_eq_false hi]; rfl
def takenN (m own given : Nat) : Nat := if given ≤ own then own - given else 2 ^ m + own - given
def nextN (m own given wires : Nat) : Nat := if wires = 0 then own else
  (((if wires.testBit 0 = true then (own + given) % 2 ^ m else 0) ||| (if wires.testBit 1 = true then takenN m own given else 0)) ||| (if wires.testBit 2 = true then given else 0)) ||| (if wires.testBit 3 = true then (if own < given then 0 else own) else 0)
theorem takenN_lt {m own given : Nat} (h1 : own < 2 ^ m) (h2 : given < 2 ^ m) : takenN m own given < 2 ^ m := by
  unfold takenN
  by_cases h : given ≤ own
  · rw [if_pos h]; omega
  · rw [if_neg h]; omega
theorem nextN_lt {m own given wires : Nat} (h1 : own < 2 ^ m) (h2 : given < 2 ^ m) : nextN m own given wires < 2 ^ m := by
  have hp := Nat.two_pow_pos m
  have it : ∀ (p : Prop) [Decidable p] (v : Nat), v < 2 ^ m → (if p then v else 0) < 2 ^ m := fun p _ v hv => by
    by_cases h : p
    · rw [if_pos h]; exact hv
    · rw [if_neg h]; exact hp
  unfold nextN
  by_cases h : wires = 0
  · rw [if_pos h]; exact h1
  · rw [if_neg h]
    refine Nat.or_lt_two_pow (Nat.or_lt_two_pow (Nat.or_lt_two_pow (it _ _ (Nat.mod_lt _ hp)) (it _ _ (takenN_lt h1 h2))) (it _ _ h2)) (it _ _ ?_)
    by_cases h : own < given
    · rw [if_pos h]; exact hp
    · rw [if_neg h]; exact h1
theorem and_pow (wires i : Nat) : (Builtin.bitAnd (wires : Int) ((2 ^ i : Nat) : Int) > 0) ↔ wires.testBit i = true := by
  rw [and_nat]
  have hb : (wires &&& 2 ^ i).testBit i = wires.testBit i := by rw [Nat.testBit_and, Nat.testBit_two_pow, decide_eq_true rfl, Bool.and_true]
  cases h : wires.testBit i with
  | true =>
    rw [h] at hb
    have : (wires &&& 2 ^ i) ≠ 0 := fun z => by rw [z, Nat.zero_testBit] at hb; cases hb
    simp only [iff_true]; omega
  | false =>
    have : (wires &&& 2 ^ i) = 0 := by
      apply Nat.eq_of_testBit_eq
      intro j
      rw [Nat.testBit_and, Nat.testBit_two_pow, Nat.zero_testBit]
      by_cases e : i = j
      · subst e; rw [h]; rfl
      · rw [decide_eq_false e, Bool.and_false]
    rw [this]; simp
theorem taken_and {m own given : Nat} (h1 : own < 2 ^ m) (h2 : given < 2 ^ m) : Builtin.bitAnd ((own : Int) - (given : Int)) ((2 ^ m - 1 : Nat) : Int) = ((takenN m own given : Nat) : Int) := by
  unfold takenN
  by_cases h : given ≤ own
  · rw [if_pos h, show (own : Int) - (given : Int) = ((own - given : Nat) : Int) by omega, and_high (by omega)]
  · rw [if_neg h, PyProof.Rows.bitAnd_np (by omega) (by omega)]
    have e : (Builtin.bitNot ((own : Int) - (given : Int))).toNat = given - own - 1 := by unfold Builtin.bitNot; omega
    rw [e, Int.toNat_natCast, Nat.and_comm, Nat.and_two_pow_sub_one_eq_mod, Nat.mod_eq_of_lt (by omega)]
    omega
theorem nextI_eq {m own given wires : Nat} (h1 : own < 2 ^ m) (h2 : given < 2 ^ m) : nextI (own : Int) (given : Int) (wires : Int) ((2 ^ m - 1 : Nat) : Int) = ((nextN m own given wires : Nat) : Int) := by
  unfold nextI nextN
  by_cases h : wires = 0
  · rw [if_pos h, if_pos (by omega)]
  rw [if_neg h, if_neg (by omega)]
  have c0 : (Builtin.bitAnd (wires : Int) 1 > 0) = (wires.testBit 0 = true) := propext (and_pow wires 0)
  have c1 : (Builtin.bitAnd (wires : Int) 2 > 0) = (wires.testBit 1 = true) := propext (and_pow wires 1)
  have c2 : (Builtin.bitAnd (wires : Int) 4 > 0) = (wires.testBit 2 = true) := propext (and_pow wires 2)
  have c3 : (Builtin.bitAnd (wires : Int) 8 > 0) = (wires.testBit 3 = true) := propext (and_pow wires 3)
  have e1 : Builtin.bitAnd ((own : Int) + (given : Int)) ((2 ^ m - 1 : Nat) : Int) = (((own + given) % 2 ^ m : Nat) : Int) := by
    rw [← Int.natCast_add, and_nat, Nat.and_two_pow_sub_one_eq_mod]
  have z : (0 : Int) = ((0 : Nat) : Int) := rfl
  simp only [c0, c1, c2, c3, e1, taken_and h1 h2]
  have o0 : ∀ v : Nat, Builtin.bitOr 0 (v : Int) = (v : Int) := fun v => by rw [z, or_nat, Nat.zero_or]
  simp only [o0]
  have f0 : ∀ a b : Nat, (if wires.testBit 0 = true then (a : Int) else 0) = (((if wires.testBit 0 = true then a else 0) : Nat) : Int) := fun a b => by cases wires.testBit 0 <;> rfl
  rw [f0 _ 0]
  generalize (if wires.testBit 0 = true then (own + given) % 2 ^ m else 0) = A
  have f1 : (if wires.testBit 1 = true then Builtin.bitOr (A : Int) ((takenN m own given : Nat) : Int) else (A : Int)) = (((A ||| if wires.testBit 1 = true then takenN m own given else 0) : Nat) : Int) := by
    cases wires.testBit 1 with
    | true => exact or_nat _ _
    | false => show (A : Int) = ((A ||| 0 : Nat) : Int); rw [Nat.or_zero]
  rw [f1]
  generalize (A ||| if wires.testBit 1 = true then takenN m own given else 0) = B
  have f2 : (if wires.testBit 2 = true then Builtin.bitOr (B : Int) (given : Int) else (B : Int)) = (((B ||| if wires.testBit 2 = true then given else 0) : Nat) : Int) := by
    cases wires.testBit 2 with
    | true => exact or_nat _ _
    | false => show (B : Int) = ((B ||| 0 : Nat) : Int); rw [Nat.or_zero]
  rw [f2]
  generalize (B ||| if wires.testBit 2 = true then given else 0) = D
  by_cases hl : own < given
  · rw [if_neg (by omega), if_pos hl]
    cases wires.testBit 3 <;> · show (D : Int) = ((D ||| 0 : Nat) : Int); rw [Nat.or_zero]
  · rw [if_neg hl]
    cases h3 : wires.testBit 3 with
    | true => rw [if_pos ⟨rfl, by omega⟩, if_pos rfl]; exact or_nat _ _
    | false => rw [if_neg (by rintro ⟨h, _⟩; cases h), if_neg (by decide), Nat.or_zero]
theorem sem9 {w m : Nat} {S vs : List Nat} {c : Int} {own given : List Int} {x0 x1 x2 x3 : Int} {r0 r1 r7 : Gs × Int} {r2 r4 : Ad} {r3 r5 r6 r8 : Gs × List Int}
    (e0 : r0 = nRes c [] own) (e1 : r1 = lRun c (r0.1, 0) (own.zip given)) (e2 : r2 = aRun c ⟨r1.1, [], 0⟩ (own.zip given)) (e3 : r3 = oRun c (r2.ps, []) given) (e4 : r4 = aRun c ⟨r3.1, [], 1⟩ (own.zip r3.2))
    (e5 : r5 = cRun c r1.2 (r4.ps, []) ((List.replicate m 0).zip own)) (e6 : r6 = pRun c [(x0, r2.ws), (x1, r4.ws), (x2, given), (x3, r5.2)] r5.1 m) (e7 : r7 = nRes c r6.1 [x0, x1, x2, x3]) (e8 : r8 = cRun c r7.2 (r7.1, []) (own.zip r6.2))
    (eS : S = [0, 2 ^ w - 1] ++ vs) (hv : ∀ n ∈ vs, n < 2 ^ w) (lS : S.length = 2 * m + 6) (hc : c = 2 * (m : Int) + 6) (lo : own.length = m) (lg : given.length = m)
    (bo : ∀ o ∈ own, 0 ≤ o ∧ o < 2 * (m : Int) + 6) (bg : ∀ o ∈ given, 0 ≤ o ∧ o < 2 * (m : Int) + 6) (bx : ∀ o ∈ [x0, x1, x2, x3], 0 ≤ o ∧ o < 2 * (m : Int) + 6) :
    gatesOk (S.length : Int) r8.1 = true ∧ r8.2.length = m ∧ (∀ x ∈ r8.2 ++ [r0.2, r1.2], In S r8.1 x) ∧
    ∀ k < w, num (r8.2.map fun x => bit k (vl w S r8.1 x)) = nextN m (num (own.map fun i => bit k (wAt S i))) (num (given.map fun i => bit k (wAt S i))) (num ([x0, x1, x2, x3].map fun i => bit k (wAt S i))) ∧
      bit k (vl w S r8.1 r0.2) = (if num (own.map fun i => bit k (wAt S i)) = 0 then 1 else 0) ∧ bit k (vl w S r8.1 r1.2) = (if num (own.map fun i => bit k (wAt S i)) < num (given.map fun i => bit k (wAt S i)) then 1 else 0) := by
  have hp := Nat.two_pow_pos w
  have hS : ∀ n ∈ S, n < 2 ^ w := fun n hn => by
    rw [eS] at hn
    rcases List.mem_append.mp hn with hn | hn
    · simp only [List.mem_cons, List.not_mem_nil, or_false] at hn; omega
    · exact hv n hn
  have hc' : c = (S.length : Int) := by omega
  have in0 : ∀ x : Int, 0 ≤ x ∧ x < 2 * (m : Int) + 6 → In S [] x := fun x h => ⟨h.1, by show x < (S.length : Int) + 0; omega⟩
  have b0 : wAt S 0 = 0 := by rw [eS]; rfl
  have b1 : wAt S 1 = 2 ^ w - 1 := by rw [eS]; rfl
  have old : ∀ qs : Gs, Gr w S [] qs → ∀ k, ∀ l : List Int, (∀ o ∈ l, 0 ≤ o ∧ o < 2 * (m : Int) + 6) → (l.map fun x => bit k (vl w S qs x)) = l.map fun x => bit k (wAt S x) := fun qs g k l hl => List.map_congr_left fun x hx => by rw [g.old x (in0 x (hl x hx))]; rfl
  have v00 : ∀ qs : Gs, Gr w S [] qs → vl w S qs 0 = 0 := fun qs g => (g.old 0 (in0 0 (by omega))).trans b0
  have v01 : ∀ qs : Gs, Gr w S [] qs → vl w S qs 1 = 2 ^ w - 1 := fun qs g => (g.old 1 (in0 1 (by omega))).trans b1
  have hnone : ∀ (l : List Int) (ps : Gs) (r : Gs × Int), (∀ o ∈ l, 0 ≤ o ∧ o < 2 * (m : Int) + 6) → Gr w S [] ps → r = nRes c ps l → Gr w S ps r.1 ∧ In S r.1 r.2 ∧ ∀ k < w, bit k (vl w S r.1 r.2) = if num (l.map fun i => bit k (wAt S i)) = 0 then 1 else 0 := by
    intro l ps r hl g er
    obtain ⟨g2, i2, s2⟩ := non_sem hS hc' l (ps, 0) (fun x hx => (in0 x (hl x hx)).mono g.le) ((in0 0 (by omega)).mono g.le)
    have m2 := made_other (w := w) hc' i2
    rw [show mOther c (nRun c (ps, 0) l).1 (nRun c (ps, 0) l).2 = r from er.symm] at m2
    refine ⟨g2.trans m2.gr, m2.inn, fun k hk => bit01 (bit_le _ _) ?_⟩
    have h := s2 k hk
    rw [show vl w S (ps, (0 : Int)).1 (ps, (0 : Int)).2 = 0 from v00 ps g, bit_zero] at h
    have h' : bit k (vl w S (nRun c (ps, 0) l).1 (nRun c (ps, 0) l).2) = 0 ↔ 0 = 0 ∧ num (l.map fun x => bit k (vl w S ps x)) = 0 := h
    rw [old ps g k l hl] at h'
    rw [m2.val, bit_not hk (vl_lt hS)]
    have := bit_le k (vl w S (nRun c (ps, 0) l).1 (nRun c (ps, 0) l).2)
    omega
  have hless : ∀ (l1 l2 : List Int) (ps : Gs) (r : Gs × Int), l1.length = l2.length → (∀ o ∈ l1, 0 ≤ o ∧ o < 2 * (m : Int) + 6) → (∀ o ∈ l2, 0 ≤ o ∧ o < 2 * (m : Int) + 6) → Gr w S [] ps → r = lRun c (ps, 0) (l1.zip l2) → Gr w S ps r.1 ∧ In S r.1 r.2 ∧ ∀ k < w, bit k (vl w S r.1 r.2) = if num (l1.map fun i => bit k (wAt S i)) < num (l2.map fun i => bit k (wAt S i)) then 1 else 0 := by
    intro l1 l2 ps r hl h1 h2 g er
    obtain ⟨g2, i2, s2⟩ := les_sem hS hc' (l1.zip l2) (ps, 0) (fun p hp => ⟨(in0 _ (h1 _ (List.of_mem_zip hp).1)).mono g.le, (in0 _ (h2 _ (List.of_mem_zip hp).2)).mono g.le⟩) ((in0 0 (by omega)).mono g.le)
    rw [← er] at g2 i2 s2
    refine ⟨g2, i2, fun k hk => bit01 (bit_le _ _) ?_⟩
    have h := s2 k hk
    have z := zmap hl fun x => bit k (vl w S ps x)
    rw [show vl w S (ps, (0 : Int)).1 (ps, (0 : Int)).2 = 0 from v00 ps g, bit_zero] at h
    have h' : bit k (vl w S r.1 r.2) = 1 ↔ num ((l1.zip l2).map fun p => bit k (vl w S ps p.1)) < num ((l1.zip l2).map fun p => bit k (vl w S ps p.2)) ∨ (num ((l1.zip l2).map fun p => bit k (vl w S ps p.1)) = num ((l1.zip l2).map fun p => bit k (vl w S ps p.2)) ∧ 0 = 1) := h
    rw [z.1, z.2, old ps g k l1 h1, old ps g k l2 h2] at h'
    rw [h']
    omega
  obtain ⟨g0, i0, s0⟩ := hnone own [] r0 bo Gr.refl e0
  obtain ⟨g1, i1, s1⟩ := hless own given r0.1 r1 (by omega) bo bg g0 e1
  have G1 := g0.trans g1
  have lz : (own.zip given).length = m := by rw [List.length_zip]; omega
  -- more
  obtain ⟨g2, _, n2, f2, l2, j2, s2⟩ := add_sem hS hc' (own.zip given) ⟨r1.1, [], 0⟩ (fun p hp => ⟨(in0 _ (bo _ (List.of_mem_zip hp).1)).mono G1.le, (in0 _ (bg _ (List.of_mem_zip hp).2)).mono G1.le⟩) ((in0 0 (by omega)).mono G1.le)
  rw [← e2] at g2 f2 j2 s2
  have f2' : r2.ws = n2 := f2
  have g2' : Gr w S r1.1 r2.ps := g2
  have G2 := G1.trans g2'
  rw [lz] at l2
  -- the others
  obtain ⟨g3, n3, f3, l3, j3, s3⟩ := oth_sem (w := w) hc' given (r2.ps, []) (fun x hx => (in0 x (bg x hx)).mono G2.le)
  rw [← e3] at g3 f3 j3 s3
  have f3' : r3.2 = n3 := f3
  have g3' : Gr w S r2.ps r3.1 := g3
  have G3 := G2.trans g3'
  rw [← f3'] at l3 j3 s3
  have lz4 : (own.zip r3.2).length = m := by rw [List.length_zip]; omega
  -- taken
  obtain ⟨g4, _, n4, f4, l4, j4, s4⟩ := add_sem hS hc' (own.zip r3.2) ⟨r3.1, [], 1⟩ (fun p hp => ⟨(in0 _ (bo _ (List.of_mem_zip hp).1)).mono G3.le, j3 _ (List.of_mem_zip hp).2⟩) ((in0 1 (by omega)).mono G3.le)
  rw [← e4] at g4 f4 j4 s4
  have f4' : r4.ws = n4 := f4
  have g4' : Gr w S r3.1 r4.ps := g4
  have G4 := G3.trans g4'
  rw [lz4] at l4
  -- cleared
  have i14 : In S r4.ps r1.2 := i1.mono (g2'.trans (g3'.trans g4')).le
  have lz5 : ((List.replicate m (0 : Int)).zip own).length = m := by rw [List.length_zip, List.length_replicate]; omega
  obtain ⟨g5, n5, f5, l5, j5, s5⟩ := cho_sem (wh := r1.2) hS hc' ((List.replicate m 0).zip own) (r4.ps, []) (fun p hp => ⟨by rw [List.eq_of_mem_replicate (List.of_mem_zip hp).1]; exact (in0 0 (by omega)).mono G4.le, (in0 _ (bo _ (List.of_mem_zip hp).2)).mono G4.le⟩) i14
  rw [← e5] at g5 f5 j5 s5
  have f5' : r5.2 = n5 := f5
  have g5' : Gr w S r4.ps r5.1 := g5
  have G5 := G4.trans g5'
  rw [lz5] at l5
  -- some
  have g25 := g3'.trans (g4'.trans g5')
  have i2 : ∀ x ∈ r2.ws, In S r5.1 x := fun x hx => (j2 x (f2' ▸ hx)).mono g25.le
  have i4 : ∀ x ∈ r4.ws, In S r5.1 x := fun x hx => (j4 x (f4' ▸ hx)).mono g5'.le
  have i5 : ∀ x ∈ r5.2, In S r5.1 x := fun x hx => j5 x (f5' ▸ hx)
  have ig : ∀ x ∈ given, In S r5.1 x := fun x hx => (in0 x (bg x hx)).mono G5.le
  have ix : ∀ x ∈ [x0, x1, x2, x3], In S r5.1 x := fun x hx => (in0 x (bx x hx)).mono G5.le
  have hl2 : r2.ws.length = m := by rw [f2']; exact l2
  have hl4 : r4.ws.length = m := by rw [f4']; exact l4
  have hl5 : r5.2.length = m := by rw [f5']; exact l5
  obtain ⟨g6, j6, s6⟩ := pick_sem (prs := [(x0, r2.ws), (x1, r4.ws), (x2, given), (x3, r5.2)]) (ps := r5.1) hS hc' ((in0 0 (by omega)).mono G5.le) (v00 _ G5) m (fun pr hpr => by
    simp only [List.mem_cons, List.not_mem_nil, or_false] at hpr
    rcases hpr with rfl | rfl | rfl | rfl
    · exact ⟨ix x0 (by simp), fun fig hf => i2 _ (getD_mem (by omega))⟩
    · exact ⟨ix x1 (by simp), fun fig hf => i4 _ (getD_mem (by omega))⟩
    · exact ⟨ix x2 (by simp), fun fig hf => ig _ (getD_mem (by omega))⟩
    · exact ⟨ix x3 (by simp), fun fig hf => i5 _ (getD_mem (by omega))⟩)
  have l6 := (pRun_len (c := c) (prs := [(x0, r2.ws), (x1, r4.ws), (x2, given), (x3, r5.2)]) (ps := r5.1) m).2
  rw [← e6] at g6 j6 s6 l6
  have G6 := G5.trans g6
  obtain ⟨g7, i7, s7⟩ := hnone [x0, x1, x2, x3] r6.1 r7 bx G6 e7
  have G7 := G6.trans g7
  have lz8 : (own.zip r6.2).length = m := by rw [List.length_zip]; omega
  obtain ⟨g8, n8, f8, l8, j8, s8⟩ := cho_sem (wh := r7.2) hS hc' (own.zip r6.2) (r7.1, []) (fun p hp => ⟨(in0 _ (bo _ (List.of_mem_zip hp).1)).mono G7.le, (j6 _ (List.of_mem_zip hp).2).mono g7.le⟩) i7
  rw [← e8] at g8 f8 j8 s8
  have f8' : r8.2 = n8 := f8
  have g8' : Gr w S r7.1 r8.1 := g8
  rw [← f8'] at l8 j8 s8
  rw [lz8] at l8
  have g18 : Gr w S r1.1 r8.1 := (g2'.trans g25).trans ((g6.trans g7).trans g8')
  have g08 := g1.trans g18
  refine ⟨g8'.well (G7.well (by unfold gatesOk; rfl)), l8, fun x hx => ?_, fun k hk => ⟨?_, by rw [g08.old _ i0]; exact s0 k hk, by rw [g18.old _ i1]; exact s1 k hk⟩⟩
  · rcases List.mem_append.mp hx with hx | hx
    · exact j8 x hx
    · simp only [List.mem_cons, List.not_mem_nil, or_false] at hx
      rcases hx with rfl | rfl
      · exact i0.mono g08.le
      · exact i1.mono g18.le
  -- the number
  rw [s8 k hk]
  have z := zmap (os := own) (as := r6.2) (by omega) fun x => bit k (vl w S r7.1 x)
  have eo : (own.map fun x => bit k (vl w S r7.1 x)) = own.map fun x => bit k (wAt S x) := old r7.1 G7 k own bo
  have e67 : (r6.2.map fun x => bit k (vl w S r7.1 x)) = r6.2.map fun x => bit k (vl w S r6.1 x) := List.map_congr_left fun x hx => by rw [g7.old x (j6 x hx)]
  have e66 : (r6.2.map fun x => bit k (vl w S r6.1 x)) = (List.range m).map fun fig => bit k (due (vl w S r5.1) fig [(x0, r2.ws), (x1, r4.ws), (x2, given), (x3, r5.2)] 0) := by
    have := congrArg (fun l => l.map (bit k)) s6
    simp only [List.map_map] at this
    exact this
  show num ((own.zip r6.2).map fun p => if bit k (vl w S r7.1 r7.2) = 1 then bit k (vl w S r7.1 p.1) else bit k (vl w S r7.1 p.2)) = _
  have hst := s7 k hk
  have bown : num (own.map fun i => bit k (wAt S i)) < 2 ^ m := by have := num_lt (bits_le k (wAt S) own); rw [List.length_map, lo] at this; exact this
  have bgiv : num (given.map fun i => bit k (wAt S i)) < 2 ^ m := by have := num_lt (bits_le k (wAt S) given); rw [List.length_map, lg] at this; exact this
  unfold nextN
  by_cases hw0 : num ([x0, x1, x2, x3].map fun i => bit k (wAt S i)) = 0
  · rw [if_pos hw0] at hst ⊢
    simp only [if_pos hst]
    rw [z.1, eo]
  rw [if_neg hw0] at hst ⊢
  have hst' : ¬ bit k (vl w S r7.1 r7.2) = 1 := by omega
  simp only [if_neg hst']
  rw [z.2, e67, e66, pick_num k hl2 hl4 lg hl5]
  -- the wires
  have wx : ∀ x ∈ [x0, x1, x2, x3], bit k (vl w S r5.1 x) = bit k (wAt S x) := fun x hx => by rw [G5.old x (in0 x (bx x hx))]; rfl
  have wt : ∀ i, (num ([x0, x1, x2, x3].map fun i => bit k (wAt S i))).testBit i = decide (([x0, x1, x2, x3].map fun i => bit k (wAt S i)).getD i 0 = 1) := fun i => num_test i (bits_le k _ _)
  have t0 : ((num ([x0, x1, x2, x3].map fun i => bit k (wAt S i))).testBit 0 = true) = (bit k (vl w S r5.1 x0) = 1) := by
    rw [wt, wx x0 (by simp)]; show (decide (bit k (wAt S x0) = 1) = true) = _; simp
  have t1 : ((num ([x0, x1, x2, x3].map fun i => bit k (wAt S i))).testBit 1 = true) = (bit k (vl w S r5.1 x1) = 1) := by
    rw [wt, wx x1 (by simp)]; show (decide (bit k (wAt S x1) = 1) = true) = _; simp
  have t2 : ((num ([x0, x1, x2, x3].map fun i => bit k (wAt S i))).testBit 2 = true) = (bit k (vl w S r5.1 x2) = 1) := by
    rw [wt, wx x2 (by simp)]; show (decide (bit k (wAt S x2) = 1) = true) = _; simp
  have t3 : ((num ([x0, x1, x2, x3].map fun i => bit k (wAt S i))).testBit 3 = true) = (bit k (vl w S r5.1 x3) = 1) := by
    rw [wt, wx x3 (by simp)]; show (decide (bit k (wAt S x3) = 1) = true) = _; simp
  simp only [t0, t1, t2, t3]
  -- the numbers
  have zr := zmap (os := own) (as := given) (by omega) fun x => bit k (vl w S r1.1 x)
  have a2 := s2 k hk
  have a2' : num (n2.map fun x => bit k (vl w S r2.ps x)) + 2 ^ (own.zip given).length * bit k (vl w S r2.ps r2.cy) = num ((own.zip given).map fun p => bit k (vl w S r1.1 p.1)) + num ((own.zip given).map fun p => bit k (vl w S r1.1 p.2)) + bit k (vl w S r1.1 0) := a2
  rw [zr.1, zr.2, v00 _ G1, bit_zero, old _ G1 k own bo, old _ G1 k given bg, lz, Nat.add_zero] at a2'
  have q2 : (r2.ws.map fun y => bit k (vl w S r5.1 y)) = n2.map fun x => bit k (vl w S r2.ps x) := by rw [f2']; exact List.map_congr_left fun x hx => by rw [g25.old x (j2 x hx)]
  have b2 : num (n2.map fun x => bit k (vl w S r2.ps x)) < 2 ^ m := by have := num_lt (bits_le k (vl w S r2.ps) n2); rw [List.length_map, l2] at this; exact this
  have k2 : num (r2.ws.map fun y => bit k (vl w S r5.1 y)) = (num (own.map fun i => bit k (wAt S i)) + num (given.map fun i => bit k (wAt S i))) % 2 ^ m := by
    rw [q2, ← a2', Nat.add_mul_mod_self_left, Nat.mod_eq_of_lt b2]
  have zr4 := zmap (os := own) (as := r3.2) (by omega) fun x => bit k (vl w S r3.1 x)
  have a4 := s4 k hk
  have a4' : num (n4.map fun x => bit k (vl w S r4.ps x)) + 2 ^ (own.zip r3.2).length * bit k (vl w S r4.ps r4.cy) = num ((own.zip r3.2).map fun p => bit k (vl w S r3.1 p.1)) + num ((own.zip r3.2).map fun p => bit k (vl w S r3.1 p.2)) + bit k (vl w S r3.1 1) := a4
  have o3 : (r3.2.map fun x => bit k (vl w S r3.1 x)) = (given.map fun i => bit k (wAt S i)).map fun b => 1 - b := by
    have := congrArg (fun l => l.map (bit k)) s3
    simp only [List.map_map] at this
    have h1 : (r3.2.map fun x => bit k (vl w S r3.1 x)) = given.map (bit k ∘ fun x => 2 ^ w - 1 - vl w S r2.ps x) := this
    rw [h1, List.map_map]
    refine List.map_congr_left fun x hx => ?_
    show bit k (2 ^ w - 1 - vl w S r2.ps x) = 1 - bit k (wAt S x)
    rw [bit_not hk (vl_lt hS), G2.old x (in0 x (bg x hx))]; rfl
  rw [zr4.1, zr4.2, v01 _ G3, bit_high hk, old _ G3 k own bo, o3, lz4] at a4'
  have nn := num_not (bits_le k (wAt S) given)
  have nr := num_rep1 m
  rw [List.length_map, lg] at nn
  have q4 : (r4.ws.map fun y => bit k (vl w S r5.1 y)) = n4.map fun x => bit k (vl w S r4.ps x) := by rw [f4']; exact List.map_congr_left fun x hx => by rw [g5'.old x (j4 x hx)]
  have b4 : num (n4.map fun x => bit k (vl w S r4.ps x)) < 2 ^ m := by have := num_lt (bits_le k (vl w S r4.ps) n4); rw [List.length_map, l4] at this; exact this
  have k4 : num (r4.ws.map fun y => bit k (vl w S r5.1 y)) = takenN m (num (own.map fun i => bit k (wAt S i))) (num (given.map fun i => bit k (wAt S i))) := by
    rw [q4]
    unfold takenN
    have bc := bit_le k (vl w S r4.ps r4.cy)
    rcases (show bit k (vl w S r4.ps r4.cy) = 0 ∨ bit k (vl w S r4.ps r4.cy) = 1 by omega) with hb | hb
    · rw [hb, Nat.mul_zero] at a4'
      rw [if_neg (by omega)]; omega
    · rw [hb, Nat.mul_one] at a4'
      rw [if_pos (by omega)]; omega
  have kg : num (given.map fun y => bit k (vl w S r5.1 y)) = num (given.map fun i => bit k (wAt S i)) := by rw [old _ G5 k given bg]
  have q5 : (r5.2.map fun y => bit k (vl w S r5.1 y)) = ((List.replicate m (0 : Int)).zip own).map fun p => if bit k (vl w S r4.ps r1.2) = 1 then bit k (vl w S r4.ps p.1) else bit k (vl w S r4.ps p.2) := by rw [f5']; exact s5 k hk
  have z5 := zmap (os := List.replicate m (0 : Int)) (as := own) (by rw [List.length_replicate]; omega) fun x => bit k (vl w S r4.ps x)
  have o1 : vl w S r4.ps r1.2 = vl w S r1.1 r1.2 := (g2'.trans (g3'.trans g4')).old _ i1
  have k5 : num (r5.2.map fun y => bit k (vl w S r5.1 y)) = if num (own.map fun i => bit k (wAt S i)) < num (given.map fun i => bit k (wAt S i)) then 0 else num (own.map fun i => bit k (wAt S i)) := by
    rw [q5, o1]
    have h1 := s1 k hk
    by_cases hl : num (own.map fun i => bit k (wAt S i)) < num (given.map fun i => bit k (wAt S i))
    · rw [if_pos hl] at h1 ⊢
      simp only [if_pos h1]
      rw [z5.1, List.map_replicate, v00 _ G4, bit_zero]
      exact num_rep0 m
    · rw [if_neg hl] at h1 ⊢
      have h1' : ¬ bit k (vl w S r1.1 r1.2) = 1 := by omega
      simp only [if_neg h1']
      rw [z5.2, old _ G4 k own bo]
  rw [k2, k4, kg, k5]
end K9

set_option Elab.async false
set_option linter.all false
set_option maxRecDepth 100000
set_option maxHeartbeats 4000000
namespace K9
open PySem L2
theorem fromN_take (a : Int) (n m : Nat) (h : m ≤ n) : (fromN a (n : Int)).take m = fromN a (m : Int) := by
  unfold fromN
  rw [← List.map_take, List.take_range, Int.toNat_natCast, Int.toNat_natCast, Nat.min_eq_left h]
theorem fromN_drop (a : Int) (n m : Nat) : (fromN a ((m + n : Nat) : Int)).drop m = fromN (a + (m : Int)) (n : Int) := by
  unfold fromN
  apply List.ext_getElem?
  intro i
  rw [List.getElem?_drop, List.getElem?_map, List.getElem?_map, Int.toNat_natCast, Int.toNat_natCast]
  by_cases hi : i < n
  · rw [List.getElem?_range (by omega), List.getElem?_range hi]
    show some (a + ((m + i : Nat) : Int)) = some (a + (m : Int) + (i : Int))
    congr 1; omega
  · rw [List.getElem?_eq_none (by rw [List.length_range]; omega), List.getElem?_eq_none (by rw [List.length_range]; omega)]; rfl
theorem ctWires_eq (m : Nat) : ctWires m = [2 + (m : Int), 2 + (m : Int) + 1, 2 + (m : Int) + 2, 2 + (m : Int) + 3] := by
  unfold ctWires fromN
  show [2 + (m : Int) + 0, 2 + (m : Int) + 1, 2 + (m : Int) + 2, 2 + (m : Int) + 3] = _
  rw [Int.add_zero]
theorem rep_zero : ∀ m : Nat, (List.replicate m [V.int 0]).flatten = (List.replicate m (0 : Int)).map V.int
  | 0 => rfl
  | m + 1 => by rw [List.replicate_succ, List.flatten_cons, rep_zero m]; rfl
theorem fromN_lenI {a : Int} {m : Nat} : (fromN a (m : Int)).length = m := by unfold fromN; rw [List.length_map, List.length_range]; rfl
theorem fromN_memI {a : Int} {n : Nat} {x : Int} (h : x ∈ fromN a (n : Int)) : a ≤ x ∧ x < a + (n : Int) := by
  unfold fromN at h
  obtain ⟨i, hi, rfl⟩ := List.mem_map.mp h
  have := List.mem_range.mp hi
  omega
theorem aRun_ws {c : Int} : ∀ (l : List (Int × Int)) (s : Ad), (aRun c s l).ws.length = s.ws.length + l.length
  | [], s => rfl
  | p :: l, s => by
    show (aRun c (aStep c s p) l).ws.length = _
    rw [aRun_ws l]
    show (s.ws ++ [_]).length + l.length = _
    rw [List.length_append]
    have e : (p :: l).length = l.length + 1 := List.length_cons
    show s.ws.length + 1 + l.length = _; omega
def sp_counter : Sp := fun vs H Q _ => ∃ m : Nat, vs = [.int (m : Int)] ∧ 1 ≤ m ∧ m ≤ 12 ∧ ∀ (t ga na oa : Addr) (gs : List V) (H' : Hp), Same H H' → NetF H' t ga na oa gs (ctNet m) → Q (.ref t) H'
section
variable {P : Program} {w : World} {K : PySem.W.Frag} {mg : Str → Option Value} {base : Heap}
theorem sc_law_counter : FnScope ["_law_many", "_law_maker", "_law_inputs", "_law_given", "_law_wires", "_law_own", "_law_none", "_law_less", "_law_more", "_law_taken", "_law_cleared", "_law_some", "_law_stays"] ["_law_many"] (defScope s_law_counter) := ⟨rfl, rfl, rfl, by decide +kernel, rfl, by decide +kernel, by decide +kernel⟩
theorem ok_law_counter {f C fi fad foo fac fno fle fpf fpi g1 g2 g3 g4 g5 g6 g7 g8 g9 : Addr} {fd fdi dad doo dac dno dle dpf dpi d1 d2 d3 d4 d5 d6 d7 d8 d9 : FuncData} {tk : Tok} (F : Fun K "_law_counter" "_law_counter" s_law_counter f fd) (T : Bt mg) (hfw : mg "FIXED_WIRES" = some (.int 2 tk))
    (T_added : Fn K mg "added" s_added ["maker", "ones", "others", "carry"] fad dad) (T_others_of : Fn K mg "others_of" s_others_of ["maker", "ones"] foo doo)
    (T_all_chosen : Fn K mg "all_chosen" s_all_chosen ["maker", "which", "ones", "others"] fac dac) (T_is_none : Fn K mg "is_none" s_is_none ["maker", "ones"] fno dno) (T_is_less : Fn K mg "is_less" s_is_less ["maker", "ones", "others"] fle dle)
    (T_picked_figure : Fn K mg "picked_figure" s_picked_figure ["maker", "pairs", "figure"] fpf dpf) (T_picked : Fn K mg "picked" s_picked ["maker", "pairs"] fpi dpi)
    (T_Maker : Mc K mg C fi fdi) (T_Maker_inputs : Mt K C "inputs" "Maker.inputs" s_Maker_inputs ["self"] g5 d5) (T_Maker_keepers : Mt K C "keepers" "Maker.keepers" s_Maker_keepers ["self"] g7 d7)
    (T_Maker_nand : Mt K C "nand" "Maker.nand" s_Maker_nand ["self", "a", "b"] g1 d1) (T_Maker_other : Mt K C "other" "Maker.other" s_Maker_other ["self", "a"] g2 d2) (T_Maker_both : Mt K C "both" "Maker.both" s_Maker_both ["self", "a", "b"] g8 d8)
    (T_Maker_either : Mt K C "either" "Maker.either" s_Maker_either ["self", "a", "b"] g6 d6) (T_Maker_unlike : Mt K C "unlike" "Maker.unlike" s_Maker_unlike ["self", "a", "b"] g3 d3) (T_Maker_chosen : Mt K C "chosen" "Maker.chosen" s_Maker_chosen ["self", "which", "a", "b"] g4 d4)
    (T_Maker_net : Mt K C "net" "Maker.net" s_Maker_net ["self", "nexts", "outs"] g9 d9) :
    FnOk P w K mg base CX0 6 f fd ["_law_many"] sp_counter := by
  have G_Maker___init__ := ok_Maker___init__ (P := P) (w := w) (base := base) T_Maker
  have G_Maker_inputs := ok_Maker_inputs (P := P) (w := w) (base := base) T_Maker T hfw T_Maker_inputs
  have G_Maker_keepers := ok_Maker_keepers (P := P) (w := w) (base := base) T_Maker T hfw T_Maker_keepers
  have G_Maker_nand := ok_Maker_nand (P := P) (w := w) (base := base) T_Maker T hfw T_Maker_nand
  have G_Maker_other := ok_Maker_other (P := P) (w := w) (base := base) T_Maker T_Maker_nand T_Maker_other G_Maker_nand
  have G_Maker_both := ok_Maker_both (P := P) (w := w) (base := base) T_Maker T_Maker_nand T_Maker_other T_Maker_both G_Maker_nand G_Maker_other
  have G_Maker_either := ok_Maker_either (P := P) (w := w) (base := base) T_Maker T_Maker_nand T_Maker_other T_Maker_either G_Maker_nand G_Maker_other
  have G_Maker_unlike := ok_Maker_unlike (P := P) (w := w) (base := base) T_Maker T_Maker_nand T_Maker_unlike G_Maker_nand
  have G_Maker_chosen := ok_Maker_chosen (P := P) (w := w) (base := base) T_Maker T_Maker_nand T_Maker_other T_Maker_chosen G_Maker_nand G_Maker_other
  have G_Maker_net := ok_Maker_net (P := P) (w := w) (base := base) T_Maker T T_Maker_net
  have G_added := ok_added (P := P) (w := w) (base := base) T_added.F T T_Maker T_Maker_unlike T_Maker_chosen G_Maker_unlike G_Maker_chosen
  have G_others_of := ok_others_of (P := P) (w := w) (base := base) T_others_of.F T_Maker T_Maker_other G_Maker_other
  have G_all_chosen := ok_all_chosen (P := P) (w := w) (base := base) T_all_chosen.F T T_Maker T_Maker_chosen G_Maker_chosen
  have G_is_none := ok_is_none (P := P) (w := w) (base := base) T_is_none.F T_Maker T_Maker_other G_Maker_other T_Maker_either G_Maker_either
  have G_is_less := ok_is_less (P := P) (w := w) (base := base) T_is_less.F T T_Maker T_Maker_unlike T_Maker_chosen G_Maker_unlike G_Maker_chosen
  have G_picked := ok_picked (P := P) (w := w) (base := base) T_picked.F T T_picked_figure T_Maker T_Maker_both G_Maker_both T_Maker_either G_Maker_either
  refine F.ok sc_law_counter (fun vs H Q E h => ?_) (fun cdv A outer s H vs Q E hr h => ?_)
  · obtain ⟨m, rfl, _⟩ := h; rfl
  · obtain ⟨m, rfl, hm1, hm12, q⟩ := h
    have hs : sizeLine = 16777216 := sizeLine_eq
    refine ⟨_, (pss_cons (ps_set (i := 1) sc_law_counter.nd rfl (Or.inl rfl) (pe_make T_Maker.mks G_Maker___init__ (hr.mono (by decide)) rfl T_Maker.mg T_Maker.b .nil pass0 (pa_cons (pe_op op_add (pv 0) pe_int) (pa_cons (pv 0) pa_nil))))
      (pss_cons (ps_set (i := 2) sc_law_counter.nd rfl (Or.inl rfl) (pe_meth0 (pv 1) T_Maker.cl T_Maker_inputs.me G_Maker_inputs (hr.mono (by decide)) T_Maker_inputs.b .nil pass0))
      (pss_cons (ps_set (i := 3) sc_law_counter.nd rfl (Or.inl rfl) (pe_slice sl_list (pv 2) po_none (po_some (pv 0))))
      (pss_cons (ps_set (i := 4) sc_law_counter.nd rfl (Or.inl rfl) (pe_slice sl_list (pv 2) (po_some (pv 0)) po_none))
      (pss_cons (ps_set (i := 5) sc_law_counter.nd rfl (Or.inl rfl) (pe_meth0 (pv 1) T_Maker.cl T_Maker_keepers.me G_Maker_keepers (hr.mono (by decide)) T_Maker_keepers.b .nil pass0))
      (pss_cons (ps_set (i := 6) sc_law_counter.nd rfl (Or.inl rfl) (pe_call G_is_none (hr.mono (by decide)) rfl T_is_none.m T_is_none.F.kp T_is_none.b .nil pass0 (pa_cons (pv 1) (pa_cons (pv 5) pa_nil))))
      (pss_cons (ps_set (i := 7) sc_law_counter.nd rfl (Or.inl rfl) (pe_call G_is_less (hr.mono (by decide)) rfl T_is_less.m T_is_less.F.kp T_is_less.b .nil pass0 (pa_cons (pv 1) (pa_cons (pv 5) (pa_cons (pv 3) pa_nil)))))
      (pss_cons (ps_set (i := 8) sc_law_counter.nd rfl (Or.inl rfl) (pe_ix ix_tup (pe_call G_added (hr.mono (by decide)) rfl T_added.m T_added.F.kp T_added.b .nil pass0 (pa_cons (pv 1) (pa_cons (pv 5) (pa_cons (pv 3) (pa_cons pe_int pa_nil))))) pe_int (fun _ _ => rfl)))
      (pss_cons (ps_set (i := 9) sc_law_counter.nd rfl (Or.inl rfl) (pe_ix ix_tup (pe_call G_added (hr.mono (by decide)) rfl T_added.m T_added.F.kp T_added.b .nil pass0 (pa_cons (pv 1) (pa_cons (pv 5) (pa_cons (pe_call G_others_of (hr.mono (by decide)) rfl T_others_of.m T_others_of.F.kp T_others_of.b .nil pass0 (pa_cons (pv 1) (pa_cons (pv 3) pa_nil))) (pa_cons pe_int pa_nil))))) pe_int (fun _ _ => rfl)))
      (pss_cons (ps_set (i := 10) sc_law_counter.nd rfl (Or.inl rfl) (pe_call G_all_chosen (hr.mono (by decide)) rfl T_all_chosen.m T_all_chosen.F.kp T_all_chosen.b .nil pass0 (pa_cons (pv 1) (pa_cons (pv 7) (pa_cons (pe_op op_rep (pe_lst (pa_cons pe_int pa_nil)) (pv 0)) (pa_cons (pv 5) pa_nil))))))
      (pss_cons (ps_set (i := 11) sc_law_counter.nd rfl (Or.inl rfl) (pe_call G_picked (hr.mono (by decide)) rfl T_picked.m T_picked.F.kp T_picked.b .nil pass0 (pa_cons (pv 1) (pa_cons (pe_lst (pa_cons (pe_tup (pa_cons (pe_ix ix_list (pv 4) pe_int (fun _ _ => rfl)) (pa_cons (pv 8) pa_nil))) (pa_cons (pe_tup (pa_cons (pe_ix ix_list (pv 4) pe_int (fun _ _ => rfl)) (pa_cons (pv 9) pa_nil))) (pa_cons (pe_tup (pa_cons (pe_ix ix_list (pv 4) pe_int (fun _ _ => rfl)) (pa_cons (pv 3) pa_nil))) (pa_cons (pe_tup (pa_cons (pe_ix ix_list (pv 4) pe_int (fun _ _ => rfl)) (pa_cons (pv 10) pa_nil))) pa_nil))))) pa_nil))))
      (pss_cons (ps_set (i := 12) sc_law_counter.nd rfl (Or.inl rfl) (pe_call G_is_none (hr.mono (by decide)) rfl T_is_none.m T_is_none.F.kp T_is_none.b .nil pass0 (pa_cons (pv 1) (pa_cons (pv 4) pa_nil))))
      (pss_one (ps_ret (pe_meth (pv 1) T_Maker.cl T_Maker_net.me G_Maker_net (hr.mono (by decide)) T_Maker_net.b .nil pass0 (pa_cons (pe_call G_all_chosen (hr.mono (by decide)) rfl T_all_chosen.m T_all_chosen.F.kp T_all_chosen.b .nil pass0 (pa_cons (pv 1) (pa_cons (pv 12) (pa_cons (pv 5) (pa_cons (pv 11) pa_nil))))) (pa_cons (pe_lst (pa_cons (pv 6) (pa_cons (pv 7) pa_nil))) pa_nil))))))))))))))))), ?_⟩
    refine ⟨_, rfl, _, _, rfl, rfl, _, rfl, fun x dx nx0 ndx nex => ⟨x, dx, _, _, rfl, upd_same, fun g HM hg M kpM => ⟨rfl, ?_⟩⟩⟩
    have s0 : Same H (upd (upd H dx (.own x)) x (.ins C dx [])) := fun b o e => by
      rw [upd_ne (ne_of_none e nx0), upd_ne (ne_of_none e ndx)]
      exact e
    have sM : Same H HM := fun b o e => kpM b o (s0 b o e) (ne_of_none e nx0)
    have Hg : H g = none := s0.free hg
    obtain ⟨⟨dy, ho⟩, _⟩ := id M
    refine ⟨_, rfl, x, dy, _, rfl, ho, fl_no (by decide +kernel) (by decide +kernel) (by decide +kernel), x, g, _, _, [], rfl, M, ⟨by omega, by omega⟩, ⟨by omega, by omega⟩, fun il HI sI nil eil => ?_⟩
    have MI := M.same sI
    have hn : (m : Int) + 4 = ((m + 4 : Nat) : Int) := by omega
    have eil' : HI il = some (.lst ((fromN 2 ((m + 4 : Nat) : Int)).map V.int)) := by rw [← hn]; exact eil
    have lfr : (fromN 2 ((m + 4 : Nat) : Int)).length = m + 4 := fromN_lenI
    have sHI := sM.trans sI
    -- given
    refine ⟨_, rfl, _, rfl, _, rfl, il, _, rfl, SqL.of eil', fun gl hgl => ?_⟩
    rw [show cutV ((fromN 2 ((m + 4 : Nat) : Int)).map V.int) none (some (m : Int)) = (ctGiven m).map V.int by
      rw [cutV_to _ _ _ (by omega) (by omega), Int.toNat_natCast, fromN_take _ _ _ (by omega)]; rfl]
    have y1 := Same.put (o := .lst ((ctGiven m).map V.int)) hgl
    have glg : gl ≠ g := MI.ne hgl
    have egl : upd HI gl (.lst ((ctGiven m).map V.int)) gl = some (.lst ((ctGiven m).map V.int)) := upd_same
    generalize upd HI gl (.lst ((ctGiven m).map V.int)) = HJ at y1 egl ⊢
    -- wires
    refine ⟨_, rfl, _, rfl, _, rfl, il, _, rfl, SqL.of (y1 _ _ eil'), fun wl hwl => ?_⟩
    rw [show cutV ((fromN 2 ((m + 4 : Nat) : Int)).map V.int) (some (m : Int)) none = (ctWires m).map V.int by
      rw [cutV_from _ _ _ (by omega) (by omega), Int.toNat_natCast, fromN_drop]; rfl]
    have y2 := Same.put (o := .lst ((ctWires m).map V.int)) hwl
    have wlg : wl ≠ g := (MI.same y1).ne hwl
    have ewl : upd HJ wl (.lst ((ctWires m).map V.int)) wl = some (.lst ((ctWires m).map V.int)) := upd_same
    have egl2 := y2 _ _ egl
    have M2 := (MI.same y1).same y2
    have sH2 := (sHI.trans y1).trans y2
    generalize upd HJ wl (.lst ((ctWires m).map V.int)) = H2 at ewl egl2 M2 sH2 ⊢
    -- own
    obtain ⟨⟨dy2, ho2⟩, _⟩ := id M2
    refine ⟨_, rfl, x, dy2, _, rfl, ho2, fl_no (by decide +kernel) (by decide +kernel) (by decide +kernel), x, g, _, _, [], rfl, M2, ⟨by omega, by omega⟩, ⟨by omega, by omega⟩, fun ol H3 s3 nol eol => ?_⟩
    have olg : ol ≠ g := M2.ne nol
    have eol3 : H3 ol = some (.lst ((ctOwn m).map V.int)) := eol
    have egl3 := s3 _ _ egl2
    have ewl3 := s3 _ _ ewl
    have M3 := M2.same s3
    have sH3 := sH2.trans s3
    have lo : (ctOwn m).length = m := fromN_lenI
    have lg : (ctGiven m).length = m := fromN_lenI
    have lw : (ctWires m).length = 4 := by rw [ctWires_eq]; rfl
    -- none
    refine ⟨_, rfl, _, rfl, x, g, ol, _, _, [], ctOwn m, rfl, M3, eol3, olg, by omega, Nat.zero_le _, fun H4 r0 er0 M4 k4 => ?_⟩
    have q0 : r0.1.length = 3 * m + 1 := by
      have : r0.1.length = ([] : Gs).length + 3 * (ctOwn m).length + 1 := by rw [er0]; exact nRes_len
      rw [lo] at this; exact this.trans (by show 0 + 3 * m + 1 = _; omega)
    have sH4 := Kp.same sH3 Hg k4
    have egl4 := k4 _ _ egl3 glg
    have ewl4 := k4 _ _ ewl3 wlg
    have eol4 := k4 _ _ eol3 olg
    -- less
    refine ⟨_, rfl, _, rfl, _, rfl, x, g, ol, gl, _, _, r0.1, ctOwn m, ctGiven m, rfl, M4, eol4, egl4, olg, glg, by omega, by omega, by omega, fun H5 r1 er1 M5 k5 => ?_⟩
    have q1 : r1.1.length = 11 * m + 1 := by
      have : r1.1.length = r0.1.length + 8 * ((ctOwn m).zip (ctGiven m)).length := by rw [er1]; exact lRun_len _ _
      rw [List.length_zip, lo, lg, Nat.min_self] at this; omega
    have sH5 := Kp.same sH4 Hg k5
    have egl5 := k5 _ _ egl4 glg
    have ewl5 := k5 _ _ ewl4 wlg
    have eol5 := k5 _ _ eol4 olg
    -- more
    refine ⟨_, rfl, _, rfl, _, rfl, x, g, ol, gl, _, _, r1.1, ctOwn m, ctGiven m, 0, rfl, M5, eol5, egl5, olg, glg, by omega, by omega, by omega, fun t6 ml H6 r2 er2 ht6 hml mlg M6 k6 eml et6 => ?_⟩
    refine ⟨t6, _, _, _, rfl, rfl, SqT.of et6, rfl, ?_⟩
    have q2 : r2.ps.length = 23 * m + 1 := by
      have : r2.ps.length = r1.1.length + 12 * ((ctOwn m).zip (ctGiven m)).length := by rw [er2]; exact aRun_len _ _
      rw [List.length_zip, lo, lg, Nat.min_self] at this; omega
    have sH6 := Kp.same sH5 Hg k6
    have egl6 := k6 _ _ egl5 glg
    have ewl6 := k6 _ _ ewl5 wlg
    have eol6 := k6 _ _ eol5 olg
    -- taken
    refine ⟨_, rfl, _, rfl, _, rfl, _, rfl, x, g, gl, _, _, r2.ps, ctGiven m, rfl, M6, egl6, glg, by omega, by omega, fun nl H7 r3 er3 hnl nlg M7 k7 enl => ?_⟩
    have q3 : r3.1.length = 24 * m + 1 ∧ r3.2.length = m := by
      have : r3.1.length = r2.ps.length + (ctGiven m).length ∧ r3.2.length = ([] : List Int).length + (ctGiven m).length := by rw [er3]; exact oRun_len _ _
      rw [lg] at this
      exact ⟨by omega, by have := this.2; simpa using this⟩
    have sH7 := Kp.same sH6 Hg k7
    have egl7 := k7 _ _ egl6 glg
    have ewl7 := k7 _ _ ewl6 wlg
    have eol7 := k7 _ _ eol6 olg
    have eml7 := k7 _ _ eml mlg
    refine ⟨x, g, ol, nl, _, _, r3.1, ctOwn m, r3.2, 1, rfl, M7, eol7, enl, olg, nlg, by omega, by omega, by omega, fun t8 tl H8 r4 er4 ht8 htl tlg M8 k8 etl et8 => ?_⟩
    refine ⟨t8, _, _, _, rfl, rfl, SqT.of et8, rfl, ?_⟩
    have q4 : r4.ps.length = 36 * m + 1 := by
      have : r4.ps.length = r3.1.length + 12 * ((ctOwn m).zip r3.2).length := by rw [er4]; exact aRun_len _ _
      rw [List.length_zip, lo, q3.2, Nat.min_self] at this; omega
    have sH8 := Kp.same sH7 Hg k8
    have egl8 := k8 _ _ egl7 glg
    have ewl8 := k8 _ _ ewl7 wlg
    have eol8 := k8 _ _ eol7 olg
    have eml8 := k8 _ _ eml7 mlg
    -- cleared
    refine ⟨_, rfl, _, rfl, (by show 1 ≤ sizeLine; omega), fun z0 hz0 => ?_⟩
    have yz := Same.put (o := .lst [V.int 0]) hz0
    refine ⟨_, rfl, z0, (m : Int), [V.int 0], rfl, rfl, upd_same, by omega, by omega, (by rw [Int.toNat_natCast]; show 1 * m ≤ sizeLine; omega), fun zl hzl => ?_⟩
    rw [Int.toNat_natCast, rep_zero]
    have yw := Same.put (o := .lst ((List.replicate m (0 : Int)).map V.int)) hzl
    have zlg : zl ≠ g := (M8.same yz).ne hzl
    have ezl : upd (upd H8 z0 (.lst [V.int 0])) zl (.lst ((List.replicate m (0 : Int)).map V.int)) zl = some (.lst ((List.replicate m (0 : Int)).map V.int)) := upd_same
    have y9 := yz.trans yw
    generalize upd (upd H8 z0 (.lst [V.int 0])) zl (.lst ((List.replicate m (0 : Int)).map V.int)) = H9 at ezl y9 ⊢
    have sH9 := sH8.trans y9
    refine ⟨_, rfl, x, g, zl, ol, _, _, r4.ps, List.replicate m 0, ctOwn m, r1.2, rfl, M8.same y9, ezl, y9 _ _ eol8, zlg, olg, by rw [List.length_replicate, lo], by rw [List.length_replicate]; omega, by omega, fun cl HA r5 er5 hcl clg MA kA ecl => ?_⟩
    have q5 : r5.1.length = 40 * m + 1 ∧ r5.2.length = m := by
      have : r5.1.length = r4.ps.length + 4 * ((List.replicate m (0 : Int)).zip (ctOwn m)).length ∧ r5.2.length = ([] : List Int).length + ((List.replicate m (0 : Int)).zip (ctOwn m)).length := by rw [er5]; exact cRun_len _ _
      rw [List.length_zip, lo, List.length_replicate, Nat.min_self] at this
      exact ⟨by omega, by have := this.2; simpa using this⟩
    have q2w : r2.ws.length = m := by rw [er2, aRun_ws, List.length_zip, lo, lg, Nat.min_self]; show 0 + m = m; omega
    have q4w : r4.ws.length = m := by rw [er4, aRun_ws, List.length_zip, lo, q3.2, Nat.min_self]; show 0 + m = m; omega
    have sHA := Kp.same sH9 Hg kA
    have k8A : Kp g H8 HA := fun b o e n => kA b o (y9 _ _ e) n
    have eglA := k8A _ _ egl8 glg
    have ewlA := k8A _ _ ewl8 wlg
    have eolA := k8A _ _ eol8 olg
    have emlA := k8A _ _ eml8 mlg
    have etlA := k8A _ _ etl tlg
    -- the pairs
    have ew' : HA wl = some (.lst [V.int (2 + (m : Int)), V.int (2 + (m : Int) + 1), V.int (2 + (m : Int) + 2), V.int (2 + (m : Int) + 3)]) := by rw [ewlA, ctWires_eq]; rfl
    refine ⟨_, rfl, _, rfl, wl, _, _, _, rfl, rfl, SqL.of ew', rfl, _, rfl, (by show 2 ≤ sizeLine; omega), fun u1 hu1 => ?_⟩
    have z1 := Same.put (o := .tup [V.int (2 + (m : Int)), V.ref ml]) hu1
    have eu1 : upd HA u1 (.tup [V.int (2 + (m : Int)), V.ref ml]) u1 = some (.tup [V.int (2 + (m : Int)), V.ref ml]) := upd_same
    generalize upd HA u1 (.tup [V.int (2 + (m : Int)), V.ref ml]) = HB at z1 eu1 ⊢
    refine ⟨_, rfl, wl, _, _, _, rfl, rfl, SqL.of (z1 _ _ ew'), rfl, _, rfl, (by show 2 ≤ sizeLine; omega), fun u2 hu2 => ?_⟩
    have z2 := Same.put (o := .tup [V.int (2 + (m : Int) + 1), V.ref tl]) hu2
    have eu2 : upd HB u2 (.tup [V.int (2 + (m : Int) + 1), V.ref tl]) u2 = some (.tup [V.int (2 + (m : Int) + 1), V.ref tl]) := upd_same
    generalize upd HB u2 (.tup [V.int (2 + (m : Int) + 1), V.ref tl]) = HC at z2 eu2 ⊢
    have z12 := z1.trans z2
    refine ⟨_, rfl, wl, _, _, _, rfl, rfl, SqL.of (z12 _ _ ew'), rfl, _, rfl, (by show 2 ≤ sizeLine; omega), fun u3 hu3 => ?_⟩
    have z3 := Same.put (o := .tup [V.int (2 + (m : Int) + 2), V.ref gl]) hu3
    have eu3 : upd HC u3 (.tup [V.int (2 + (m : Int) + 2), V.ref gl]) u3 = some (.tup [V.int (2 + (m : Int) + 2), V.ref gl]) := upd_same
    generalize upd HC u3 (.tup [V.int (2 + (m : Int) + 2), V.ref gl]) = HD at z3 eu3 ⊢
    have z13 := z12.trans z3
    refine ⟨_, rfl, wl, _, _, _, rfl, rfl, SqL.of (z13 _ _ ew'), rfl, _, rfl, (by show 2 ≤ sizeLine; omega), fun u4 hu4 => ?_⟩
    have z4 := Same.put (o := .tup [V.int (2 + (m : Int) + 3), V.ref cl]) hu4
    have eu4 : upd HD u4 (.tup [V.int (2 + (m : Int) + 3), V.ref cl]) u4 = some (.tup [V.int (2 + (m : Int) + 3), V.ref cl]) := upd_same
    generalize upd HD u4 (.tup [V.int (2 + (m : Int) + 3), V.ref cl]) = HE at z4 eu4 ⊢
    have z14 := z13.trans z4
    refine ⟨(by show 4 ≤ sizeLine; omega), fun pl hpl => ?_⟩
    have z5 := Same.put (o := .lst [V.ref u1, V.ref u2, V.ref u3, V.ref u4]) hpl
    have epl : upd HE pl (.lst [V.ref u1, V.ref u2, V.ref u3, V.ref u4]) pl = some (.lst [V.ref u1, V.ref u2, V.ref u3, V.ref u4]) := upd_same
    have plg : pl ≠ g := (MA.same z14).ne hpl
    generalize upd HE pl (.lst [V.ref u1, V.ref u2, V.ref u3, V.ref u4]) = HF at z5 epl ⊢
    have z15 := z14.trans z5
    have z25 := (z3.trans z4).trans z5
    have MF := MA.same z15
    have sHF := sHA.trans z15
    have hP : Paired (PairAt (fun b => b = g) HF) [V.ref u1, V.ref u2, V.ref u3, V.ref u4] [(2 + (m : Int), r2.ws), (2 + (m : Int) + 1, r4.ws), (2 + (m : Int) + 2, ctGiven m), (2 + (m : Int) + 3, r5.2)] :=
      .cons ⟨u1, ml, rfl, (z2.trans z25) _ _ eu1, z15 _ _ emlA, mlg⟩ (.cons ⟨u2, tl, rfl, z25 _ _ eu2, z15 _ _ etlA, tlg⟩ (.cons ⟨u3, gl, rfl, (z4.trans z5) _ _ eu3, z15 _ _ eglA, glg⟩ (.cons ⟨u4, cl, rfl, z5 _ _ eu4, z15 _ _ ecl, clg⟩ .nil)))
    refine ⟨fun b => b = g, x, g, pl, _, _, r5.1, _, _, m, rfl, MF, epl, plg, rfl, hP, (fun pr hpr => ?_), (by show 0 < 4; decide), (by show 4 ≤ 100; decide), by omega, by omega, fun so HG r6 er6 hso sog MG kG eso => ?_⟩
    · simp only [List.mem_cons, List.not_mem_nil, or_false] at hpr
      rcases hpr with rfl | rfl | rfl | rfl
      · exact q2w
      · exact q4w
      · exact lg
      · exact q5.2
    have q6 : r6.1.length = 60 * m + 1 ∧ r6.2.length = m := by
      have : r6.1.length = r5.1.length + 5 * 4 * m ∧ r6.2.length = m := by rw [er6]; exact pRun_len _
      omega
    have sHG := Kp.same sHF Hg kG
    have kAG : Kp g HA HG := fun b o e n => kG b o (z15 _ _ e) n
    have ewlG := kAG _ _ ewlA wlg
    have eolG := kAG _ _ eolA olg
    -- stays
    refine ⟨_, rfl, _, rfl, x, g, wl, _, _, r6.1, ctWires m, rfl, MG, ewlG, wlg, by omega, by omega, fun HH r7 er7 MH kH => ?_⟩
    have q7 : r7.1.length = 60 * m + 14 := by
      have : r7.1.length = r6.1.length + 3 * (ctWires m).length + 1 := by rw [er7]; exact nRes_len
      omega
    have sHH := Kp.same sHG Hg kH
    have eolH := kH _ _ eolG olg
    have esoH := kH _ _ eso sog
    -- the net
    obtain ⟨⟨dyh, hoh⟩, _⟩ := id MH
    refine ⟨_, rfl, x, dyh, _, rfl, hoh, fl_no (by decide +kernel) (by decide +kernel) (by decide +kernel), _, rfl, _, rfl, _, rfl, _, rfl, x, g, ol, so, _, _, r7.1, ctOwn m, r6.2, r7.2, rfl, MH, eolH, esoH, olg, sog, by omega, by omega, by omega, fun xl HI2 r8 er8 hxl xlg MI2 kI exl => ?_⟩
    have q8 : r8.1.length = 64 * m + 14 ∧ r8.2.length = m := by
      have : r8.1.length = r7.1.length + 4 * ((ctOwn m).zip r6.2).length ∧ r8.2.length = ([] : List Int).length + ((ctOwn m).zip r6.2).length := by rw [er8]; exact cRun_len _ _
      rw [List.length_zip, lo, q6.2, Nat.min_self] at this
      exact ⟨by omega, by have := this.2; simpa using this⟩
    have sHI2 := Kp.same sHH Hg kI
    refine ⟨_, rfl, _, rfl, (by show 2 ≤ sizeLine; omega), fun ou hou => ?_⟩
    have yo := Same.put (o := .lst [V.int r0.2, V.int r1.2]) hou
    refine ⟨x, g, xl, ou, _, _, r8.1, r8.2, [r0.2, r1.2], rfl, MI2.same yo, yo _ _ exl, upd_same, by omega, by omega, (by show 2 ≤ 1000; decide), fun t ga na oa gs HZ sZ nt nga nna noa f1 => ?_⟩
    refine q t ga na oa gs HZ ((sHI2.trans yo).trans sZ) ?_
    have e : (⟨(m : Int) + 4, (m : Int), r8.1, r8.2, [r0.2, r1.2]⟩ : NetD) = ctNet m := by
      subst er8 er7 er6 er5 er4 er3 er2 er1 er0
      rfl
    rw [← e]; exact f1
end
end K9

set_option Elab.async false
set_option linter.all false
set_option maxRecDepth 100000
set_option maxHeartbeats 4000000
namespace K9
open PySem L2
/-! ### a beat of the counter, world by world -/
theorem lens9 (m : Nat) : (ctNet m).gates.length = 64 * m + 14 ∧ (ctNet m).nexts.length = m ∧ (ct9 m).r3.2.length = m ∧ (ct9 m).r6.2.length = m := by
  have lo : (ctOwn m).length = m := fromN_lenI
  have lg : (ctGiven m).length = m := fromN_lenI
  have lw : (ctWires m).length = 4 := by rw [ctWires_eq]; rfl
  have q0 : (ct9 m).r0.1.length = ([] : Gs).length + 3 * (ctOwn m).length + 1 := nRes_len
  have q1 : (ct9 m).r1.1.length = (ct9 m).r0.1.length + 8 * ((ctOwn m).zip (ctGiven m)).length := lRun_len _ _
  have q2 : (ct9 m).r2.ps.length = (ct9 m).r1.1.length + 12 * ((ctOwn m).zip (ctGiven m)).length := aRun_len _ _
  have q3 : (ct9 m).r3.1.length = (ct9 m).r2.ps.length + (ctGiven m).length ∧ (ct9 m).r3.2.length = ([] : List Int).length + (ctGiven m).length := oRun_len _ _
  have q4 : (ct9 m).r4.ps.length = (ct9 m).r3.1.length + 12 * ((ctOwn m).zip (ct9 m).r3.2).length := aRun_len _ _
  have q5 : (ct9 m).r5.1.length = (ct9 m).r4.ps.length + 4 * ((List.replicate m (0 : Int)).zip (ctOwn m)).length := (cRun_len _ _).1
  have q6 : (ct9 m).r6.1.length = (ct9 m).r5.1.length + 5 * 4 * m ∧ (ct9 m).r6.2.length = m := pRun_len _
  have q7 : (ct9 m).r7.1.length = (ct9 m).r6.1.length + 3 * (ctWires m).length + 1 := nRes_len
  have q8 : (ct9 m).r8.1.length = (ct9 m).r7.1.length + 4 * ((ctOwn m).zip (ct9 m).r6.2).length ∧ (ct9 m).r8.2.length = ([] : List Int).length + ((ctOwn m).zip (ct9 m).r6.2).length := cRun_len _ _
  have e0 : ([] : Gs).length = 0 := rfl
  have e1 : ([] : List Int).length = 0 := rfl
  have h3 : (ct9 m).r3.2.length = m := by omega
  rw [List.length_zip] at q1 q2 q4 q5 q8
  rw [List.length_replicate] at q5
  refine ⟨?_, ?_, h3, q6.2⟩
  · show (ct9 m).r8.1.length = _
    omega
  · show (ct9 m).r8.2.length = _
    omega
theorem ctsem {w m : Nat} {S vs : List Nat} (eS : S = [0, 2 ^ w - 1] ++ vs) (hv : ∀ n ∈ vs, n < 2 ^ w) (lS : S.length = 2 * m + 6) :
    gatesOk (S.length : Int) (ctNet m).gates = true ∧ (∀ x ∈ (ctNet m).nexts ++ (ctNet m).outs, In S (ctNet m).gates x) ∧
    ∀ k < w, num ((ctNet m).nexts.map fun x => bit k (vl w S (ctNet m).gates x)) = nextN m (num ((ctOwn m).map fun i => bit k (wAt S i))) (num ((ctGiven m).map fun i => bit k (wAt S i))) (num ((ctWires m).map fun i => bit k (wAt S i))) ∧
      bit k (vl w S (ctNet m).gates (ct9 m).r0.2) = (if num ((ctOwn m).map fun i => bit k (wAt S i)) = 0 then 1 else 0) ∧ bit k (vl w S (ctNet m).gates (ct9 m).r1.2) = (if num ((ctOwn m).map fun i => bit k (wAt S i)) < num ((ctGiven m).map fun i => bit k (wAt S i)) then 1 else 0) := by
  have h := sem9 (w := w) (m := m) (S := S) (vs := vs) (c := 2 + ((m : Int) + 4) + (m : Int)) (own := ctOwn m) (given := ctGiven m) (x0 := 2 + (m : Int)) (x1 := 2 + (m : Int) + 1) (x2 := 2 + (m : Int) + 2) (x3 := 2 + (m : Int) + 3)
    (r0 := (ct9 m).r0) (r1 := (ct9 m).r1) (r2 := (ct9 m).r2) (r3 := (ct9 m).r3) (r4 := (ct9 m).r4) (r5 := (ct9 m).r5) (r6 := (ct9 m).r6) (r7 := (ct9 m).r7) (r8 := (ct9 m).r8) rfl rfl rfl rfl rfl rfl rfl (by rw [← ctWires_eq]; rfl) rfl eS hv lS (by omega) fromN_lenI fromN_lenI
    (fun o ho => by have := fromN_memI ho; omega) (fun o ho => by have := fromN_memI ho; omega) (fun o ho => by simp only [List.mem_cons, List.not_mem_nil, or_false] at ho; omega)
  rw [← ctWires_eq] at h
  exact ⟨h.1, h.2.2.1, h.2.2.2⟩
theorem ct_ok (m : Nat) : isNet (ctNet m) = true := by
  obtain ⟨S, eS⟩ : ∃ S : List Nat, S = [0, 2 ^ 1 - 1] ++ List.replicate (2 * m + 4) 0 := ⟨_, rfl⟩
  have lS : S.length = 2 * m + 6 := by rw [eS, List.length_append, List.length_replicate]; show 2 + (2 * m + 4) = _; omega
  obtain ⟨h1, h2, _⟩ := ctsem (m := m) eS (fun n hn => by rw [List.eq_of_mem_replicate hn]; decide) lS
  have l9 := lens9 m
  have ei : (ctNet m).ins = (m : Int) + 4 := rfl
  have ek : (ctNet m).keeps = (m : Int) := rfl
  rw [isNet_good (by rw [ei, ek]; omega), ei, ek]
  have ec : 2 + ((m : Int) + 4) + (m : Int) = (S.length : Int) := by omega
  rw [ec, h1]
  have wk : ∀ l : List Int, (∀ x ∈ l, In S (ctNet m).gates x) → wiresOk l ((S.length : Int) + ((ctNet m).gates.length : Int)) = true := fun l hl => by
    unfold wiresOk
    rw [List.all_eq_true]
    intro y hy
    have j1 := (hl y hy).1
    have j2 := (hl y hy).2
    simp only [Bool.and_eq_true, decide_eq_true_eq]
    omega
  rw [wk _ fun x hx => h2 x (List.mem_append_left _ hx), wk _ fun x hx => h2 x (List.mem_append_right _ hx)]; rfl
theorem seg_map {A B D : List Nat} {a : Int} {n : Nat} (ha : (A.length : Int) = a) (hn : B.length = n) : (fromN a (n : Int)).map (wAt (A ++ B ++ D)) = B := by
  unfold fromN
  apply List.ext_getElem?
  intro i
  rw [List.getElem?_map, List.getElem?_map, Int.toNat_natCast]
  by_cases hi : i < n
  · rw [List.getElem?_range hi, List.getElem?_eq_getElem (by omega)]
    show some (wAt (A ++ B ++ D) (a + (i : Int))) = _
    unfold wAt
    rw [show (a + (i : Int)).toNat = A.length + i by omega, List.getD_eq_getElem?_getD, List.append_assoc, List.getElem?_append_right (by omega), Nat.add_sub_cancel_left, List.getElem?_append_left (by omega), List.getElem?_eq_getElem (by omega)]; rfl
  · rw [List.getElem?_eq_none (by rw [List.length_range]; omega), List.getElem?_eq_none (by omega)]; rfl
theorem bit_num {bs : List Nat} (k : Nat) (h : ∀ b ∈ bs, b ≤ 1) : bit k (num bs) = bs.getD k 0 := by
  rw [bit_test, num_test k h]
  have : bs.getD k 0 ≤ 1 := by
    rw [List.getD_eq_getElem?_getD]
    cases e : bs[k]? with
    | none => exact Nat.zero_le _
    | some b => exact h b (List.mem_of_getElem? e)
  generalize bs.getD k 0 = b at this
  rcases (show b = 0 ∨ b = 1 by omega) with rfl | rfl <;> rfl
theorem bl1 (i : Nat) (ns : List Nat) : ∀ b ∈ ns.map (bit i), b ≤ 1 := bits_le i id ns
theorem getD_lt {ns : List Nat} {B k : Nat} (hB : 0 < B) (h : ∀ n ∈ ns, n < B) : ns.getD k 0 < B := by
  rw [List.getD_eq_getElem?_getD]
  cases e : ns[k]? with
  | none => exact hB
  | some b => exact h b (List.mem_of_getElem? e)
theorem spread_num {ns : List Nat} {m k : Nat} (hk : k < ns.length) (h : ∀ n ∈ ns, n < 2 ^ m) : num ((spreadN ns m).map (bit k)) = ns.getD k 0 := by
  unfold spreadN
  rw [List.map_map]
  have e : ((List.range m).map (bit k ∘ fun i => num (ns.map (bit i)))) = (List.range m).map fun i => bit i (ns.getD k 0) := List.map_congr_left fun i _ => by
    show bit k (num (ns.map (bit i))) = _
    rw [bit_num k (bl1 i ns), getD_map (d := 0) hk]
  rw [e]
  exact num_bits (getD_lt (Nat.two_pow_pos m) h)
theorem spread_lt {ns : List Nat} {m w : Nat} (hw : ns.length = w) : ∀ n ∈ spreadN ns m, n < 2 ^ w := fun n hn => by
  unfold spreadN at hn
  obtain ⟨i, _, rfl⟩ := List.mem_map.mp hn
  have := num_lt (bl1 i ns)
  rw [List.length_map, hw] at this
  exact this
theorem spread_eq {L ns : List Nat} {m w : Nat} (lL : L.length = m) (hL : ∀ n ∈ L, n < 2 ^ w) (ln : ns.length = w) (h : ∀ k < w, num (L.map (bit k)) = ns.getD k 0) : L = spreadN ns m := by
  apply List.ext_getElem?
  intro i
  by_cases hi : i < m
  · unfold spreadN
    rw [List.getElem?_map, List.getElem?_range hi, List.getElem?_eq_getElem (by omega)]
    show some _ = some _
    congr 1
    apply Nat.eq_of_testBit_eq
    intro k
    rw [num_test k (bl1 i ns)]
    by_cases hk : k < w
    · rw [getD_map (d := 0) (by omega), bit_one, ← h k hk, num_test i (bl1 k L), getD_map (d := 0) (by omega), bit_one, List.getD_eq_getElem?_getD, List.getElem?_eq_getElem (by omega)]; rfl
    · rw [getD_over (by rw [List.length_map]; omega), lt_test (hL _ (List.getElem_mem (by omega))) (by omega)]; rfl
  · rw [List.getElem?_eq_none (by omega), List.getElem?_eq_none (by rw [spreadN_len]; omega)]
def newN (m : Nat) (own given wl : List Nat) : List Nat := (List.range own.length).map fun k => nextN m (own.getD k 0) (given.getD k 0) (wl.getD k 0)
theorem newN_len (m : Nat) (own given wl : List Nat) : (newN m own given wl).length = own.length := by unfold newN; rw [List.length_map, List.length_range]
theorem newN_lt {m : Nat} {own given wl : List Nat} (ho : ∀ n ∈ own, n < 2 ^ m) (hg : ∀ n ∈ given, n < 2 ^ m) : ∀ n ∈ newN m own given wl, n < 2 ^ m := fun n hn => by
  unfold newN at hn
  obtain ⟨k, _, rfl⟩ := List.mem_map.mp hn
  exact nextN_lt (getD_lt (Nat.two_pow_pos m) ho) (getD_lt (Nat.two_pow_pos m) hg)
theorem step9 {w m : Nat} {own given wl : List Nat} (lo : own.length = w) (lg : given.length = w) (lw : wl.length = w) (ho : ∀ n ∈ own, n < 2 ^ m) (hg : ∀ n ∈ given, n < 2 ^ m) (hw : ∀ n ∈ wl, n < 16) :
    (ctNet m).nexts.map (wAt (wires w (ctNet m) (spreadN own m) (spreadN given m ++ spreadN wl 4))) = spreadN (newN m own given wl) m ∧
    ∃ a b : Nat, (ctNet m).outs.map (wAt (wires w (ctNet m) (spreadN own m) (spreadN given m ++ spreadN wl 4))) = [a, b] ∧ ∀ k < w, bit k a = (if own.getD k 0 = 0 then 1 else 0) ∧ bit k b = (if own.getD k 0 < given.getD k 0 then 1 else 0) := by
  obtain ⟨S, eS⟩ : ∃ S : List Nat, S = [0, 2 ^ w - 1] ++ ((spreadN given m ++ spreadN wl 4) ++ spreadN own m) := ⟨_, rfl⟩
  have hv : ∀ n ∈ (spreadN given m ++ spreadN wl 4) ++ spreadN own m, n < 2 ^ w := fun n hn => by
    rcases List.mem_append.mp hn with hn | hn
    · rcases List.mem_append.mp hn with hn | hn
      · exact spread_lt lg n hn
      · exact spread_lt lw n hn
    · exact spread_lt lo n hn
  have lS : S.length = 2 * m + 6 := by
    rw [eS, List.length_append, List.length_append, List.length_append, spreadN_len, spreadN_len, spreadN_len]; show 2 + (m + 4 + m) = _; omega
  have l9 := lens9 m
  obtain ⟨_, h2, h3⟩ := ctsem (m := m) eS hv lS
  have hS : ∀ n ∈ S, n < 2 ^ w := fun n hn => by
    have hp := Nat.two_pow_pos w
    rw [eS] at hn
    rcases List.mem_append.mp hn with hn | hn
    · simp only [List.mem_cons, List.not_mem_nil, or_false] at hn; omega
    · exact hv n hn
  have mo : ∀ k, ((ctOwn m).map fun i => bit k (wAt S i)) = (spreadN own m).map (bit k) := fun k => by
    have e : S = ([0, 2 ^ w - 1] ++ (spreadN given m ++ spreadN wl 4)) ++ spreadN own m ++ [] := by rw [eS]; simp
    have := seg_map (A := [0, 2 ^ w - 1] ++ (spreadN given m ++ spreadN wl 4)) (B := spreadN own m) (D := []) (a := 2 + ((m : Int) + 4)) (n := m) (by rw [List.length_append, List.length_append, spreadN_len, spreadN_len]; show ((2 + (m + 4) : Nat) : Int) = _; omega) (spreadN_len _ _)
    rw [← e] at this
    rw [← this, List.map_map]; rfl
  have mg : ∀ k, ((ctGiven m).map fun i => bit k (wAt S i)) = (spreadN given m).map (bit k) := fun k => by
    have e : S = [0, 2 ^ w - 1] ++ spreadN given m ++ (spreadN wl 4 ++ spreadN own m) := by rw [eS]; simp
    have := seg_map (A := [0, 2 ^ w - 1]) (B := spreadN given m) (D := spreadN wl 4 ++ spreadN own m) (a := 2) (n := m) rfl (spreadN_len _ _)
    rw [← e] at this
    rw [← this, List.map_map]; rfl
  have mw : ∀ k, ((ctWires m).map fun i => bit k (wAt S i)) = (spreadN wl 4).map (bit k) := fun k => by
    have e : S = ([0, 2 ^ w - 1] ++ spreadN given m) ++ spreadN wl 4 ++ spreadN own m := by rw [eS]; simp
    have := seg_map (A := [0, 2 ^ w - 1] ++ spreadN given m) (B := spreadN wl 4) (D := spreadN own m) (a := 2 + (m : Int)) (n := 4) (by rw [List.length_append, spreadN_len]; show ((2 + m : Nat) : Int) = _; omega) (spreadN_len _ _)
    rw [← e] at this
    rw [← this, List.map_map]; rfl
  have eW : wires w (ctNet m) (spreadN own m) (spreadN given m ++ spreadN wl 4) = runW w (ctNet m).gates S := by unfold wires; rw [eS]
  rw [eW]
  have key : ∀ k < w, num ((ctNet m).nexts.map fun x => bit k (vl w S (ctNet m).gates x)) = nextN m (own.getD k 0) (given.getD k 0) (wl.getD k 0) ∧
      bit k (vl w S (ctNet m).gates (ct9 m).r0.2) = (if own.getD k 0 = 0 then 1 else 0) ∧ bit k (vl w S (ctNet m).gates (ct9 m).r1.2) = (if own.getD k 0 < given.getD k 0 then 1 else 0) := fun k hk => by
    have := h3 k hk
    rw [mo k, mg k, mw k, spread_num (by omega) ho, spread_num (by omega) hg, spread_num (m := 4) (by omega) hw] at this
    exact this
  refine ⟨?_, vl w S (ctNet m).gates (ct9 m).r0.2, vl w S (ctNet m).gates (ct9 m).r1.2, rfl, fun k hk => (key k hk).2⟩
  refine spread_eq (w := w) (by rw [List.length_map]; exact l9.2.1) (fun n hn => ?_) (by rw [newN_len]; exact lo) (fun k hk => ?_)
  · obtain ⟨x, _, rfl⟩ := List.mem_map.mp hn
    exact vl_lt hS
  · have := (key k hk).1
    rw [List.map_map]
    unfold newN
    have er : (List.range own.length).getD k 0 = k := by rw [List.getD_eq_getElem?_getD, List.getElem?_range (by omega)]; rfl
    rw [getD_map (d := 0) (by rw [List.length_range]; omega), er]
    exact this
end K9

set_option Elab.async false
set_option linter.all false
set_option maxRecDepth 100000
set_option maxHeartbeats 4000000
namespace K9
open PySem L2
theorem list2 {ms : List Int} (h : (ms.length : Int) = 2) : ∃ a b, ms = [a, b] := by
  match ms, h with
  | [a, b], _ => exact ⟨a, b, rfl⟩
  | [], h => simp at h
  | [_], h => simp at h
  | _ :: _ :: _ :: _, h => simp at h; omega
theorem pick6 {v i : Int} (h0 : 0 ≤ i) (h1 : i < 6) (hv : 0 ≤ v ∧ v < 16) : ∃ z : Nat, z < 16 ∧ atI [V.int 1, V.int 2, V.int 4, V.int 8, V.int 0, V.int v] i = some (.int (z : Int)) := by
  rcases (show i = 0 ∨ i = 1 ∨ i = 2 ∨ i = 3 ∨ i = 4 ∨ i = 5 by omega) with rfl | rfl | rfl | rfl | rfl | rfl
  · exact ⟨1, by decide, rfl⟩
  · exact ⟨2, by decide, rfl⟩
  · exact ⟨4, by decide, rfl⟩
  · exact ⟨8, by decide, rfl⟩
  · exact ⟨0, by decide, rfl⟩
  · refine ⟨v.toNat, by omega, ?_⟩
    rw [Int.toNat_of_nonneg hv.1]; rfl
/-! ### lists of two numbers -/
def TwoAt (X : Addr → Prop) (H : Hp) (v : V) (p : Int × Int) : Prop := ∃ l, v = .ref l ∧ H l = some (.lst [.int p.1, .int p.2]) ∧ ¬ X l
theorem TwoAt.same {X : Addr → Prop} {H H' : Hp} (s : Same H H') {v : V} {p : Int × Int} (h : TwoAt X H v p) : TwoAt X H' v p := let ⟨l, e, a, n⟩ := h; ⟨l, e, s _ _ a, n⟩
theorem TwoAt.kp {X : Addr → Prop} {H H' : Hp} {g : Addr} (hX : X g) (s : Kp g H H') {v : V} {p : Int × Int} (h : TwoAt X H v p) : TwoAt X H' v p := let ⟨l, e, a, n⟩ := h; ⟨l, e, s _ _ a (fun z => n (z ▸ hX)), n⟩
def dTwo (p : Int × Int) : PyData := .list [.int p.1, .int p.2]
theorem rep_Two (K : PySem.W.Frag) {X : Addr → Prop} {H : Hp} : ∀ {vs : List V} {ps : List (Int × Int)}, Paired (TwoAt X H) vs ps → RepAll K H vs (ps.map dTwo)
  | _, _, .nil => .nil
  | _, _, .cons ⟨l, e, a, n⟩ r => by
    subst e
    exact .cons (.lst (SqL.of a) (.cons (.int _) (.cons (.int _) .nil))) (rep_Two K r)
theorem lay_Two : ∀ ps : List (Int × Int), PyData.canLayAll0 (ps.map dTwo) = true
  | [] => rfl
  | p :: r => by
    show (true && PyData.canLayAll0 (r.map dTwo)) = true
    rw [lay_Two r]; rfl
theorem dep_Two : ∀ ps : List (Int × Int), PyData.depthAll (ps.map dTwo) ≤ 1
  | [] => Nat.zero_le _
  | p :: r => by
    show max 1 (PyData.depthAll (r.map dTwo)) ≤ 1
    have := dep_Two r
    omega
def dTwos (ps : List (Int × Int)) : PyData := .list (ps.map dTwo)
theorem rep_Twos (K : PySem.W.Frag) {X : Addr → Prop} {H : Hp} {p : Addr} {vs : List V} {ps : List (Int × Int)} (hp : H p = some (.lst vs)) (h : Paired (TwoAt X H) vs ps) : Rep K H (.ref p) (dTwos ps) := .lst (SqL.of hp) (rep_Two K h)
theorem lay_Twos (ps : List (Int × Int)) : (dTwos ps).canLay0 = true := lay_Two ps
theorem dep_Twos (ps : List (Int × Int)) : (dTwos ps).depth ≤ 64 := by
  show PyData.depthAll (ps.map dTwo) + 1 ≤ 64
  have := dep_Two ps
  omega
def dueN (own given : List Nat) (k : Nat) : Int × Int := (((if own.getD k 0 = 0 then 1 else 0 : Nat) : Int), ((if own.getD k 0 < given.getD k 0 then 1 else 0 : Nat) : Int))
theorem nv_getD {ns : List Nat} {j : Nat} {x : V} (h : (nv ns)[j]? = some x) : j < ns.length ∧ x = .int ((ns.getD j 0 : Nat) : Int) := by
  obtain ⟨n, hn, rfl⟩ := nv_get h
  refine ⟨(List.getElem?_eq_some_iff.mp hn).1, ?_⟩
  rw [List.getD_eq_getElem?_getD, hn]; rfl
theorem newN_take {m : Nat} {own given wl : List Nat} {j : Nat} (h : j < own.length) : (newN m own given wl).take (j + 1) = (newN m own given wl).take j ++ [nextN m (own.getD j 0) (given.getD j 0) (wl.getD j 0)] := by
  rw [List.take_add_one]
  congr 1
  unfold newN
  rw [List.getElem?_map, List.getElem?_range h]; rfl
section
variable {P : Program} {w : World} {K : PySem.W.Frag} {mg : Str → Option Value} {base : Heap}
theorem sc_law : FnScope ["_law_script", "_law_many", "_law_worlds", "_law_full", "_law_net", "_law_numbers_here", "_law_kept", "_law_k", "_law_drawn", "_law_given", "_law_wires", "_law_ins", "_law_outs", "_law_due"] ["_law_script"] (defScope s_law) := ⟨rfl, rfl, rfl, by decide +kernel, rfl, by decide +kernel, by decide +kernel⟩
theorem law_B {f : Addr} {fc fm fn fb fs fx : Addr} {fdc fdm fdn fdb fds fdx : FuncData} (T : Bt mg)
    (T_beat : Fn K mg "beat" s_beat ["net", "kept", "ins", "worlds"] fb fdb)
    (T_law_cell : Fn K mg "_law_cell" s_law_cell ["_law_script", "_law_k"] fc fdc) (T_law_mixed : Fn K mg "_law_mixed" s_law_mixed ["_law_cell_here", "_law_k"] fm fdm)
    (T_law_numbers : Fn K mg "_law_numbers" s_law_numbers ["_law_script", "_law_at", "_law_many", "_law_base"] fn fdn)
    (T_law_next : Fn K mg "_law_next" s_law_next ["_law_own", "_law_given", "_law_wires", "_law_full"] fx fdx) (T_law_spread : Fn K mg "_law_spread" s_law_spread ["_law_numbers_here", "_law_many"] fs fds)
    {cdv : Value} {A : Around} {outer : List Env} {s : Shared} {H : Hp} {E : XK} (hr : Room 6 (A.deeper (PyProof.Rows.envOfC "law" (defScope s_law) s.heap.objs.size f cdv))) :
    ∃ u, PSs (cxOf CX0 P w K mg base ["_law_script", "_law_many", "_law_worlds", "_law_full", "_law_net", "_law_numbers_here", "_law_kept", "_law_k", "_law_drawn", "_law_given", "_law_wires", "_law_ins", "_law_outs", "_law_due"] "law" (defScope s_law) f cdv A outer s H E).nox ((defBody s_law).drop 8) u ∧
      ∀ (D : Ends) (a : Addr) (ns : List Int) (m wn : Nat) (t ga na oa : Addr) (gs : List V) (nl kl : Addr) (own : List Nat) (H1 : Hp) (v7 v8 v9 v10 v11 v12 v13 : Option V),
        (∀ H', D.rt (.bl true) H') → SqL K H1 a (ns.map V.int) → ns.length ≤ 63 → 1 ≤ m → m ≤ 12 → 1 ≤ wn → wn ≤ 24 → NetF H1 t ga na oa gs (ctNet m) → H1 nl = some (.lst (nv own)) → own.length = wn → (∀ n ∈ own, n < 2 ^ m) → H1 kl = some (.lst (nv (spreadN own m))) →
        u D [some (.ref a), some (.int (m : Int)), some (.int (wn : Int)), some (.int ((2 ^ m - 1 : Nat) : Int)), some (.ref t), some (.ref nl), some (.ref kl), v7, v8, v9, v10, v11, v12, v13] H1 := by
  have G_beat := ok_beat (P := P) (w := w) (mg := mg) (base := base) T_beat.F
  have G_law_numbers := ok_law_numbers (P := P) (w := w) (base := base) T_law_numbers.F T T_law_cell T_law_mixed
  have G_law_next := ok_law_next (P := P) (w := w) (mg := mg) (base := base) T_law_next.F
  have G_law_spread := ok_law_spread (P := P) (w := w) (base := base) T_law_spread.F T
  refine ⟨_, (pss_cons (ps_for PassesOwn.never rfl (pi_range2 rfl T.b_range (pa_cons pe_int (pa_cons (pe_callB call_len_seq rfl T.b_len (by decide +kernel) (pa_cons (pv 0) pa_nil)) pa_nil))) (pg_name (i := 7) sc_law.nd rfl (Or.inl rfl))
        (pss_cons (ps_set (i := 8) sc_law.nd rfl (Or.inl rfl) (pe_call G_law_numbers (hr.mono (by decide)) rfl T_law_numbers.m T_law_numbers.F.kp T_law_numbers.b .nil pass0 (pa_cons (pe_op op_cat (pe_slice sl_list (pv 0) po_none (po_some pe_int)) (pe_lst (pa_cons (pe_ix ix_list (pv 0) (pv 7) (fun _ _ => rfl)) pa_nil))) (pa_cons pe_int (pa_cons (pe_op op_mul pe_int (pv 2)) (pa_cons (pe_op op_mul pe_int (pe_op op_add (pv 3) pe_int)) pa_nil))))))
        (pss_cons (ps_setComp (i := 9) rfl (blk_of (sc0 := defScope s_law) (N0 := ["_law_script", "_law_many", "_law_worlds", "_law_full", "_law_net", "_law_numbers_here", "_law_kept", "_law_k", "_law_drawn", "_law_given", "_law_wires", "_law_ins", "_law_outs", "_law_due"]) (N' := ["_law_number"]) (own := 1) (fv := []) (by decide +kernel) rfl rfl) sc_law.nd rfl (Or.inl rfl) (pi_list (pe_slice sl_list (pv 8) po_none (po_some (pv 2)))) (fun _ _ _ _ => (pg_name (i := 0) (by show List.Nodup (["_law_number"] : List Str); decide +kernel) rfl (Or.inl rfl))) (fun _ _ _ _ => (pe_op op_fdiv (pv 0) pe_int)))
        (pss_cons (ps_setComp (i := 10) rfl (blk_of (sc0 := defScope s_law) (N0 := ["_law_script", "_law_many", "_law_worlds", "_law_full", "_law_net", "_law_numbers_here", "_law_kept", "_law_k", "_law_drawn", "_law_given", "_law_wires", "_law_ins", "_law_outs", "_law_due"]) (N' := ["_law_number"]) (own := 1) (fv := []) (by decide +kernel) rfl rfl) sc_law.nd rfl (Or.inl rfl) (pi_list (pe_slice sl_list (pv 8) (po_some (pv 2)) po_none)) (fun _ _ _ _ => (pg_name (i := 0) (by show List.Nodup (["_law_number"] : List Str); decide +kernel) rfl (Or.inl rfl))) (fun _ _ _ _ => (pe_ix (ix_listK (K := K)) (pe_lst (pa_cons pe_int (pa_cons pe_int (pa_cons pe_int (pa_cons pe_int (pa_cons pe_int (pa_cons (pe_op op_mod (pe_op op_fdiv (pv 0) pe_int) pe_int) pa_nil))))))) (pe_op op_mod (pv 0) pe_int) (fun _ _ => rfl))))
        (pss_cons (ps_set (i := 11) sc_law.nd rfl (Or.inl rfl) (pe_op op_cat (pe_call G_law_spread (hr.mono (by decide)) rfl T_law_spread.m T_law_spread.F.kp T_law_spread.b .nil pass0 (pa_cons (pv 9) (pa_cons (pv 1) pa_nil))) (pe_call G_law_spread (hr.mono (by decide)) rfl T_law_spread.m T_law_spread.F.kp T_law_spread.b .nil pass0 (pa_cons (pv 10) (pa_cons pe_int pa_nil)))))
        (pss_cons (ps_asg (pe_call G_beat (hr.mono (by decide)) rfl T_beat.m T_beat.F.kp T_beat.b .nil pass0 (pa_cons (pv 4) (pa_cons (pv 6) (pa_cons (pv 11) (pa_cons (pv 2) pa_nil))))) (pg_tup rfl (pgs_cons (pg_name (i := 6) sc_law.nd rfl (Or.inl rfl)) (pgs_cons (pg_name (i := 12) sc_law.nd rfl (Or.inr rfl)) pgs_nil))))
        (pss_cons (ps_setComp (i := 13) rfl (blk_of (sc0 := defScope s_law) (N0 := ["_law_script", "_law_many", "_law_worlds", "_law_full", "_law_net", "_law_numbers_here", "_law_kept", "_law_k", "_law_drawn", "_law_given", "_law_wires", "_law_ins", "_law_outs", "_law_due"]) (N' := ["_law_one", "_law_other"]) (own := 2) (fv := []) (by decide +kernel) rfl rfl) sc_law.nd rfl (Or.inl rfl) (pi_zip (K := K) rfl T.b_zip (pa_cons (pv 5) (pa_cons (pv 9) pa_nil))) (fun _ _ _ _ => (pg_tupK (K := K) (n := 2) rfl (pgs_cons (pg_name (i := 0) (by show List.Nodup (["_law_one", "_law_other"] : List Str); decide +kernel) rfl (Or.inl rfl)) (pgs_cons (pg_name (i := 1) (by show List.Nodup (["_law_one", "_law_other"] : List Str); decide +kernel) rfl (Or.inl rfl)) pgs_nil)))) (fun _ _ _ _ => (pe_lst (pa_cons (pe_callTy call_int1 rfl T.b_int (by decide +kernel) (pa_cons (pe_cmpR op_eq (pv 0) pe_int (nomark _)) pa_nil)) (pa_cons (pe_callTy call_int1 rfl T.b_int (by decide +kernel) (pa_cons (pe_cmpR op_lt (pv 0) (pv 1) (nomark _)) pa_nil)) pa_nil)))))
        (pss_cons (ps_if (pt_cmpR (op_neD (hr.units)) (pe_comp rfl (blk_of (sc0 := defScope s_law) (N0 := ["_law_script", "_law_many", "_law_worlds", "_law_full", "_law_net", "_law_numbers_here", "_law_kept", "_law_k", "_law_drawn", "_law_given", "_law_wires", "_law_ins", "_law_outs", "_law_due"]) (N' := ["_law_world", "_law_outs"]) (own := 1) (fv := [12]) (by decide +kernel) rfl rfl) (pi_range1 rfl T.b_range (pa_cons (pv 2) pa_nil)) (fun _ _ _ _ => (pg_name (i := 0) (by show List.Nodup (["_law_world", "_law_outs"] : List Str); decide +kernel) rfl (Or.inl rfl))) (fun _ _ _ _ => (pe_lst (pa_cons (pe_op op_and (pe_op op_shr (pe_ix (ix_listK (K := K)) (pv 1) pe_int (fun _ _ => rfl)) (pv 0)) pe_int) (pa_cons (pe_op op_and (pe_op op_shr (pe_ix (ix_listK (K := K)) (pv 1) pe_int (fun _ _ => rfl)) (pv 0)) pe_int) pa_nil))))) (pv 13) (nomark _))
          (pss_one (ps_ret pe_bl))
          pss_nil)
        (pss_cons (ps_setComp (i := 5) rfl (blk_of (sc0 := defScope s_law) (N0 := ["_law_script", "_law_many", "_law_worlds", "_law_full", "_law_net", "_law_numbers_here", "_law_kept", "_law_k", "_law_drawn", "_law_given", "_law_wires", "_law_ins", "_law_outs", "_law_due"]) (N' := ["_law_one", "_law_other", "_law_which", "_law_full"]) (own := 3) (fv := [3]) (by decide +kernel) rfl rfl) sc_law.nd rfl (Or.inl rfl) (pi_zip3 (K := K) rfl T.b_zip (pa_cons (pv 5) (pa_cons (pv 9) (pa_cons (pv 10) pa_nil)))) (fun _ _ _ _ => (pg_tupK (K := K) (n := 3) rfl (pgs_cons (pg_name (i := 0) (by show List.Nodup (["_law_one", "_law_other", "_law_which", "_law_full"] : List Str); decide +kernel) rfl (Or.inl rfl)) (pgs_cons (pg_name (i := 1) (by show List.Nodup (["_law_one", "_law_other", "_law_which", "_law_full"] : List Str); decide +kernel) rfl (Or.inl rfl)) (pgs_cons (pg_name (i := 2) (by show List.Nodup (["_law_one", "_law_other", "_law_which", "_law_full"] : List Str); decide +kernel) rfl (Or.inl rfl)) pgs_nil))))) (fun _ _ _ _ => (pe_call G_law_next (hr.mono (by decide)) rfl T_law_next.m T_law_next.F.kp T_law_next.b .nil pass0 (pa_cons (pv 0) (pa_cons (pv 1) (pa_cons (pv 2) (pa_cons (pv 3) pa_nil)))))))
        (pss_one (ps_if (pt_cmpR (op_neD (hr.units)) (pv 6) (pe_call G_law_spread (hr.mono (by decide)) rfl T_law_spread.m T_law_spread.F.kp T_law_spread.b .nil pass0 (pa_cons (pv 5) (pa_cons (pv 1) pa_nil))) (nomark _))
          (pss_one (ps_ret pe_bl))
          pss_nil)))))))))))
      (pss_one (ps_ret pe_bl))), ?_⟩
  intro D a ns m wn t ga na oa gs nl0 kl0 own0 H1 v7 v8 v9 v10 v11 v12 v13 q hq hn63 hm1 hm12 hw1 hw24 f1 enl0 lo0 bo0 ekl0
  have hs : sizeLine = 16777216 := sizeLine_eq
  have hpm : 2 ^ m ≤ 2 ^ 12 := Nat.pow_le_pow_right (by decide) hm12
  have hpm0 := Nat.two_pow_pos m
  have h512 : (100000 : Int) < 2 ^ 512 := by decide +kernel
  have l9 := lens9 m
  have lout : (ctNet m).outs.length = 2 := rfl
  have sm : (ctNet m).gates.length ≤ 1000 ∧ (ctNet m).nexts.length ≤ 1000 ∧ (ctNet m).outs.length ≤ 1000 := ⟨by omega, by omega, by omega⟩
  have small : Small (ctNet m) := ⟨by omega, by omega, by omega, by show (m : Int) + 4 ≤ 200; omega⟩
  refine ⟨_, rfl, a, _, rfl, .inl hq, 2, _, rfl, ⟨by decide, by decide, by omega, by rw [List.length_map]; omega⟩, for_range (lo := 2) (n := ((((ns.map V.int).length : Nat) : Int) - 2).toNat) (fun i σ H2 => ∃ (nl kl : Addr) (own : List Nat) (v7 v8 v9 v10 v11 v12 v13 : Option V),
    σ = [some (.ref a), some (.int (m : Int)), some (.int (wn : Int)), some (.int ((2 ^ m - 1 : Nat) : Int)), some (.ref t), some (.ref nl), some (.ref kl), v7, v8, v9, v10, v11, v12, v13] ∧ Same H1 H2 ∧ H2 nl = some (.lst (nv own)) ∧ own.length = wn ∧ (∀ n ∈ own, n < 2 ^ m) ∧ H2 kl = some (.lst (nv (spreadN own m))))
    ⟨nl0, kl0, own0, v7, v8, v9, v10, v11, v12, v13, rfl, Same.refl H1, enl0, lo0, bo0, ekl0⟩ ?_ ?_⟩
  · rintro i σ H2 hi ⟨nl, kl, own, v7, v8, v9, v10, v11, v12, v13, rfl, s2, enl, lo, bo, ekl⟩
    rw [List.length_map] at hi
    have hq2 := s2.seq hq
    -- the drawn numbers
    refine ⟨_, rfl, _, rfl, a, _, rfl, hq2, fun c1 hc1 => ?_⟩
    rw [cut_ints]
    have y1 := Same.put (o := .lst ((cutN ns none (some 1)).map V.int)) hc1
    have ec1 : upd H2 c1 (.lst ((cutN ns none (some 1)).map V.int)) c1 = some (.lst ((cutN ns none (some 1)).map V.int)) := upd_same
    generalize upd H2 c1 (.lst ((cutN ns none (some 1)).map V.int)) = H3 at y1 ec1 ⊢
    obtain ⟨cl, hcl, ecl⟩ := atI_ix (ns := ns) (i := 2 + (i : Int)) (by omega) (by rw [List.length_map]; omega)
    refine ⟨_, rfl, _, rfl, a, _, _, _, rfl, rfl, y1.seq hq2, ecl, (by show 1 ≤ sizeLine; omega), fun c2 hc2 => ?_⟩
    have y2 := Same.put (o := .lst [V.int cl]) hc2
    have ec2 : upd H3 c2 (.lst [V.int cl]) c2 = some (.lst [V.int cl]) := upd_same
    generalize upd H3 c2 (.lst [V.int cl]) = H4 at y2 ec2 ⊢
    have lcut : (cutN ns none (some 1)).length ≤ 63 := by
      unfold cutN
      rw [List.length_take, List.length_drop]; omega
    refine ⟨c1, c2, _, _, rfl, rfl, y2 _ _ ec1, ec2, (by rw [List.length_map]; show (cutN ns none (some 1)).length + 1 ≤ sizeLine; omega), fun c3 hc3 => ?_⟩
    rw [show (cutN ns none (some 1)).map V.int ++ [V.int cl] = (cutN ns none (some 1) ++ [cl]).map V.int by rw [List.map_append]; rfl]
    have y3 := Same.put (o := .lst ((cutN ns none (some 1) ++ [cl]).map V.int)) hc3
    have ec3 : upd H4 c3 (.lst ((cutN ns none (some 1) ++ [cl]).map V.int)) c3 = some (.lst ((cutN ns none (some 1) ++ [cl]).map V.int)) := upd_same
    generalize upd H4 c3 (.lst ((cutN ns none (some 1) ++ [cl]).map V.int)) = H5 at y3 ec3 ⊢
    have s5 := ((s2.trans y1).trans y2).trans y3
    have y25 := (y1.trans y2).trans y3
    refine ⟨_, rfl, _, _, rfl, rfl, cmul_l (by decide) (by decide), _, rfl, _, _, rfl, rfl, _, _, rfl, rfl, cmul_l (by decide) (by decide), c3, _, 1, _, _, rfl, SqL.of ec3, ⟨by decide, by decide⟩, ⟨by omega, by omega⟩, ⟨by omega, by omega⟩, fun dl ms hdl hlen hall => ?_⟩
    have y6 := Same.put (o := .lst (ms.map V.int)) hdl
    have edl : upd H5 dl (.lst (ms.map V.int)) dl = some (.lst (ms.map V.int)) := upd_same
    generalize upd H5 dl (.lst (ms.map V.int)) = H6 at y6 edl ⊢
    have s6 := s5.trans y6
    have lms : ms.length = 2 * wn := by omega
    have hall' : ∀ n ∈ ms, 0 ≤ n ∧ n < 16 * ((2 ^ m : Nat) : Int) := fun n hn => by have := hall n hn; omega
    -- given
    refine ⟨_, rfl, _, rfl, _, rfl, dl, _, rfl, SqL.of edl, fun c4 hc4 => ?_⟩
    rw [show cutV (ms.map V.int) none (some (wn : Int)) = (ms.take wn).map V.int by rw [cutV_to _ _ _ (by omega) (by omega), Int.toNat_natCast]]
    have y7 := Same.put (o := .lst ((ms.take wn).map V.int)) hc4
    have ec4 : upd H6 c4 (.lst ((ms.take wn).map V.int)) c4 = some (.lst ((ms.take wn).map V.int)) := upd_same
    generalize upd H6 c4 (.lst ((ms.take wn).map V.int)) = H7 at y7 ec4 ⊢
    refine ⟨c4, rfl, ⟨_, SqL.of ec4⟩, comp_inv (fvals := []) (xs := (ms.take wn).map V.int) (fun acc j H8 => H7 acc = none ∧ Same H7 H8 ∧ ∃ gv : List Nat, gv.length = j ∧ (∀ n ∈ gv, n < 2 ^ m) ∧ H8 acc = some (.lst (nv gv))) ?_ ?_ ?_ ?_⟩
    · rintro acc j H8 ⟨_, s8, _⟩
      exact SqL.of (s8 _ _ ec4)
    · intro acc hacc
      exact ⟨hacc, Same.put hacc, [], rfl, fun n hn => absurd hn List.not_mem_nil, upd_same⟩
    · rintro acc j x H8 R hx ⟨hacc, s8, gv, lgv, bgv, ea⟩ hR
      obtain ⟨n, hn, rfl⟩ := map_int_get hx
      have hj : j < (ms.take wn).length := (List.getElem?_eq_some_iff.mp hn).1
      rw [List.length_take] at hj
      have bn := hall' n (List.mem_of_mem_take (List.mem_of_getElem? hn))
      obtain ⟨v, hv⟩ : ∃ v : Nat, n / 16 = (v : Int) := ⟨(n / 16).toNat, by omega⟩
      refine ⟨_, rfl, _, _, rfl, rfl, ⟨(by show (0 : Int) < 16; decide), (by show (16 : Int) < 1073741824; decide)⟩, hR (.int (n / 16)) H8 ⟨nv gv, ea, by rw [nv_length]; omega, hacc, fun b o e => by rw [upd_ne (ne_of_none e hacc)]; exact s8 _ _ e, gv ++ [v], by rw [List.length_append, lgv]; rfl, fun z hz => ?_, by rw [upd_same, hv, nv_snoc]⟩⟩
      rcases List.mem_append.mp hz with h | h
      · exact bgv z h
      · rw [List.mem_singleton.mp h]; omega
    rintro gl H8 hgl ⟨_, s8, given, lg, bg, egl⟩
    rw [List.length_map, List.length_take] at lg
    have lg' : given.length = wn := by omega
    have y8 := y7.trans s8
    have s08 := s6.trans y8
    -- wires
    refine ⟨_, rfl, _, rfl, _, rfl, dl, _, rfl, SqL.of (y8 _ _ edl), fun c5 hc5 => ?_⟩
    rw [show cutV (ms.map V.int) (some (wn : Int)) none = (ms.drop wn).map V.int by rw [cutV_from _ _ _ (by omega) (by omega), Int.toNat_natCast]]
    have y9 := Same.put (o := .lst ((ms.drop wn).map V.int)) hc5
    have ec5 : upd H8 c5 (.lst ((ms.drop wn).map V.int)) c5 = some (.lst ((ms.drop wn).map V.int)) := upd_same
    generalize upd H8 c5 (.lst ((ms.drop wn).map V.int)) = H9 at y9 ec5 ⊢
    refine ⟨c5, rfl, ⟨_, SqL.of ec5⟩, comp_inv (fvals := []) (xs := (ms.drop wn).map V.int) (fun acc j HA => H9 acc = none ∧ Same H9 HA ∧ ∃ gv : List Nat, gv.length = j ∧ (∀ n ∈ gv, n < 16) ∧ HA acc = some (.lst (nv gv))) ?_ ?_ ?_ ?_⟩
    · rintro acc j HA ⟨_, sA, _⟩
      exact SqL.of (sA _ _ ec5)
    · intro acc hacc
      exact ⟨hacc, Same.put hacc, [], rfl, fun n hn => absurd hn List.not_mem_nil, upd_same⟩
    · rintro acc j x HA R hx ⟨hacc, sA, gv, lgv, bgv, ea⟩ hR
      obtain ⟨n, hn, rfl⟩ := map_int_get hx
      have hj : j < (ms.drop wn).length := (List.getElem?_eq_some_iff.mp hn).1
      rw [List.length_drop] at hj
      obtain ⟨z, hz, ez⟩ := pick6 (v := n / 16 % 16) (i := n % 6) (by omega) (by omega) ⟨by omega, by omega⟩
      refine ⟨_, rfl, _, _, rfl, rfl, ⟨(by show (0 : Int) < 16; decide), (by show (16 : Int) < 1073741824; decide)⟩, _, _, rfl, rfl, (by show (0 : Int) < 16; decide), (by show 6 ≤ sizeLine; omega), fun L hL => ?_⟩
      have yL := Same.put (o := .lst [V.int 1, V.int 2, V.int 4, V.int 8, V.int 0, V.int (n / 16 % 16)]) hL
      refine ⟨_, rfl, _, _, rfl, rfl, (by show (0 : Int) < 6; decide), L, _, _, _, rfl, rfl, SqL.of upd_same, ez, ?_⟩
      refine hR (.int (z : Int)) _ ⟨nv gv, yL _ _ ea, by rw [nv_length]; omega, hacc, fun b o e => by rw [upd_ne (ne_of_none e hacc)]; exact yL _ _ (sA _ _ e), gv ++ [z], by rw [List.length_append, lgv]; rfl, fun u hu => ?_, by rw [upd_same, nv_snoc]⟩
      rcases List.mem_append.mp hu with h | h
      · exact bgv u h
      · rw [List.mem_singleton.mp h]; exact hz
    rintro wl HA hwl ⟨_, sA, wrs, lw, bw, ewl⟩
    rw [List.length_map, List.length_drop] at lw
    have lw' : wrs.length = wn := by omega
    have yA := y9.trans sA
    have s0A := s08.trans yA
    have eglA := yA _ _ egl
    -- ins
    refine ⟨_, rfl, _, rfl, gl, given, m, rfl, eglA, by omega, by omega, fun i1 HB hi1 sB ei1 => ?_⟩
    refine ⟨_, rfl, wl, wrs, 4, rfl, sB _ _ ewl, by omega, by omega, fun i2 HC hi2 sC ei2 => ?_⟩
    refine ⟨i1, i2, _, _, rfl, rfl, sC _ _ ei1, ei2, (by rw [nv_length, nv_length, spreadN_len, spreadN_len]; omega), fun il hil => ?_⟩
    rw [nv_app]
    have yC := Same.put (o := .lst (nv (spreadN given m ++ spreadN wrs 4))) hil
    have eil : upd HC il (.lst (nv (spreadN given m ++ spreadN wrs 4))) il = some (.lst (nv (spreadN given m ++ spreadN wrs 4))) := upd_same
    generalize upd HC il (.lst (nv (spreadN given m ++ spreadN wrs 4))) = HD at yC eil ⊢
    have yAD := (sB.trans sC).trans yC
    have s0D := s0A.trans yAD
    have y2D : Same H2 HD := ((y25.trans y6).trans y8).trans (yA.trans yAD)
    have hall2 : ∀ n ∈ (spreadN given m ++ spreadN wrs 4) ++ spreadN own m, n < 2 ^ wn := fun n hn => by
      rcases List.mem_append.mp hn with hn | hn
      · rcases List.mem_append.mp hn with hn | hn
        · exact spread_lt lg' n hn
        · exact spread_lt lw' n hn
      · exact spread_lt lo n hn
    have hd : Handed HD (.ref t) kl il (ctNet m) (spreadN own m) (spreadN given m ++ spreadN wrs 4) := ⟨(f1.same s0D).net sm, small, ct_ok m, y2D _ _ ekl, eil, by rw [spreadN_len]; rfl, by rw [List.length_append, spreadN_len, spreadN_len]; show ((m + 4 : Nat) : Int) = (m : Int) + 4; omega, by rw [spreadN_len]; omega, by rw [List.length_append, spreadN_len, spreadN_len]; omega⟩
    refine ⟨_, rfl, _, rfl, _, rfl, _, rfl, .ref t, kl, il, ctNet m, spreadN own m, spreadN given m ++ spreadN wrs 4, wn, rfl, hd, by omega, hall2, fun pf b1 b2 HE sE npf nb1 nb2 nb12 epf eb1 eb2 => ?_⟩
    obtain ⟨st1, oa1, ob1, st2, st3⟩ := step9 lo lg' lw' bo bg bw
    rw [st1] at eb1
    rw [st2] at eb2
    refine ⟨pf, _, rfl, SqT.of epf, rfl, _, _, rfl, _, _, rfl, rfl, ?_⟩
    have s0E := s0D.trans sE
    have yAE := yAD.trans sE
    have enlE := sE _ _ (y2D _ _ enl)
    have eglE := yAE _ _ eglA
    have ewlE := yAE _ _ ewl
    -- due
    refine ⟨_, rfl, _, rfl, nl, gl, rfl, ⟨_, SqL.of enlE⟩, ⟨_, SqL.of eglE⟩, comp_zipInv (fvals := []) (xs := nv own) (ys := nv given) (fun acc j HF => HE acc = none ∧ Same HE HF ∧ ∃ vs, HF acc = some (.lst vs) ∧ Paired (TwoAt (fun b => b = acc) HF) vs ((List.range j).map (dueN own given))) ?_ (by rw [nv_length, nv_length]; omega) ?_ ?_ ?_⟩
    · rintro acc j HF ⟨_, sF, _⟩
      exact ⟨SqL.of (sF _ _ enlE), SqL.of (sF _ _ eglE)⟩
    · intro acc hacc
      exact ⟨hacc, Same.put hacc, [], upd_same, .nil⟩
    · rintro acc j x y HF Tt R hx hy ⟨hacc, sF, vs, ea, hV⟩ hT hR
      obtain ⟨hj, rfl⟩ := nv_getD hx
      obtain ⟨hj2, rfl⟩ := nv_getD hy
      have lvs : vs.length = j := by rw [hV.length, List.length_map, List.length_range]
      have yT := Same.put (o := .tup [V.int ((own.getD j 0 : Nat) : Int), V.int ((given.getD j 0 : Nat) : Int)]) hT
      refine ⟨_, rfl, rfl, .inr ⟨_, rfl, ⟨_, rfl, _, rfl, _, _, rfl, rfl, .inr ⟨_, rfl, (by show 2 ≤ sizeLine; omega), fun L hL => ?_⟩⟩⟩⟩
      have e1 : (if decide (V.int ((own.getD j 0 : Nat) : Int) = V.int 0) = true then 1 else 0 : Int) = (dueN own given j).1 := by
        show _ = (((if own.getD j 0 = 0 then 1 else 0 : Nat)) : Int)
        by_cases h : own.getD j 0 = 0
        · rw [h]; rfl
        · rw [if_neg h, if_neg (by simpa using h)]; rfl
      have e2 : (if decide (((own.getD j 0 : Nat) : Int) < ((given.getD j 0 : Nat) : Int)) = true then 1 else 0 : Int) = (dueN own given j).2 := by
        show _ = (((if own.getD j 0 < given.getD j 0 then 1 else 0 : Nat)) : Int)
        by_cases h : own.getD j 0 < given.getD j 0
        · rw [if_pos h, if_pos (by simpa using h)]; rfl
        · rw [if_neg h, if_neg (by simpa using h)]; rfl
      have yL := Same.put (o := .lst [V.int (if decide (V.int ((own.getD j 0 : Nat) : Int) = V.int 0) = true then 1 else 0), V.int (if decide (((own.getD j 0 : Nat) : Int) < ((given.getD j 0 : Nat) : Int)) = true then 1 else 0)]) hL
      have eL := upd_same (H := upd HF Tt (.tup [V.int ((own.getD j 0 : Nat) : Int), V.int ((given.getD j 0 : Nat) : Int)])) (a := L) (o := .lst [V.int (if decide (V.int ((own.getD j 0 : Nat) : Int) = V.int 0) = true then 1 else 0), V.int (if decide (((own.getD j 0 : Nat) : Int) < ((given.getD j 0 : Nat) : Int)) = true then 1 else 0)])
      have yTL := yT.trans yL
      have ea2 := yTL _ _ ea
      have La : L ≠ acc := (ne_of_none (yT _ _ ea) hL).symm
      refine hR (.ref L) _ ⟨vs, ea2, by omega, hacc, fun b o e => by rw [upd_ne (ne_of_none e hacc)]; exact yTL _ _ (sF _ _ e), vs ++ [V.ref L], upd_same, ?_⟩
      rw [List.range_succ, List.map_append]
      refine Paired.app (Paired.mapP hV fun _ _ z => TwoAt.kp (X := fun b => b = acc) (g := acc) rfl Kp.one (z.same yTL)) (.cons ⟨L, rfl, ?_, La⟩ .nil)
      rw [upd_ne La, ← e1, ← e2]
      exact eL
    rintro ul HF hul ⟨_, sF, us, eul, hU⟩
    rw [nv_length, lo] at hU
    have s0F := s0E.trans sF
    have eb2F := sF _ _ eb2
    -- told
    refine ⟨_, rfl, (wn : Int), rfl, by omega, by omega, comp_rngInv (lo := 0) (n := (wn : Int).toNat) (fvals := [some (.ref b2)]) (fun acc j HG => HF acc = none ∧ Same HF HG ∧ ∃ vs, HG acc = some (.lst vs) ∧ Paired (TwoAt (fun b => b = acc) HG) vs ((List.range j).map (dueN own given))) ?_ ?_ ?_⟩
    · intro acc hacc
      exact ⟨hacc, Same.put hacc, [], upd_same, .nil⟩
    · rintro acc j HG R hj ⟨hacc, sG, vs, ea, hV⟩ hR
      rw [Int.toNat_natCast] at hj
      have lvs : vs.length = j := by rw [hV.length, List.length_map, List.length_range]
      have e0 : (0 + (j : Int)).toNat = j := by omega
      have b3 := st3 j hj
      refine ⟨_, rfl, b2, _, _, _, rfl, rfl, SqL.of (sG _ _ eb2F), rfl, _, rfl, _, _, rfl, rfl, (by show (0 : Int) ≤ 0 + (j : Int); omega), _, _, rfl, rfl, _, rfl, b2, _, _, _, rfl, rfl, SqL.of (sG _ _ eb2F), rfl, _, rfl, _, _, rfl, rfl, (by show (0 : Int) ≤ 0 + (j : Int); omega), _, _, rfl, rfl, (by show 2 ≤ sizeLine; omega), fun L hL => ?_⟩
      have x1 : Builtin.bitAnd ((oa1 : Int) / 2 ^ (0 + (j : Int)).toNat) 1 = (dueN own given j).1 := by rw [e0, shr_bit, b3.1]; rfl
      have x2 : Builtin.bitAnd ((ob1 : Int) / 2 ^ (0 + (j : Int)).toNat) 1 = (dueN own given j).2 := by rw [e0, shr_bit, b3.2]; rfl
      have yL := Same.put (o := .lst [V.int (Builtin.bitAnd ((oa1 : Int) / 2 ^ (0 + (j : Int)).toNat) 1), V.int (Builtin.bitAnd ((ob1 : Int) / 2 ^ (0 + (j : Int)).toNat) 1)]) hL
      have eL := upd_same (H := HG) (a := L) (o := .lst [V.int (Builtin.bitAnd ((oa1 : Int) / 2 ^ (0 + (j : Int)).toNat) 1), V.int (Builtin.bitAnd ((ob1 : Int) / 2 ^ (0 + (j : Int)).toNat) 1)])
      have ea2 := yL _ _ ea
      have La : L ≠ acc := (ne_of_none ea hL).symm
      refine hR (.ref L) _ ⟨vs, ea2, by omega, hacc, fun b o e => by rw [upd_ne (ne_of_none e hacc)]; exact yL _ _ (sG _ _ e), vs ++ [V.ref L], upd_same, ?_⟩
      rw [List.range_succ, List.map_append]
      refine Paired.app (Paired.mapP hV fun _ _ z => TwoAt.kp (X := fun b => b = acc) (g := acc) rfl Kp.one (z.same yL)) (.cons ⟨L, rfl, ?_, La⟩ .nil)
      rw [upd_ne La, ← x1, ← x2]
      exact eL
    rintro vl HG hvl ⟨_, sG, vs, evl, hV⟩
    rw [Int.toNat_natCast] at hV
    refine ⟨_, rfl, dTwos _, dTwos _, rep_Twos K evl hV, rep_Twos K (sG _ _ eul) (Paired.mapP hU fun _ _ z => z.same sG), lay_Twos _, lay_Twos _, dep_Twos _, _, rfl, ?_⟩
    rw [show PyData.eqv (dTwos ((List.range wn).map (dueN own given))) (dTwos ((List.range wn).map (dueN own given))) = true from SeqAt.eqv_refl _ (lay_Twos _)]
    refine iteF ?_
    have sEG := sF.trans sG
    have enlG := sEG _ _ enlE
    have eglG := sEG _ _ eglE
    have ewlG := sEG _ _ ewlE
    have s0G := s0E.trans sEG
    -- the next numbers
    refine ⟨_, rfl, _, rfl, _, rfl, nl, gl, wl, rfl, ⟨_, SqL.of enlG⟩, ⟨_, SqL.of eglG⟩, ⟨_, SqL.of ewlG⟩, comp_zip3Inv (fvals := [some (.int ((2 ^ m - 1 : Nat) : Int))]) (xs := nv own) (ys := nv given) (zs := nv wrs) (fun acc j HH => HG acc = none ∧ Same HG HH ∧ HH acc = some (.lst (nv ((newN m own given wrs).take j)))) ?_ (by rw [nv_length, nv_length]; omega) (by rw [nv_length, nv_length]; omega) ?_ ?_ ?_ ?_⟩
    · rintro acc j HH ⟨_, sH, _⟩
      exact ⟨SqL.of (sH _ _ enlG), SqL.of (sH _ _ eglG), SqL.of (sH _ _ ewlG)⟩
    · rintro acc j HH Tt o ⟨hacc, sH, ea⟩ hT
      have yT := Same.put (o := o) hT
      exact ⟨hacc, sH.trans yT, yT _ _ ea⟩
    · intro acc hacc
      exact ⟨hacc, Same.put hacc, upd_same⟩
    · rintro acc j x y z HH R hx hy hz ⟨hacc, sH, ea⟩ hR
      obtain ⟨hj, rfl⟩ := nv_getD hx
      obtain ⟨_, rfl⟩ := nv_getD hy
      obtain ⟨_, rfl⟩ := nv_getD hz
      refine ⟨_, rfl, _, rfl, _, rfl, _, rfl, _, _, _, _, rfl, ?_⟩
      rw [nextI_eq (getD_lt hpm0 bo) (getD_lt hpm0 bg)]
      refine hR _ _ ⟨_, ea, by rw [nv_length, List.length_take, newN_len]; omega, hacc, fun b o e => by rw [upd_ne (ne_of_none e hacc)]; exact sH _ _ e, ?_⟩
      rw [upd_same, nv_snoc, newN_take hj]
    rintro xl HH hxl ⟨_, sH, exl⟩
    rw [nv_length, List.take_of_length_le (by rw [newN_len]; exact Nat.le_refl _)] at exl
    refine ⟨_, rfl, _, rfl, _, rfl, xl, newN m own given wrs, m, rfl, exl, by rw [newN_len]; omega, by omega, fun rl HI hrl sI erl => ?_⟩
    have eb1I := sI _ _ (sH _ _ (sEG _ _ eb1))
    refine ⟨dL _, dL _, rep_dL K eb1I, rep_dL K erl, lay_dL _, lay_dL _, Nat.le_trans (dep_dL _) (by decide), _, rfl, ?_⟩
    rw [show PyData.eqv (dL (spreadN (newN m own given wrs) m)) (dL (spreadN (newN m own given wrs) m)) = true from SeqAt.eqv_refl _ (lay_dL _)]
    refine iteF ?_
    exact ⟨xl, b1, newN m own given wrs, _, _, _, _, _, _, _, rfl, ((s0G.trans sH).trans sI), sI _ _ exl, by rw [newN_len]; exact lo, newN_lt bo bg, eb1I⟩
  · rintro σ H2 ⟨nl, kl, own, v7, v8, v9, v10, v11, v12, v13, rfl, s2, enl, lo, bo, ekl⟩
    exact q _
end
end K9

set_option Elab.async false
set_option linter.all false
set_option maxRecDepth 100000
set_option maxHeartbeats 4000000
namespace K9
open PySem L2
section
variable {P : Program} {w : World} {K : PySem.W.Frag} {mg : Str → Option Value} {base : Heap}
theorem ok_law {f C fi fad foo fac fno fle fpf fpi fa fn2 fb fc fm fn fk fx fs g1 g2 g3 g4 g5 g6 g7 g8 g9 : Addr} {fd fdi dad doo dac dno dle dpf dpi fda fdn2 fdb fdc fdm fdn fdk fdx fds d1 d2 d3 d4 d5 d6 d7 d8 d9 : FuncData} {tk : Tok} (F : Fun K "law" "law" s_law f fd) (T : Bt mg) (hfw : mg "FIXED_WIRES" = some (.int 2 tk))
    (T_added : Fn K mg "added" s_added ["maker", "ones", "others", "carry"] fad dad) (T_others_of : Fn K mg "others_of" s_others_of ["maker", "ones"] foo doo)
    (T_all_chosen : Fn K mg "all_chosen" s_all_chosen ["maker", "which", "ones", "others"] fac dac) (T_is_none : Fn K mg "is_none" s_is_none ["maker", "ones"] fno dno) (T_is_less : Fn K mg "is_less" s_is_less ["maker", "ones", "others"] fle dle)
    (T_picked_figure : Fn K mg "picked_figure" s_picked_figure ["maker", "pairs", "figure"] fpf dpf) (T_picked : Fn K mg "picked" s_picked ["maker", "pairs"] fpi dpi)
    (T_are_wires : Fn K mg "are_wires" s_are_wires ["wires", "count"] fa fda) (T_is_net : Fn K mg "is_net" s_is_net ["net"] fn2 fdn2)
    (T_beat : Fn K mg "beat" s_beat ["net", "kept", "ins", "worlds"] fb fdb)
    (T_law_cell : Fn K mg "_law_cell" s_law_cell ["_law_script", "_law_k"] fc fdc) (T_law_mixed : Fn K mg "_law_mixed" s_law_mixed ["_law_cell_here", "_law_k"] fm fdm)
    (T_law_numbers : Fn K mg "_law_numbers" s_law_numbers ["_law_script", "_law_at", "_law_many", "_law_base"] fn fdn)
    (T_law_counter : Fn K mg "_law_counter" s_law_counter ["_law_many"] fk fdk)
    (T_law_next : Fn K mg "_law_next" s_law_next ["_law_own", "_law_given", "_law_wires", "_law_full"] fx fdx) (T_law_spread : Fn K mg "_law_spread" s_law_spread ["_law_numbers_here", "_law_many"] fs fds)
    (T_Maker : Mc K mg C fi fdi) (T_Maker_inputs : Mt K C "inputs" "Maker.inputs" s_Maker_inputs ["self"] g5 d5) (T_Maker_keepers : Mt K C "keepers" "Maker.keepers" s_Maker_keepers ["self"] g7 d7)
    (T_Maker_nand : Mt K C "nand" "Maker.nand" s_Maker_nand ["self", "a", "b"] g1 d1) (T_Maker_other : Mt K C "other" "Maker.other" s_Maker_other ["self", "a"] g2 d2) (T_Maker_both : Mt K C "both" "Maker.both" s_Maker_both ["self", "a", "b"] g8 d8)
    (T_Maker_either : Mt K C "either" "Maker.either" s_Maker_either ["self", "a", "b"] g6 d6) (T_Maker_unlike : Mt K C "unlike" "Maker.unlike" s_Maker_unlike ["self", "a", "b"] g3 d3) (T_Maker_chosen : Mt K C "chosen" "Maker.chosen" s_Maker_chosen ["self", "which", "a", "b"] g4 d4)
    (T_Maker_net : Mt K C "net" "Maker.net" s_Maker_net ["self", "nexts", "outs"] g9 d9) :
    FnOk P w K mg base CX0 7 f fd ["_law_script"] (sp_law K) := by
  have G_law_numbers := ok_law_numbers (P := P) (w := w) (base := base) T_law_numbers.F T T_law_cell T_law_mixed
  have G_law_spread := ok_law_spread (P := P) (w := w) (base := base) T_law_spread.F T
  have G_is_net := ok_is_net (P := P) (w := w) (base := base) T_is_net.F T T_are_wires hfw
  have G_law_counter := ok_law_counter (P := P) (w := w) (base := base) T_law_counter.F T hfw T_added T_others_of T_all_chosen T_is_none T_is_less T_picked_figure T_picked T_Maker T_Maker_inputs T_Maker_keepers T_Maker_nand T_Maker_other T_Maker_both T_Maker_either T_Maker_unlike T_Maker_chosen T_Maker_net
  refine F.ok sc_law (fun vs H Q E h => ?_) (fun cdv A outer s H vs Q E hr h => ?_)
  · obtain ⟨a, ns, rfl, _⟩ := h; rfl
  · obtain ⟨a, ns, rfl, hq, hn63, q⟩ := h
    have hs : sizeLine = 16777216 := sizeLine_eq
    obtain ⟨uB, hB, qB⟩ := law_B (P := P) (w := w) (base := base) (f := f) (cdv := cdv) (A := A) (outer := outer) (s := s) (H := H) (E := E) T T_beat T_law_cell T_law_mixed T_law_numbers T_law_next T_law_spread hr
    refine ⟨_, (pss_cons (ps_asg (pe_call G_law_numbers (hr.mono (by decide)) rfl T_law_numbers.m T_law_numbers.F.kp T_law_numbers.b .nil pass0 (pa_cons (pv 0) (pa_cons pe_int (pa_cons pe_int (pa_cons pe_int pa_nil))))) (pg_lst rfl (pgs_cons (pg_name (i := 1) sc_law.nd rfl (Or.inl rfl)) (pgs_cons (pg_name (i := 2) sc_law.nd rfl (Or.inl rfl)) pgs_nil))))
      (pss_cons (ps_set (i := 1) sc_law.nd rfl (Or.inl rfl) (pe_det (pe_op op_add pe_int (pe_op op_mod (pv 1) pe_int))))
      (pss_cons (ps_set (i := 2) sc_law.nd rfl (Or.inl rfl) (pe_det (pe_op op_add pe_int (pe_op op_mod (pv 2) pe_int))))
      (pss_cons (ps_set (i := 3) sc_law.nd rfl (Or.inr rfl) (pe_det (pe_op op_sub (pe_op op_shl pe_int (pv 1)) pe_int)))
      (pss_cons (ps_set (i := 4) sc_law.nd rfl (Or.inl rfl) (pe_call G_law_counter (hr.mono (by decide)) rfl T_law_counter.m T_law_counter.F.kp T_law_counter.b .nil pass0 (pa_cons (pv 1) pa_nil)))
      (pss_cons (ps_if (pt_not (pt_val (pe_call G_is_net (hr.mono (by decide)) rfl T_is_net.m T_is_net.F.kp T_is_net.b .nil pass0 (pa_cons (pv 4) pa_nil))))
        (pss_one (ps_ret pe_bl))
        pss_nil)
      (pss_cons (ps_set (i := 5) sc_law.nd rfl (Or.inl rfl) (pe_call G_law_numbers (hr.mono (by decide)) rfl T_law_numbers.m T_law_numbers.F.kp T_law_numbers.b .nil pass0 (pa_cons (pv 0) (pa_cons pe_int (pa_cons (pv 2) (pa_cons (pe_op op_add (pv 3) pe_int) pa_nil))))))
      (pss_cons (ps_set (i := 6) sc_law.nd rfl (Or.inl rfl) (pe_call G_law_spread (hr.mono (by decide)) rfl T_law_spread.m T_law_spread.F.kp T_law_spread.b .nil pass0 (pa_cons (pv 5) (pa_cons (pv 1) pa_nil))))
      hB)))))))), ?_⟩
    refine ⟨_, rfl, a, ns, 1, 2, 288, rfl, hq, ⟨by decide, by decide⟩, ⟨by decide, by decide⟩, ⟨by decide, by decide⟩, fun l ms hl hlen hall => ?_⟩
    obtain ⟨x1, x2, rfl⟩ := list2 hlen
    refine ⟨l, _, rfl, SqL.of upd_same, rfl, _, _, rfl, _, _, rfl, rfl, ?_⟩
    have sA := Same.put (o := .lst ([x1, x2].map V.int)) hl
    generalize upd H l (.lst ([x1, x2].map V.int)) = HA at sA ⊢
    obtain ⟨m, hm⟩ : ∃ n : Nat, 1 + x1 % 12 = (n : Int) := ⟨(1 + x1 % 12).toNat, by omega⟩
    obtain ⟨wn, hwn⟩ : ∃ n : Nat, 1 + x2 % 24 = (n : Int) := ⟨(1 + x2 % 24).toNat, by omega⟩
    have m1 : 1 ≤ m := by omega
    have m12 : m ≤ 12 := by omega
    have w1 : 1 ≤ wn := by omega
    have w24 : wn ≤ 24 := by omega
    have hpm : 2 ^ m ≤ 2 ^ 12 := Nat.pow_le_pow_right (by decide) m12
    have hpm0 := Nat.two_pow_pos m
    have h512 : (100000 : Int) < 2 ^ 512 := by decide +kernel
    refine ⟨.int (m : Int), ⟨_, rfl, _, _, rfl, rfl, (by show (0 : Int) < 12; decide), _, _, rfl, rfl, congrArg V.int hm, rfl⟩, ?_⟩
    refine ⟨.int (wn : Int), ⟨_, rfl, _, _, rfl, rfl, (by show (0 : Int) < 24; decide), _, _, rfl, rfl, congrArg V.int hwn, rfl⟩, ?_⟩
    have e7 : (1 * 2 ^ (Int.toNat (m : Int)) - 1 : Int) = ((2 ^ m - 1 : Nat) : Int) := by rw [Int.toNat_natCast, high_eq]
    refine ⟨.int ((2 ^ m - 1 : Nat) : Int), ⟨_, rfl, _, _, rfl, rfl, cpow_of (by omega) (by omega) (by decide) (by decide), _, _, rfl, rfl, congrArg V.int e7, rfl⟩, ?_⟩
    refine ⟨_, rfl, m, rfl, m1, m12, fun t ga na oa gs H2 s2 f1 => ?_⟩
    have l9 := lens9 m
    have lout : (ctNet m).outs.length = 2 := rfl
    refine ⟨_, rfl, .ref t, _, rfl, f1.net ⟨by omega, by omega, by omega⟩, fun H5 s5 => ?_⟩
    rw [ct_ok]
    refine ⟨_, rfl, iteF ?_⟩
    have s05 := (sA.trans s2).trans s5
    refine ⟨_, rfl, _, rfl, _, rfl, _, _, rfl, rfl, a, ns, 1, _, _, rfl, s05.seq hq, ⟨by decide, by decide⟩, ⟨by omega, by omega⟩, ⟨by omega, by omega⟩, fun nl ms2 hnl hlen2 hall2 => ?_⟩
    have hall' : ∀ n ∈ ms2, 0 ≤ n ∧ n < ((2 ^ m : Nat) : Int) := fun n hn => by have := hall2 n hn; omega
    obtain ⟨own, eown, lown, hown⟩ := nat_of hall'
    rw [eown]
    have y1 := Same.put (o := .lst (nv own)) hnl
    have enl : upd H5 nl (.lst (nv own)) nl = some (.lst (nv own)) := upd_same
    generalize upd H5 nl (.lst (nv own)) = H6 at y1 enl ⊢
    refine ⟨_, rfl, _, rfl, nl, own, m, rfl, enl, by omega, by omega, fun kl H7 hkl s7 ekl => ?_⟩
    have s57 := s5.trans (y1.trans s7)
    exact qB _ a ns m wn t ga na oa gs nl kl own H7 _ _ _ _ _ _ _ q ((s05.trans (y1.trans s7)).seq hq) hn63 m1 m12 w1 w24 (f1.same s57) (s7 _ _ enl) (by omega) (fun n hn => Int.ofNat_lt.mp (hown n hn)) ekl
end
end K9

set_option Elab.async false
set_option linter.all false
set_option maxRecDepth 100000
set_option maxHeartbeats 4000000
namespace K9
open PySem L2
theorem all_mk {l : PySem.W.OpenLaw} {w : World} {K : PySem.W.Frag} {h : Heap} {mg : Str → Option Value} {fz : Addr} {tk : Tok} (X : K.In h) (G : h.Ns mainGlobals mg) (hfa : mg "law" = some (.ref fz))
    {f0 : Addr} {od0 an0 : Option Addr} {sl0 : Array (Option Value)} {oc0 kV0 dc0 pm0 cd0 ct0 : Value}
    {f1 : Addr} {od1 an1 : Option Addr} {sl1 : Array (Option Value)} {oc1 kV1 dc1 pm1 cd1 ct1 : Value}
    {f2 : Addr} {od2 an2 : Option Addr} {sl2 : Array (Option Value)} {oc2 kV2 dc2 pm2 cd2 ct2 : Value}
    {f3 : Addr} {od3 an3 : Option Addr} {sl3 : Array (Option Value)} {oc3 kV3 dc3 pm3 cd3 ct3 : Value}
    {f4 : Addr} {od4 an4 : Option Addr} {sl4 : Array (Option Value)} {oc4 kV4 dc4 pm4 cd4 ct4 : Value}
    {f5 : Addr} {od5 an5 : Option Addr} {sl5 : Array (Option Value)} {oc5 kV5 dc5 pm5 cd5 ct5 : Value}
    {f6 : Addr} {od6 an6 : Option Addr} {sl6 : Array (Option Value)} {oc6 kV6 dc6 pm6 cd6 ct6 : Value}
    {f7 : Addr} {od7 an7 : Option Addr} {sl7 : Array (Option Value)} {oc7 kV7 dc7 pm7 cd7 ct7 : Value}
    {f8 : Addr} {od8 an8 : Option Addr} {sl8 : Array (Option Value)} {oc8 kV8 dc8 pm8 cd8 ct8 : Value}
    {f9 : Addr} {od9 an9 : Option Addr} {sl9 : Array (Option Value)} {oc9 kV9 dc9 pm9 cd9 ct9 : Value}
    {f10 : Addr} {od10 an10 : Option Addr} {sl10 : Array (Option Value)} {oc10 kV10 dc10 pm10 cd10 ct10 : Value}
    {f11 : Addr} {od11 an11 : Option Addr} {sl11 : Array (Option Value)} {oc11 kV11 dc11 pm11 cd11 ct11 : Value}
    {f12 : Addr} {od12 an12 : Option Addr} {sl12 : Array (Option Value)} {oc12 kV12 dc12 pm12 cd12 ct12 : Value}
    {f13 : Addr} {od13 an13 : Option Addr} {sl13 : Array (Option Value)} {oc13 kV13 dc13 pm13 cd13 ct13 : Value}
    {f14 : Addr} {od14 an14 : Option Addr} {sl14 : Array (Option Value)} {oc14 kV14 dc14 pm14 cd14 ct14 : Value}
    {f15 : Addr} {od15 an15 : Option Addr} {sl15 : Array (Option Value)} {oc15 kV15 dc15 pm15 cd15 ct15 : Value}
    {f16 : Addr} {od16 an16 : Option Addr} {sl16 : Array (Option Value)} {oc16 kV16 dc16 pm16 cd16 ct16 : Value}
    (a0 : PySem.W.nsIn K mainGlobals "added" = some (some (.ref f0))) (l0 : K.lookup f0 = some ⟨oc0, od0, .func (PySem.W.fnOf "added" "added" (defArgs s_added) (defBody s_added) (defScope s_added) .none kV0 dc0 pm0 an0 cd0 ct0), sl0⟩) (c0 : PySem.W.codeIn K cd0 "added" = true) (k0 : PySem.W.keepIn K (.ref f0) = true)
    (a1 : PySem.W.nsIn K mainGlobals "others_of" = some (some (.ref f1))) (l1 : K.lookup f1 = some ⟨oc1, od1, .func (PySem.W.fnOf "others_of" "others_of" (defArgs s_others_of) (defBody s_others_of) (defScope s_others_of) .none kV1 dc1 pm1 an1 cd1 ct1), sl1⟩) (c1 : PySem.W.codeIn K cd1 "others_of" = true) (k1 : PySem.W.keepIn K (.ref f1) = true)
    (a2 : PySem.W.nsIn K mainGlobals "all_chosen" = some (some (.ref f2))) (l2 : K.lookup f2 = some ⟨oc2, od2, .func (PySem.W.fnOf "all_chosen" "all_chosen" (defArgs s_all_chosen) (defBody s_all_chosen) (defScope s_all_chosen) .none kV2 dc2 pm2 an2 cd2 ct2), sl2⟩) (c2 : PySem.W.codeIn K cd2 "all_chosen" = true) (k2 : PySem.W.keepIn K (.ref f2) = true)
    (a3 : PySem.W.nsIn K mainGlobals "is_none" = some (some (.ref f3))) (l3 : K.lookup f3 = some ⟨oc3, od3, .func (PySem.W.fnOf "is_none" "is_none" (defArgs s_is_none) (defBody s_is_none) (defScope s_is_none) .none kV3 dc3 pm3 an3 cd3 ct3), sl3⟩) (c3 : PySem.W.codeIn K cd3 "is_none" = true) (k3 : PySem.W.keepIn K (.ref f3) = true)
    (a4 : PySem.W.nsIn K mainGlobals "is_less" = some (some (.ref f4))) (l4 : K.lookup f4 = some ⟨oc4, od4, .func (PySem.W.fnOf "is_less" "is_less" (defArgs s_is_less) (defBody s_is_less) (defScope s_is_less) .none kV4 dc4 pm4 an4 cd4 ct4), sl4⟩) (c4 : PySem.W.codeIn K cd4 "is_less" = true) (k4 : PySem.W.keepIn K (.ref f4) = true)
    (a5 : PySem.W.nsIn K mainGlobals "picked_figure" = some (some (.ref f5))) (l5 : K.lookup f5 = some ⟨oc5, od5, .func (PySem.W.fnOf "picked_figure" "picked_figure" (defArgs s_picked_figure) (defBody s_picked_figure) (defScope s_picked_figure) .none kV5 dc5 pm5 an5 cd5 ct5), sl5⟩) (c5 : PySem.W.codeIn K cd5 "picked_figure" = true) (k5 : PySem.W.keepIn K (.ref f5) = true)
    (a6 : PySem.W.nsIn K mainGlobals "picked" = some (some (.ref f6))) (l6 : K.lookup f6 = some ⟨oc6, od6, .func (PySem.W.fnOf "picked" "picked" (defArgs s_picked) (defBody s_picked) (defScope s_picked) .none kV6 dc6 pm6 an6 cd6 ct6), sl6⟩) (c6 : PySem.W.codeIn K cd6 "picked" = true) (k6 : PySem.W.keepIn K (.ref f6) = true)
    (a7 : PySem.W.nsIn K mainGlobals "are_wires" = some (some (.ref f7))) (l7 : K.lookup f7 = some ⟨oc7, od7, .func (PySem.W.fnOf "are_wires" "are_wires" (defArgs s_are_wires) (defBody s_are_wires) (defScope s_are_wires) .none kV7 dc7 pm7 an7 cd7 ct7), sl7⟩) (c7 : PySem.W.codeIn K cd7 "are_wires" = true) (k7 : PySem.W.keepIn K (.ref f7) = true)
    (a8 : PySem.W.nsIn K mainGlobals "is_net" = some (some (.ref f8))) (l8 : K.lookup f8 = some ⟨oc8, od8, .func (PySem.W.fnOf "is_net" "is_net" (defArgs s_is_net) (defBody s_is_net) (defScope s_is_net) .none kV8 dc8 pm8 an8 cd8 ct8), sl8⟩) (c8 : PySem.W.codeIn K cd8 "is_net" = true) (k8 : PySem.W.keepIn K (.ref f8) = true)
    (a9 : PySem.W.nsIn K mainGlobals "beat" = some (some (.ref f9))) (l9 : K.lookup f9 = some ⟨oc9, od9, .func (PySem.W.fnOf "beat" "beat" (defArgs s_beat) (defBody s_beat) (defScope s_beat) .none kV9 dc9 pm9 an9 cd9 ct9), sl9⟩) (c9 : PySem.W.codeIn K cd9 "beat" = true) (k9 : PySem.W.keepIn K (.ref f9) = true)
    (a10 : PySem.W.nsIn K mainGlobals "_law_cell" = some (some (.ref f10))) (l10 : K.lookup f10 = some ⟨oc10, od10, .func (PySem.W.fnOf "_law_cell" "_law_cell" (defArgs s_law_cell) (defBody s_law_cell) (defScope s_law_cell) .none kV10 dc10 pm10 an10 cd10 ct10), sl10⟩) (c10 : PySem.W.codeIn K cd10 "_law_cell" = true) (k10 : PySem.W.keepIn K (.ref f10) = true)
    (a11 : PySem.W.nsIn K mainGlobals "_law_mixed" = some (some (.ref f11))) (l11 : K.lookup f11 = some ⟨oc11, od11, .func (PySem.W.fnOf "_law_mixed" "_law_mixed" (defArgs s_law_mixed) (defBody s_law_mixed) (defScope s_law_mixed) .none kV11 dc11 pm11 an11 cd11 ct11), sl11⟩) (c11 : PySem.W.codeIn K cd11 "_law_mixed" = true) (k11 : PySem.W.keepIn K (.ref f11) = true)
    (a12 : PySem.W.nsIn K mainGlobals "_law_numbers" = some (some (.ref f12))) (l12 : K.lookup f12 = some ⟨oc12, od12, .func (PySem.W.fnOf "_law_numbers" "_law_numbers" (defArgs s_law_numbers) (defBody s_law_numbers) (defScope s_law_numbers) .none kV12 dc12 pm12 an12 cd12 ct12), sl12⟩) (c12 : PySem.W.codeIn K cd12 "_law_numbers" = true) (k12 : PySem.W.keepIn K (.ref f12) = true)
    (a13 : PySem.W.nsIn K mainGlobals "_law_counter" = some (some (.ref f13))) (l13 : K.lookup f13 = some ⟨oc13, od13, .func (PySem.W.fnOf "_law_counter" "_law_counter" (defArgs s_law_counter) (defBody s_law_counter) (defScope s_law_counter) .none kV13 dc13 pm13 an13 cd13 ct13), sl13⟩) (c13 : PySem.W.codeIn K cd13 "_law_counter" = true) (k13 : PySem.W.keepIn K (.ref f13) = true)
    (a14 : PySem.W.nsIn K mainGlobals "_law_next" = some (some (.ref f14))) (l14 : K.lookup f14 = some ⟨oc14, od14, .func (PySem.W.fnOf "_law_next" "_law_next" (defArgs s_law_next) (defBody s_law_next) (defScope s_law_next) .none kV14 dc14 pm14 an14 cd14 ct14), sl14⟩) (c14 : PySem.W.codeIn K cd14 "_law_next" = true) (k14 : PySem.W.keepIn K (.ref f14) = true)
    (a15 : PySem.W.nsIn K mainGlobals "_law_spread" = some (some (.ref f15))) (l15 : K.lookup f15 = some ⟨oc15, od15, .func (PySem.W.fnOf "_law_spread" "_law_spread" (defArgs s_law_spread) (defBody s_law_spread) (defScope s_law_spread) .none kV15 dc15 pm15 an15 cd15 ct15), sl15⟩) (c15 : PySem.W.codeIn K cd15 "_law_spread" = true) (k15 : PySem.W.keepIn K (.ref f15) = true)
    (a16 : PySem.W.nsIn K mainGlobals "law" = some (some (.ref f16))) (l16 : K.lookup f16 = some ⟨oc16, od16, .func (PySem.W.fnOf "law" "law" (defArgs s_law) (defBody s_law) (defScope s_law) .none kV16 dc16 pm16 an16 cd16 ct16), sl16⟩) (c16 : PySem.W.codeIn K cd16 "law" = true) (k16 : PySem.W.keepIn K (.ref f16) = true)
    {C_Maker : Addr} (aC_Maker : PySem.W.nsIn K mainGlobals "Maker" = some (some (.ref C_Maker)))
    {f_Maker___init__ : Addr} {od_Maker___init__ an_Maker___init__ : Option Addr} {sl_Maker___init__ : Array (Option Value)} {oc_Maker___init__ kV_Maker___init__ dc_Maker___init__ pm_Maker___init__ cd_Maker___init__ ct_Maker___init__ : Value}
    (a_Maker___init__ : PySem.W.findIn K (.ref C_Maker) "__init__" = some (some (.ref f_Maker___init__))) (i_Maker___init__ : PySem.W.isFn K (.ref f_Maker___init__) = true) (l_Maker___init__ : K.lookup f_Maker___init__ = some ⟨oc_Maker___init__, od_Maker___init__, .func (PySem.W.fnOf "__init__" "Maker.__init__" (defArgs s_Maker___init__) (defBody s_Maker___init__) (defScope s_Maker___init__) .none kV_Maker___init__ dc_Maker___init__ pm_Maker___init__ an_Maker___init__ cd_Maker___init__ ct_Maker___init__), sl_Maker___init__⟩) (c_Maker___init__ : PySem.W.codeIn K cd_Maker___init__ "Maker.__init__" = true) (k_Maker___init__ : PySem.W.keepIn K (.ref f_Maker___init__) = true)
    {f_Maker_inputs : Addr} {od_Maker_inputs an_Maker_inputs : Option Addr} {sl_Maker_inputs : Array (Option Value)} {oc_Maker_inputs kV_Maker_inputs dc_Maker_inputs pm_Maker_inputs cd_Maker_inputs ct_Maker_inputs : Value}
    (a_Maker_inputs : PySem.W.findIn K (.ref C_Maker) "inputs" = some (some (.ref f_Maker_inputs))) (i_Maker_inputs : PySem.W.isFn K (.ref f_Maker_inputs) = true) (l_Maker_inputs : K.lookup f_Maker_inputs = some ⟨oc_Maker_inputs, od_Maker_inputs, .func (PySem.W.fnOf "inputs" "Maker.inputs" (defArgs s_Maker_inputs) (defBody s_Maker_inputs) (defScope s_Maker_inputs) .none kV_Maker_inputs dc_Maker_inputs pm_Maker_inputs an_Maker_inputs cd_Maker_inputs ct_Maker_inputs), sl_Maker_inputs⟩) (c_Maker_inputs : PySem.W.codeIn K cd_Maker_inputs "Maker.inputs" = true) (k_Maker_inputs : PySem.W.keepIn K (.ref f_Maker_inputs) = true)
    {f_Maker_keepers : Addr} {od_Maker_keepers an_Maker_keepers : Option Addr} {sl_Maker_keepers : Array (Option Value)} {oc_Maker_keepers kV_Maker_keepers dc_Maker_keepers pm_Maker_keepers cd_Maker_keepers ct_Maker_keepers : Value}
    (a_Maker_keepers : PySem.W.findIn K (.ref C_Maker) "keepers" = some (some (.ref f_Maker_keepers))) (i_Maker_keepers : PySem.W.isFn K (.ref f_Maker_keepers) = true) (l_Maker_keepers : K.lookup f_Maker_keepers = some ⟨oc_Maker_keepers, od_Maker_keepers, .func (PySem.W.fnOf "keepers" "Maker.keepers" (defArgs s_Maker_keepers) (defBody s_Maker_keepers) (defScope s_Maker_keepers) .none kV_Maker_keepers dc_Maker_keepers pm_Maker_keepers an_Maker_keepers cd_Maker_keepers ct_Maker_keepers), sl_Maker_keepers⟩) (c_Maker_keepers : PySem.W.codeIn K cd_Maker_keepers "Maker.keepers" = true) (k_Maker_keepers : PySem.W.keepIn K (.ref f_Maker_keepers) = true)
    {f_Maker_nand : Addr} {od_Maker_nand an_Maker_nand : Option Addr} {sl_Maker_nand : Array (Option Value)} {oc_Maker_nand kV_Maker_nand dc_Maker_nand pm_Maker_nand cd_Maker_nand ct_Maker_nand : Value}
    (a_Maker_nand : PySem.W.findIn K (.ref C_Maker) "nand" = some (some (.ref f_Maker_nand))) (i_Maker_nand : PySem.W.isFn K (.ref f_Maker_nand) = true) (l_Maker_nand : K.lookup f_Maker_nand = some ⟨oc_Maker_nand, od_Maker_nand, .func (PySem.W.fnOf "nand" "Maker.nand" (defArgs s_Maker_nand) (defBody s_Maker_nand) (defScope s_Maker_nand) .none kV_Maker_nand dc_Maker_nand pm_Maker_nand an_Maker_nand cd_Maker_nand ct_Maker_nand), sl_Maker_nand⟩) (c_Maker_nand : PySem.W.codeIn K cd_Maker_nand "Maker.nand" = true) (k_Maker_nand : PySem.W.keepIn K (.ref f_Maker_nand) = true)
    {f_Maker_other : Addr} {od_Maker_other an_Maker_other : Option Addr} {sl_Maker_other : Array (Option Value)} {oc_Maker_other kV_Maker_other dc_Maker_other pm_Maker_other cd_Maker_other ct_Maker_other : Value}
    (a_Maker_other : PySem.W.findIn K (.ref C_Maker) "other" = some (some (.ref f_Maker_other))) (i_Maker_other : PySem.W.isFn K (.ref f_Maker_other) = true) (l_Maker_other : K.lookup f_Maker_other = some ⟨oc_Maker_other, od_Maker_other, .func (PySem.W.fnOf "other" "Maker.other" (defArgs s_Maker_other) (defBody s_Maker_other) (defScope s_Maker_other) .none kV_Maker_other dc_Maker_other pm_Maker_other an_Maker_other cd_Maker_other ct_Maker_other), sl_Maker_other⟩) (c_Maker_other : PySem.W.codeIn K cd_Maker_other "Maker.other" = true) (k_Maker_other : PySem.W.keepIn K (.ref f_Maker_other) = true)
    {f_Maker_both : Addr} {od_Maker_both an_Maker_both : Option Addr} {sl_Maker_both : Array (Option Value)} {oc_Maker_both kV_Maker_both dc_Maker_both pm_Maker_both cd_Maker_both ct_Maker_both : Value}
    (a_Maker_both : PySem.W.findIn K (.ref C_Maker) "both" = some (some (.ref f_Maker_both))) (i_Maker_both : PySem.W.isFn K (.ref f_Maker_both) = true) (l_Maker_both : K.lookup f_Maker_both = some ⟨oc_Maker_both, od_Maker_both, .func (PySem.W.fnOf "both" "Maker.both" (defArgs s_Maker_both) (defBody s_Maker_both) (defScope s_Maker_both) .none kV_Maker_both dc_Maker_both pm_Maker_both an_Maker_both cd_Maker_both ct_Maker_both), sl_Maker_both⟩) (c_Maker_both : PySem.W.codeIn K cd_Maker_both "Maker.both" = true) (k_Maker_both : PySem.W.keepIn K (.ref f_Maker_both) = true)
    {f_Maker_either : Addr} {od_Maker_either an_Maker_either : Option Addr} {sl_Maker_either : Array (Option Value)} {oc_Maker_either kV_Maker_either dc_Maker_either pm_Maker_either cd_Maker_either ct_Maker_either : Value}
    (a_Maker_either : PySem.W.findIn K (.ref C_Maker) "either" = some (some (.ref f_Maker_either))) (i_Maker_either : PySem.W.isFn K (.ref f_Maker_either) = true) (l_Maker_either : K.lookup f_Maker_either = some ⟨oc_Maker_either, od_Maker_either, .func (PySem.W.fnOf "either" "Maker.either" (defArgs s_Maker_either) (defBody s_Maker_either) (defScope s_Maker_either) .none kV_Maker_either dc_Maker_either pm_Maker_either an_Maker_either cd_Maker_either ct_Maker_either), sl_Maker_either⟩) (c_Maker_either : PySem.W.codeIn K cd_Maker_either "Maker.either" = true) (k_Maker_either : PySem.W.keepIn K (.ref f_Maker_either) = true)
    {f_Maker_unlike : Addr} {od_Maker_unlike an_Maker_unlike : Option Addr} {sl_Maker_unlike : Array (Option Value)} {oc_Maker_unlike kV_Maker_unlike dc_Maker_unlike pm_Maker_unlike cd_Maker_unlike ct_Maker_unlike : Value}
    (a_Maker_unlike : PySem.W.findIn K (.ref C_Maker) "unlike" = some (some (.ref f_Maker_unlike))) (i_Maker_unlike : PySem.W.isFn K (.ref f_Maker_unlike) = true) (l_Maker_unlike : K.lookup f_Maker_unlike = some ⟨oc_Maker_unlike, od_Maker_unlike, .func (PySem.W.fnOf "unlike" "Maker.unlike" (defArgs s_Maker_unlike) (defBody s_Maker_unlike) (defScope s_Maker_unlike) .none kV_Maker_unlike dc_Maker_unlike pm_Maker_unlike an_Maker_unlike cd_Maker_unlike ct_Maker_unlike), sl_Maker_unlike⟩) (c_Maker_unlike : PySem.W.codeIn K cd_Maker_unlike "Maker.unlike" = true) (k_Maker_unlike : PySem.W.keepIn K (.ref f_Maker_unlike) = true)
    {f_Maker_chosen : Addr} {od_Maker_chosen an_Maker_chosen : Option Addr} {sl_Maker_chosen : Array (Option Value)} {oc_Maker_chosen kV_Maker_chosen dc_Maker_chosen pm_Maker_chosen cd_Maker_chosen ct_Maker_chosen : Value}
    (a_Maker_chosen : PySem.W.findIn K (.ref C_Maker) "chosen" = some (some (.ref f_Maker_chosen))) (i_Maker_chosen : PySem.W.isFn K (.ref f_Maker_chosen) = true) (l_Maker_chosen : K.lookup f_Maker_chosen = some ⟨oc_Maker_chosen, od_Maker_chosen, .func (PySem.W.fnOf "chosen" "Maker.chosen" (defArgs s_Maker_chosen) (defBody s_Maker_chosen) (defScope s_Maker_chosen) .none kV_Maker_chosen dc_Maker_chosen pm_Maker_chosen an_Maker_chosen cd_Maker_chosen ct_Maker_chosen), sl_Maker_chosen⟩) (c_Maker_chosen : PySem.W.codeIn K cd_Maker_chosen "Maker.chosen" = true) (k_Maker_chosen : PySem.W.keepIn K (.ref f_Maker_chosen) = true)
    {f_Maker_net : Addr} {od_Maker_net an_Maker_net : Option Addr} {sl_Maker_net : Array (Option Value)} {oc_Maker_net kV_Maker_net dc_Maker_net pm_Maker_net cd_Maker_net ct_Maker_net : Value}
    (a_Maker_net : PySem.W.findIn K (.ref C_Maker) "net" = some (some (.ref f_Maker_net))) (i_Maker_net : PySem.W.isFn K (.ref f_Maker_net) = true) (l_Maker_net : K.lookup f_Maker_net = some ⟨oc_Maker_net, od_Maker_net, .func (PySem.W.fnOf "net" "Maker.net" (defArgs s_Maker_net) (defBody s_Maker_net) (defScope s_Maker_net) .none kV_Maker_net dc_Maker_net pm_Maker_net an_Maker_net cd_Maker_net ct_Maker_net), sl_Maker_net⟩) (c_Maker_net : PySem.W.codeIn K cd_Maker_net "Maker.net" = true) (k_Maker_net : PySem.W.keepIn K (.ref f_Maker_net) = true)
    (pg_Maker : PySem.W.plainGet K C_Maker Str.empty = true) (hd_Maker : PySem.W.hasDictIn K C_Maker = true) (po_Maker : PySem.W.plainOver K C_Maker = true) (sa_Maker : PySem.W.findIn K (.ref C_Maker) "__setattr__" = some (some (.builtin "object.__setattr__"))) (mk_Maker : PySem.W.makesIn K C_Maker = true) (kc_Maker : PySem.W.keepIn K (.ref C_Maker) = true)
    (n_Maker_ins : PySem.W.findIn K (.ref C_Maker) "ins" = some none)
    (n_Maker_keeps : PySem.W.findIn K (.ref C_Maker) "keeps" = some none)
    (n_Maker_gates : PySem.W.findIn K (.ref C_Maker) "gates" = some none)
    (fw : PySem.W.nsIn K mainGlobals "FIXED_WIRES" = some (some (.int 2 tk)))
    (z_len : PySem.W.nsIn K mainGlobals "len" = some none)
    (z_abs : PySem.W.nsIn K mainGlobals "abs" = some none)
    (z_max : PySem.W.nsIn K mainGlobals "max" = some none)
    (z_range : PySem.W.nsIn K mainGlobals "range" = some none)
    (z_list : PySem.W.nsIn K mainGlobals "list" = some none)
    (z_all : PySem.W.nsIn K mainGlobals "all" = some none)
    (z_zip : PySem.W.nsIn K mainGlobals "zip" = some none)
    (z_enumerate : PySem.W.nsIn K mainGlobals "enumerate" = some none)
    (z_sum : PySem.W.nsIn K mainGlobals "sum" = some none)
    (z_int : PySem.W.nsIn K mainGlobals "int" = some none)
    (z_isinstance : PySem.W.nsIn K mainGlobals "isinstance" = some none)
    : ∃ fd : FuncData, (∀ (s : Shared) (v : Value), BindsTo s fd ⟨[v], []⟩ [("_law_script", v)]) ∧ ∀ base : Heap, K.In base → base.Ns mainGlobals mg → FnOk l.prog w K mg base CX0 7 fz fd ["_law_script"] (sp_law K) := by
  have e := hfa.symm.trans (PySem.W.mg_of X G a16)
  cases e
  have T : Bt mg := ⟨PySem.W.mg_none_of X G z_len, PySem.W.mg_none_of X G z_abs, PySem.W.mg_none_of X G z_max, PySem.W.mg_none_of X G z_range, PySem.W.mg_none_of X G z_list, PySem.W.mg_none_of X G z_all, PySem.W.mg_none_of X G z_zip, PySem.W.mg_none_of X G z_enumerate, PySem.W.mg_none_of X G z_sum, PySem.W.mg_none_of X G z_int, PySem.W.mg_none_of X G z_isinstance⟩
  have F0 := fun_mk (st := s_added) l0 c0 k0
  have b0 := F0.binds (ps := ["maker", "ones", "others", "carry"]) fun _ _ _ _ _ _ us hl => match us, hl with | [_, _, _, _], _ => rfl
  have F1 := fun_mk (st := s_others_of) l1 c1 k1
  have b1 := F1.binds (ps := ["maker", "ones"]) fun _ _ _ _ _ _ us hl => match us, hl with | [_, _], _ => rfl
  have F2 := fun_mk (st := s_all_chosen) l2 c2 k2
  have b2 := F2.binds (ps := ["maker", "which", "ones", "others"]) fun _ _ _ _ _ _ us hl => match us, hl with | [_, _, _, _], _ => rfl
  have F3 := fun_mk (st := s_is_none) l3 c3 k3
  have b3 := F3.binds (ps := ["maker", "ones"]) fun _ _ _ _ _ _ us hl => match us, hl with | [_, _], _ => rfl
  have F4 := fun_mk (st := s_is_less) l4 c4 k4
  have b4 := F4.binds (ps := ["maker", "ones", "others"]) fun _ _ _ _ _ _ us hl => match us, hl with | [_, _, _], _ => rfl
  have F5 := fun_mk (st := s_picked_figure) l5 c5 k5
  have b5 := F5.binds (ps := ["maker", "pairs", "figure"]) fun _ _ _ _ _ _ us hl => match us, hl with | [_, _, _], _ => rfl
  have F6 := fun_mk (st := s_picked) l6 c6 k6
  have b6 := F6.binds (ps := ["maker", "pairs"]) fun _ _ _ _ _ _ us hl => match us, hl with | [_, _], _ => rfl
  have F7 := fun_mk (st := s_are_wires) l7 c7 k7
  have b7 := F7.binds (ps := ["wires", "count"]) fun _ _ _ _ _ _ us hl => match us, hl with | [_, _], _ => rfl
  have F8 := fun_mk (st := s_is_net) l8 c8 k8
  have b8 := F8.binds (ps := ["net"]) fun _ _ _ _ _ _ us hl => match us, hl with | [_], _ => rfl
  have F9 := fun_mk (st := s_beat) l9 c9 k9
  have b9 := F9.binds (ps := ["net", "kept", "ins", "worlds"]) fun _ _ _ _ _ _ us hl => match us, hl with | [_, _, _, _], _ => rfl
  have F10 := fun_mk (st := s_law_cell) l10 c10 k10
  have b10 := F10.binds (ps := ["_law_script", "_law_k"]) fun _ _ _ _ _ _ us hl => match us, hl with | [_, _], _ => rfl
  have F11 := fun_mk (st := s_law_mixed) l11 c11 k11
  have b11 := F11.binds (ps := ["_law_cell_here", "_law_k"]) fun _ _ _ _ _ _ us hl => match us, hl with | [_, _], _ => rfl
  have F12 := fun_mk (st := s_law_numbers) l12 c12 k12
  have b12 := F12.binds (ps := ["_law_script", "_law_at", "_law_many", "_law_base"]) fun _ _ _ _ _ _ us hl => match us, hl with | [_, _, _, _], _ => rfl
  have F13 := fun_mk (st := s_law_counter) l13 c13 k13
  have b13 := F13.binds (ps := ["_law_many"]) fun _ _ _ _ _ _ us hl => match us, hl with | [_], _ => rfl
  have F14 := fun_mk (st := s_law_next) l14 c14 k14
  have b14 := F14.binds (ps := ["_law_own", "_law_given", "_law_wires", "_law_full"]) fun _ _ _ _ _ _ us hl => match us, hl with | [_, _, _, _], _ => rfl
  have F15 := fun_mk (st := s_law_spread) l15 c15 k15
  have b15 := F15.binds (ps := ["_law_numbers_here", "_law_many"]) fun _ _ _ _ _ _ us hl => match us, hl with | [_, _], _ => rfl
  have F16 := fun_mk (st := s_law) l16 c16 k16
  have F_Maker___init__ := fun_mk (st := s_Maker___init__) l_Maker___init__ c_Maker___init__ k_Maker___init__
  have b_Maker___init__ := F_Maker___init__.binds (ps := ["self", "ins", "keeps"]) fun _ _ _ _ _ _ us hl => match us, hl with | [_, _, _], _ => rfl
  have F_Maker_inputs := fun_mk (st := s_Maker_inputs) l_Maker_inputs c_Maker_inputs k_Maker_inputs
  have b_Maker_inputs := F_Maker_inputs.binds (ps := ["self"]) fun _ _ _ _ _ _ us hl => match us, hl with | [_], _ => rfl
  have F_Maker_keepers := fun_mk (st := s_Maker_keepers) l_Maker_keepers c_Maker_keepers k_Maker_keepers
  have b_Maker_keepers := F_Maker_keepers.binds (ps := ["self"]) fun _ _ _ _ _ _ us hl => match us, hl with | [_], _ => rfl
  have F_Maker_nand := fun_mk (st := s_Maker_nand) l_Maker_nand c_Maker_nand k_Maker_nand
  have b_Maker_nand := F_Maker_nand.binds (ps := ["self", "a", "b"]) fun _ _ _ _ _ _ us hl => match us, hl with | [_, _, _], _ => rfl
  have F_Maker_other := fun_mk (st := s_Maker_other) l_Maker_other c_Maker_other k_Maker_other
  have b_Maker_other := F_Maker_other.binds (ps := ["self", "a"]) fun _ _ _ _ _ _ us hl => match us, hl with | [_, _], _ => rfl
  have F_Maker_both := fun_mk (st := s_Maker_both) l_Maker_both c_Maker_both k_Maker_both
  have b_Maker_both := F_Maker_both.binds (ps := ["self", "a", "b"]) fun _ _ _ _ _ _ us hl => match us, hl with | [_, _, _], _ => rfl
  have F_Maker_either := fun_mk (st := s_Maker_either) l_Maker_either c_Maker_either k_Maker_either
  have b_Maker_either := F_Maker_either.binds (ps := ["self", "a", "b"]) fun _ _ _ _ _ _ us hl => match us, hl with | [_, _, _], _ => rfl
  have F_Maker_unlike := fun_mk (st := s_Maker_unlike) l_Maker_unlike c_Maker_unlike k_Maker_unlike
  have b_Maker_unlike := F_Maker_unlike.binds (ps := ["self", "a", "b"]) fun _ _ _ _ _ _ us hl => match us, hl with | [_, _, _], _ => rfl
  have F_Maker_chosen := fun_mk (st := s_Maker_chosen) l_Maker_chosen c_Maker_chosen k_Maker_chosen
  have b_Maker_chosen := F_Maker_chosen.binds (ps := ["self", "which", "a", "b"]) fun _ _ _ _ _ _ us hl => match us, hl with | [_, _, _, _], _ => rfl
  have F_Maker_net := fun_mk (st := s_Maker_net) l_Maker_net c_Maker_net k_Maker_net
  have b_Maker_net := F_Maker_net.binds (ps := ["self", "nexts", "outs"]) fun _ _ _ _ _ _ us hl => match us, hl with | [_, _, _], _ => rfl
  have T_Maker : Mc K mg C_Maker f_Maker___init__ _ := ⟨⟨pg_Maker, hd_Maker, po_Maker, sa_Maker⟩, ⟨mk_Maker, a_Maker___init__, i_Maker___init__, kc_Maker⟩, F_Maker___init__, b_Maker___init__, PySem.W.mg_of X G aC_Maker, n_Maker_ins, n_Maker_keeps, n_Maker_gates⟩
  exact ⟨PySem.W.fnOf "law" "law" (defArgs s_law) (defBody s_law) (defScope s_law) .none kV16 dc16 pm16 an16 cd16 ct16, fun s v => .of_eq rfl, fun base _ _ => ok_law F16 T (PySem.W.mg_of X G fw) ⟨F0, PySem.W.mg_of X G a0, b0⟩ ⟨F1, PySem.W.mg_of X G a1, b1⟩ ⟨F2, PySem.W.mg_of X G a2, b2⟩ ⟨F3, PySem.W.mg_of X G a3, b3⟩ ⟨F4, PySem.W.mg_of X G a4, b4⟩ ⟨F5, PySem.W.mg_of X G a5, b5⟩ ⟨F6, PySem.W.mg_of X G a6, b6⟩ ⟨F7, PySem.W.mg_of X G a7, b7⟩ ⟨F8, PySem.W.mg_of X G a8, b8⟩ ⟨F9, PySem.W.mg_of X G a9, b9⟩ ⟨F10, PySem.W.mg_of X G a10, b10⟩ ⟨F11, PySem.W.mg_of X G a11, b11⟩ ⟨F12, PySem.W.mg_of X G a12, b12⟩ ⟨F13, PySem.W.mg_of X G a13, b13⟩ ⟨F14, PySem.W.mg_of X G a14, b14⟩ ⟨F15, PySem.W.mg_of X G a15, b15⟩ T_Maker ⟨F_Maker_inputs, ⟨a_Maker_inputs, i_Maker_inputs, k_Maker_inputs⟩, b_Maker_inputs⟩ ⟨F_Maker_keepers, ⟨a_Maker_keepers, i_Maker_keepers, k_Maker_keepers⟩, b_Maker_keepers⟩ ⟨F_Maker_nand, ⟨a_Maker_nand, i_Maker_nand, k_Maker_nand⟩, b_Maker_nand⟩ ⟨F_Maker_other, ⟨a_Maker_other, i_Maker_other, k_Maker_other⟩, b_Maker_other⟩ ⟨F_Maker_both, ⟨a_Maker_both, i_Maker_both, k_Maker_both⟩, b_Maker_both⟩ ⟨F_Maker_either, ⟨a_Maker_either, i_Maker_either, k_Maker_either⟩, b_Maker_either⟩ ⟨F_Maker_unlike, ⟨a_Maker_unlike, i_Maker_unlike, k_Maker_unlike⟩, b_Maker_unlike⟩ ⟨F_Maker_chosen, ⟨a_Maker_chosen, i_Maker_chosen, k_Maker_chosen⟩, b_Maker_chosen⟩ ⟨F_Maker_net, ⟨a_Maker_net, i_Maker_net, k_Maker_net⟩, b_Maker_net⟩⟩
theorem walk {l : PySem.W.OpenLaw} {q : Program} {loose : List Str} {XP : (Str → Option Value) → Heap → Prop} {YP : World → Heap → Prop} {d : DefRec} {K : Params → PySem.W.Frag} (hn : l.most = some 63) (hdf : d.params.defaults = [])
    (hY : ∀ (w : World) (h : Heap), YP w h → (K w.params).In h)
    (F : ∀ (w : World) (mg : Str → Option Value) (fa : Addr) (h : Heap), (K w.params).In h → h.Ns mainGlobals mg → mg d.name = some (.ref fa) →
      ∃ fd : FuncData, (∀ (s : Shared) (u : Value), BindsTo s fd ⟨[u], []⟩ [("_law_script", u)]) ∧ ∀ base : Heap, (K w.params).In base → base.Ns mainGlobals mg → FnOk l.prog w (K w.params) mg base CX0 7 fa fd ["_law_script"] (sp_law (K w.params))) :
    PySem.W.WalkO q loose XP YP l.row.toRowW d [] (fun f vs => PySem.call f vs) :=
  L2.walk_of (n := 63) (k := 7) (x := "_law_script") (CX := fun _ => CX0) (sp := fun w => sp_law (K w.params)) hn (by decide) hdf ⟨rfl, by decide, by decide⟩ hY F (fun _ _ a ns hl _ hS => ⟨a, ns, rfl, hS, hl, fun _ => rfl⟩) fun _ _ _ _ _ z => z
end K9
open PySem PySem.W PyProof.Rows
set_option maxRecDepth 100000 in
set_option maxHeartbeats 0 in
theorem PySem.Challenge.cw_gatetown_k09_whole_counting_nets_holds : PySem.Challenge.rw_gatetown_k09_whole_counting_nets.Holds := by
  w_on; o_law; k_head; (case hw => w_witness2)
  k_fill
  refine K9.walk (l := PySem.Challenge.rw_gatetown_k09_whole_counting_nets) rfl rfl (fun w h Y => PySem.W.kIn_of Y) ?F
  case F =>
    intro w mg fa h KX G hmg
    refine' K9.all_mk KX G hmg ?a0 ?l0 ?c0 ?k0 ?a1 ?l1 ?c1 ?k1 ?a2 ?l2 ?c2 ?k2 ?a3 ?l3 ?c3 ?k3 ?a4 ?l4 ?c4 ?k4 ?a5 ?l5 ?c5 ?k5 ?a6 ?l6 ?c6 ?k6 ?a7 ?l7 ?c7 ?k7 ?a8 ?l8 ?c8 ?k8 ?a9 ?l9 ?c9 ?k9 ?a10 ?l10 ?c10 ?k10 ?a11 ?l11 ?c11 ?k11 ?a12 ?l12 ?c12 ?k12 ?a13 ?l13 ?c13 ?k13 ?a14 ?l14 ?c14 ?k14 ?a15 ?l15 ?c15 ?k15 ?a16 ?l16 ?c16 ?k16 ?aC_Maker ?a_Maker___init__ ?i_Maker___init__ ?l_Maker___init__ ?c_Maker___init__ ?k_Maker___init__ ?a_Maker_inputs ?i_Maker_inputs ?l_Maker_inputs ?c_Maker_inputs ?k_Maker_inputs ?a_Maker_keepers ?i_Maker_keepers ?l_Maker_keepers ?c_Maker_keepers ?k_Maker_keepers ?a_Maker_nand ?i_Maker_nand ?l_Maker_nand ?c_Maker_nand ?k_Maker_nand ?a_Maker_other ?i_Maker_other ?l_Maker_other ?c_Maker_other ?k_Maker_other ?a_Maker_both ?i_Maker_both ?l_Maker_both ?c_Maker_both ?k_Maker_both ?a_Maker_either ?i_Maker_either ?l_Maker_either ?c_Maker_either ?k_Maker_either ?a_Maker_unlike ?i_Maker_unlike ?l_Maker_unlike ?c_Maker_unlike ?k_Maker_unlike ?a_Maker_chosen ?i_Maker_chosen ?l_Maker_chosen ?c_Maker_chosen ?k_Maker_chosen ?a_Maker_net ?i_Maker_net ?l_Maker_net ?c_Maker_net ?k_Maker_net ?pg_Maker ?hd_Maker ?po_Maker ?sa_Maker ?mk_Maker ?kc_Maker ?n_Maker_ins ?n_Maker_keeps ?n_Maker_gates ?fw ?z_len ?z_abs ?z_max ?z_range ?z_list ?z_all ?z_zip ?z_enumerate ?z_sum ?z_int ?z_isinstance
    (case a0 => k_is)
    (case l0 => k_is)
    (case c0 => k_is)
    (case k0 => k_is)
    (case a1 => k_is)
    (case l1 => k_is)
    (case c1 => k_is)
    (case k1 => k_is)
    (case a2 => k_is)
    (case l2 => k_is)
    (case c2 => k_is)
    (case k2 => k_is)
    (case a3 => k_is)
    (case l3 => k_is)
    (case c3 => k_is)
    (case k3 => k_is)
    (case a4 => k_is)
    (case l4 => k_is)
    (case c4 => k_is)
    (case k4 => k_is)
    (case a5 => k_is)
    (case l5 => k_is)
    (case c5 => k_is)
    (case k5 => k_is)
    (case a6 => k_is)
    (case l6 => k_is)
    (case c6 => k_is)
    (case k6 => k_is)
    (case a7 => k_is)
    (case l7 => k_is)
    (case c7 => k_is)
    (case k7 => k_is)
    (case a8 => k_is)
    (case l8 => k_is)
    (case c8 => k_is)
    (case k8 => k_is)
    (case a9 => k_is)
    (case l9 => k_is)
    (case c9 => k_is)
    (case k9 => k_is)
    (case a10 => k_is)
    (case l10 => k_is)
    (case c10 => k_is)
    (case k10 => k_is)
    (case a11 => k_is)
    (case l11 => k_is)
    (case c11 => k_is)
    (case k11 => k_is)
    (case a12 => k_is)
    (case l12 => k_is)
    (case c12 => k_is)
    (case k12 => k_is)
    (case a13 => k_is)
    (case l13 => k_is)
    (case c13 => k_is)
    (case k13 => k_is)
    (case a14 => k_is)
    (case l14 => k_is)
    (case c14 => k_is)
    (case k14 => k_is)
    (case a15 => k_is)
    (case l15 => k_is)
    (case c15 => k_is)
    (case k15 => k_is)
    (case a16 => k_is)
    (case l16 => k_is)
    (case c16 => k_is)
    (case k16 => k_is)
    (case aC_Maker => k_is)
    (case a_Maker___init__ => k_is)
    (case i_Maker___init__ => k_is)
    (case l_Maker___init__ => k_is)
    (case c_Maker___init__ => k_is)
    (case k_Maker___init__ => k_is)
    (case a_Maker_inputs => k_is)
    (case i_Maker_inputs => k_is)
    (case l_Maker_inputs => k_is)
    (case c_Maker_inputs => k_is)
    (case k_Maker_inputs => k_is)
    (case a_Maker_keepers => k_is)
    (case i_Maker_keepers => k_is)
    (case l_Maker_keepers => k_is)
    (case c_Maker_keepers => k_is)
    (case k_Maker_keepers => k_is)
    (case a_Maker_nand => k_is)
    (case i_Maker_nand => k_is)
    (case l_Maker_nand => k_is)
    (case c_Maker_nand => k_is)
    (case k_Maker_nand => k_is)
    (case a_Maker_other => k_is)
    (case i_Maker_other => k_is)
    (case l_Maker_other => k_is)
    (case c_Maker_other => k_is)
    (case k_Maker_other => k_is)
    (case a_Maker_both => k_is)
    (case i_Maker_both => k_is)
    (case l_Maker_both => k_is)
    (case c_Maker_both => k_is)
    (case k_Maker_both => k_is)
    (case a_Maker_either => k_is)
    (case i_Maker_either => k_is)
    (case l_Maker_either => k_is)
    (case c_Maker_either => k_is)
    (case k_Maker_either => k_is)
    (case a_Maker_unlike => k_is)
    (case i_Maker_unlike => k_is)
    (case l_Maker_unlike => k_is)
    (case c_Maker_unlike => k_is)
    (case k_Maker_unlike => k_is)
    (case a_Maker_chosen => k_is)
    (case i_Maker_chosen => k_is)
    (case l_Maker_chosen => k_is)
    (case c_Maker_chosen => k_is)
    (case k_Maker_chosen => k_is)
    (case a_Maker_net => k_is)
    (case i_Maker_net => k_is)
    (case l_Maker_net => k_is)
    (case c_Maker_net => k_is)
    (case k_Maker_net => k_is)
    (case pg_Maker => k_is)
    (case hd_Maker => k_is)
    (case po_Maker => k_is)
    (case sa_Maker => k_is)
    (case mk_Maker => k_is)
    (case kc_Maker => k_is)
    (case n_Maker_ins => k_is)
    (case n_Maker_keeps => k_is)
    (case n_Maker_gates => k_is)
    (case fw => k_is)
    (case z_len => k_is)
    (case z_abs => k_is)
    (case z_max => k_is)
    (case z_range => k_is)
    (case z_list => k_is)
    (case z_all => k_is)
    (case z_zip => k_is)
    (case z_enumerate => k_is)
    (case z_sum => k_is)
    (case z_int => k_is)
    (case z_isinstance => k_is)
