import PyProof.Rows.All
import Wide.All
import OpenK.AllK
import Wide.FinOn
import Lean
import PyProof.EqAt
import PyProof.EqKinds
import PyProof.TupleCall
import PyProof.NeData
import PyProof.StrWalks
import PyProof.MeetsStr
import PyProof.Draws
import PyProof.EnumMake
import PyProof.Rows.Range3
import PyProof.AttrMissHeap
import PyProof.CollectWalk
import PyProof.TupleIter
import KE.KDictOf
import KE.KEqDict
import OpenK.KOwn
import KE.KTryOn
import PyProof.NsDelKeeps
import PyProof.ExcClass3
import PyProof.DictWalks
import PyProof.ListMulRoad
import PyProof.StrOps2
import PyProof.StrBlockG
import PyProof.ListStr
import PyProof.Rows.SortStr
import PyProof.ExcArgsOwn
import KE.KIsAll
import PyProof.ExcAttrAll.ValueError
import PyProof.Rows.SortShell
import PyProof.DictItems
import PySem.Challenge.RW_gatetown_k21_programs_by_themselves
-- CHANGE: your row's module here, as the last of these rows
set_option Elab.async false
set_option linter.all false
set_option maxRecDepth 100000
/-! THE HAND LAYER, for ints, bools, texts, own classes, LISTS and tuples (index, slices, in, append, pop ..), calls, loops. Paste it whole ahead of your own text; what your proof does not reach may be deleted. -/
namespace L2
open PySem PySem.Spec PyProof.Rows

/-- a key: an int or a str -/
abbrev Key := Sum Int Str
def keyIs : Key → Value → Bool
  | .inl k, v => Value.isInt k v
  | .inr x, v => Value.isStrOf x v
def keyH (w : World) : Key → Int
  | .inl k => hashInt k
  | .inr x => hashStr w x
theorem keyIs_shape : ∀ {k : Key} {v : Value}, keyIs k v = true → (∃ i t, k = Sum.inl i ∧ v = Value.int i t) ∨ (∃ x t, k = Sum.inr x ∧ v = Value.str x t)
  | .inl i, v, h => by
    obtain ⟨t, e⟩ := Value.isInt_shape (k := i) (v := v) h
    exact .inl ⟨i, t, rfl, e⟩
  | .inr x, v, h => by
    obtain ⟨t, e⟩ := Value.isStrOf_shape (x := x) (v := v) h
    exact .inr ⟨x, t, rfl, e⟩
theorem keyIs_int (i : Int) (t : Tok) : keyIs (.inl i) (.int i t) = true := by simp [keyIs, Value.isInt]
theorem keyIs_str (x : Str) (t : Tok) : keyIs (.inr x) (.str x t) = true := by simp [keyIs, Value.isStrOf]
theorem key_ll (a b : Int) : decide ((Sum.inl a : Key) = Sum.inl b) = (a == b) := by
  by_cases e : a = b
  · subst e; simp
  · have h : ¬ (Sum.inl a : Key) = Sum.inl b := fun q => e (Sum.inl.inj q)
    rw [decide_eq_false h]
    exact (beq_eq_false_iff_ne.mpr e).symm
theorem key_rr (a b : Str) : decide ((Sum.inr a : Key) = Sum.inr b) = decide (a = b) := by
  by_cases e : a = b
  · subst e; simp
  · have h : ¬ (Sum.inr a : Key) = Sum.inr b := fun q => e (Sum.inr.inj q)
    rw [decide_eq_false h, decide_eq_false e]
theorem key_lr (a : Int) (b : Str) : decide ((Sum.inl a : Key) = Sum.inr b) = false := decide_eq_false (fun q => nomatch q)
theorem key_rl (a : Str) (b : Int) : decide ((Sum.inr a : Key) = Sum.inl b) = false := decide_eq_false (fun q => nomatch q)

def mixKind (prog : Program) (w : World) : PySem.KeyKind prog w Key where
  is := keyIs
  hash := keyH w
  inj := fun v a b ha hb => by
    rcases keyIs_shape ha with ⟨i, t, rfl, rfl⟩ | ⟨x, t, rfl, rfl⟩
    · rcases keyIs_shape hb with ⟨j, u, rfl, e⟩ | ⟨y, u, rfl, e⟩
      · injection e with e1 _; rw [e1]
      · exact nomatch e
    · rcases keyIs_shape hb with ⟨j, u, rfl, e⟩ | ⟨y, u, rfl, e⟩
      · exact nomatch e
      · injection e with e1 _; rw [e1]
  byValue := fun k v h => by
    rcases keyIs_shape h with ⟨i, t, rfl, rfl⟩ | ⟨x, t, rfl, rfl⟩ <;> rfl
  pyHash := fun hv h => by
    rcases keyIs_shape hv with ⟨i, t, rfl, rfl⟩ | ⟨x, t, rfl, rfl⟩
    · exact wpAny_pyHash_int h
    · exact wpAny_pyHash_str h
  eqBool := fun hu hv h => by
    rcases keyIs_shape hu with ⟨i, t, rfl, rfl⟩ | ⟨x, t, rfl, rfl⟩
    · rcases keyIs_shape hv with ⟨j, u, rfl, rfl⟩ | ⟨y, u, rfl, rfl⟩
      · rw [key_ll] at h; exact wpAny_eqBool_int h
      · rw [key_lr] at h; exact SeqAt.EqAt.int_str i t y u _ _ _ _ h
    · rcases keyIs_shape hv with ⟨j, u, rfl, rfl⟩ | ⟨y, u, rfl, rfl⟩
      · rw [key_rl] at h; exact SeqAt.EqAt.str_int x t j u _ _ _ _ h
      · rw [key_rr] at h; exact wpAny_eqBool_str h
  «strs» := fun k x t v h => by
    rcases keyIs_shape h with ⟨i, u, rfl, e⟩ | ⟨y, u, rfl, e⟩
    · exact nomatch e
    · injection e with e1 _
      subst e1
      cases v <;> rfl

theorem mixKind_is (prog : Program) (w : World) (k : Key) (v : Value) : (mixKind prog w).is k v = keyIs k v := rfl
theorem mixKind_int (prog : Program) (w : World) (i : Int) (t : Tok) : (mixKind prog w).is (.inl i) (.int i t) = true := keyIs_int i t
theorem mixKind_str (prog : Program) (w : World) (x : Str) (t : Tok) : (mixKind prog w).is (.inr x) (.str x t) = true := keyIs_str x t
end L2

namespace L2
open PySem PySem.Spec PyProof.Rows

/-- a value, without the heap -/
inductive V where
  | non | bl (b : Bool) | int (i : Int) | str (x : Str) | byt (b : Array UInt8) | flt (b : UInt64) | ref (a : Addr) | ty (n : String)
  deriving DecidableEq

def RelV : V → Value → Prop
  | .non, u => u = Value.none
  | .bl b, u => u = Value.bool b
  | .int i, u => ∃ t, u = Value.int i t
  | .str x, u => ∃ t, u = Value.str x t
  | .byt b, u => ∃ t, u = Value.bytes b t
  | .flt b, u => ∃ t, u = Value.float b t
  | .ref a, u => u = Value.ref a
  | .ty n, u => u = Value.type n

abbrev Vals : List V → List Value → Prop := Paired RelV
theorem Vals.length {xs : List V} {us : List Value} (r : Vals xs us) : xs.length = us.length := Paired.length r
theorem Vals.get : ∀ {xs : List V} {us : List Value} {i : Nat} {x : V}, Vals xs us → xs[i]? = some x → ∃ u, us[i]? = some u ∧ RelV x u
  | _, _, _, _, .nil, e => by simp at e
  | _, _, 0, _, .cons r _, e => by simp at e; subst e; exact ⟨_, rfl, r⟩
  | _, _, i + 1, x, .cons _ t, e => by
    obtain ⟨u, h1, h2⟩ := Vals.get (i := i) (x := x) t (by simpa using e)
    exact ⟨u, by simpa using h1, h2⟩
theorem Vals.set {x : V} {u : Value} (r : RelV x u) : ∀ {xs : List V} {us : List Value} (i : Nat), Vals xs us → Vals (xs.set i x) (us.set i u)
  | _, _, _, .nil => .nil
  | _, _, 0, .cons _ t => .cons r t
  | _, _, i + 1, .cons q t => .cons q (Vals.set r i t)
theorem Vals.append : ∀ {xs ys : List V} {us ws : List Value}, Vals xs us → Vals ys ws → Vals (xs ++ ys) (us ++ ws)
  | _, _, _, _, .nil, s => s
  | _, _, _, _, .cons r t, s => .cons r (Vals.append t s)
theorem Vals.take : ∀ {xs : List V} {us : List Value} (n : Nat), Vals xs us → Vals (xs.take n) (us.take n)
  | _, _, 0, _ => .nil
  | _, _, _ + 1, .nil => .nil
  | _, _, n + 1, .cons r t => .cons r (Vals.take n t)
theorem Vals.drop : ∀ {xs : List V} {us : List Value} (n : Nat), Vals xs us → Vals (xs.drop n) (us.drop n)
  | _, _, 0, r => r
  | _, _, _ + 1, .nil => .nil
  | _, _, n + 1, .cons _ t => Vals.drop n t

def RelO : Option V → Option Value → Prop
  | some v, some u => RelV v u
  | none, none => True
  | _, _ => False
def KV {κ : Type} : List (κ × V) → List (κ × Value) → Prop := Paired fun (p : κ × V) (q : κ × Value) => p.1 = q.1 ∧ RelV p.2 q.2

/-- a key of a dict (00_mix): an int or a text -/
def kV : Key → V
  | .inl i => .int i
  | .inr x => .str x

/-- what stands at a tracked address -/
inductive HO where
  /-- a list -/
  | lst (xs : List V)
  /-- a tuple (never changes) -/
  | tup (xs : List V)
  /-- a dict whose keys are ints and texts; one whose keys are tuples of ints and texts (the empty one is both) -/
  | dK (kvs : List (Key × V)) | dT (kvs : List (List Key × V))
  /-- a set of ints: its members, its size -/
  | set (S : Int → Bool) (n : Nat)
  /-- an instance of the class at C, its dict at dx, its attributes -/
  | ins (C dx : Addr) (fs : List (Str × V))
  /-- the dict of the instance at x -/
  | own (x : Addr)
  /-- the dict of an exception -/
  | xd (fs : List (Str × V))
  /-- a bound method, f of x -/
  | met (f x : Addr)
  /-- a range object lo, lo + 1, .. below hi -/
  | rng (lo hi : Int)
  /-- a thing that is known to the object (the script; a dict while a loop walks it): read, never written while it is so -/
  | frz (o : Obj) (u : HO)
  /-- a code object's table -/
  | tbl (ps : Array Value)
  /-- any other thing, by what is true of its one object (a def of one's own: SetO a S n := HO.ext fun h => ..) -/
  | ext (φ : Heap → Prop)

abbrev Hp := Addr → Option HO
def upd (H : Hp) (a : Addr) (o : HO) : Hp := fun b => if b = a then some o else H b
theorem upd_same {H : Hp} {a : Addr} {o : HO} : upd H a o a = some o := by unfold upd; rw [if_pos rfl]
theorem upd_ne {H : Hp} {a b : Addr} {o : HO} (h : b ≠ a) : upd H a o b = H b := by unfold upd; rw [if_neg h]
theorem upd_upd {H : Hp} {a : Addr} {o u : HO} : upd (upd H a o) a u = upd H a u := by
  funext b; unfold upd; split <;> rfl
/-- two objects of different content stand apart -/
theorem ne_of {H : Hp} {a b : Addr} {o u : HO} (h : H a = some o) (h' : H b = some u) (d : o ≠ u) : a ≠ b := by
  intro e; subst e; rw [h] at h'; exact d (Option.some.inj h')
theorem ne_of_none {H : Hp} {a b : Addr} {o : HO} (h : H a = some o) (h' : H b = none) : a ≠ b := by
  intro e; subst e; rw [h] at h'; cases h'

section
variable (P : Program) (w : World)
def ObjOk (H : Hp) (h : Heap) (a : Addr) : HO → Prop
  | .lst xs => xs.length ≤ sizeLine ∧ ∃ (its : List Value) (n : Nat), Vals xs its ∧ h.get? a = some { cls := .type "list", data := .seq its.toArray n }
  | .tup xs => xs.length ≤ sizeLine ∧ ∃ its : List Value, Vals xs its ∧ IsTup h a its.toArray
  | .dK kvs => kvs.length ≤ sizeLine ∧ (a == sysModules) = false ∧ ∃ vs, KV kvs vs ∧ h.DictOf (mixKind P w) a vs
  | .dT kvs => kvs.length ≤ sizeLine ∧ (a == sysModules) = false ∧ ∃ xs : List (List Key × Addr × Value),
      Paired (fun (p : List Key × V) (q : List Key × Addr × Value) => p.1 = q.1 ∧ H q.2.1 = some (.tup (p.1.map kV)) ∧ RelV p.2 q.2.2) kvs xs ∧
      ∃ o es ep, h.get? a = some o ∧ o.ExactDict ∧ o.data = .dict es ep ∧ es.toList = xs.map (entryOfKey (tupleKind (mixKind P w))) ∧ (xs.map (·.1)).Nodup
  | .set S n => h.SetOf (intKind P w) a S n
  | .ins C dx fs => H dx = some (.own a) ∧ fs.length ≤ 1000 ∧ dx ≠ a ∧ h.get? a = some (PySem.W.instObj C dx) ∧
      ∃ mA, h.Ns1 dx mA ∧ (∀ f, RelO (fs.lookup f) (mA f)) ∧ PySem.Within mA (fs.map (·.1))
  | .own _ => ∃ o, h.get? a = some o
  | .xd fs => ∃ mA, h.Ns1 a mA ∧ ∀ f, RelO (fs.lookup f) (mA f)
  | .rng lo hi => ∃ t u v, h.get? a = some { cls := .type "range", data := .fields #[.int lo t, .int hi u, .int 1 v] }
  | .frz o u => h.get? a = some o ∧ ObjOk H h a u
  | .tbl ps => h.get? a = some { cls := .none, data := .fields ps }
  | .met f x => h.get? a = some (PySem.W.methodObj (.ref f) (.ref x))
  | .ext φ => φ h ∧ (∃ o, h.get? a = some o) ∧ ∀ h1 h2 : Heap, φ h1 → (∀ o, h1.get? a = some o → h2.get? a = some o) → φ h2
/-- the abstract heap is held -/
def HOk (H : Hp) (h : Heap) : Prop := ∀ a o, H a = some o → ObjOk P w H h a o
end

section
variable {P : Program} {w : World} {H H' : Hp} {h h' : Heap} {a : Addr} {o : HO}
theorem ObjOk.lt (x : ObjOk P w H h a o) : a < h.objs.size := by
  cases o with
  | lst xs => obtain ⟨_, _, _, _, e⟩ := x; exact Heap.lt_size e
  | tup xs => obtain ⟨_, _, _, p⟩ := x; exact p.lt
  | dK kvs => obtain ⟨_, _, _, _, o, _, _, e, _⟩ := x; exact Heap.lt_size e
  | dT kvs => obtain ⟨_, _, _, _, o, _, _, e, _⟩ := x; exact Heap.lt_size e
  | set S n => obtain ⟨o, _, _, _, e, _⟩ := x; exact Heap.lt_size e
  | ins C dx fs => obtain ⟨_, _, _, e, _⟩ := x; exact Heap.lt_size e
  | own y => obtain ⟨_, e⟩ := x; exact Heap.lt_size e
  | xd fs => obtain ⟨_, ⟨_, _, _, e, _⟩, _⟩ := x; exact Heap.lt_size e
  | rng lo hi => obtain ⟨_, _, _, e⟩ := x; exact Heap.lt_size e
  | frz ob u => obtain ⟨e, _⟩ := x; exact Heap.lt_size e
  | tbl ps => exact Heap.lt_size (show h.get? a = some _ from x)
  | met f y => exact Heap.lt_size (show h.get? a = some _ from x)
  | ext φ => obtain ⟨_, ⟨_, e⟩, _⟩ := x; exact Heap.lt_size e
theorem Paired.mapP {α β : Type} {F G : α → β → Prop} : ∀ {l₁ : List α} {l₂ : List β}, Paired F l₁ l₂ → (∀ a b, F a b → G a b) → Paired G l₁ l₂
  | _, _, .nil, _ => .nil
  | _, _, .cons r t, f => .cons (f _ _ r) (Paired.mapP t f)
theorem Paired.imp' {α β : Type} {F G : α → β → Prop} (f : ∀ a b, F a b → G a b) {l₁ : List α} {l₂ : List β} (r : Paired F l₁ l₂) : Paired G l₁ l₂ := Paired.mapP r f
/-- what an object's description leans on: its own object, its own dict, the tuples -/
theorem ObjOk.stay (x : ObjOk P w H h a o) (k : ∀ b u, (b = a ∨ H b = some (.own a)) → h.get? b = some u → h'.get? b = some u)
    (ho : ∀ b, H b = some (.own a) → H' b = some (.own a)) (ht : ∀ b xs, H b = some (.tup xs) → H' b = some (.tup xs)) : ObjOk P w H' h' a o := by
  induction o with
  | lst xs => obtain ⟨z, its, n, r, e⟩ := x; exact ⟨z, its, n, r, k _ _ (.inl rfl) e⟩
  | tup xs => obtain ⟨z, its, r, ob, e, c⟩ := x; exact ⟨z, its, r, ob, k _ _ (.inl rfl) e, c⟩
  | dK kvs => obtain ⟨z, y, vs, r, ob, es, ep, e, c⟩ := x; exact ⟨z, y, vs, r, ob, es, ep, k _ _ (.inl rfl) e, c⟩
  | dT kvs =>
    obtain ⟨z, y, xs, r, ob, es, ep, e, c⟩ := x
    exact ⟨z, y, xs, Paired.mapP r fun p q z => ⟨z.1, ht _ _ z.2.1, z.2.2⟩, ob, es, ep, k _ _ (.inl rfl) e, c⟩
  | set S n => obtain ⟨ob, es, ep, t, e, c⟩ := x; exact ⟨ob, es, ep, t, k _ _ (.inl rfl) e, c⟩
  | ins C dx fs =>
    obtain ⟨d, z, ne, e, mA, ⟨od, es, ep, e2, c⟩, r⟩ := x
    exact ⟨ho _ d, z, ne, k _ _ (.inl rfl) e, mA, ⟨od, es, ep, k _ _ (.inr d) e2, c⟩, r⟩
  | own y => obtain ⟨ob, e⟩ := x; exact ⟨ob, k _ _ (.inl rfl) e⟩
  | xd fs => obtain ⟨mA, ⟨od, es, ep, e, c⟩, r⟩ := x; exact ⟨mA, ⟨od, es, ep, k _ _ (.inl rfl) e, c⟩, r⟩
  | rng lo hi => obtain ⟨t, u, v, e⟩ := x; exact ⟨t, u, v, k _ _ (.inl rfl) e⟩
  | frz ob u ih => obtain ⟨e, q⟩ := x; exact ⟨k _ _ (.inl rfl) e, ih q⟩
  | tbl ps =>
    have e : h.get? a = some { cls := .none, data := .fields ps } := x
    show h'.get? a = some { cls := .none, data := .fields ps }
    exact k a _ (.inl rfl) e
  | met f y =>
    have e : h.get? a = some (PySem.W.methodObj (.ref f) (.ref y)) := x
    show h'.get? a = some (PySem.W.methodObj (.ref f) (.ref y))
    exact k a _ (.inl rfl) e
  | ext φ => obtain ⟨p, ⟨o, e⟩, st⟩ := x; exact ⟨st _ _ p fun o q => k _ _ (.inl rfl) q, ⟨o, k _ _ (.inl rfl) e⟩, st⟩
theorem HOk.lt (x : HOk P w H h) (e : H a = some o) : a < h.objs.size := (x a o e).lt
theorem HOk.fresh (x : HOk P w H h) (e : h.objs.size ≤ a) : H a = none := by
  cases q : H a with
  | none => rfl
  | some u => exact absurd (Nat.lt_of_lt_of_le (x.lt q) e) (Nat.lt_irrefl _)
/-- every object of the heap is kept -/
theorem HOk.kept (x : HOk P w H h) (k : ∀ b u, h.get? b = some u → h'.get? b = some u) : HOk P w H h' := fun a o e =>
  (x a o e).stay (fun b u _ q => k b u q) (fun _ q => q) fun _ _ q => q
/-- a new object is laid and tracked -/
theorem HOk.laid (x : HOk P w H h) (k : ∀ b u, h.get? b = some u → h'.get? b = some u) (hp : h.objs.size ≤ a) (new : ObjOk P w (upd H a o) h' a o) : HOk P w (upd H a o) h' := fun b u e => by
  have hn := x.fresh hp
  by_cases hb : b = a
  · subst hb; rw [upd_same] at e; cases e; exact new
  · rw [upd_ne hb] at e
    exact (x b u e).stay (fun c v _ q => k c v q) (fun c q => by rw [upd_ne (ne_of_none q hn)]; exact q) fun c xs q => by rw [upd_ne (ne_of_none q hn)]; exact q
end

/-- what may be read as u: it is u, or a known u -/
def Rd (H : Hp) (a : Addr) (u : HO) : Prop := H a = some u ∨ ∃ o, H a = some (.frz o u)
theorem Rd.ok {P : Program} {w : World} {H : Hp} {h : Heap} {a : Addr} {u : HO} (r : Rd H a u) (x : HOk P w H h) : ObjOk P w H h a u := by
  rcases r with r | ⟨o, r⟩
  · exact x a u r
  · obtain ⟨_, q⟩ := x a _ r
    exact q
/-- what may be written -/
def Mut : Option HO → Prop
  | some (.lst _) => True
  | some (.dK _) => True
  | some (.dT _) => True
  | some (.set _ _) => True
  | some (.ins _ _ _) => True
  | some (.ext _) => True
  | _ => False
section
variable {P : Program} {w : World} {H : Hp} {h h' : Heap} {x e : Addr} {o' : HO}
/-- the object at e is changed: x itself, or the dict of the instance x -/
theorem HOk.write (ok : HOk P w H h) (mu : Mut (H x)) (he : e = x ∨ H e = some (.own x)) (k : ∀ b u, b ≠ e → h.get? b = some u → h'.get? b = some u) (heo : ∃ u, h'.get? e = some u)
    (new : ObjOk P w (upd H x o') h' x o') : HOk P w (upd H x o') h' := fun b u q => by
  have nown : ∀ c y, H c = some (.own y) → c ≠ x := fun c y r z => by subst z; rw [r] at mu; exact mu
  have ntup : ∀ c xs, H c = some (.tup xs) → c ≠ x := fun c xs r z => by subst z; rw [r] at mu; exact mu
  by_cases hb : b = x
  · subst hb; rw [upd_same] at q; cases q; exact new
  · rw [upd_ne hb] at q
    by_cases hbe : b = e
    · have q' : H b = some (.own x) := by
        rcases he with z | z
        · exact absurd (hbe.trans z) hb
        · rw [hbe]; exact z
      rw [q] at q'; cases q'
      obtain ⟨v, hv⟩ := heo
      exact ⟨v, by rw [hbe]; exact hv⟩
    · refine (ok b u q).stay (fun c v hc r => k c v ?_ r) (fun c r => by rw [upd_ne (nown c b r)]; exact r) fun c xs r => by rw [upd_ne (ntup c xs r)]; exact r
      rcases hc with rfl | hc
      · exact hbe
      · rintro rfl
        rcases he with z | z
        · exact nown c b hc z
        · rw [hc] at z; cases z; exact hb rfl
end

/-! ### kept unless tracked; of the frames at fs (the callers') the slots may change (an exception that passes writes there); of the records at ex (iterators) nothing is said -/
structure Un (fs ex : List Addr) (H H' : Hp) (h h' : Heap) : Prop where
  keep : ∀ b o, h.get? b = some o → H b = none → b ∉ fs → b ∉ ex → h'.get? b = some o
  slot : ∀ b o, h.get? b = some o → H b = none → b ∈ fs → b ∉ ex → ∃ sl, h'.get? b = some { o with slots := sl }
  free : ∀ b o, h.get? b = some o → H b = none → b ∉ ex → H' b = none
  there : ∀ b o, h.get? b = some o → b ∉ ex → ∃ o', h'.get? b = some o'
  tups : ∀ b xs, H b = some (.tup xs) → H' b = some (.tup xs)
  frzs : ∀ b o u, H b = some (.frz o u) → H' b = some (.frz o u)
  tbls : ∀ b ps, H b = some (.tbl ps) → ∃ more, H' b = some (.tbl (ps ++ more))
section
variable {fs fs' ex ex' : List Addr} {H H1 H2 : Hp} {h h1 h2 h' : Heap} {a x e : Addr} {o : HO}
theorem Un.any (u : Un fs ex H H1 h h1) {b : Addr} {ob : Obj} (q : h.get? b = some ob) (n : H b = none) (hx : b ∉ ex) : ∃ sl, h1.get? b = some { ob with slots := sl } := by
  by_cases hb : b ∈ fs
  · exact u.slot b ob q n hb hx
  · exact ⟨ob.slots, u.keep b ob q n hb hx⟩
theorem Un.kept (k : ∀ b u, h.get? b = some u → h'.get? b = some u) : Un fs ex H H h h' :=
  ⟨fun b ob q _ _ _ => k b ob q, fun b ob q _ _ _ => ⟨ob.slots, k b ob q⟩, fun _ _ _ n _ => n, fun b ob q _ => ⟨ob, k b ob q⟩, fun _ _ q => q, fun _ _ _ q => q, fun _ ps q => ⟨#[], by rw [q]; simp⟩⟩
theorem Un.refl : Un fs ex H H h h := Un.kept fun _ _ q => q
theorem Un.laid (k : ∀ b u, h.get? b = some u → h'.get? b = some u) (hp : h.objs.size ≤ a) (hn : H a = none) : Un fs ex H (upd H a o) h h' where
  keep := fun b u q _ _ _ => k b u q
  slot := fun b u q _ _ _ => ⟨u.slots, k b u q⟩
  free := fun b u q n _ => by rw [upd_ne (Nat.ne_of_lt (Nat.lt_of_lt_of_le (Heap.lt_size q) hp))]; exact n
  there := fun b u q _ => ⟨u, k b u q⟩
  tups := fun b xs q => by rw [upd_ne (ne_of_none q hn)]; exact q
  frzs := fun b u xs q => by rw [upd_ne (ne_of_none q hn)]; exact q
  tbls := fun b ps q => ⟨#[], by rw [upd_ne (ne_of_none q hn), q]; simp⟩
theorem Un.write (mu : Mut (H x)) (he : e = x ∨ H e = some (.own x)) (k : ∀ b u, b ≠ e → h.get? b = some u → h'.get? b = some u) (heo : ∃ u, h'.get? e = some u) : Un fs ex H (upd H x o) h h' := by
  have hx : ∀ b, H b = none → b ≠ x := fun b n z => by subst z; rw [n] at mu; exact mu
  have hb : ∀ b, H b = none → b ≠ e := fun b n z => by
    subst z
    rcases he with r | r
    · exact hx b n r
    · rw [n] at r; cases r
  have hm : ∀ b u, H b = some u → ¬ Mut (some u) → b ≠ x := fun b u q nm z => by subst z; rw [q] at mu; exact nm mu
  refine ⟨fun b u q n _ _ => k b u (hb b n) q, fun b u q n _ _ => ⟨u.slots, k b u (hb b n) q⟩, fun b u q n _ => by rw [upd_ne (hx b n)]; exact n, fun b u q _ => ?_,
    fun b xs q => by rw [upd_ne (hm b _ q fun z => z)]; exact q, fun b u xs q => by rw [upd_ne (hm b _ q fun z => z)]; exact q, fun b ps q => ⟨#[], by rw [upd_ne (hm b _ q fun z => z), q]; simp⟩⟩
  by_cases hbe : b = e
  · subst hbe; exact heo
  · exact ⟨u, k b u hbe q⟩
end

/-! ### the heap without what is tracked -/
def trk (h : Heap) (H : Hp) : List Addr := (List.range h.objs.size).filter fun a => (H a).isSome
def hidT (h : Heap) (H : Hp) : Heap := PySem.W.hideAll h (trk h H)
theorem hidT_size (h : Heap) (H : Hp) : (hidT h H).objs.size = h.objs.size := PySem.W.hideAll_size _ _
theorem hidT_get {h : Heap} {H : Hp} {b : Addr} {o : Obj} (e : h.get? b = some o) (n : H b = none) : (hidT h H).get? b = some o :=
  PySem.W.hideAll_get _ e fun hm => by
    have q : (H b).isSome = true := (List.mem_filter.mp hm).2
    rw [n] at q; simp at q
theorem of_hidT {h : Heap} {H : Hp} {b : Addr} {o : Obj} (e : (hidT h H).get? b = some o) : h.get? b = some o ∧ H b = none := by
  have e' : h.get? b = some o := PySem.W.of_hideAll (trk h H) e
  refine ⟨e', ?_⟩
  cases q : H b with
  | none => rfl
  | some x =>
    have hm : b ∈ trk h H := List.mem_filter.mpr ⟨List.mem_range.mpr (Heap.lt_size e'), by simp [q]⟩
    have z : (hidT h H).get? b = none := PySem.W.hideAll_none (trk h H) hm
    rw [z] at e; cases e

/-! ### OpenK's ledger, filled with every new object but one -/
end L2

namespace L2
open PySem PySem.Spec PyProof.Rows

/-- the module's facts, over the base: the heap at the law's entry without what is tracked there -/
structure Mod (K : PySem.W.Frag) (mg : Str → Option Value) (base : Heap) : Prop where
  kin : K.In base
  glob : base.Ns mainGlobals mg
  blt : ∃ mb, base.Ns builtinsNs mb ∧ ∀ x : Str, x ≠ "__name__" → mb x = bootBuiltins x
  nolimit : base.NoLimit

/-- the context: a def's body (or a comprehension's block) running. base: fixed through the whole law; s₀, H₀: the entry; outer: the frames whose slots others may change (a def's callers); stack: all frames that run;
   ex: iterators that were made ahead of the entry and are walked here (a comprehension's); fn: the names whose cells were made at the entry (a def: all; a comprehension's block: its own); calm: not within an except suite; pn: pins that every state bears; xe: what is wanted of an exception that leaves the code -/
structure Cx where
  prog : Program
  w : World
  K : PySem.W.Frag
  mg : Str → Option Value
  base : Heap
  A : Around
  N : List Str
  s₀ : Shared
  H₀ : Hp
  env : Env
  outer : List Env
  stack : List Env
  ex : List Addr
  fn : Str → Bool
  calm : Bool
  pn : List (Addr × Obj)
  xe : Value → Shared → Prop
/-- the callers' frames -/
def frs (l : List Env) : List Addr := l.filterMap (·.frame)
abbrev Cx.fs (X : Cx) : List Addr := frs X.outer

def Vis (sc : Scope) (x : Str) : Prop := sc.names.lookup x = some .local ∨ sc.names.lookup x = some .cell ∨ sc.names.lookup x = some .free
def Loc (sc : Scope) (x : Str) : Prop := sc.names.lookup x = some .local ∨ sc.names.lookup x = some .cell
def Look (env : Env) (h : Heap) (m : Str → Option Value) (x : Str) (u : Value) : Prop :=
  (env.kindOf x = some .local ∧ m x = some u) ∨ ((env.kindOf x = some .cell ∨ env.kindOf x = some .free) ∧ ∃ c, env.cells.lookup x = some c ∧ h.IsCell c (some u))

structure Cx.Ok (X : Cx) : Prop where
  mod : Mod X.K X.mg X.base
  kind : X.env.scope.kind = .function
  glob : X.env.globals = mainGlobals
  blt : X.env.builtins = builtinsNs
  above : X.s₀.heap.objs.size ≤ X.env.locals
  inj : ∀ x y c, X.env.cells.lookup x = some c → X.env.cells.lookup y = some c → x = y
  has : ∀ x, (X.env.kindOf x = some .cell ∨ X.env.kindOf x = some .free) → ∃ c, X.env.cells.lookup x = some c
  cab : ∀ x c, X.fn x = true → X.env.cells.lookup x = some c → X.s₀.heap.objs.size ≤ c
  hd : X.calm = true → X.A.handled = none
  frames : X.A.frames = some X.stack
  stk : X.stack = X.outer ∨ (X.stack = X.env :: X.outer ∧ X.env.frame = some X.env.locals)
  exf : ∀ b ∈ X.ex, b ≠ X.env.locals ∧ ∀ x c, X.env.cells.lookup x = some c → c ≠ b
  bs : ∀ b o, X.base.get? b = some o → X.s₀.heap.get? b = some o ∧ X.H₀ b = none
  bsz : X.base.objs.size ≤ X.s₀.heap.objs.size
  noex : ∀ b o, X.base.get? b = some o → b ∉ X.ex
  exfs : ∀ b ∈ X.ex, b ∉ X.fs
  funs : X.s₀.heap.FunFrames X.base X.outer
  frf : ∀ b ∈ X.fs, X.H₀ b = none

structure Inv (X : Cx) (pins : List (Addr × Obj)) (σ : List (Option V)) (H : Hp) (s : Shared) : Prop where
  ok : X.Ok
  os : s.os = X.s₀.os
  bare : AllBare s.gens
  base : Un X.fs X.ex X.H₀ H X.s₀.heap s.heap
  loc : ∃ m, s.heap.Ns X.env.locals m ∧ ∀ (i : Nat) (x : Str) (v : V), X.N[i]? = some x → σ[i]? = some (some v) → Vis X.env.scope x → ∃ u, RelV v u ∧ Look X.env s.heap m x u
  cell : ∀ x c, X.env.cells.lookup x = some c → ∃ v, s.heap.IsCell c v
  free : H X.env.locals = none
  freeC : ∀ x c, X.env.cells.lookup x = some c → H c = none
  pin : ∀ p ∈ X.pn ++ pins, s.heap.get? p.1 = some p.2 ∧ H p.1 = none ∧ p.1 ≠ X.env.locals ∧ p.1 ∉ X.fs ∧ ∀ v, p.2.data ≠ .cell v
  hok : HOk X.prog X.w H s.heap
  len : σ.length = X.N.length

section
variable {X : Cx} {pins : List (Addr × Obj)} {σ : List (Option V)} {H H' : Hp} {s : Shared} {h' : Heap}

theorem Cx.Ok.nofr (ok : X.Ok) {b : Addr} {o : Obj} (e : X.base.get? b = some o) : b ∉ X.fs := fun hb => by
  have := (ok.funs.mem hb).1
  rw [e] at this; cases this
theorem Inv.bs (I : Inv X pins σ H s) : ∀ b o, X.base.get? b = some o → s.heap.get? b = some o ∧ H b = none := fun b o e =>
  ⟨I.base.keep b o (I.ok.bs b o e).1 (I.ok.bs b o e).2 (I.ok.nofr e) (I.ok.noex b o e), I.base.free b o (I.ok.bs b o e).1 (I.ok.bs b o e).2 (I.ok.noex b o e)⟩
theorem Inv.bk (I : Inv X pins σ H s) : ∀ b o, X.base.get? b = some o → s.heap.get? b = some o := fun b o e => (I.bs b o e).1
theorem Inv.mod (I : Inv X pins σ H s) : Mod X.K X.mg X.base := I.ok.mod
theorem Inv.kIn (I : Inv X pins σ H s) : X.K.In s.heap := I.ok.mod.kin.keeps I.bk
theorem Inv.lt (I : Inv X pins σ H s) : X.env.locals < s.heap.objs.size := let ⟨_, hn, _⟩ := I.loc; hn.lt
theorem Inv.sz (I : Inv X pins σ H s) : X.s₀.heap.objs.size ≤ s.heap.objs.size := Nat.le_trans I.ok.above (Nat.le_of_lt I.lt)
theorem Inv.nofs (I : Inv X pins σ H s) {a : Addr} (h : s.heap.objs.size ≤ a) : a ∉ X.fs := fun hb => by
  obtain ⟨_, o, ho, _⟩ := I.ok.funs.mem hb
  exact absurd (Nat.lt_of_lt_of_le (Heap.lt_size ho) (Nat.le_trans I.sz h)) (Nat.lt_irrefl _)
theorem Inv.cne (I : Inv X pins σ H s) : ∀ x c, X.env.cells.lookup x = some c → c ≠ X.env.locals := fun x c e z => by
  obtain ⟨v, o, ho, hd⟩ := I.cell x c e
  obtain ⟨m, ⟨o', es, ep, ho', hd', _⟩, _⟩ := I.loc
  rw [z, ho'] at ho; cases ho; rw [hd'] at hd; cases hd
theorem Inv.funs (I : Inv X pins σ H s) : s.heap.FunFrames X.base X.outer := by
  have all : ∀ (l : List Env), (∀ b ∈ frs l, b ∈ X.fs) → X.s₀.heap.FunFrames X.base l → s.heap.FunFrames X.base l := by
    intro l
    induction l with
    | nil => intro _ _; trivial
    | cons env r ih =>
      intro hs hl
      obtain ⟨hk, ⟨L, o, hf, hn, ho, hd⟩, hr⟩ := hl
      have hL : L ∈ X.fs := hs L (by unfold frs; rw [List.filterMap_cons, hf]; exact List.mem_cons_self)
      obtain ⟨sl, e⟩ := I.base.slot L o ho (I.ok.frf L hL) hL fun z => I.ok.exfs L z hL
      exact ⟨hk, ⟨L, _, hf, hn, e, hd⟩, ih (fun b hb => hs b (by unfold frs; rw [List.filterMap_cons, hf]; exact List.mem_cons_of_mem _ hb)) hr⟩
  exact all X.outer (fun _ hb => hb) I.ok.funs

/-- the frames that run, for a call -/
theorem Inv.stack (I : Inv X pins σ H s) : s.heap.FunFrames X.base X.stack := by
  rcases I.ok.stk with e | ⟨e, hf⟩
  · rw [e]; exact I.funs
  · rw [e]
    obtain ⟨m, hn, _⟩ := I.loc
    refine .cons (by rw [I.ok.kind]; decide) hf hn ?_ I.funs
    exact Heap.get?_none_of_le (Nat.le_trans I.ok.bsz I.ok.above)
theorem Inv.stkSub (I : Inv X pins σ H s) : ∀ b ∈ frs X.stack, b ∈ X.env.locals :: X.fs := fun b hb => by
  rcases I.ok.stk with e | ⟨e, hf⟩
  · rw [e] at hb; exact List.mem_cons_of_mem _ hb
  · rw [e] at hb
    unfold frs at hb
    rw [List.filterMap_cons, hf] at hb
    exact hb
theorem Inv.stkFree (I : Inv X pins σ H s) : ∀ b ∈ frs X.stack, H b = none := fun b hb => by
  rcases List.mem_cons.mp (I.stkSub b hb) with e | hb
  · rw [e]; exact I.free
  · obtain ⟨_, o, ho, _⟩ := I.ok.funs.mem hb
    exact I.base.free b o ho (I.ok.frf b hb) fun z => I.ok.exfs b z hb

/-- THE STEP: the untracked objects but the frame and the records at ch are kept (the callers' frames up to slots), the frame's map is kept, the new abstract heap is held -/
theorem Inv.step {g' : Array GenState} {t' : Nat} {d' : Drawn} {ch : List Addr} (I : Inv X pins σ H s)
    (hch : ∀ b ∈ ch, (b ∈ X.ex ∨ X.s₀.heap.objs.size ≤ b) ∧ b ≠ X.env.locals ∧ (∀ x c, X.env.cells.lookup x = some c → c ≠ b) ∧ ∀ p ∈ X.pn ++ pins, p.1 ≠ b)
    (keep : ∀ b o, b ≠ X.env.locals → b ∉ X.fs → b ∉ ch → s.heap.get? b = some o → H b = none → h'.get? b = some o)
    (slot : ∀ b o, b ≠ X.env.locals → b ∈ X.fs → b ∉ ch → s.heap.get? b = some o → H b = none → ∃ sl, h'.get? b = some { o with slots := sl }) (free : ∀ b o, b ∉ ch → s.heap.get? b = some o → H b = none → H' b = none)
    (there : ∀ b o, b ∉ ch → s.heap.get? b = some o → ∃ o', h'.get? b = some o')
    (tups : ∀ b xs, H b = some (.tup xs) → H' b = some (.tup xs)) (frzs : ∀ b o u, H b = some (.frz o u) → H' b = some (.frz o u)) (tbls : ∀ b ps, H b = some (.tbl ps) → ∃ more, H' b = some (.tbl (ps ++ more)))
    (ns : ∀ m, s.heap.Ns X.env.locals m → h'.Ns X.env.locals m) (hok : HOk X.prog X.w H' h') (hg : AllBare g') :
    Inv X pins σ H' { s with heap := h', gens := g', drawn := d', toks := t' } := by
  have neL : ∀ b o, X.s₀.heap.get? b = some o → b ≠ X.env.locals := fun b o e => Nat.ne_of_lt (Nat.lt_of_lt_of_le (Heap.lt_size e) I.ok.above)
  have neC : ∀ b o, X.s₀.heap.get? b = some o → b ∉ X.ex → b ∉ ch := fun b o e hx hb => by
    rcases (hch b hb).1 with z | z
    · exact hx z
    · exact absurd (Nat.lt_of_lt_of_le (Heap.lt_size e) z) (Nat.lt_irrefl _)
  have cellK : ∀ x c, X.env.cells.lookup x = some c → ∀ v, s.heap.IsCell c v → h'.IsCell c v := fun x c e v ⟨o, ho, hd⟩ => by
    have nch : c ∉ ch := fun z => (hch c z).2.2.1 x c e rfl
    by_cases hc : c ∈ X.fs
    · obtain ⟨sl, q⟩ := slot c o (I.cne x c e) hc nch ho (I.freeC x c e)
      exact ⟨_, q, hd⟩
    · exact ⟨o, keep c o (I.cne x c e) hc nch ho (I.freeC x c e), hd⟩
  refine ⟨I.ok, I.os, hg, ⟨fun b o e n hb hx => ?_, fun b o e n hb hx => ?_, fun b o e n hx => ?_, fun b o e hx => ?_, fun b xs e => tups b xs (I.base.tups b xs e), fun b o xs e => frzs b o xs (I.base.frzs b o xs e), fun b ps e => ?_⟩, ?_, fun x c e => ?_, ?_, fun x c e => ?_, fun p hp => ?_, hok, I.len⟩
  · exact keep b o (neL b o e) hb (neC b o e hx) (I.base.keep b o e n hb hx) (I.base.free b o e n hx)
  · obtain ⟨sl, e1⟩ := I.base.slot b o e n hb hx
    obtain ⟨sl', e2⟩ := slot b _ (neL b o e) hb (neC b o e hx) e1 (I.base.free b o e n hx)
    exact ⟨sl', e2⟩
  · obtain ⟨o', e1⟩ := I.base.there b o e hx
    exact free b o' (neC b o e hx) e1 (I.base.free b o e n hx)
  · obtain ⟨o', e1⟩ := I.base.there b o e hx
    exact there b o' (neC b o e hx) e1
  · obtain ⟨m1, e1⟩ := I.base.tbls b ps e
    obtain ⟨m2, e2⟩ := tbls b _ e1
    exact ⟨m1 ++ m2, by rw [e2, Array.append_assoc]⟩
  · obtain ⟨m, hn, hl⟩ := I.loc
    refine ⟨m, ns m hn, fun i x v e1 e2 e3 => ?_⟩
    obtain ⟨u, r, l⟩ := hl i x v e1 e2 e3
    refine ⟨u, r, ?_⟩
    rcases l with l | ⟨k, c, e, z⟩
    · exact .inl l
    · exact .inr ⟨k, c, e, cellK x c e _ z⟩
  · obtain ⟨v, z⟩ := I.cell x c e
    exact ⟨v, cellK x c e v z⟩
  · obtain ⟨m, ⟨o, _, _, ho, _⟩, _⟩ := I.loc
    exact free _ o (fun z => (hch _ z).2.1 rfl) ho I.free
  · obtain ⟨v, o, ho, hd⟩ := I.cell x c e
    exact free c o (fun z => (hch c z).2.2.1 x c e rfl) ho (I.freeC x c e)
  · obtain ⟨e, n, ne, nf, d⟩ := I.pin p hp
    have nch : p.1 ∉ ch := fun z => (hch p.1 z).2.2.2 p hp rfl
    exact ⟨keep p.1 p.2 ne nf nch e n, free p.1 p.2 nch e n, ne, nf, d⟩
/-- .. where the frame's own object is kept too -/
theorem Inv.un {t' : Nat} (I : Inv X pins σ H s) (u : Un X.fs [] H H' s.heap h') (hok : HOk X.prog X.w H' h') : Inv X pins σ H' { s with heap := h', toks := t' } := by
  obtain ⟨m, ⟨o, es, ep, ho, r⟩, _⟩ := id I.loc
  obtain ⟨sl, hL⟩ := u.any ho I.free (by simp)
  exact I.step (g' := s.gens) (d' := s.drawn) (ch := []) (fun _ z => nomatch z) (fun b o _ hb _ e n => u.keep b o e n hb (by simp)) (fun b o _ hb _ e n => u.slot b o e n hb (by simp)) (fun b o _ e n => u.free b o e n (by simp)) (fun b o _ e => u.there b o e (by simp)) u.tups u.frzs u.tbls (fun m' hm => by
    obtain ⟨o', es', ep', ho', r'⟩ := hm
    rw [ho] at ho'; cases ho'
    exact ⟨_, es', ep', hL, r'⟩) hok I.bare
/-- behind a call (or a comprehension's block): the slots of this frame may have changed too, the records at ch may have turned -/
theorem Inv.call {g' : Array GenState} {t' : Nat} {d' : Drawn} {ch : List Addr} (I : Inv X pins σ H s) (u : Un (frs X.stack) ch H H' s.heap h') (hok : HOk X.prog X.w H' h') (hg : AllBare g')
    (hch : ∀ b ∈ ch, (b ∈ X.ex ∨ X.s₀.heap.objs.size ≤ b) ∧ b ≠ X.env.locals ∧ (∀ x c, X.env.cells.lookup x = some c → c ≠ b) ∧ ∀ p ∈ X.pn ++ pins, p.1 ≠ b) :
    Inv X pins σ H' { s with heap := h', gens := g', drawn := d', toks := t' } := by
  obtain ⟨m, ⟨o, es, ep, ho, r⟩, _⟩ := id I.loc
  obtain ⟨sl, hL⟩ := u.any ho I.free fun z => (hch _ z).2.1 rfl
  exact I.step (ch := ch) hch (fun b o hL hb hc e n => u.keep b o e n (fun z => (List.mem_cons.mp (I.stkSub b z)).elim hL hb) hc) (fun b o _ _ hc e n => u.any e n hc) (fun b o hc e n => u.free b o e n hc) (fun b o hc e => u.there b o e hc) u.tups u.frzs u.tbls (fun m' hm => by
    obtain ⟨o', es', ep', ho', r'⟩ := hm
    rw [ho] at ho'; cases ho'
    exact ⟨_, es', ep', hL, r'⟩) hok hg
/-- an untracked record of ours (an iterator) has turned -/
theorem Inv.turned {t' : Nat} {it : Addr} (I : Inv X pins σ H s) (k : ∀ b o, b ≠ it → s.heap.get? b = some o → h'.get? b = some o) (hn : H it = none) (hL : it ≠ X.env.locals)
    (h1 : it ∈ X.ex ∨ X.s₀.heap.objs.size ≤ it) (h2 : ∀ x c, X.env.cells.lookup x = some c → c ≠ it) (h3 : ∀ p ∈ X.pn ++ pins, p.1 ≠ it) : Inv X pins σ H { s with heap := h', toks := t' } := by
  have nit : ∀ b u, H b = some u → b ≠ it := fun b u e z => by rw [z, hn] at e; cases e
  refine I.step (g' := s.gens) (d' := s.drawn) (ch := [it]) (fun b hb => ?_) (fun b o _ _ hc e _ => k b o (fun z => hc (by simp [z])) e) (fun b o _ _ hc e _ => ⟨o.slots, k b o (fun z => hc (by simp [z])) e⟩) (fun _ _ _ _ n => n)
    (fun b o hc e => ⟨o, k b o (fun z => hc (by simp [z])) e⟩) (fun _ _ e => e) (fun _ _ _ e => e) (fun b ps e => ⟨#[], by rw [e]; simp⟩) (fun m hm => ?_) (fun b u e => ?_) I.bare
  · have e : b = it := by simpa using hb
    subst e
    exact ⟨h1, hL, h2, h3⟩
  · obtain ⟨o, es, ep, ho, r⟩ := hm
    exact ⟨o, es, ep, k _ o (Ne.symm hL) ho, r⟩
  · refine (I.hok b u e).stay (fun c v hc q => k c v ?_ q) (fun _ q => q) fun _ _ q => q
    rcases hc with z | z
    · rw [z]; exact nit b u e
    · exact nit c _ z
theorem Inv.tok (I : Inv X pins σ H s) (t : Nat) : Inv X pins σ H { s with toks := t } := I.un (h' := s.heap) (t' := t) Un.refl I.hok
/-- all objects kept -/
theorem Inv.kept {t' : Nat} (I : Inv X pins σ H s) (k : ∀ b u, s.heap.get? b = some u → h'.get? b = some u) : Inv X pins σ H { s with heap := h', toks := t' } := I.un (Un.kept k) (I.hok.kept k)
/-- a new object laid and tracked -/
theorem Inv.laid {a : Addr} {o : HO} {t' : Nat} (I : Inv X pins σ H s) (k : ∀ b u, s.heap.get? b = some u → h'.get? b = some u) (hp : s.heap.objs.size ≤ a) (new : ObjOk X.prog X.w (upd H a o) h' a o) :
    Inv X pins σ (upd H a o) { s with heap := h', toks := t' } := I.un (Un.laid k hp (I.hok.fresh hp)) (I.hok.laid k hp new)
/-- an object written -/
theorem Inv.write {x e : Addr} {o : HO} {t' : Nat} (I : Inv X pins σ H s) (mu : Mut (H x)) (he : e = x ∨ H e = some (.own x)) (k : ∀ b u, b ≠ e → s.heap.get? b = some u → h'.get? b = some u) (heo : ∃ u, h'.get? e = some u)
    (new : ObjOk X.prog X.w (upd H x o) h' x o) : Inv X pins σ (upd H x o) { s with heap := h', toks := t' } := I.un (Un.write mu he k heo) (I.hok.write mu he k heo new)
theorem Inv.pins_of {pins' : List (Addr × Obj)} (I : Inv X pins σ H s) (h : ∀ p ∈ pins', s.heap.get? p.1 = some p.2 ∧ H p.1 = none ∧ p.1 ≠ X.env.locals ∧ p.1 ∉ X.fs ∧ ∀ v, p.2.data ≠ .cell v) : Inv X pins' σ H s :=
  ⟨I.ok, I.os, I.bare, I.base, I.loc, I.cell, I.free, I.freeC, fun p hp => (List.mem_append.mp hp).elim (fun z => I.pin p (List.mem_append_left _ z)) (h p), I.hok, I.len⟩

theorem nodup_ix {N : List Str} (hN : N.Nodup) {i j : Nat} {x : Str} (a : N[i]? = some x) (b : N[j]? = some x) : i = j := by
  obtain ⟨h1, e1⟩ := List.getElem?_eq_some_iff.mp a
  obtain ⟨h2, e2⟩ := List.getElem?_eq_some_iff.mp b
  exact (List.getElem_inj hN).mp (e1.trans e2.symm)

/-- a name is stored; what changed -/
theorem store_ok2 {M : Model} {A : Around} {E : Value → Shared → Prop} {i : Nat} {x : Str} {v : V} {u : Value} {Q : Unit → Shared → Prop} (I : Inv X pins σ H s) (hN : X.N.Nodup) (hi : X.N[i]? = some x) (hx : Loc X.env.scope x) (r : RelV v u)
    (h : ∀ s', Inv X pins (σ.set i (some v)) H s' → (∃ a, Heap.SameBut a s.heap s'.heap ∧ (a = X.env.locals ∨ X.env.cells.lookup x = some a)) → Q () s') (hf : X.fn x = true ∨ X.env.scope.names.lookup x = some .local := by first | exact .inl rfl | exact .inr rfl | assumption) : wpAny M A (storeName X.env x u) Q E s := by
  obtain ⟨m, hn, hl⟩ := id I.loc
  have hcls : (X.env.scope.kind == .class || (X.env.scope.kind == .module && X.env.locals != X.env.globals)) = false := by rw [I.ok.kind]; rfl
  have hiσ : i < σ.length := by rw [I.len]; exact (List.getElem?_eq_some_iff.mp hi).1
  have cne := I.cne
  have tracked : ∀ {a : Addr} {h' : Heap}, (∃ o, s.heap.get? a = some o ∧ H a = none) → Heap.SameBut a s.heap h' → HOk X.prog X.w H h' := fun {a h'} ha hs b ob e => by
    obtain ⟨_, _, hfree⟩ := ha
    refine (I.hok b ob e).stay (fun c w' hc q => (hs.2 c ?_).trans q) (fun _ q => q) fun _ _ q => q
    rintro rfl
    rcases hc with rfl | hc
    · rw [hfree] at e; cases e
    · rw [hfree] at hc; cases hc
  rcases hx with hk | hk
  · refine wpAny_storeName_local hk hn (fun h' hn' hs => ?_) hcls
    obtain ⟨oL, _, _, hoL, _⟩ := id hn
    refine h _ ⟨I.ok, I.os, I.bare, ⟨fun b o e n hb hx => ?_, fun b o e n hb hx => ?_, I.base.free, fun b o e hx => ?_, I.base.tups, I.base.frzs, I.base.tbls⟩, ⟨_, hn', fun j y v' e1 e2 e3 => ?_⟩, fun y c e => ?_, I.free, I.freeC, fun p hp => ?_, tracked ⟨oL, hoL, I.free⟩ hs, by simpa using I.len⟩ ⟨_, hs, .inl rfl⟩
    · exact (hs.2 b (Nat.ne_of_lt (Nat.lt_of_lt_of_le (Heap.lt_size e) I.ok.above))).trans (I.base.keep b o e n hb hx)
    · obtain ⟨sl, e1⟩ := I.base.slot b o e n hb hx
      exact ⟨sl, (hs.2 b (Nat.ne_of_lt (Nat.lt_of_lt_of_le (Heap.lt_size e) I.ok.above))).trans e1⟩
    · obtain ⟨o', e1⟩ := I.base.there b o e hx
      exact ⟨o', (hs.2 b (Nat.ne_of_lt (Nat.lt_of_lt_of_le (Heap.lt_size e) I.ok.above))).trans e1⟩
    · by_cases hj : j = i
      · subst hj
        rw [hi] at e1; cases e1
        rw [List.getElem?_set_self hiσ] at e2
        cases e2
        exact ⟨u, r, .inl ⟨hk, by simp⟩⟩
      · rw [List.getElem?_set_ne (Ne.symm hj)] at e2
        obtain ⟨u', r', q⟩ := hl j y v' e1 e2 e3
        refine ⟨u', r', ?_⟩
        rcases q with ⟨k, e⟩ | ⟨k, c, e, z⟩
        · refine .inl ⟨k, ?_⟩
          have : y ≠ x := fun e => hj (nodup_ix hN e1 (e ▸ hi))
          simp [this, e]
        · exact .inr ⟨k, c, e, z.sameBut hs (cne y c e)⟩
    · obtain ⟨w', z⟩ := I.cell y c e
      exact ⟨w', z.sameBut hs (cne y c e)⟩
    · obtain ⟨e, n, ne, nf, d⟩ := I.pin p hp
      exact ⟨(hs.2 p.1 ne).trans e, n, ne, nf, d⟩
  · have hfn : X.fn x = true := by
      rcases hf with z | z
      · exact z
      · rw [z] at hk; cases hk
    obtain ⟨c, hc⟩ := I.ok.has x (.inl hk)
    obtain ⟨w', z⟩ := I.cell x c hc
    refine wpAny_storeName_cell I.ok.kind hk hc z (fun h' hc' hs => ?_)
    obtain ⟨oc, hoc, hocd⟩ := id z
    refine h { s with heap := h' } ⟨I.ok, I.os, I.bare, ⟨fun b o e n hb hx => ?_, fun b o e n hb hx => ?_, I.base.free, fun b o e hx => ?_, I.base.tups, I.base.frzs, I.base.tbls⟩, ⟨m, hn.sameBut hs (Ne.symm (cne x c hc)), fun j y v' e1 e2 e3 => ?_⟩, fun y c' e => ?_, I.free, I.freeC, fun p hp => ?_, tracked ⟨oc, hoc, I.freeC x c hc⟩ hs, by simpa using I.len⟩ ⟨c, hs, .inr hc⟩
    · exact (hs.2 b (Nat.ne_of_lt (Nat.lt_of_lt_of_le (Heap.lt_size e) (I.ok.cab x c hfn hc)))).trans (I.base.keep b o e n hb hx)
    · obtain ⟨sl, e1⟩ := I.base.slot b o e n hb hx
      exact ⟨sl, (hs.2 b (Nat.ne_of_lt (Nat.lt_of_lt_of_le (Heap.lt_size e) (I.ok.cab x c hfn hc)))).trans e1⟩
    · obtain ⟨o', e1⟩ := I.base.there b o e hx
      exact ⟨o', (hs.2 b (Nat.ne_of_lt (Nat.lt_of_lt_of_le (Heap.lt_size e) (I.ok.cab x c hfn hc)))).trans e1⟩
    · by_cases hj : j = i
      · subst hj
        rw [hi] at e1; cases e1
        rw [List.getElem?_set_self hiσ] at e2
        cases e2
        exact ⟨u, r, .inr ⟨.inl hk, c, hc, hc'⟩⟩
      · rw [List.getElem?_set_ne (Ne.symm hj)] at e2
        obtain ⟨u', r', q⟩ := hl j y v' e1 e2 e3
        refine ⟨u', r', ?_⟩
        rcases q with q | ⟨k, c', e, z'⟩
        · exact .inl q
        · refine .inr ⟨k, c', e, z'.sameBut hs ?_⟩
          rintro rfl
          exact hj (nodup_ix hN e1 (I.ok.inj _ _ _ e hc ▸ hi))
    · by_cases hcc : c' = c
      · subst hcc; exact ⟨_, hc'⟩
      · obtain ⟨w2, z2⟩ := I.cell y c' e
        exact ⟨w2, z2.sameBut hs hcc⟩
    · obtain ⟨e, n, ne, nf, d⟩ := I.pin p hp
      refine ⟨(hs.2 p.1 ?_).trans e, n, ne, nf, d⟩
      intro q
      rw [q, hoc] at e
      have q' : oc = p.2 := Option.some.inj e
      exact d w' (by rw [← q']; exact hocd)
theorem store_ok {M : Model} {A : Around} {E : Value → Shared → Prop} {i : Nat} {x : Str} {v : V} {u : Value} {Q : Unit → Shared → Prop} (I : Inv X pins σ H s) (hN : X.N.Nodup) (hi : X.N[i]? = some x) (hx : Loc X.env.scope x) (r : RelV v u)
    (h : ∀ s', Inv X pins (σ.set i (some v)) H s' → Q () s') (hf : X.fn x = true ∨ X.env.scope.names.lookup x = some .local := by first | exact .inl rfl | exact .inr rfl | assumption) : wpAny M A (storeName X.env x u) Q E s :=
  store_ok2 I hN hi hx r (fun s' I' _ => h s' I') hf
/-- behind a call or a block, the state as it is -/
theorem Inv.call' {s' : Shared} {ch : List Addr} (I : Inv X pins σ H s) (ho : s'.os = s.os) (u : Un (frs X.stack) ch H H' s.heap s'.heap) (hok : HOk X.prog X.w H' s'.heap) (hg : AllBare s'.gens)
    (hch : ∀ b ∈ ch, (b ∈ X.ex ∨ X.s₀.heap.objs.size ≤ b) ∧ b ≠ X.env.locals ∧ (∀ x c, X.env.cells.lookup x = some c → c ≠ b) ∧ ∀ p ∈ X.pn ++ pins, p.1 ≠ b) : Inv X pins σ H' s' := by
  obtain ⟨h', g', d', t', o'⟩ := s'
  have e : o' = s.os := ho
  subst e
  exact I.call (g' := g') (t' := t') (d' := d') u hok hg hch
end

/-! ### the judgements -/
/-- an exception: its class, its own dict's address (where it has one), the abstract heap behind it -/
abbrev XK := Value → Option Addr → Hp → Prop
abbrev St := List (Option V)
abbrev VK := V → Hp → Prop
/-- an expression's reading; a test's; an argument list's -/
abbrev TE := St → Hp → VK → Prop
abbrev TT := St → Hp → (Bool → Hp → Prop) → Prop
abbrev TA := St → Hp → (List V → Hp → Prop) → Prop
/-- what is wanted behind a statement -/
structure Ends where
  nx : St → Hp → Prop
  rt : VK
  bk : St → Hp → Prop := fun _ _ => False
  ct : St → Hp → Prop := fun _ _ => False
abbrev TS := Ends → St → Hp → Prop

def EP (X : Cx) (pins : List (Addr × Obj)) (σ : St) (Q : VK) (u : Value) (s' : Shared) : Prop := ∃ v H', Inv X pins σ H' s' ∧ RelV v u ∧ Q v H'
def TP (X : Cx) (pins : List (Addr × Obj)) (σ : St) (Q : Bool → Hp → Prop) (b : Bool) (s' : Shared) : Prop := ∃ H', Inv X pins σ H' s' ∧ Q b H'
def AP (X : Cx) (pins : List (Addr × Obj)) (σ : St) (Q : List V → Hp → Prop) (us : List Value) (s' : Shared) : Prop := ∃ vs H', Inv X pins σ H' s' ∧ Vals vs us ∧ Q vs H'
def SP (X : Cx) (pins : List (Addr × Obj)) (D : Ends) (f : Flow) (s' : Shared) : Prop :=
  match f with
  | .next => ∃ σ' H', Inv X pins σ' H' s' ∧ D.nx σ' H'
  | .brk => ∃ σ' H', Inv X pins σ' H' s' ∧ D.bk σ' H'
  | .cont => ∃ σ' H', Inv X pins σ' H' s' ∧ D.ct σ' H'
  | .ret u => ∃ v σ' H', Inv X pins σ' H' s' ∧ RelV v u ∧ D.rt v H'

def PE (X : Cx) (e : Expr) (t : TE) : Prop :=
  ∀ (pins : List (Addr × Obj)) (s : Shared) (σ : St) (H : Hp) (Q : VK), Inv X pins σ H s → t σ H Q → wpAny (model X.prog X.w) X.A (eval e X.env) (EP X pins σ Q) X.xe s
def PT (X : Cx) (e : Expr) (t : TT) : Prop :=
  ∀ (pins : List (Addr × Obj)) (s : Shared) (σ : St) (H : Hp) (Q : Bool → Hp → Prop), Inv X pins σ H s → t σ H Q → wpAny (model X.prog X.w) X.A (isTrue e X.env (eval e X.env)) (TP X pins σ Q) X.xe s
/-- a test whatever its 'whole' is (and, or) -/
def PW (X : Cx) (e : Expr) (t : TT) : Prop :=
  ∀ (whole : Sem Value) (pins : List (Addr × Obj)) (s : Shared) (σ : St) (H : Hp) (Q : Bool → Hp → Prop), Inv X pins σ H s → t σ H Q → wpAny (model X.prog X.w) X.A (isTrue e X.env whole) (TP X pins σ Q) X.xe s
theorem PW.pt {X : Cx} {e : Expr} {t : TT} (h : PW X e t) : PT X e t := h _
/-- an argument list (no star), from the left -/
def PA (X : Cx) (es : List Expr) (t : TA) : Prop :=
  ∀ (pos : Pos) (pins : List (Addr × Obj)) (s : Shared) (σ : St) (H : Hp) (Q : List V → Hp → Prop), Inv X pins σ H s → t σ H Q → wpAny (model X.prog X.w) X.A (spliced (backTo pos (starEach es X.env))) (AP X pins σ Q) X.xe s
def PS (X : Cx) (st : Stmt) (t : TS) : Prop :=
  ∀ (pins : List (Addr × Obj)) (s : Shared) (σ : St) (H : Hp) (D : Ends), Inv X pins σ H s → t D σ H → wpAny (model X.prog X.w) X.A (exec st X.env) (SP X pins D) X.xe s
def PSs (X : Cx) (st : List Stmt) (t : TS) : Prop :=
  ∀ (pins : List (Addr × Obj)) (s : Shared) (σ : St) (H : Hp) (D : Ends), Inv X pins σ H s → t D σ H → wpAny (model X.prog X.w) X.A (execs st X.env) (SP X pins D) X.xe s
/-- weaken the end -/
theorem thn {α : Type} {t : Sem α} {Q Q' : α → Shared → Prop} {M : Model} {A : Around} {E : Value → Shared → Prop} {s : Shared} (h : wpAny M A t Q E s) (hQ : ∀ a s, Q a s → Q' a s) : wpAny M A t Q' E s := wpAny_mono h hQ fun _ _ x => x
end L2

namespace L2
open PySem PySem.Spec PyProof.Rows
section
variable {X : Cx}

/-- two expressions in a row -/
theorem bin {a b : Expr} {ta tb : TE} (ha : PE X a ta) (hb : PE X b tb) {pins : List (Addr × Obj)} {s : Shared} {σ : St} {H : Hp} {R : V → V → Hp → Prop} (I : Inv X pins σ H s) (h : ta σ H fun x H1 => tb σ H1 fun y H2 => R x y H2)
    {α : Type} {Q : α → Shared → Prop} {f : Value → Value → Sem α}
    (hf : ∀ v u s2 x y H2, Inv X pins σ H2 s2 → RelV x v → RelV y u → R x y H2 → wpAny (model X.prog X.w) X.A (f v u) Q X.xe s2) :
    wpAny (model X.prog X.w) X.A (eval a X.env) (fun v s₁ => wpAny (model X.prog X.w) X.A (eval b X.env) (fun u s₂ => wpAny (model X.prog X.w) X.A (f v u) Q X.xe s₂) X.xe s₁) X.xe s := by
  refine thn (ha pins s σ H _ I h) fun v s1 ⟨x, H1, I1, r1, q1⟩ => ?_
  refine thn (hb pins s1 σ H1 _ I1 q1) fun u s2 ⟨y, H2, I2, r2, q2⟩ => ?_
  exact hf v u s2 x y H2 I2 r1 r2 q2

/-! ### names and constants -/
def tVar (i : Nat) : TE := fun σ H Q => ∃ v, σ[i]? = some (some v) ∧ Q v H
def tC (v : V) : TE := fun _ H Q => Q v H
theorem pe_var {i : Nat} {x : Str} {pos : Pos} (hN : X.N[i]? = some x) (hv : Vis X.env.scope x) (hd : (x == ("__debug__" : Str)) = false := by decide) (hcd : (x == ("__classdict__" : Str)) = false := by decide) : PE X (.Name x pos) (tVar i) := by
  intro pins s σ H Q I h
  obtain ⟨v, e, h⟩ := h
  obtain ⟨m, hn, hl⟩ := I.loc
  obtain ⟨u, r, l⟩ := hl i x v hN e hv
  have fin : EP X pins σ Q u s := ⟨v, H, I, r, h⟩
  rcases l with ⟨hk, hm⟩ | ⟨hk, c, hc, hcell⟩
  · exact wpAny_Name (wpAny_loadName_local I.ok.kind hk hn hm fin) hd
  · rcases hk with hk | hk
    · exact wpAny_Name (wpAny_loadName_cell I.ok.kind hk hc hcell fin) hd
    · exact wpAny_Name (wpAny_loadName_free I.ok.kind hk hc hcell fin hcd) hd
theorem pe_int {i j pos} : PE X (.Constant (.int i) j pos) (tC (.int i)) := fun _ _ _ H _ I h => wpAny_Constant_int ⟨.int i, H, I.tok _, ⟨_, rfl⟩, h⟩
theorem pe_bl {b j pos} : PE X (.Constant (.bool b) j pos) (tC (.bl b)) := fun _ _ _ H _ I h => Constant_bool ⟨.bl b, H, I, rfl, h⟩
theorem pe_non {j pos} : PE X (.Constant .none j pos) (tC .non) := fun _ _ _ H _ I h => Constant_none ⟨.non, H, I, rfl, h⟩
theorem pe_str {x j pos} : PE X (.Constant (.str x) j pos) (tC (.str x)) := fun _ _ _ H _ I h => Calls.Constant_str ⟨.str x, H, I.tok _, ⟨_, rfl⟩, h⟩

/-- a global name of the def -/
def Gl (X : Cx) (x : Str) : Prop := X.env.kindOf x = some .globalImplicit
theorem ld_glob {E : Value → Shared → Prop} {pins : List (Addr × Obj)} {s : Shared} {σ : St} {H : Hp} {x : Str} {u : Value} {pos : Pos} {Q : Value → Shared → Prop} (I : Inv X pins σ H s) (hg : Gl X x) (hm : X.mg x = some u) (h : Q u s)
    (hd : (x == ("__debug__" : Str)) = false := by decide) : wpAny (model X.prog X.w) X.A (eval (.Name x pos) X.env) Q E s :=
  Calls.Name_function_global I.ok.kind hg (Calls.loadGlobal_global (by rw [I.ok.glob]; exact I.mod.glob.keeps I.bk) hm h) hd
theorem ld_blt {E : Value → Shared → Prop} {pins : List (Addr × Obj)} {s : Shared} {σ : St} {H : Hp} {x : Str} {u : Value} {pos : Pos} {Q : Value → Shared → Prop} (I : Inv X pins σ H s) (hg : Gl X x) (hm : X.mg x = none) (hv : bootBuiltins x = some u) (h : Q u s)
    (hn : x ≠ "__name__" := by decide) (hd : (x == ("__debug__" : Str)) = false := by decide) : wpAny (model X.prog X.w) X.A (eval (.Name x pos) X.env) Q E s := by
  obtain ⟨mb, h1, h2⟩ := I.mod.blt
  exact Calls.Name_function_global I.ok.kind hg (Calls.loadGlobal_builtin (by rw [I.ok.glob]; exact I.mod.glob.keeps I.bk) hm (by rw [I.ok.blt]; exact h1.keeps I.bk) ((h2 x hn).trans hv) h) hd
/-- a module's constant, a class, a function, as a value -/
theorem pe_glob {x : Str} {v : V} {u : Value} {pos : Pos} (hg : Gl X x) (hm : X.mg x = some u) (r : RelV v u) (hd : (x == ("__debug__" : Str)) = false := by decide) : PE X (.Name x pos) (tC v) :=
  fun _ _ _ H _ I h => ld_glob I hg hm ⟨v, H, I, r, h⟩ hd
theorem pe_bltn {x : Str} {v : V} {u : Value} {pos : Pos} (hg : Gl X x) (hm : X.mg x = none) (hv : bootBuiltins x = some u) (r : RelV v u) (hn : x ≠ "__name__" := by decide) (hd : (x == ("__debug__" : Str)) = false := by decide) : PE X (.Name x pos) (tC v) :=
  fun _ _ _ H _ I h => ld_blt I hg hm hv ⟨v, H, I, r, h⟩ hn hd

/-! ### arithmetic -/
variable {a b : Expr} {ta tb : TE} {pos : Pos}

/-! ### comparisons -/
def PC (X : Cx) (op : CmpOp) (a b : Expr) (t : TE) : Prop :=
  ∀ (pins : List (Addr × Obj)) (s : Shared) (σ : St) (H : Hp) (Q : VK), Inv X pins σ H s → t σ H Q →
    wpAny (model X.prog X.w) X.A (eval a X.env) (fun v s₁ => wpAny (model X.prog X.w) X.A (eval b X.env) (fun u s₂ => wpAny (model X.prog X.w) X.A (compareOp op v u) (EP X pins σ Q) X.xe s₂) X.xe s₁) X.xe s
/-- a comparison as a value, as a test -/
def tB (t : TE) : TT := fun σ H Q => t σ H fun x H1 => ∃ c, x = .bl c ∧ Q c H1
theorem pt_cmp {op : CmpOp} {t : TE} (h : PC X op a b t) (h1 : behindInMarks op b = false := by first | exact nobehind _ (by decide) (by decide) | rfl) : PT X (.Compare a [op] [b] pos) (tB t) := by
  intro pins s σ H Q I hw
  refine wpAny_isTrue_Compare1 (thn (h pins s σ H _ I hw) fun v s1 h1 => thn h1 fun u s2 h2 => thn h2 fun c s3 ⟨x, H1, I1, r1, q1⟩ => ?_) h1
  obtain ⟨d, rfl, q⟩ := q1
  cases r1
  exact wpAny_truthy_bool ⟨H1, I1, q⟩
/-- an expression whose value is a bool, as a test -/
theorem pt_val {e : Expr} {t : TE} (h : PE X e t) (he : ∀ whole, isTrue e X.env whole = (do let v ← whole; standAt e.pos; holding [v] (truthy v)) := by intro _; rfl) : PT X e (tB t) := by
  intro pins s σ H Q I hw
  refine isTrue_plain (thn (h pins s σ H _ I hw) fun v s1 ⟨x, H1, I1, r1, q1⟩ => ?_) (he _)
  obtain ⟨d, rfl, q⟩ := q1
  cases r1
  exact wpAny_truthy_bool ⟨H1, I1, q⟩

/-! ### and, or, not -/
variable {tA tB' : TT} {rest : List Expr}
def tAnd (t u : TT) : TT := fun σ H Q => t σ H fun c H1 => if c = true then u σ H1 Q else Q false H1
def tOr (t u : TT) : TT := fun σ H Q => t σ H fun c H1 => if c = true then Q true H1 else u σ H1 Q
def tNot (t : TT) : TT := fun σ H Q => t σ H fun c H1 => Q (!c) H1
theorem pw_and1 (ha : PT X a tA) : PW X (.BoolOp .And [a] pos) tA := by
  intro wh pins s σ H Q I h
  refine isTrue_and (thn (ha pins s σ H Q I h) fun c s1 e => ?_)
  cases c with
  | true => exact isTrue_and_nil e
  | false => exact e
theorem pw_or1 (ha : PT X a tA) : PW X (.BoolOp .Or [a] pos) tA := by
  intro wh pins s σ H Q I h
  refine isTrue_or (thn (ha pins s σ H Q I h) fun c s1 e => ?_)
  cases c with
  | false => exact isTrue_or_nil e
  | true => exact e
theorem pw_and (ha : PT X a tA) (hb : PW X (.BoolOp .And (b :: rest) pos) tB') : PW X (.BoolOp .And (a :: b :: rest) pos) (tAnd tA tB') := by
  intro wh pins s σ H Q I h
  refine isTrue_and (thn (ha pins s σ H _ I h) fun c s1 ⟨H1, I1, q1⟩ => ?_)
  cases c with
  | true => exact hb wh pins s1 σ H1 Q I1 q1
  | false => exact ⟨H1, I1, q1⟩
theorem pw_or (ha : PT X a tA) (hb : PW X (.BoolOp .Or (b :: rest) pos) tB') : PW X (.BoolOp .Or (a :: b :: rest) pos) (tOr tA tB') := by
  intro wh pins s σ H Q I h
  refine isTrue_or (thn (ha pins s σ H _ I h) fun c s1 ⟨H1, I1, q1⟩ => ?_)
  cases c with
  | true => exact ⟨H1, I1, q1⟩
  | false => exact hb wh pins s1 σ H1 Q I1 q1
theorem pt_not (ha : PT X a tA) : PT X (.UnaryOp .Not a pos) (tNot tA) := by
  intro pins s σ H Q I h
  exact isTrue_not (ha pins s σ H (fun c H1 => Q (!c) H1) I h)
/-- .. as values (bools) -/
def tAndV (ta tb : TE) : TE := fun σ H Q => ta σ H fun x H1 => ∃ c, x = .bl c ∧ if c = true then tb σ H1 Q else Q (.bl false) H1
def tOrV (ta tb : TE) : TE := fun σ H Q => ta σ H fun x H1 => ∃ c, x = .bl c ∧ if c = true then Q (.bl true) H1 else tb σ H1 Q
theorem pe_one {op} {t : TE} (h : PE X a t) : PE X (.BoolOp op [a] pos) t := fun pins s σ H Q I hw => BoolOp_one (h pins s σ H Q I hw)
theorem pe_and (ha : PE X a ta) (hb : PE X (.BoolOp .And (b :: rest) pos) tb) : PE X (.BoolOp .And (a :: b :: rest) pos) (tAndV ta tb) := by
  intro pins s σ H Q I h
  refine BoolOp_and (thn (ha pins s σ H _ I h) fun v s1 ⟨x, H1, I1, r1, q1⟩ => ?_)
  obtain ⟨c, rfl, q1⟩ := q1
  cases r1
  refine wpAny_truthy_bool ?_
  cases c with
  | true => exact hb pins s1 σ H1 Q I1 q1
  | false => exact ⟨.bl false, H1, I1, rfl, q1⟩
theorem pe_or (ha : PE X a ta) (hb : PE X (.BoolOp .Or (b :: rest) pos) tb) : PE X (.BoolOp .Or (a :: b :: rest) pos) (tOrV ta tb) := by
  intro pins s σ H Q I h
  refine BoolOp_or (thn (ha pins s σ H _ I h) fun v s1 ⟨x, H1, I1, r1, q1⟩ => ?_)
  obtain ⟨c, rfl, q1⟩ := q1
  cases r1
  refine wpAny_truthy_bool ?_
  cases c with
  | false => exact hb pins s1 σ H1 Q I1 q1
  | true => exact ⟨.bl true, H1, I1, rfl, q1⟩
/-- a if t else b -/
def tIf (t : TT) (ta tb : TE) : TE := fun σ H Q => t σ H fun c H1 => if c = true then ta σ H1 Q else tb σ H1 Q
theorem pe_ifExp {c : Expr} (hc : PT X c tA) (ha : PE X a ta) (hb : PE X b tb) : PE X (.IfExp c a b pos) (tIf tA ta tb) := by
  intro pins s σ H Q I h
  refine wpAny_IfExp (thn (hc pins s σ H _ I h) fun d s1 ⟨H1, I1, q1⟩ => ?_)
  cases d with
  | true => exact ha pins s1 σ H1 Q I1 q1
  | false => exact hb pins s1 σ H1 Q I1 q1
end
end L2

namespace L2
open PySem PySem.Spec PyProof.Rows

/-! ### a list, a tuple that is read: tracked, frozen, or an object of the module -/
def SqL (K : PySem.W.Frag) (H : Hp) (a : Addr) (xs : List V) : Prop :=
  Rd H a (.lst xs) ∨
    ∃ (o : Obj) (its : Array Value) (n : Nat), K.lookup a = some o ∧ o.cls = .type "list" ∧ o.dict = none ∧ o.data = .seq its n ∧ its.size ≤ sizeLine ∧ Vals xs its.toList
def SqT (K : PySem.W.Frag) (H : Hp) (a : Addr) (xs : List V) : Prop :=
  Rd H a (.tup xs) ∨
    ∃ (o : Obj) (its : Array Value) (n : Nat), K.lookup a = some o ∧ o.cls = .type "tuple" ∧ o.data = .seq its n ∧ its.size ≤ sizeLine ∧ Vals xs its.toList
def absV : Value → Option V
  | .none => some .non
  | .bool b => some (.bl b)
  | .int i _ => some (.int i)
  | .str x _ => some (.str x)
  | .bytes b _ => some (.byt b)
  | .float b _ => some (.flt b)
  | .ref a => some (.ref a)
  | .type n => some (.ty n)
  | _ => none
theorem RelV.abs {x : V} {u : Value} (r : RelV x u) : absV u = some x := by
  cases x with
  | non => cases r; rfl
  | bl _ => cases r; rfl
  | int _ => obtain ⟨t, rfl⟩ := r; rfl
  | str _ => obtain ⟨t, rfl⟩ := r; rfl
  | byt _ => obtain ⟨t, rfl⟩ := r; rfl
  | flt _ => obtain ⟨t, rfl⟩ := r; rfl
  | ref _ => cases r; rfl
  | ty _ => cases r; rfl
theorem RelV.inj {x y : V} {u : Value} (r : RelV x u) (q : RelV y u) : x = y := Option.some.inj (r.abs.symm.trans q.abs)
theorem Vals.inj : ∀ {xs ys : List V} {us : List Value}, Vals xs us → Vals ys us → xs = ys
  | _, _, _, .nil, .nil => rfl
  | _, _, _, .cons r t, .cons r' t' => by rw [r.inj r', Vals.inj t t']
section
variable {X : Cx} {pins : List (Addr × Obj)} {σ : St} {H : Hp} {s : Shared} {a : Addr} {xs ys : List V}
theorem SqL.of {K : PySem.W.Frag} (h : H a = some (.lst xs)) : SqL K H a xs := .inl (.inl h)
theorem SqT.of {K : PySem.W.Frag} (h : H a = some (.tup xs)) : SqT K H a xs := .inl (.inl h)
theorem Inv.list (I : Inv X pins σ H s) (h : SqL X.K H a xs) : ∃ its : List Value, Vals xs its ∧ PlainL s.heap a its.toArray ∧ xs.length ≤ sizeLine := by
  rcases h with h | ⟨o, its, n, hk, hc, hd, hs, hz, r⟩
  · obtain ⟨z, its, n, r, e⟩ := h.ok I.hok
    exact ⟨its, r, ⟨_, n, e, rfl, rfl, rfl⟩, z⟩
  · refine ⟨its.toList, r, ⟨o, n, I.kIn a o hk, hc, hd, by simpa using hs⟩, ?_⟩
    have e := r.length
    simp only [Array.length_toList] at e
    omega
theorem Inv.tuple (I : Inv X pins σ H s) (h : SqT X.K H a xs) : ∃ its : List Value, Vals xs its ∧ IsTup s.heap a its.toArray ∧ xs.length ≤ sizeLine := by
  rcases h with h | ⟨o, its, n, hk, hc, hs, hz, r⟩
  · obtain ⟨z, its, r, p⟩ := h.ok I.hok
    exact ⟨its, r, p, z⟩
  · refine ⟨its.toList, r, ⟨o, I.kIn a o hk, hc, n, by simpa using hs⟩, ?_⟩
    have e := r.length
    simp only [Array.length_toList] at e
    omega
theorem Inv.list_inj (I : Inv X pins σ H s) (h : SqL X.K H a xs) (h' : SqL X.K H a ys) : xs = ys := by
  obtain ⟨its, r, ⟨o, n, e, _, _, d⟩, _⟩ := I.list h
  obtain ⟨its', r', ⟨o', n', e', _, _, d'⟩, _⟩ := I.list h'
  rw [e] at e'; cases e'
  rw [d] at d'
  injection d' with d1 _
  have : its = its' := by simpa using congrArg Array.toList d1
  subst this
  exact r.inj r'
theorem Inv.tuple_inj (I : Inv X pins σ H s) (h : SqT X.K H a xs) (h' : SqT X.K H a ys) : xs = ys := by
  obtain ⟨its, r, ⟨o, e, _, n, d⟩, _⟩ := I.tuple h
  obtain ⟨its', r', ⟨o', e', _, n', d'⟩, _⟩ := I.tuple h'
  rw [e] at e'; cases e'
  rw [d] at d'
  injection d' with d1 _
  have : its = its' := by simpa using congrArg Array.toList d1
  subst this
  exact r.inj r'
end

/-! ### another wish about exceptions -/
abbrev Cx.wish (X : Cx) (E : Value → Shared → Prop) : Cx := { X with xe := E }
/-- no exception leaves -/
abbrev Cx.nox (X : Cx) : Cx := X.wish fun _ _ => False
theorem Cx.Ok.wish {X : Cx} (ok : X.Ok) (E : Value → Shared → Prop) : (X.wish E).Ok :=
  ⟨ok.mod, ok.kind, ok.glob, ok.blt, ok.above, ok.inj, ok.has, ok.cab, ok.hd, ok.frames, ok.stk, ok.exf, ok.bs, ok.bsz, ok.noex, ok.exfs, ok.funs, ok.frf⟩
theorem Cx.Ok.unwish {X : Cx} {E : Value → Shared → Prop} (ok : (X.wish E).Ok) : X.Ok :=
  ⟨ok.mod, ok.kind, ok.glob, ok.blt, ok.above, ok.inj, ok.has, ok.cab, ok.hd, ok.frames, ok.stk, ok.exf, ok.bs, ok.bsz, ok.noex, ok.exfs, ok.funs, ok.frf⟩
section
variable {X : Cx} {pins : List (Addr × Obj)} {σ : St} {H : Hp} {s : Shared} {E : Value → Shared → Prop}
theorem Inv.wish (I : Inv X pins σ H s) (E : Value → Shared → Prop) : Inv (X.wish E) pins σ H s := ⟨I.ok.wish E, I.os, I.bare, I.base, I.loc, I.cell, I.free, I.freeC, I.pin, I.hok, I.len⟩
theorem Inv.unwish (I : Inv (X.wish E) pins σ H s) : Inv X pins σ H s := ⟨I.ok.unwish, I.os, I.bare, I.base, I.loc, I.cell, I.free, I.freeC, I.pin, I.hok, I.len⟩
theorem SP.unwish {D : Ends} {f : Flow} {s' : Shared} (h : SP (X.wish E) pins D f s') : SP X pins D f s' := by
  cases f with
  | next => obtain ⟨σ', H', I, q⟩ := h; exact ⟨σ', H', I.unwish, q⟩
  | brk => obtain ⟨σ', H', I, q⟩ := h; exact ⟨σ', H', I.unwish, q⟩
  | cont => obtain ⟨σ', H', I, q⟩ := h; exact ⟨σ', H', I.unwish, q⟩
  | ret u => obtain ⟨v, σ', H', I, r, q⟩ := h; exact ⟨v, σ', H', I.unwish, r, q⟩
theorem PSs.nox {st : List Stmt} {t : TS} (h : PSs X.nox st t) : PSs X st t := fun pins s σ H D I hw =>
  wpAny_mono (h pins s σ H D (I.wish _) hw) (fun _ _ q => q.unwish) fun _ _ z => False.elim z
end

/-! ### blocks and small statements -/
section
variable {X : Cx} {st : Stmt} {rest : List Stmt} {t u : TS} {e : Expr} {te : TE} {pos : Pos}
def tNext : TS := fun D σ H => D.nx σ H
def tSeq (t u : TS) : TS := fun D σ H => t { D with nx := u D } σ H
theorem pss_nil : PSs X [] tNext := fun _ _ σ H _ I h => wpAny_execs_nil ⟨σ, H, I, h⟩
theorem pss_cons (h1 : PS X st t) (h2 : PSs X rest u) : PSs X (st :: rest) (tSeq t u) := by
  intro pins s σ H D I h
  refine wpAny_execs_cons (thn (h1 pins s σ H { D with nx := u D } I h) fun f s1 q => ?_)
  cases f with
  | next =>
    obtain ⟨σ', H', I', q⟩ := q
    exact h2 pins s1 σ' H' D I' q
  | ret v => exact q
  | brk => exact q
  | cont => exact q
theorem pss_one (h1 : PS X st t) : PSs X [st] t := by
  intro pins s σ H D I h
  refine wpAny_execs_cons (thn (h1 pins s σ H D I h) fun f s1 q => ?_)
  cases f with
  | next => exact wpAny_execs_nil q
  | ret v => exact q
  | brk => exact q
  | cont => exact q
/-- in a def's body nothing is shown -/
theorem Inv.quiet {pins : List (Addr × Obj)} {σ : St} {H : Hp} {s : Shared} (I : Inv X pins σ H s) : interactive X.env = false := by simp [interactive, I.ok.kind]
/-- an expression whose value is dropped -/
def tDrop (te : TE) : TS := fun D σ H => te σ H fun _ H1 => D.nx σ H1
theorem ps_expr (he : PE X e te) (hs : swapsWith e none pos.line X.env = pure false := by rfl) : PS X (.Expr e pos) (tDrop te) := by
  intro pins s σ H D I h
  exact wpAny_Expr_any (thn (he pins s σ H _ I h) fun v s1 ⟨x, H1, I1, r1, q1⟩ => ⟨σ, H1, I1, q1⟩) I.quiet hs
def tRet (te : TE) : TS := fun D σ H => te σ H D.rt
theorem ps_ret (he : PE X e te) : PS X (.Return (some e) pos) (tRet te) := by
  intro pins s σ H D I h
  exact wpAny_Return_some (thn (he pins s σ H _ I h) fun v s1 ⟨x, H1, I1, r1, q1⟩ => ⟨x, σ, H1, I1, r1, q1⟩)
def tIfS (c : TT) (t u : TS) : TS := fun D σ H => c σ H fun b H1 => if b = true then t D σ H1 else u D σ H1
theorem ps_if {c : Expr} {a b : List Stmt} {tc : TT} (hc : PT X c tc) (ha : PSs X a t) (hb : PSs X b u) : PS X (.If c a b pos) (tIfS tc t u) := by
  intro pins s σ H D I h
  refine wpAny_If (thn (hc pins s σ H _ I h) fun d s1 ⟨H1, I1, q1⟩ => ?_)
  cases d with
  | true => exact ha pins s1 σ H1 D I1 q1
  | false => exact hb pins s1 σ H1 D I1 q1
end

/-! ### targets -/
abbrev TG := V → St → Hp → (St → Hp → Prop) → Prop
abbrev TGs := List V → St → Hp → (St → Hp → Prop) → Prop
def PG (X : Cx) (target : Expr) (t : TG) : Prop :=
  ∀ (pins : List (Addr × Obj)) (s : Shared) (σ : St) (H : Hp) (v : V) (u : Value) (Q : St → Hp → Prop), Inv X pins σ H s → RelV v u → t v σ H Q →
    wpAny (model X.prog X.w) X.A (assign target X.env u) (fun _ s' => ∃ σ' H', Inv X pins σ' H' s' ∧ Q σ' H') X.xe s
/-- several targets, one after another -/
def PGs (X : Cx) (ts : List Expr) (t : TGs) : Prop :=
  ∀ (pins : List (Addr × Obj)) (s : Shared) (σ : St) (H : Hp) (vs : List V) (us : List Value) (Q : St → Hp → Prop), Inv X pins σ H s → Vals vs us → t vs σ H Q →
    wpAny (model X.prog X.w) X.A (assignInOrder ((assignEach ts X.env).map (·.2)) us) (fun _ s' => ∃ σ' H', Inv X pins σ' H' s' ∧ Q σ' H') X.xe s
/-- o[i] = v, by values -/
abbrev TSet := V → V → V → Hp → (Hp → Prop) → Prop
def PSet (X : Cx) (t : TSet) : Prop :=
  ∀ (pins : List (Addr × Obj)) (s : Shared) (σ : St) (H : Hp) (o i v : V) (ov iv u : Value) (Q : Hp → Prop), Inv X pins σ H s → RelV o ov → RelV i iv → RelV v u → t o i v H Q →
    wpAny (model X.prog X.w) X.A (setItem ov iv u) (fun _ s' => ∃ H', Inv X pins σ H' s' ∧ Q H') X.xe s
section
variable {X : Cx} {pos : Pos}
def gName (i : Nat) : TG := fun v σ H Q => Q (σ.set i (some v)) H
theorem pg_name {i : Nat} {x : Str} (hN : X.N.Nodup) (hi : X.N[i]? = some x) (hx : Loc X.env.scope x) (hf : X.fn x = true ∨ X.env.scope.names.lookup x = some .local := by first | exact .inl rfl | exact .inr rfl | assumption) : PG X (.Name x pos) (gName i) := by
  intro pins s σ H v u Q I r h
  exact wpAny_assign_Name (store_ok I hN hi hx r (fun s' I' => ⟨_, H, I', h⟩) hf)
def gNil : TGs := fun vs σ H Q => vs = [] ∧ Q σ H
def gCons (t : TG) (u : TGs) : TGs := fun vs σ H Q => ∃ v r, vs = v :: r ∧ t v σ H fun σ' H' => u r σ' H' Q
theorem pgs_nil : PGs X [] gNil := by
  intro pins s σ H vs us Q I r h
  obtain ⟨e, h⟩ := h
  subst e
  cases r
  exact assignInOrder_nil ⟨σ, H, I, h⟩
theorem pgs_cons {e : Expr} {es : List Expr} {t : TG} {u : TGs} (h1 : PG X e t) (h2 : PGs X es u)
    (hs : (assignEach (e :: es) X.env).map (·.2) = assign e X.env :: (assignEach es X.env).map (·.2) := by rfl) : PGs X (e :: es) (gCons t u) := by
  intro pins s σ H vs us Q I r h
  obtain ⟨v, vr, e1, h⟩ := h
  subst e1
  cases r with
  | cons r rr =>
    rw [hs]
    refine assignInOrder_cons (thn (h1 pins s σ H _ _ _ I r h) fun _ s1 ⟨σ1, H1, I1, q1⟩ => ?_)
    exact h2 pins s1 σ1 H1 _ _ Q I1 rr q1
/-- (a, b, ..) = a tuple of that length -/
def gTup (K : PySem.W.Frag) (n : Nat) (t : TGs) : TG := fun v σ H Q => ∃ a xs, v = .ref a ∧ SqT K H a xs ∧ xs.length = n ∧ t xs σ H Q
theorem pg_tup {es : List Expr} {k : Nat} {t : TGs} {n : Nat} (hc : X.calm = true) (h : PGs X es t)
    (hn : (assignEach es X.env).length = n := by rfl) (hst : (assignEach es X.env).findIdx? (·.1) = none := by rfl) : PG X (.Tuple es k pos) (gTup X.K n t) := by
  intro pins s σ H v u Q I r hw
  obtain ⟨a, xs, e1, hq, hl, hw⟩ := hw
  subst e1
  cases r
  obtain ⟨its, rv, ht, hz⟩ := I.tuple hq
  refine assign_Tuple_tuple (I.ok.hd hc) ht (by simp [hn, ← hl, rv.length]) hst fun h' hx => ?_
  have I1 : Inv X pins σ H { s with heap := h' } := I.kept (t' := s.toks) fun b o e => hx b o (Nat.ne_of_lt (Heap.lt_size e)) e
  exact h pins _ σ H xs _ Q I1 (by simpa using rv) hw
/-- o[i] = .. -/
def gSub (to ti : TE) (t : TSet) : TG := fun v σ H Q => to σ H fun o H1 => ti σ H1 fun i H2 => t o i v H2 fun H3 => Q σ H3
theorem pg_sub {o i : Expr} {to ti : TE} {t : TSet} (ho : PE X o to) (hi : PE X i ti) (hs : PSet X t)
    (ha : ∀ v, assign (.Subscript o i pos) X.env v = (do
      let ov ← holding [v] (eval o X.env)
      let iv ← holding [v, ov] (eval i X.env)
      standAt pos
      holding [v, ov, iv] (setItem ov iv v)
      release [v, ov, iv] []) := by intro _; rfl) : PG X (.Subscript o i pos) (gSub to ti t) := by
  intro pins s σ H v u Q I r h
  rw [ha]
  refine wpAny_bind (wpAny_holding (thn (ho pins s σ H _ I h) fun ov s1 ⟨x, H1, I1, r1, q1⟩ => ?_))
  refine wpAny_bind (wpAny_holding (thn (hi pins s1 σ H1 _ I1 q1) fun iv s2 ⟨y, H2, I2, r2, q2⟩ => ?_))
  refine wpAny_bind (wpAny_standAt (wpAny_bind (wpAny_holding (thn (hs pins s2 σ H2 x y v ov iv u _ I2 r1 r2 r q2) fun _ s3 ⟨H3, I3, q3⟩ => ?_))))
  exact wpAny_release ⟨σ, H3, I3, q3⟩
/-- target = value -/
def tAsg (te : TE) (g : TG) : TS := fun D σ H => te σ H fun x H1 => g x σ H1 D.nx
theorem ps_asg {tg e : Expr} {te : TE} {g : TG} (he : PE X e te) (hg : PG X tg g) (hs : swapsWithSole [tg] e pos.line X.env = pure false := by rfl) (hw : swappedStores [tg] e X.env = pure none := by rfl)
    (h1 : (assignEach [tg] X.env).map (·.2) = [assign tg X.env] := by rfl) : PS X (.Assign [tg] e pos) (tAsg te g) := by
  intro pins s σ H D I h
  refine wpAny_Assign_stores (thn (he pins s σ H _ I h) fun v s1 ⟨x, H1, I1, r1, q1⟩ => ?_) hs hw
  rw [h1]
  exact thn (hg pins s1 σ H1 x v _ I1 r1 q1) fun _ s2 q => q
/-- name = value -/
theorem ps_set {i : Nat} {x : Str} {e : Expr} {te : TE} {pos' : Pos} (hN : X.N.Nodup) (hi : X.N[i]? = some x) (hx : Loc X.env.scope x) (he : PE X e te) (hs : swapsWith e (some (.Name x pos')) pos.line X.env = pure false := by rfl) (hf : X.fn x = true ∨ X.env.scope.names.lookup x = some .local := by first | exact .inl rfl | exact .inr rfl | assumption) :
    PS X (.Assign [.Name x pos'] e pos) (tAsg te (gName i)) := by
  intro pins s σ H D I h
  refine wpAny_Assign_Name (thn (he pins s σ H _ I h) fun v s1 ⟨y, H1, I1, r1, q1⟩ => ?_) hs
  exact store_ok I1 hN hi hx r1 (fun s2 I2 => ⟨_, H1, I2, q1⟩) hf
end

/-! ### while -/
section
variable {X : Cx} {pos : Pos}
/-- the invariant W with its measure -/
def tWhile (c : TT) (tb : TS) : TS := fun D σ H => ∃ W : Nat → St → Hp → Prop, (∃ m, W m σ H) ∧ ∀ m σ H, W m σ H →
  c σ H fun b H1 => if b = true then ∃ N : St → Hp → Prop, (∀ σ' H', N σ' H' → ∃ m', m' < m ∧ W m' σ' H') ∧ tb { D with nx := N, ct := N, bk := D.nx } σ H1 else D.nx σ H1
theorem ps_while {c : Expr} {body : List Stmt} {tc : TT} {tb : TS} (hp : PassesOwn (model X.prog X.w) X.A X.env X.xe) (hc : PT X c tc) (hb : PSs X body tb) : PS X (.While c body [] pos) (tWhile tc tb) := by
  intro pins s σ H D I h
  obtain ⟨W, ⟨m0, w0⟩, turn⟩ := h
  refine wpAny_While (codeAny_whileLoop (fun n s' => ∃ σ' H', Inv X pins σ' H' s' ∧ W n σ' H') ?_ m0 ⟨σ, H, I, w0⟩)
  rintro n s1 ⟨σ1, H1, I1, w1⟩
  refine wpAny_passesOwn hp (thn (hc pins s1 σ1 H1 _ I1 (turn n σ1 H1 w1)) fun b s2 ⟨H2, I2, q2⟩ => ?_)
  cases b with
  | true =>
    obtain ⟨N, hN, q2⟩ := q2
    rw [if_pos rfl]
    refine wpAny_passesOwn hp (thn (hb pins s2 σ1 H2 _ I2 q2) fun f s3 q3 => ?_)
    cases f with
    | next =>
      obtain ⟨σ3, H3, I3, n3⟩ := q3
      obtain ⟨m', hm, w3⟩ := hN σ3 H3 n3
      exact ⟨m', hm, σ3, H3, I3, w3⟩
    | cont =>
      obtain ⟨σ3, H3, I3, n3⟩ := q3
      obtain ⟨m', hm, w3⟩ := hN σ3 H3 n3
      exact ⟨m', hm, σ3, H3, I3, w3⟩
    | brk => exact q3
    | ret v => exact q3
  | false =>
    rw [if_neg Bool.false_ne_true]
    exact wpAny_execs_nil ⟨σ1, H2, I2, q2⟩
end

/-! ### what a loop or a comprehension walks -/
/-- at turn i: it yields x (the heap may grow), or it stops -/
structure It where
  go : Nat → Hp → Prop
  yld : Nat → Hp → V → Hp → Prop
  stop : Nat → Hp → Prop
/-- the iterator's own objects may turn: they are not the frame's, not pinned, younger than the entry (or a comprehension's own) -/
def FpOk (X : Cx) (pins : List (Addr × Obj)) (H : Hp) (b : Addr) : Prop :=
  H b = none ∧ b ≠ X.env.locals ∧ b ∉ X.fs ∧ (b ∈ X.ex ∨ X.s₀.heap.objs.size ≤ b) ∧ (∀ x c, X.env.cells.lookup x = some c → c ≠ b) ∧ ∀ p ∈ X.pn ++ pins, p.1 ≠ b
theorem Inv.fpOk {X : Cx} {pins : List (Addr × Obj)} {σ : St} {H H' : Hp} {s : Shared} {b : Addr} (I : Inv X pins σ H s) (hb : s.heap.objs.size ≤ b) (hn : H' b = none) : FpOk X pins H' b := by
  refine ⟨hn, Nat.ne_of_gt (Nat.lt_of_lt_of_le I.lt hb), I.nofs hb, .inr (Nat.le_trans I.sz hb), fun x c e z => ?_, fun p hp z => ?_⟩
  · obtain ⟨v, q⟩ := I.cell x c e
    exact absurd (Nat.lt_of_lt_of_le q.lt (by rw [z]; exact hb)) (Nat.lt_irrefl _)
  · exact absurd (Nat.lt_of_lt_of_le (Heap.lt_size (I.pin p hp).1) (by rw [z]; exact hb)) (Nat.lt_irrefl _)
structure Turn (P : Program) (w : World) (K : PySem.W.Frag) (tg : Expr) (J : It) (fp : List Addr) (it : Addr) (tn : Nat → Heap → Prop) : Prop where
  mem : it ∈ fp
  obj : ∀ i h, tn i h → ∀ b ∈ fp, ∃ o, h.get? b = some o ∧ ∀ v, o.data ≠ .cell v
  keep : ∀ i h h', tn i h → (∀ b ∈ fp, ∀ o, h.get? b = some o → h'.get? b = some o) → tn i h'
  item : ∀ (X : Cx), X.prog = P → X.w = w → X.K = K → X.calm = true → ∀ (i : Nat) (pins : List (Addr × Obj)) (s : Shared) (σ : St) (H : Hp) (E : Value → Shared → Prop), Inv X pins σ H s → (∀ b ∈ fp, FpOk X pins H b) → tn i s.heap → J.go i H →
    wpAny (model P w) X.A (pyNext (.ref it)) (fun r s1 => ∃ u, r = some u ∧
      wpAny (model P w) X.A (letOwnedTupleGo tg (.ref it) u) (fun _ s2 => ∃ x H', Inv X pins σ H' s2 ∧ RelV x u ∧ J.yld i H x H' ∧ tn (i + 1) s2.heap ∧ ∀ b ∈ fp, H' b = none) E s1) E s
  done : ∀ (X : Cx), X.prog = P → X.w = w → X.K = K → X.calm = true → ∀ (i : Nat) (pins : List (Addr × Obj)) (s : Shared) (σ : St) (H : Hp) (E : Value → Shared → Prop), Inv X pins σ H s → (∀ b ∈ fp, FpOk X pins H b) → tn i s.heap → J.stop i H →
    wpAny (model P w) X.A (pyNext (.ref it)) (fun r s1 => r = none ∧ Inv X pins σ H s1) E s
  self : ∀ (A : Around) (i : Nat) (s : Shared) (Q : Value → Shared → Prop) (E : Value → Shared → Prop), tn i s.heap → Q (.ref it) s → wpAny (model P w) A (pyIter (.ref it)) Q E s
abbrev TI := St → Hp → (It → Hp → Prop) → Prop
/-- an iterator has come -/
def PIE (X : Cx) (pins : List (Addr × Obj)) (σ : St) (tg : Expr) (R : It → Hp → Prop) (itv : Value) (s2 : Shared) : Prop :=
  ∃ (it : Addr) (fp : List Addr) (tn : Nat → Heap → Prop) (J : It) (H' : Hp), itv = .ref it ∧ Inv X pins σ H' s2 ∧ Turn X.prog X.w X.K tg J fp it tn ∧ tn 0 s2.heap ∧ (∀ b ∈ fp, FpOk X pins H' b) ∧ R J H'
def PI (X : Cx) (tg iter : Expr) (wi : TI) : Prop :=
  ∀ (pins : List (Addr × Obj)) (s : Shared) (σ : St) (H : Hp) (R : It → Hp → Prop), Inv X pins σ H s → wi σ H R →
    wpAny (model X.prog X.w) X.A (eval iter X.env) (fun v s1 => wpAny (model X.prog X.w) X.A (pyIter v) (PIE X pins σ tg R) X.xe s1) X.xe s

/-- the step ahead of the store is nothing for an iterator that keeps no tuple -/
theorem go_of {M : Model} {A : Around} {E : Value → Shared → Prop} {s : Shared} {tg : Expr} {it : Addr} {u : Value} {o : Obj} {n : String} {vs : Array Value} {Q : Unit → Shared → Prop} (ho : s.heap.get? it = some o) (hc : o.cls = .type n) (hd : o.data = .fields vs)
    (hn : ["enumerate", "zip", "dict_itemiterator", "dict_reverseitemiterator", "odict_iterator", "itertools.zip_longest", "itertools.pairwise"].contains n = false) (hQ : Q () s) : wpAny M A (letOwnedTupleGo tg (.ref it) u) Q E s := by
  unfold letOwnedTupleGo
  cases tg <;> first
    | exact wpAny_pure hQ
    | (cases u <;> first
        | exact wpAny_pure hQ
        | (refine wpAny_bind (wpAny_load ho ?_)
           rw [hc, hd]
           show wpAny M A (if (["enumerate", "zip", "dict_itemiterator", "dict_reverseitemiterator", "odict_iterator", "itertools.zip_longest", "itertools.pairwise"].contains n && vs[0]? == some (rawInt _)) = true then _ else _) Q E s
           rw [if_neg (by intro h; rw [hn, Bool.false_and] at h; cases h)]
           exact wpAny_pure hQ))

/-- the list at a, as it stands at each turn (a loop may append to it) -/
def Itl (K : PySem.W.Frag) (a : Addr) : It :=
  ⟨fun i H => ∃ xs x, SqL K H a xs ∧ xs[i]? = some x, fun i H x H' => H' = H ∧ ∀ xs, SqL K H a xs → xs[i]? = some x, fun i H => ∃ xs, SqL K H a xs ∧ xs.length ≤ i⟩
def Itt (K : PySem.W.Frag) (a : Addr) : It :=
  ⟨fun i H => ∃ xs x, SqT K H a xs ∧ xs[i]? = some x, fun i H x H' => H' = H ∧ ∀ xs, SqT K H a xs → xs[i]? = some x, fun i H => ∃ xs, SqT K H a xs ∧ xs.length ≤ i⟩
/-- lo, lo + 1, .. (n of them) -/
def Itr (lo : Int) (n : Nat) : It := ⟨fun i _ => i < n, fun i H x H' => H' = H ∧ x = .int (lo + i), fun i _ => n ≤ i⟩
theorem turn_list {P : Program} {w : World} {K : PySem.W.Frag} {tg : Expr} (a it : Addr) : Turn P w K tg (Itl K a) [it] it (fun i h => h.IsListIter it a i) where
  mem := by simp
  obj := fun i h st b hb => by
    have e : b = it := by simpa using hb
    subst e
    obtain ⟨o, e, c, d⟩ := st
    exact ⟨o, e, fun v z => by rw [d] at z; cases z⟩
  keep := fun i h h' st k => st.at fun o e => k it (by simp) o e
  item := by
    intro X hP hw hK hc i pins s σ H E I hf st hg
    subst hP hw hK
    obtain ⟨xs, x, hq, hx⟩ := hg
    obtain ⟨its, rv, p, hz⟩ := I.list hq
    obtain ⟨u, hu, ru⟩ := rv.get hx
    obtain ⟨f0, f1, f2, f3, f4, f5⟩ := hf it (by simp)
    refine wpAny_pyNext_list_item st p.isList (x := u) (by simpa using hu) fun h' st' sb => ?_
    have I1 : Inv X pins σ H { s with heap := h' } := I.turned (t' := s.toks) (fun b o hb e => (sb.2 b hb).trans e) f0 f1 f3 f4 f5
    obtain ⟨o, e, c, d⟩ := id st'
    exact ⟨u, rfl, go_of (s := { s with heap := h' }) e c d (by decide) ⟨x, H, I1, ru, ⟨rfl, fun ys hy => by rw [I.list_inj hy hq]; exact hx⟩, st', fun b hb => (hf b hb).1⟩⟩
  done := by
    intro X hP hw hK hc i pins s σ H E I hf st hg
    subst hP hw hK
    obtain ⟨xs, hq, hx⟩ := hg
    obtain ⟨its, rv, p, hz⟩ := I.list hq
    obtain ⟨f0, f1, f2, f3, f4, f5⟩ := hf it (by simp)
    have hl := rv.length
    exact wpAny_pyNext_list_end (I.ok.hd hc) st p.isList (by simp; omega) fun h' eb => ⟨rfl, I.turned (t' := s.toks) (fun b o hb e => eb b o hb e) f0 f1 f3 f4 f5⟩
  self := fun _ _ _ _ _ st h => wpAny_pyIter_listiter st h
theorem turn_tuple {P : Program} {w : World} {K : PySem.W.Frag} {tg : Expr} (a it : Addr) : Turn P w K tg (Itt K a) [it] it (fun i h => h.IsTupleIter it a i) where
  mem := by simp
  obj := fun i h st b hb => by
    have e : b = it := by simpa using hb
    subst e
    obtain ⟨o, e, c, d⟩ := st
    exact ⟨o, e, fun v z => by rw [d] at z; cases z⟩
  keep := fun i h h' st k => st.at fun o e => k it (by simp) o e
  item := by
    intro X hP hw hK hc i pins s σ H E I hf st hg
    subst hP hw hK
    obtain ⟨xs, x, hq, hx⟩ := hg
    obtain ⟨its, rv, p, hz⟩ := I.tuple hq
    obtain ⟨u, hu, ru⟩ := rv.get hx
    obtain ⟨f0, f1, f2, f3, f4, f5⟩ := hf it (by simp)
    refine wpAny_pyNext_tuple_item st (show s.heap.IsTuple a its.toArray from p) (x := u) (by simpa using hu) fun h' st' sb => ?_
    have I1 : Inv X pins σ H { s with heap := h' } := I.turned (t' := s.toks) (fun b o hb e => (sb.2 b hb).trans e) f0 f1 f3 f4 f5
    obtain ⟨o, e, c, d⟩ := id st'
    exact ⟨u, rfl, go_of (s := { s with heap := h' }) e c d (by decide) ⟨x, H, I1, ru, ⟨rfl, fun ys hy => by rw [I.tuple_inj hy hq]; exact hx⟩, st', fun b hb => (hf b hb).1⟩⟩
  done := by
    intro X hP hw hK hc i pins s σ H E I hf st hg
    subst hP hw hK
    obtain ⟨xs, hq, hx⟩ := hg
    obtain ⟨its, rv, p, hz⟩ := I.tuple hq
    obtain ⟨f0, f1, f2, f3, f4, f5⟩ := hf it (by simp)
    have hl := rv.length
    exact wpAny_pyNext_tuple_end (I.ok.hd hc) st (show s.heap.IsTuple a its.toArray from p) (by simp; omega) fun h' eb => ⟨rfl, I.turned (t' := s.toks) (fun b o hb e => eb b o hb e) f0 f1 f3 f4 f5⟩
  self := fun _ _ _ _ _ st h => wpAny_pyIter_tupleiter st h
theorem turn_range {P : Program} {w : World} {K : PySem.W.Frag} {tg : Expr} (it : Addr) (lo : Int) (n : Nat) : Turn P w K tg (Itr lo n) [it] it (fun i h => IsRangeIter h it (lo + (i : Nat) * 1) ((n : Int) - (i : Nat)) 1) where
  mem := by simp
  obj := fun i h st b hb => by
    have e : b = it := by simpa using hb
    subst e
    exact ⟨_, st, fun v z => by
      have z' : Data.fields _ = Data.cell v := z
      cases z'⟩
  keep := fun i h h' st k => k it (by simp) _ st
  item := by
    intro X hP hw hK hc i pins s σ H E I hf st hg
    subst hP hw hK
    obtain ⟨f0, f1, f2, f3, f4, f5⟩ := hf it (by simp)
    have W := Walks.range (prog := X.prog) (w := X.w) (I.ok.hd hc) it lo 1 n
    refine W.item i s _ _ hg st fun v h' tk hv st' kk => ?_
    obtain ⟨t, rfl⟩ := hv
    have I1 : Inv X pins σ H { s with heap := h', toks := tk } := I.turned (fun b o hb e => kk b o (by simpa using hb) e) f0 f1 f3 f4 f5
    refine ⟨_, rfl, go_of (s := { s with heap := h', toks := tk }) (n := "range_iterator") st' rfl rfl (by decide) ⟨.int (lo + i), H, I1, ⟨t, ?_⟩, ⟨rfl, rfl⟩, st', fun b hb => (hf b hb).1⟩⟩
    rw [Int.mul_one]
  done := by
    intro X hP hw hK hc i pins s σ H E I hf st hg
    subst hP hw hK
    obtain ⟨f0, f1, f2, f3, f4, f5⟩ := hf it (by simp)
    exact wpAny_pyNext_range_end (I.ok.hd hc) st (by have : n ≤ i := hg; omega) fun h' eb => ⟨rfl, I.turned (t' := s.toks) (fun b o hb e => eb b o hb e) f0 f1 f3 f4 f5⟩
  self := fun _ _ _ _ _ st h => wpAny_pyIter_rangeiter st h
end L2

namespace L2
open PySem PySem.Spec PyProof.Rows
section
variable {X : Cx} {tg : Expr}
def iList (K : PySem.W.Frag) (tl : TE) : TI := fun σ H R => tl σ H fun x H1 => ∃ a, x = .ref a ∧ (∃ xs, SqL K H1 a xs) ∧ R (Itl K a) H1
def iTup (K : PySem.W.Frag) (tl : TE) : TI := fun σ H R => tl σ H fun x H1 => ∃ a, x = .ref a ∧ (∃ xs, SqT K H1 a xs) ∧ R (Itt K a) H1
theorem pi_list {l : Expr} {tl : TE} (hl : PE X l tl) : PI X tg l (iList X.K tl) := by
  intro pins s σ H R I h
  refine thn (hl pins s σ H _ I h) fun v s1 ⟨x, H1, I1, r1, q1⟩ => ?_
  obtain ⟨a, e, ⟨xs, hq⟩, q⟩ := q1
  subst e
  cases r1
  obtain ⟨its, rv, p, hz⟩ := I1.list hq
  refine wpAny_pyIter_list p.isList ?_
  refine ⟨s1.heap.objs.size, [s1.heap.objs.size], _, _, H1, rfl, I1.kept (t' := s1.toks) fun b o e => Heap.get?_push_of_some _ e, turn_list a _, ⟨_, Heap.get?_push_size _ rfl, rfl, rfl⟩, fun b hb => ?_, q⟩
  have e : b = s1.heap.objs.size := by simpa using hb
  subst e
  exact I1.fpOk (Nat.le_refl _) (I1.hok.fresh (Nat.le_refl _))
theorem pi_tup {l : Expr} {tl : TE} (hl : PE X l tl) : PI X tg l (iTup X.K tl) := by
  intro pins s σ H R I h
  refine thn (hl pins s σ H _ I h) fun v s1 ⟨x, H1, I1, r1, q1⟩ => ?_
  obtain ⟨a, e, ⟨xs, hq⟩, q⟩ := q1
  subst e
  cases r1
  obtain ⟨its, rv, p, hz⟩ := I1.tuple hq
  refine wpAny_pyIter_tuple (show s1.heap.IsTuple a its.toArray from p) ?_
  refine ⟨s1.heap.objs.size, [s1.heap.objs.size], _, _, H1, rfl, I1.kept (t' := s1.toks) fun b o e => Heap.get?_push_of_some _ e, turn_tuple a _, ⟨_, Heap.get?_push_size _ rfl, rfl, rfl⟩, fun b hb => ?_, q⟩
  have e : b = s1.heap.objs.size := by simpa using hb
  subst e
  exact I1.fpOk (Nat.le_refl _) (I1.hok.fresh (Nat.le_refl _))
/-- a range object just made, walked -/
theorem range_it {pins : List (Addr × Obj)} {σ : St} {H : Hp} {s : Shared} {R : It → Hp → Prop} {E : Value → Shared → Prop} {lo hi : Int} {t u v : Tok} {tk : Nat} (I : Inv X pins σ H s) (h1 : -(2 ^ 62) ≤ lo) (h2 : lo < 2 ^ 62) (h3 : -(2 ^ 62) ≤ hi) (h4 : hi < 2 ^ 62)
    (q : R (Itr lo (hi - lo).toNat) H) : wpAny (model X.prog X.w) X.A (pyIter (.ref s.heap.objs.size)) (PIE X pins σ tg R) E { s with heap := s.heap.push { cls := .type "range", data := .fields #[.int lo t, .int hi u, .int 1 v] }, toks := tk } := by
  refine wpAny_pyIter_range (IsRange.new ..) (small_one h1 h2 h3 h4) ?_
  have I1 : Inv X pins σ H { s with heap := s.heap.push { cls := .type "range", data := .fields #[.int lo t, .int hi u, .int 1 v] }, toks := tk } := I.kept fun b o e => Heap.get?_push_of_some _ e
  refine ⟨(s.heap.push { cls := .type "range", data := .fields #[.int lo t, .int hi u, .int 1 v] }).objs.size, [(s.heap.push { cls := .type "range", data := .fields #[.int lo t, .int hi u, .int 1 v] }).objs.size], _, _, H, rfl,
    I1.kept (t' := tk) fun b o e => Heap.get?_push_of_some _ e, turn_range _ lo (hi - lo).toNat, ?_, fun b hb => ?_, q⟩
  · have e1 : lo + ((0 : Nat) : Int) * 1 = lo := by simp
    have e2 : (((hi - lo).toNat : Nat) : Int) - ((0 : Nat) : Int) = Builtin.Range.rangeSize lo hi 1 := by rw [rangeSize_one]; split <;> omega
    show IsRangeIter _ _ (lo + ((0 : Nat) : Int) * 1) ((((hi - lo).toNat : Nat) : Int) - ((0 : Nat) : Int)) 1
    rw [e1, e2]
    exact Heap.get?_push_size _ rfl
  · have e : b = (s.heap.push { cls := .type "range", data := .fields #[.int lo t, .int hi u, .int 1 v] }).objs.size := by simpa using hb
    subst e
    exact I1.fpOk (Nat.le_refl _) (I1.hok.fresh (Nat.le_refl _))
def iRng1 (ta : TA) : TI := fun σ H R => ta σ H fun vs H1 => ∃ j : Int, vs = [.int j] ∧ -(2 ^ 62) ≤ j ∧ j < 2 ^ 62 ∧ R (Itr 0 j.toNat) H1
theorem pi_range1 {a : Expr} {ta : TA} {p pos : Pos} (hg : Gl X "range") (hm : X.mg "range" = none) (ha : PA X [a] ta) (hs : starEach [a] X.env = [(false, eval a X.env)] := by rfl) : PI X tg (.Call (.Name "range" p) [a] [] pos) (iRng1 ta) := by
  intro pins s σ H R I h
  refine Call_ (ld_blt I hg hm boot_range (PyProof.Rows.callWith_type1 (thn (ha pos pins s σ H _ I h) fun us s1 ⟨vs, H1, I1, r1, q1⟩ => ?_) hs rfl))
  obtain ⟨j, e, q1, q2, q⟩ := q1
  subst e
  cases r1 with
  | cons r rr =>
    cases rr
    obtain ⟨t, rfl⟩ := r
    exact call_range_1 (range_it I1 (by omega) (by omega) q1 q2 (by simpa using q))

/-! ### for -/
/-- W: the invariant by the turn and a measure; N: what the body is to reach -/
def tFor (wi : TI) (g : TG) (tb : TS) : TS := fun D σ H => wi σ H fun J H1 => ∃ W : Nat → Nat → St → Hp → Prop, (∃ m, W 0 m σ H1) ∧ ∀ i m σ H, W i m σ H →
  (J.stop i H ∧ D.nx σ H) ∨ (J.go i H ∧ ∃ N : St → Hp → Prop, (∀ σ' H', N σ' H' → ∃ m', m' < m ∧ W (i + 1) m' σ' H') ∧ ∀ x H', J.yld i H x H' → g x σ H' fun σ2 H2 => tb { D with nx := N, ct := N, bk := D.nx } σ2 H2)
/-- the records at fp as they stand -/
def pinsAt (fp : List Addr) (h : Heap) : List (Addr × Obj) := fp.filterMap fun b => (h.get? b).map fun o => (b, o)
theorem mem_pinsAt {fp : List Addr} {h : Heap} {b : Addr} {o : Obj} (hb : b ∈ fp) (e : h.get? b = some o) : (b, o) ∈ pinsAt fp h := List.mem_filterMap.mpr ⟨b, hb, by rw [e]; rfl⟩
theorem of_pinsAt {fp : List Addr} {h : Heap} {p : Addr × Obj} (hp : p ∈ pinsAt fp h) : p.1 ∈ fp ∧ h.get? p.1 = some p.2 := by
  obtain ⟨b, hb, e⟩ := List.mem_filterMap.mp hp
  cases q : h.get? b with
  | none => rw [q] at e; cases e
  | some o =>
    rw [q] at e
    have e' : (b, o) = p := Option.some.inj e
    subst e'
    exact ⟨hb, q⟩
theorem Inv.pinned {pins : List (Addr × Obj)} {σ : St} {H : Hp} {s : Shared} {fp : List Addr} (I : Inv X pins σ H s) (hf : ∀ b ∈ fp, FpOk X pins H b) (ho : ∀ b ∈ fp, ∃ o, s.heap.get? b = some o ∧ ∀ v, o.data ≠ .cell v) : Inv X (pins ++ pinsAt fp s.heap) σ H s :=
  I.pins_of fun p hp => (List.mem_append.mp hp).elim (fun z => I.pin p (List.mem_append_right _ z)) fun z => by
    obtain ⟨hb, e⟩ := of_pinsAt z
    obtain ⟨f0, f1, f2, _⟩ := hf p.1 hb
    obtain ⟨o, e', d⟩ := ho p.1 hb
    rw [e] at e'; cases e'
    exact ⟨e, f0, f1, f2, d⟩
theorem Inv.unpinned {pins pl : List (Addr × Obj)} {σ : St} {H : Hp} {s : Shared} (I : Inv X (pins ++ pl) σ H s) : Inv X pins σ H s := I.pins_of fun p hp => I.pin p (List.mem_append_right _ (List.mem_append_left _ hp))
theorem ps_for {iter : Expr} {body : List Stmt} {wi : TI} {g : TG} {tb : TS} {pos : Pos} (hp : PassesOwn (model X.prog X.w) X.A X.env X.xe) (hc : X.calm = true) (hi : PI X tg iter wi) (hg : PG X tg g) (hb : PSs X body tb)
    (hs : ∀ x, foldedSetIterable iter X.env x = pure x := by intro _; rfl) : PS X (.For tg iter body [] pos) (tFor wi g tb) := by
  intro pins s σ H D I h
  refine wpAny_For (thn (hi pins s σ H _ I h) fun v s1 h1 => thn h1 fun itv s2 h2 => ?_) hs
  obtain ⟨it, fp, tn, J, H2, e, I2, T, st2, f2, W, ⟨m0, w0⟩, turn⟩ := h2
  subst e
  -- what stays true of the iterator's objects through the loop
  have stat : ∀ {H' : Hp}, (∀ b ∈ fp, H' b = none) → ∀ b ∈ fp, FpOk X pins H' b := fun hn b hb => ⟨hn b hb, (f2 b hb).2⟩
  refine codeAny_forLoop_any (fun n s' => ∃ i σ' H', Inv X pins σ' H' s' ∧ tn i s'.heap ∧ (∀ b ∈ fp, H' b = none) ∧ W i n σ' H') ?_ m0 ⟨0, σ, H2, I2, st2, fun b hb => (f2 b hb).1, w0⟩
  rintro n s3 ⟨i, σ3, H3, I3, st3, fr3, w3⟩
  rcases turn i n σ3 H3 w3 with ⟨stop, qn⟩ | ⟨go, N, hN, step⟩
  · refine wpAny_passesOwn hp (thn (T.done X rfl rfl rfl hc i pins s3 σ3 H3 X.xe I3 (stat fr3) st3 stop) fun r s4 ⟨hr, I4⟩ => ?_)
    subst hr
    exact wpAny_execs_nil ⟨σ3, H3, I4, qn⟩
  · refine wpAny_passesOwn hp (thn (T.item X rfl rfl rfl hc i pins s3 σ3 H3 X.xe I3 (stat fr3) st3 go) fun r s4 ⟨u, hr, h4⟩ => ?_)
    subst hr
    refine wpAny_passesOwn hp (thn h4 fun _ s5 ⟨x, H5, I5, r5, y5, st5, fr5⟩ => ?_)
    have I5' := I5.pinned (stat fr5) (T.obj _ _ st5)
    refine wpAny_passesOwn hp (thn (hg _ s5 σ3 H5 x u _ I5' r5 (step x H5 y5)) fun _ s6 ⟨σ6, H6, I6, q6⟩ => ?_)
    refine wpAny_passesOwn hp (thn (hb _ s6 σ6 H6 _ I6 q6) fun f s7 q7 => ?_)
    have again : ∀ {σ7 : St} {H7 : Hp}, Inv X (pins ++ pinsAt fp s5.heap) σ7 H7 s7 → N σ7 H7 → ∃ m, m < n ∧ ∃ i σ' H', Inv X pins σ' H' s7 ∧ tn i s7.heap ∧ (∀ b ∈ fp, H' b = none) ∧ W i m σ' H' := fun {σ7 H7} I7 n7 => by
      obtain ⟨m', hm, w7⟩ := hN σ7 H7 n7
      refine ⟨m', hm, i + 1, σ7, H7, I7.unpinned, T.keep _ _ _ st5 fun b hb o e => (I7.pin (b, o) (List.mem_append_right _ (List.mem_append_right _ (mem_pinsAt hb e)))).1, fun b hb => ?_, w7⟩
      obtain ⟨o, e, d⟩ := T.obj _ _ st5 b hb
      exact (I7.pin (b, o) (List.mem_append_right _ (List.mem_append_right _ (mem_pinsAt hb e)))).2.1
    cases f with
    | next => obtain ⟨σ7, H7, I7, n7⟩ := q7; exact again I7 n7
    | cont => obtain ⟨σ7, H7, I7, n7⟩ := q7; exact again I7 n7
    | brk => obtain ⟨σ7, H7, I7, q7⟩ := q7; exact ⟨σ7, H7, I7.unpinned, q7⟩
    | ret v => obtain ⟨x7, σ7, H7, I7, r7, q7⟩ := q7; exact ⟨x7, σ7, H7, I7.unpinned, r7, q7⟩
end

/-! ### the forms one uses -/
/-- over a list that the body leaves as it is -/
theorem for_list {K : PySem.W.Frag} {a : Addr} {xs : List V} {g : TG} {tb : TS} {D : Ends} {σ : St} {H : Hp} (Pv : Nat → St → Hp → Prop) (h0 : Pv 0 σ H) (hl : ∀ i σ H, i ≤ xs.length → Pv i σ H → SqL K H a xs)
    (hs : ∀ i x σ H, xs[i]? = some x → Pv i σ H → g x σ H fun σ2 H2 => tb { D with nx := Pv (i + 1), ct := Pv (i + 1), bk := D.nx } σ2 H2) (hd : ∀ σ H, Pv xs.length σ H → D.nx σ H) :
    ∃ W : Nat → Nat → St → Hp → Prop, (∃ m, W 0 m σ H) ∧ ∀ i m σ H, W i m σ H →
      ((Itl K a).stop i H ∧ D.nx σ H) ∨ ((Itl K a).go i H ∧ ∃ N : St → Hp → Prop, (∀ σ' H', N σ' H' → ∃ m', m' < m ∧ W (i + 1) m' σ' H') ∧ ∀ x H', (Itl K a).yld i H x H' → g x σ H' fun σ2 H2 => tb { D with nx := N, ct := N, bk := D.nx } σ2 H2) := by
  refine ⟨fun i m σ H => m = xs.length - i ∧ i ≤ xs.length ∧ Pv i σ H, ⟨xs.length, by simp, Nat.zero_le _, h0⟩, ?_⟩
  rintro i m σ H ⟨rfl, hi, p⟩
  have q := hl i σ H hi p
  by_cases hlt : i < xs.length
  · refine .inr ⟨⟨xs, xs[i], q, by simp [hlt]⟩, Pv (i + 1), fun σ' H' p' => ⟨xs.length - (i + 1), by omega, rfl, hlt, p'⟩, fun x H' y => ?_⟩
    obtain ⟨e, y⟩ := y
    subst e
    exact hs i x σ _ (y xs q) p
  · have e : i = xs.length := by omega
    subst e
    exact .inl ⟨⟨xs, q, Nat.le_refl _⟩, hd σ H p⟩
theorem for_range {lo : Int} {n : Nat} {g : TG} {tb : TS} {D : Ends} {σ : St} {H : Hp} (Pv : Nat → St → Hp → Prop) (h0 : Pv 0 σ H)
    (hs : ∀ i σ H, i < n → Pv i σ H → g (.int (lo + i)) σ H fun σ2 H2 => tb { D with nx := Pv (i + 1), ct := Pv (i + 1), bk := D.nx } σ2 H2) (hd : ∀ σ H, Pv n σ H → D.nx σ H) :
    ∃ W : Nat → Nat → St → Hp → Prop, (∃ m, W 0 m σ H) ∧ ∀ i m σ H, W i m σ H →
      ((Itr lo n).stop i H ∧ D.nx σ H) ∨ ((Itr lo n).go i H ∧ ∃ N : St → Hp → Prop, (∀ σ' H', N σ' H' → ∃ m', m' < m ∧ W (i + 1) m' σ' H') ∧ ∀ x H', (Itr lo n).yld i H x H' → g x σ H' fun σ2 H2 => tb { D with nx := N, ct := N, bk := D.nx } σ2 H2) := by
  refine ⟨fun i m σ H => m = n - i ∧ i ≤ n ∧ Pv i σ H, ⟨n, by simp, Nat.zero_le _, h0⟩, ?_⟩
  rintro i m σ H ⟨rfl, hi, p⟩
  by_cases hlt : i < n
  · refine .inr ⟨hlt, Pv (i + 1), fun σ' H' p' => ⟨n - (i + 1), by omega, rfl, hlt, p'⟩, fun x H' y => ?_⟩
    obtain ⟨e, y⟩ := y
    subst e y
    exact hs i σ _ hlt p
  · have e : i = n := by omega
    subst e
    exact .inl ⟨Nat.le_refl _, hd σ H p⟩
end L2

namespace L2
open PySem PySem.Spec PyProof.Rows

abbrev R2 := V → V → Hp → VK → Prop
/-- a two-place operation on values: f is binaryOp op, inplaceOp op or compareOp op -/
def OpR (X : Cx) (f : Value → Value → Sem Value) (r : R2) : Prop :=
  ∀ (pins : List (Addr × Obj)) (s : Shared) (σ : St) (H : Hp) (x y : V) (v u : Value) (Q : VK), Inv X pins σ H s → RelV x v → RelV y u → r x y H Q →
    wpAny (model X.prog X.w) X.A (f v u) (EP X pins σ Q) X.xe s
/-- a call of a value that is known (a builtin, a type) with values -/
def CallR (X : Cx) (f : Value) (r : List V → Hp → VK → Prop) : Prop :=
  ∀ (pins : List (Addr × Obj)) (s : Shared) (σ : St) (H : Hp) (xs : List V) (us : List Value) (Q : VK), Inv X pins σ H s → Vals xs us → r xs H Q →
    wpAny (model X.prog X.w) X.A (call f us) (EP X pins σ Q) X.xe s

def tOp (r : R2) (ta tb : TE) : TE := fun σ H Q => ta σ H fun x H1 => tb σ H1 fun y H2 => r x y H2 Q
/-- ints in, under C, and a value out -/
def rI (C : Int → Int → Prop) (g : Int → Int → V) : R2 := fun x y H Q => ∃ i j, x = .int i ∧ y = .int j ∧ C i j ∧ Q (g i j) H
def rI0 (g : Int → Int → V) : R2 := fun x y H Q => ∃ i j, x = .int i ∧ y = .int j ∧ Q (g i j) H

section
variable {X : Cx} {a b c : Expr} {ta tb tc : TE} {pos : Pos}

theorem binT (ha : PE X a ta) (hb : PE X b tb) {pins : List (Addr × Obj)} {s : Shared} {σ : St} {H : Hp} {R : V → V → Hp → Prop} (I : Inv X pins σ H s)
    (h : ta σ H fun x H1 => tb σ H1 fun y H2 => R x y H2) {Q : Value → Shared → Prop} {f : Value → Value → Sem Value}
    (hf : ∀ v u s2 x y H2, Inv X pins σ H2 s2 → RelV x v → RelV y u → R x y H2 → wpAny (model X.prog X.w) X.A (f v u) Q X.xe s2) :
    wpAny (model X.prog X.w) X.A (eval a X.env) (fun v s₁ => wpAny (model X.prog X.w) X.A (eval b X.env) (fun u s₂ => wpAny (model X.prog X.w) X.A (f v u) Q X.xe s₂) X.xe s₁) X.xe s := by
  refine thn (ha pins s σ H _ I h) fun v s1 ⟨x, H1, I1, r1, q1⟩ => ?_
  refine thn (hb pins s1 σ H1 _ I1 q1) fun u s2 ⟨y, H2, I2, r2, q2⟩ => ?_
  exact hf v u s2 x y H2 I2 r1 r2 q2

theorem pe_op {op : Operator} {r : R2} (ho : OpR X (binaryOp op) r) (ha : PE X a ta) (hb : PE X b tb) : PE X (.BinOp a op b pos) (tOp r ta tb) := by
  intro pins s σ H Q I h
  exact wpAny_BinOp (binT ha hb I h fun v u s2 x y H2 I2 rx ry q => ho pins s2 σ H2 x y v u Q I2 rx ry q)

/-! ### ints -/
theorem opI {f : Value → Value → Sem Value} {C : Int → Int → Prop} {g : Int → Int → Int}
    (rule : ∀ (i j : Int) (t u : Tok) (s : Shared) (Q : Value → Shared → Prop) (E : Value → Shared → Prop), C i j → Q (.int (g i j) s.toks) { s with toks := s.toks + 1 } → wpAny (model X.prog X.w) X.A (f (.int i t) (.int j u)) Q E s) :
    OpR X f (rI C fun i j => .int (g i j)) := by
  intro pins s σ H x y v u Q I rx ry h
  obtain ⟨i, j, rfl, rfl, hc, q⟩ := h
  obtain ⟨t, rfl⟩ := rx
  obtain ⟨t', rfl⟩ := ry
  exact rule i j t t' s _ _ hc ⟨.int (g i j), H, I.tok _, ⟨_, rfl⟩, q⟩
theorem opI0 {f : Value → Value → Sem Value} {g : Int → Int → Int}
    (rule : ∀ (i j : Int) (t u : Tok) (s : Shared) (Q : Value → Shared → Prop) (E : Value → Shared → Prop), Q (.int (g i j) s.toks) { s with toks := s.toks + 1 } → wpAny (model X.prog X.w) X.A (f (.int i t) (.int j u)) Q E s) :
    OpR X f (rI0 fun i j => .int (g i j)) := by
  intro pins s σ H x y v u Q I rx ry h
  obtain ⟨i, j, rfl, rfl, q⟩ := h
  obtain ⟨t, rfl⟩ := rx
  obtain ⟨t', rfl⟩ := ry
  exact rule i j t t' s _ _ ⟨.int (g i j), H, I.tok _, ⟨_, rfl⟩, q⟩
theorem opB0 {f : Value → Value → Sem Value} {g : Int → Int → Bool}
    (rule : ∀ (i j : Int) (t u : Tok) (s : Shared) (Q : Value → Shared → Prop) (E : Value → Shared → Prop), Q (.bool (g i j)) s → wpAny (model X.prog X.w) X.A (f (.int i t) (.int j u)) Q E s) :
    OpR X f (rI0 fun i j => .bl (g i j)) := by
  intro pins s σ H x y v u Q I rx ry h
  obtain ⟨i, j, rfl, rfl, q⟩ := h
  obtain ⟨t, rfl⟩ := rx
  obtain ⟨t', rfl⟩ := ry
  exact rule i j t t' s _ _ ⟨.bl (g i j), H, I, rfl, q⟩

def CDiv (i j : Int) : Prop := 0 < j ∧ j < 1073741824
def CPow (i j : Int) : Prop := 0 ≤ j ∧ j ≤ 1000000 ∧ i.natAbs < 2 ^ 64
def CMul (i j : Int) : Prop := (-(2 ^ 64) < i ∧ i < 2 ^ 64) ∨ (-(2 ^ 64) < j ∧ j < 2 ^ 64)
theorem CMul.ok {i j : Int} (h : CMul i j) : IntMulOk i j := by
  rcases h with ⟨h1, h2⟩ | ⟨h1, h2⟩
  · exact .of_left (intBits_le_64 h1 h2)
  · exact .of_right (intBits_le_64 h1 h2)
theorem two_pow_nn (k : Nat) : (0 : Int) ≤ 2 ^ k := by
  rw [two_pow_cast]
  exact Int.natCast_nonneg _

theorem op_add : OpR X (binaryOp .Add) (rI0 fun i j => .int (i + j)) := opI0 fun _ _ _ _ _ _ _ q => add_int q
theorem op_sub : OpR X (binaryOp .Sub) (rI0 fun i j => .int (i - j)) := opI0 fun _ _ _ _ _ _ _ q => sub_int q
theorem op_mul : OpR X (binaryOp .Mult) (rI CMul fun i j => .int (i * j)) := opI fun _ _ _ _ _ _ _ hc q => mul_int q hc.ok
/-- // by a positive divisor -/
theorem op_fdiv : OpR X (binaryOp .FloorDiv) (rI CDiv fun i j => .int (i / j)) := opI fun i j _ _ _ _ _ hc q => by
  have h1 : (0 : Int) < j := hc.1
  have h2 : j < 1073741824 := hc.2
  exact floordiv_int (by omega) (by rw [Int.fdiv_eq_ediv_of_nonneg i (by omega)]; exact q) (.inl (PyProof.noPylong_small (by omega)))
/-- % by a positive divisor of any size -/
theorem op_mod : OpR X (binaryOp .Mod) (rI (fun _ j => 0 < j) fun i j => .int (i % j)) := opI fun i j _ _ _ _ _ hc q => by
  have h1 : (0 : Int) < j := hc
  exact mod_int' (by omega) (by rw [Int.fmod_eq_emod_of_nonneg i (by omega)]; exact q)
theorem op_shl : OpR X (binaryOp .LShift) (rI CPow fun i j => .int (i * 2 ^ j.toNat)) := opI fun _ _ _ _ _ _ _ hc q => lshift_int_small hc.1 hc.2.1 hc.2.2 q
theorem op_shr : OpR X (binaryOp .RShift) (rI (fun _ j => 0 ≤ j) fun i j => .int (i / 2 ^ j.toNat)) := opI fun i j _ _ _ _ _ hc q =>
  rshift_int hc (by rw [Int.fdiv_eq_ediv_of_nonneg i (two_pow_nn _)]; exact q)
theorem op_and : OpR X (binaryOp .BitAnd) (rI0 fun i j => .int (Builtin.bitAnd i j)) := opI0 fun _ _ _ _ _ _ _ q => and_int q



/-! ### bools among ints: n += (a < b) -/
end

/-! ### comparisons -/
/-- the scalars that == tells apart as data does -/
def scal : V → V → Bool
  | .non, .non => true | .non, .int _ => true | .int _, .non => true | .non, .bl _ => true | .bl _, .non => true | .non, .str _ => true | .str _, .non => true
  | .int _, .int _ => true | .bl _, .bl _ => true | .str _, .str _ => true | .byt _, .byt _ => true
  | .int _, .str _ => true | .str _, .int _ => true | .bl _, .str _ => true | .str _, .bl _ => true
  | _, _ => false
def rEq : R2 := fun x y H Q => scal x y = true ∧ Q (.bl (decide (x = y))) H
def rNe : R2 := fun x y H Q => scal x y = true ∧ Q (.bl (!decide (x = y))) H

theorem dec_int {i j : Int} : decide (V.int i = V.int j) = (i == j) := by
  rw [Bool.eq_iff_iff]
  simp
theorem dec_bl {i j : Bool} : decide (V.bl i = V.bl j) = (i == j) := by
  rw [Bool.eq_iff_iff]
  simp
theorem dec_str {i j : Str} : decide (V.str i = V.str j) = (i == j) := by
  rw [Bool.eq_iff_iff]
  simp
theorem dec_byt {i j : Array UInt8} : decide (V.byt i = V.byt j) = (i.toList == j.toList) := by
  rw [Bool.eq_iff_iff]
  cases i
  cases j
  simp

section
variable {X : Cx} {a b c : Expr} {ta tb tc : TE} {pos : Pos}
theorem fin_bl {pins : List (Addr × Obj)} {σ : St} {H : Hp} {s : Shared} {Q : VK} {k k' : Bool} (I : Inv X pins σ H s) (q : Q (.bl k) H) (e : k = k') : EP X pins σ Q (.bool k') s := by
  subst e
  exact ⟨.bl k, H, I, rfl, q⟩
theorem op_eq : OpR X (compareOp .Eq) rEq := by
  intro pins s σ H x y v u Q I rx ry h
  obtain ⟨hs, q⟩ := h
  cases x with
  | non =>
    cases rx
    cases y with
    | non => cases ry; exact PySem.EqNone.eq_none_none (fin_bl I q (by simp))
    | bl j => cases ry; exact PySem.EqNone.eq_none_bool (fin_bl I q (by simp))
    | int j => obtain ⟨t', rfl⟩ := ry; exact PySem.EqNone.eq_none_int (fin_bl I q (by simp))
    | str j => obtain ⟨t', rfl⟩ := ry; exact PySem.EqNone.eq_none_str (fin_bl I q (by simp))
    | _ => exact absurd (show false = true from hs) Bool.false_ne_true
  | bl i =>
    cases rx
    cases y with
    | non => cases ry; exact PySem.EqNone.eq_bool_none (fin_bl I q (by simp))
    | bl j => cases ry; exact eq_bool (fin_bl I q dec_bl)
    | str j => obtain ⟨t', rfl⟩ := ry; exact PySem.EqMixed.eq_bool_str (fin_bl I q (by simp))
    | _ => exact absurd (show false = true from hs) Bool.false_ne_true
  | int i =>
    obtain ⟨t, rfl⟩ := rx
    cases y with
    | non => cases ry; exact PySem.EqNone.eq_int_none (fin_bl I q (by simp))
    | int j => obtain ⟨t', rfl⟩ := ry; exact eq_int (fin_bl I q dec_int)
    | str j => obtain ⟨t', rfl⟩ := ry; exact PySem.EqMixed.eq_int_str (fin_bl I q (by simp))
    | _ => exact absurd (show false = true from hs) Bool.false_ne_true
  | str i =>
    obtain ⟨t, rfl⟩ := rx
    cases y with
    | non => cases ry; exact PySem.EqNone.eq_str_none (fin_bl I q (by simp))
    | bl j => cases ry; exact PySem.EqMixed.eq_str_bool (fin_bl I q (by simp))
    | int j => obtain ⟨t', rfl⟩ := ry; exact PySem.EqMixed.eq_str_int (fin_bl I q (by simp))
    | str j => obtain ⟨t', rfl⟩ := ry; exact eq_str (fin_bl I q dec_str)
    | _ => exact absurd (show false = true from hs) Bool.false_ne_true
  | byt i =>
    obtain ⟨t, rfl⟩ := rx
    cases y with
    | byt j => obtain ⟨t', rfl⟩ := ry; exact PySem.W.eq_bytes (fin_bl I q dec_byt)
    | _ => exact absurd (show false = true from hs) Bool.false_ne_true
  | _ => cases y <;> exact absurd (show false = true from hs) Bool.false_ne_true
theorem op_ne : OpR X (compareOp .NotEq) rNe := by
  intro pins s σ H x y v u Q I rx ry h
  obtain ⟨hs, q⟩ := h
  cases x with
  | non =>
    cases rx
    cases y with
    | non => cases ry; exact PySem.EqNone.ne_none_none (fin_bl I q (by simp))
    | bl j => cases ry; exact PySem.EqNone.ne_none_bool (fin_bl I q (by simp))
    | int j => obtain ⟨t', rfl⟩ := ry; exact PySem.EqNone.ne_none_int (fin_bl I q (by simp))
    | str j => obtain ⟨t', rfl⟩ := ry; exact PySem.EqNone.ne_none_str (fin_bl I q (by simp))
    | _ => exact absurd (show false = true from hs) Bool.false_ne_true
  | bl i =>
    cases rx
    cases y with
    | non => cases ry; exact PySem.EqNone.ne_bool_none (fin_bl I q (by simp))
    | bl j => cases ry; exact ne_bool (fin_bl I q (congrArg not dec_bl))
    | str j => obtain ⟨t', rfl⟩ := ry; exact PySem.EqMixed.ne_bool_str (fin_bl I q (by simp))
    | _ => exact absurd (show false = true from hs) Bool.false_ne_true
  | int i =>
    obtain ⟨t, rfl⟩ := rx
    cases y with
    | non => cases ry; exact PySem.EqNone.ne_int_none (fin_bl I q (by simp))
    | int j => obtain ⟨t', rfl⟩ := ry; exact ne_int (fin_bl I q (congrArg not dec_int))
    | str j => obtain ⟨t', rfl⟩ := ry; exact PySem.EqMixed.ne_int_str (fin_bl I q (by simp))
    | _ => exact absurd (show false = true from hs) Bool.false_ne_true
  | str i =>
    obtain ⟨t, rfl⟩ := rx
    cases y with
    | non => cases ry; exact PySem.EqNone.ne_str_none (fin_bl I q (by simp))
    | bl j => cases ry; exact PySem.EqMixed.ne_str_bool (fin_bl I q (by simp))
    | int j => obtain ⟨t', rfl⟩ := ry; exact PySem.EqMixed.ne_str_int (fin_bl I q (by simp))
    | str j => obtain ⟨t', rfl⟩ := ry; exact ne_str (fin_bl I q (congrArg not dec_str))
    | _ => exact absurd (show false = true from hs) Bool.false_ne_true
  | byt i =>
    obtain ⟨t, rfl⟩ := rx
    cases y with
    | byt j => obtain ⟨t', rfl⟩ := ry; exact PySem.W.ne_bytes (fin_bl I q (congrArg not dec_byt))
    | _ => exact absurd (show false = true from hs) Bool.false_ne_true
  | _ => cases y <;> exact absurd (show false = true from hs) Bool.false_ne_true

theorem op_lt : OpR X (compareOp .Lt) (rI0 fun i j => .bl (decide (i < j))) := opB0 fun _ _ _ _ _ _ _ q => lt_int q
theorem op_le : OpR X (compareOp .LtE) (rI0 fun i j => .bl (decide (i ≤ j))) := opB0 fun _ _ _ _ _ _ _ q => le_int q
theorem op_gt : OpR X (compareOp .Gt) (rI0 fun i j => .bl (decide (j < i))) := opB0 fun _ _ _ _ _ _ _ q => gt_int q
theorem op_ge : OpR X (compareOp .GtE) (rI0 fun i j => .bl (decide (j ≤ i))) := opB0 fun _ _ _ _ _ _ _ q => ge_int q

theorem op_notN : OpR X (compareOp .IsNot) (fun x y H Q => y = .non ∧ Q (.bl (!decide (x = .non))) H) := by
  intro pins s σ H x y v u Q I rx ry h
  obtain ⟨rfl, q⟩ := h
  cases ry
  refine isnot_none_gen (fin_bl I q ?_)
  cases x <;> first
    | (cases rx; rfl)
    | (obtain ⟨t, rfl⟩ := rx; rfl)



theorem nomark (b : Expr) {op : CmpOp} (h : op ≠ .In := by decide) (h2 : op ≠ .NotIn := by decide) : behindInMarks op b = false := by
  have e1 : (op == CmpOp.In) = false := by cases op <;> first | rfl | exact absurd rfl h
  have e2 : (op == CmpOp.NotIn) = false := by cases op <;> first | rfl | exact absurd rfl h2
  cases b <;> simp [behindInMarks, e1, e2]
/-- a comparison as a value; hm: nomark b, or (for in, not in) by with_unfolding_all rfl -/
theorem pe_cmpR {op : CmpOp} {r : R2} (ho : OpR X (compareOp op) r) (ha : PE X a ta) (hb : PE X b tb) (hm : behindInMarks op b = false) : PE X (.Compare a [op] [b] pos) (tOp r ta tb) := by
  intro pins s σ H Q I h
  exact wpAny_Compare1 (binT ha hb I h fun v u s2 x y H2 I2 rx ry q => ho pins s2 σ H2 x y v u Q I2 rx ry q) hm
/-- a reading of a value as a test -/
def tTest (t : TE) : TT := fun σ H Q => t σ H fun x H' => ∃ k, x = .bl k ∧ Q k H'
theorem pt_cmpR {op : CmpOp} {r : R2} (ho : OpR X (compareOp op) r) (ha : PE X a ta) (hb : PE X b tb) (hm : behindInMarks op b = false) : PT X (.Compare a [op] [b] pos) (tTest (tOp r ta tb)) := by
  intro pins s σ H Q I h
  refine wpAny_isTrue_Compare1 (thn (ha pins s σ H _ I h) fun v s1 ⟨x, H1, I1, r1, q1⟩ => thn (hb pins s1 σ H1 _ I1 q1) fun u s2 ⟨y, H2, I2, r2, q2⟩ =>
    thn (ho pins s2 σ H2 x y v u _ I2 r1 r2 q2) fun c s3 ⟨z, H3, I3, r3, k, e, q3⟩ => ?_) hm
  subst e
  cases r3
  exact wpAny_truthy_bool ⟨H3, I3, q3⟩
/-- a op1 b op2 c -/
def tChain (r r' : R2) (ta tb tc : TE) : TE := fun σ H Q => ta σ H fun x H1 => tb σ H1 fun y H2 => r x y H2 fun z H3 => ∃ k, z = .bl k ∧
  (if k = true then tc σ H3 fun w' H4 => r' y w' H4 Q else Q (.bl false) H3)
theorem pt_chain {op op' : CmpOp} {r r' : R2} (ho : OpR X (compareOp op) r) (ho' : OpR X (compareOp op') r') (ha : PE X a ta) (hb : PE X b tb) (hc : PE X c tc)
    (hm : lastMarks [op, op'] [b, c] = false := by with_unfolding_all rfl) : PT X (.Compare a [op, op'] [b, c] pos) (tTest (tChain r r' ta tb tc)) := by
  intro pins s σ H Q I h
  refine isTrue_chain (thn (ha pins s σ H _ I h) fun v s1 ⟨x, H1, I1, r1, q1⟩ => test_link (thn (hb pins s1 σ H1 _ I1 q1) fun u s2 ⟨y, H2, I2, r2, q2⟩ =>
    thn (ho pins s2 σ H2 x y v u _ I2 r1 r2 q2) fun d s3 ⟨z, H3, I3, r3, k, e, q3⟩ => ?_)) hm
  subst e
  cases r3
  refine wpAny_truthy_bool ?_
  cases k with
  | false =>
    obtain ⟨k', e', q'⟩ := q3
    cases e'
    exact ite_ff ⟨H3, I3, q'⟩
  | true =>
    refine ite_tt (test_last (thn (hc pins s3 σ H3 _ I3 q3) fun w' s4 ⟨z', H4, I4, r4, q4⟩ => thn (ho' pins s4 σ H4 y z' u w' _ I4 r2 r4 q4) fun d' s5 ⟨z2, H5, I5, r5, k2, e2, q5⟩ => ?_))
    subst e2
    cases r5
    exact wpAny_truthy_bool ⟨H5, I5, q5⟩

/-! ### truth -/
theorem line63 : (sizeLine : Nat) < 2 ^ 63 := by rw [sizeLine_eq]; decide

/-! ### strs and bytes -/


/-! ### scalar builtins, by CallR -/
theorem vals1 {x : V} {us : List Value} (r : Vals [x] us) : ∃ u, us = [u] ∧ RelV x u := by
  cases r with
  | cons r1 r2 => cases r2; exact ⟨_, rfl, r1⟩
theorem vals2 {x y : V} {us : List Value} (r : Vals [x, y] us) : ∃ u w', us = [u, w'] ∧ RelV x u ∧ RelV y w' := by
  cases r with
  | cons r1 r2 =>
    cases r2 with
    | cons r3 r4 => cases r4; exact ⟨_, _, rfl, r1, r3⟩
theorem call_min2 (hc : X.calm = true) : CallR X (.builtin "min") (fun xs H Q => ∃ i j, xs = [.int i, .int j] ∧ Q (.int (if j < i then j else i)) H) := by
  intro pins s σ H xs us Q I r h
  obtain ⟨i, j, rfl, q⟩ := h
  obtain ⟨u, w', rfl, ⟨t, rfl⟩, ⟨t', rfl⟩⟩ := vals2 r
  refine min_two_ints (I.ok.hd hc) fun h' tk k => ⟨_, H, I.kept k, ?_, q⟩
  by_cases hj : j < i
  · rw [if_pos hj, if_pos hj]; exact ⟨_, rfl⟩
  · rw [if_neg hj, if_neg hj]; exact ⟨_, rfl⟩
theorem call_int1 : CallR X (.type "int") (fun xs H Q => (∃ i, xs = [.int i] ∧ Q (.int i) H) ∨ ∃ k, xs = [.bl k] ∧ Q (.int (if k then 1 else 0)) H) := by
  intro pins s σ H xs us Q I r h
  rcases h with ⟨i, rfl, q⟩ | ⟨k, rfl, q⟩
  · obtain ⟨u, rfl, t, rfl⟩ := vals1 r
    exact call_int_int ⟨.int i, H, I, ⟨_, rfl⟩, q⟩
  · obtain ⟨u, rfl, r1⟩ := vals1 r
    cases r1
    exact call_int_bool ⟨.int (if k then 1 else 0), H, I.tok _, ⟨_, rfl⟩, q⟩
end
end L2

namespace L2
open PySem PySem.Spec PyProof.Rows

/-! ### an instance, its attributes a map -/
structure ObjM (h : Heap) (x dx C : Addr) (mA : Str → Option Value) : Prop where
  obj : h.get? x = some (PySem.W.instObj C dx)
  ns : h.Ns1 dx mA
  ne : dx ≠ x

theorem lookIn_ns {h : Heap} {dx : Addr} {mA : Str → Option Value} (n : h.Ns1 dx mA) : ∃ od, h.get? dx = some od ∧ ∀ name, PySem.W.lookIn name od = some (mA name) := by
  obtain ⟨o, es, ep, ho, hd, hk, _, hm⟩ := n
  refine ⟨o, ho, fun name => ?_⟩
  have e := hm name
  unfold nsFind findBy at e
  rw [← Array.find?_toList] at e
  unfold PySem.W.lookIn
  rw [hd]
  dsimp only
  split
  · rename_i y q
    rw [q] at e
    exact congrArg some e
  · rename_i q
    rw [q] at e
    have a : es.toList.any (·.refKey) = false := by
      rw [List.any_eq_false]
      intro y hy
      obtain ⟨z, t, hkey⟩ := hk y (Array.mem_toList_iff.mp hy)
      simp [DictEntry.refKey, hkey]
    have a' : ¬ es.toList.any (·.refKey) = true := by rw [a]; exact Bool.false_ne_true
    rw [if_neg a']
    exact congrArg some e

theorem ObjM.look {h : Heap} {x dx C : Addr} {mA : Str → Option Value} (I : ObjM h x dx C mA) : ∃ od, PySem.W.InstAt h x (PySem.W.instObj C dx) C (some od) ∧ ∀ name, PySem.W.lookIn name od = some (mA name) :=
  let ⟨od, ho, hl⟩ := lookIn_ns I.ns
  ⟨od, ⟨I.obj, rfl, rfl, ho⟩, hl⟩

section
variable {prog : Program} {w : World} {A : Around} {E : Value → Shared → Prop} {s : Shared} {K : PySem.W.Frag} {x dx C f : Addr} {mA : Str → Option Value} {name : Str} {v : Value}





end

/-! ### the attributes as a list of pairs -/

theorem RelO.some_of {v : V} {o : Option Value} (r : RelO (some v) o) : ∃ u, o = some u ∧ RelV v u := by
  cases o with
  | none => exact (show False from r).elim
  | some u => exact ⟨u, rfl, r⟩

section
variable {P : Program} {w : World} {H H' : Hp} {h h' : Heap} {a C dx : Addr} {fs fs' : List (Str × V)}
theorem ins_get (hok : HOk P w H h) (e : H a = some (.ins C dx fs)) : ∃ mA, ObjM h a dx C mA ∧ (∀ f, RelO (fs.lookup f) (mA f)) ∧ PySem.Within mA (fs.map (·.1)) ∧ fs.length ≤ 1000 ∧ H dx = some (.own a) := by
  obtain ⟨d, z, ne, ob, mA, n, r, q⟩ := (show ObjOk P w H h a (.ins C dx fs) from hok a _ e)
  exact ⟨mA, ⟨ob, n, ne⟩, r, q, z, d⟩
end

/-! ### what of the text a class must have -/
structure Cls (K : PySem.W.Frag) (C : Addr) : Prop where
  pg : PySem.W.plainGet K C Str.empty = true
  hd : PySem.W.hasDictIn K C = true
  po : PySem.W.plainOver K C = true
  sa : PySem.W.findIn K (.ref C) "__setattr__" = some (some (.builtin "object.__setattr__"))
theorem Cls.get {K : PySem.W.Frag} {C : Addr} (c : Cls K C) (f : Str) : PySem.W.plainGet K C f = true := c.pg
/-- a constant of the class -/
structure Con (K : PySem.W.Frag) (C : Addr) (f : Str) (v : V) (u : Value) : Prop where
  at_ : PySem.W.findIn K (.ref C) f = some (some u)
  rel : RelV v u
  get : PySem.W.specialIn K u "__get__" = some none
  cp : PySem.W.copiedNames.contains f = false
/-- a method: a plain def of the class or of one above it -/
structure Meth (K : PySem.W.Frag) (C : Addr) (m : Str) (f : Addr) : Prop where
  at_ : PySem.W.findIn K (.ref C) m = some (some (.ref f))
  fn : PySem.W.isFn K (.ref f) = true
  kp : PySem.W.keepIn K (.ref f) = true

section
variable {X : Cx} {pins : List (Addr × Obj)} {σ : St} {H : Hp} {s : Shared} {a C dx : Addr} {fs : List (Str × V)} {f : Str} {v : V} {A : Around} {E : Value → Shared → Prop}






end

/-! ### readings and rules -/

section
variable {X : Cx} {o e value : Expr} {f : Str} {pos pos' tpos : Pos} {ta tv : TE}

end

/-! ### isinstance -/
section
variable {X : Cx} {pins : List (Addr × Obj)} {σ : St} {H : Hp} {s : Shared} {A : Around} {E : Value → Shared → Prop} {Q : Value → Shared → Prop} {c : Value} {b : Bool}
/-- the type of a value, as the fragment's deciders take it; for an instance its class -/
inductive TyOf (K : PySem.W.Frag) (H : Hp) : V → Value → Prop where
  | non : TyOf K H .non (.type "NoneType")
  | bl (x : Bool) : TyOf K H (.bl x) (.type "bool")
  | int (i : Int) : TyOf K H (.int i) (.type "int")
  | str (x : Str) : TyOf K H (.str x) (.type "str")
  | flt (x : UInt64) : TyOf K H (.flt x) (.type "float")
  | lst {a : Addr} {xs : List V} (e : H a = some (.lst xs)) : TyOf K H (.ref a) (.type "list")
  | frz {a : Addr} {o : Obj} {xs : List V} (e : H a = some (.frz o (.lst xs))) : TyOf K H (.ref a) (.type "list")
  | tup {a : Addr} {xs : List V} (e : H a = some (.tup xs)) : TyOf K H (.ref a) (.type "tuple")
  | dK {a : Addr} {kvs : List (Key × V)} (e : H a = some (.dK kvs)) : TyOf K H (.ref a) (.type "dict")
  | dT {a : Addr} {kvs : List (List Key × V)} (e : H a = some (.dT kvs)) : TyOf K H (.ref a) (.type "dict")
  | ins {a C dx : Addr} {fs : List (Str × V)} (e : H a = some (.ins C dx fs)) (cl : Cls K C) (ha : PySem.W.findIn K (.ref C) "__class__" = some (some (.builtin "object.__class__")))
      (hn : PySem.W.specialIn K (.builtin "object.__class__") "__get__" = some (some (.builtin "getset_descriptor.__get__"))) (htk : PySem.W.takesIn K (.builtin "object.__class__") = some true)
      (hm : PySem.W.mroIn K C (.type "object") = some true) : TyOf K H (.ref a) (.ref C)
/-- isinstance(x, c) for one class c, a built-in or an own one: kitOne's answer -/
theorem isinst_ok {x : V} {u t : Value} (I : Inv X pins σ H s) (rx : RelV x u) (ty : TyOf X.K H x t) (e : PySem.W.kitOne X.K t c = some b) (h : ∀ tk, Q (.bool b) { s with toks := tk }) :
    wpAny (model X.prog X.w) A (call (.builtin "isinstance") [u, c]) Q E s := by
  cases ty with
  | non => cases (show u = Value.none from rx); exact PySem.W.kia_one PySem.W.kitx_none I.kIn True.intro e (fun z => nomatch z) h
  | bl y => cases (show u = Value.bool y from rx); exact PySem.W.kia_one PySem.W.kitx_bool I.kIn True.intro e (fun z => nomatch z) h
  | int i => obtain ⟨t, q⟩ := (show ∃ t, u = Value.int i t from rx); cases q; exact PySem.W.kia_one PySem.W.kitx_int I.kIn True.intro e (fun z => nomatch z) h
  | str y => obtain ⟨t, q⟩ := (show ∃ t, u = Value.str y t from rx); cases q; exact PySem.W.kia_one PySem.W.kitx_str I.kIn True.intro e (fun z => nomatch z) h
  | flt y => obtain ⟨t, q⟩ := (show ∃ t, u = Value.float y t from rx); cases q; exact PySem.W.kia_one PySem.W.kitx_float I.kIn True.intro e (fun z => nomatch z) h
  | @lst a xs ea =>
    cases (show u = Value.ref a from rx)
    obtain ⟨_, _, n, _, h1⟩ := (show ObjOk X.prog X.w H s.heap a (.lst xs) from I.hok a _ ea)
    exact PySem.W.kia_one PySem.W.kitx_list I.kIn ⟨_, h1, rfl⟩ e (fun z => nomatch z) h
  | @frz a ob xs ea =>
    cases (show u = Value.ref a from rx)
    obtain ⟨_, _, _, n, _, h1⟩ := (show ObjOk X.prog X.w H s.heap a (.frz ob (.lst xs)) from I.hok a _ ea)
    exact PySem.W.kia_one PySem.W.kitx_list I.kIn ⟨_, h1, rfl⟩ e (fun z => nomatch z) h
  | @tup a xs ea =>
    cases (show u = Value.ref a from rx)
    obtain ⟨_, _, _, p⟩ := (show ObjOk X.prog X.w H s.heap a (.tup xs) from I.hok a _ ea)
    obtain ⟨o, h1, h2, _⟩ := p
    exact PySem.W.kia_one PySem.W.kitx_tuple I.kIn ⟨o, h1, h2⟩ e (fun z => nomatch z) h
  | @dK a kvs ea =>
    cases (show u = Value.ref a from rx)
    obtain ⟨_, _, vs, _, p⟩ := (show ObjOk X.prog X.w H s.heap a (.dK kvs) from I.hok a _ ea)
    obtain ⟨o, es, ep, h1, h2, _⟩ := p
    exact PySem.W.kia_one PySem.W.kitx_dict I.kIn ⟨o, h1, h2.1⟩ e (fun z => nomatch z) h
  | @dT a kvs ea =>
    cases (show u = Value.ref a from rx)
    obtain ⟨_, _, xs, _, o, es, ep, h1, h2, _⟩ := (show ObjOk X.prog X.w H s.heap a (.dT kvs) from I.hok a _ ea)
    exact PySem.W.kia_one PySem.W.kitx_dict I.kIn ⟨o, h1, h2.1⟩ e (fun z => nomatch z) h
  | @ins a C dx fs ea cl ha hn htk hm =>
    cases (show u = Value.ref a from rx)
    obtain ⟨mA, O, _⟩ := ins_get I.hok ea
    obtain ⟨od, J, _⟩ := O.look
    exact PySem.W.kia_one (PySem.W.kitx_own (cl.get _) cl.hd ha hn htk hm) I.kIn J e (fun z => nomatch z) h
end
end L2

namespace L2
open PySem PySem.Spec PyProof.Rows

/-! ### room -/
structure Room (k : Nat) (A : Around) : Prop where
  hd : A.handled = none
  dp : A.depth + 3 * k + 5 < recursionLimit
  un : A.units + 16 * k + 200 < cLine
theorem Room.mono {j k : Nat} {A : Around} (r : Room k A) (h : j ≤ k) : Room j A := ⟨r.hd, by have := r.dp; omega, by have := r.un; omega⟩
theorem Room.deeper {k : Nat} {A : Around} (r : Room (k + 1) A) (env : Env) : Room k (A.deeper env) :=
  ⟨r.hd, by have := r.dp; show A.depth + 1 + 3 * k + 5 < _; omega, by have := r.un; show A.units + 3 + 16 * k + 200 < _; omega⟩
theorem Room.depth {k : Nat} {A : Around} (r : Room k A) : A.depth < recursionLimit := by have := r.dp; omega
theorem Room.units {k : Nat} {A : Around} (r : Room k A) : A.units + 64 < cLine := by have := r.un; omega

/-! ### argument lists and displays -/
def tNil : TA := fun _ H Q => Q [] H
def tCons (ta : TE) (tr : TA) : TA := fun σ H Q => ta σ H fun x H1 => tr σ H1 fun xs H2 => Q (x :: xs) H2
section
variable {X : Cx} {e : Expr} {es : List Expr} {te : TE} {t : TA} {pos : Pos}
theorem pa_nil : PA X [] tNil := fun _ _ _ _ H Q I h => Calls.spliced_nil ⟨[], H, I, .nil, h⟩
theorem pa_cons (ha : PE X e te) (hr : PA X es t) (hs : starEach (e :: es) X.env = (false, eval e X.env) :: starEach es X.env := by rfl) : PA X (e :: es) (tCons te t) := by
  intro pos pins s σ H Q I h
  rw [hs]
  show wpAny _ _ (spliced ((false, eval e X.env) :: backTo pos (starEach es X.env))) _ _ s
  refine Calls.spliced_cons (thn (ha pins s σ H _ I h) fun u s1 ⟨x, H1, I1, r1, q1⟩ => ?_)
  exact thn (hr pos pins s1 σ H1 _ I1 q1) fun us s2 ⟨xs, H2, I2, r2, q2⟩ => ⟨x :: xs, H2, I2, .cons r1 r2, q2⟩

/-- a tuple, a list of written items -/
def tTup (t : TA) : TE := fun σ H Q => t σ H fun xs H1 => xs.length ≤ sizeLine ∧ ∀ p, H1 p = none → Q (.ref p) (upd H1 p (.tup xs))
def tLst (t : TA) : TE := fun σ H Q => t σ H fun xs H1 => xs.length ≤ sizeLine ∧ ∀ p, H1 p = none → Q (.ref p) (upd H1 p (.lst xs))
theorem pe_tup {x1} (h : PA X es t) : PE X (.Tuple es x1 pos) (tTup t) := by
  intro pins s σ H Q I hq
  refine wpAny_Tuple_spliced (thn (h pos pins s σ H _ I hq) fun us s1 ⟨xs, H1, I1, r, z, q⟩ => ⟨by rw [← r.length]; exact z, ?_⟩)
  have hf : H1 s1.heap.objs.size = none := I1.hok.fresh (Nat.le_refl _)
  refine ⟨.ref s1.heap.objs.size, upd H1 s1.heap.objs.size (.tup xs), I1.laid (t' := s1.toks) (fun b u e => Heap.get?_push_of_some _ e) (Nat.le_refl _) ?_, rfl, q _ hf⟩
  exact ⟨z, us, r, ⟨_, Heap.get?_push_size _ rfl, rfl, _, rfl⟩⟩
theorem pe_lst (h : PA X es t) : PE X (.List es pos) (tLst t) := by
  intro pins s σ H Q I hq
  refine wpAny_List_spliced (thn (h pos pins s σ H _ I hq) fun us s1 ⟨xs, H1, I1, r, z, q⟩ => ⟨by rw [← r.length]; exact z, ?_⟩)
  have hf : H1 s1.heap.objs.size = none := I1.hok.fresh (Nat.le_refl _)
  refine ⟨.ref s1.heap.objs.size, upd H1 s1.heap.objs.size (.lst xs), I1.laid (t' := s1.toks) (fun b u e => Heap.get?_push_of_some _ e) (Nat.le_refl _) ?_, rfl, q _ hf⟩
  exact ⟨z, us, 0, r, Heap.get?_push_size _ rfl⟩
end

/-! ### what a def promises -/
/-- a def's promise: the bound arguments in the parameters' order, the heap, the wanted end, the wanted exception -/
abbrev Sp := List V → Hp → VK → XK → Prop
/-- how an exception lies behind a call (file 08 gives it): the callers' frames, abstract heap and state ahead of the call, the wish, the exception, the state -/
abbrev CXT := List Env → Hp → Shared → XK → Value → Shared → Prop

/-- the state at a call -/
structure Env0 (P : Program) (w : World) (K : PySem.W.Frag) (mg : Str → Option Value) (base : Heap) (A : Around) (outer : List Env) (s : Shared) (H : Hp) : Prop where
  frames : A.frames = some outer
  mod : Mod K mg base
  bs : ∀ b o, base.get? b = some o → s.heap.get? b = some o ∧ H b = none
  bsz : base.objs.size ≤ s.heap.objs.size
  funs : s.heap.FunFrames base outer
  frf : ∀ b ∈ frs outer, H b = none
  hok : HOk P w H s.heap
  bare : AllBare s.gens
/-- a call's end -/
def CE (outer : List Env) (P : Program) (w : World) (H : Hp) (s : Shared) (Q : VK) (u : Value) (s' : Shared) : Prop :=
  ∃ v H', s'.os = s.os ∧ AllBare s'.gens ∧ Un (frs outer) [] H H' s.heap s'.heap ∧ HOk P w H' s'.heap ∧ RelV v u ∧ Q v H'
def CR (CX : CXT) (outer : List Env) (P : Program) (w : World) (H : Hp) (s : Shared) (Q : VK) (E : XK) (r : Result) (s' : Shared) : Prop :=
  match r with
  | .ok (.ret u) => CE outer P w H s Q u s'
  | .ok _ => False
  | .error e => CX outer H s E e s'
structure FnOk (P : Program) (w : World) (K : PySem.W.Frag) (mg : Str → Option Value) (base : Heap) (CX : CXT) (k : Nat) (f : Addr) (fd : FuncData) (ps : List Str) (sp : Sp) : Prop where
  len : ∀ vs H Q E, sp vs H Q E → vs.length = ps.length
  run : ∀ (A : Around) (outer : List Env) (s : Shared) (H : Hp) (args : Args) (us : List Value) (vs : List V) (Q : VK) (E : XK), Room k A → Env0 P w K mg base A outer s H → BindsTo s fd args (ps.zip us) → Vals vs us → sp vs H Q E →
    codeAny (model P w) A (.call (.ref f) args) (CR CX outer P w H s Q E) s


section
variable {X : Cx} {pins : List (Addr × Obj)} {σ : St} {H : Hp} {s s' : Shared}
/-- from a body: what a callee wants -/
theorem Inv.env0 (I : Inv X pins σ H s) : Env0 X.prog X.w X.K X.mg X.base X.A X.stack s H :=
  ⟨I.ok.frames, I.ok.mod, I.bs, Nat.le_trans I.ok.bsz I.sz, I.stack, I.stkFree, I.hok, I.bare⟩
/-- behind a call -/
theorem Inv.after {Q : VK} {u : Value} (I : Inv X pins σ H s) (h : CE X.stack X.prog X.w H s Q u s') : EP X pins σ Q u s' := by
  obtain ⟨v, H', os, bare, un, hok, r, q⟩ := h
  obtain ⟨hh, g, d, t, os'⟩ := s'
  obtain rfl : os' = s.os := os
  exact ⟨v, H', I.call (h' := hh) (g' := g) (d' := d) (t' := t) (ch := []) un hok bare (fun b z => absurd z (by simp)), r, q⟩
end

/-! ### calls -/
/-- f(..): the written arguments, then the defaults dvs; E: what is wanted of an exception -/
def tCall (sp : Sp) (dvs : List V) (E : XK) (t : TA) : TE := fun σ H Q => t σ H fun vs H1 => sp (vs ++ dvs) H1 Q E

/-- how the parameters are bound: us the positional arguments, kw the keywords' values by name, ds the defaults that fill up -/
def Binds (K : PySem.W.Frag) (fd : FuncData) (ps : List Str) (ds : List Value) : Prop :=
  ∀ (s : Shared) (us : List Value), K.In s.heap → (us ++ ds).length = ps.length → BindsTo s fd ⟨us, []⟩ (ps.zip (us ++ ds))
/-- every parameter is given -/
theorem Binds.all {K : PySem.W.Frag} {fd : FuncData} {ps : List Str} (h : ∀ us : List Value, us.length = ps.length → bindArgs fd ⟨us, []⟩ = pure (ps.zip us)) : Binds K fd ps [] := fun s us _ hl => by
  rw [List.append_nil] at hl ⊢
  exact .of_eq (h us hl)

/-- an exception of a callee reaches what this body wants of exceptions -/
def Passes (CX : CXT) (X : Cx) (E : XK) : Prop := ∀ (pins : List (Addr × Obj)) (σ : St) (H : Hp) (s : Shared) (e : Value) (s' : Shared), Inv X pins σ H s → CX X.stack H s E e s' → X.xe e s'

section
variable {X : Cx} {CX : CXT} {k : Nat} {f C : Addr} {fd : FuncData} {ps : List Str} {sp : Sp} {dvs : List V} {ds : List Value} {E : XK} {x m : Str} {p pos apos : Pos} {e o : Expr} {es : List Expr} {ta : TE} {t : TA}

/-- the callee runs -/
theorem run_fn {pins : List (Addr × Obj)} {σ : St} {H : Hp} {s : Shared} {Q : VK} {us : List Value} {vs : List V} (F : FnOk X.prog X.w X.K X.mg X.base CX k f fd ps sp) (hr : Room k X.A) (hb : Binds X.K fd ps ds) (hd : Vals dvs ds) (hx : Passes CX X E)
    (I : Inv X pins σ H s) (r : Vals vs us) (h : sp (vs ++ dvs) H Q E) : wpAny (model X.prog X.w) X.A (call (.ref f) us) (EP X pins σ Q) X.xe s := by
  have r2 : Vals (vs ++ dvs) (us ++ ds) := r.append hd
  have hl : (us ++ ds).length = ps.length := by rw [← r2.length]; exact F.len _ _ _ _ h
  refine wpAny_call (codeAny_mono (F.run X.A X.stack s H ⟨us, []⟩ (us ++ ds) (vs ++ dvs) Q E hr I.env0 (hb s us I.kIn hl) r2 h) fun r s' hq => ?_)
  cases r with
  | error e => exact hx pins σ H s e s' I hq
  | ok fl =>
    cases fl with
    | ret u => exact I.after hq
    | next => exact False.elim hq
    | brk => exact False.elim hq
    | cont => exact False.elim hq

theorem pe_call (F : FnOk X.prog X.w X.K X.mg X.base CX k f fd ps sp) (hr : Room k X.A) (hg : Gl X x) (hm : X.mg x = some (.ref f)) (hk : PySem.W.keepIn X.K (.ref f) = true) (hb : Binds X.K fd ps ds) (hd : Vals dvs ds) (hx : Passes CX X E)
    (ha : PA X (e :: es) t) (hdb : (x == ("__debug__" : Str)) = false := by decide) (he : starEach (e :: es) X.env = (false, eval e X.env) :: starEach es X.env := by rfl) (hpl : (backTo pos (starEach es X.env)).any (·.1) = false := by rfl) :
    PE X (.Call (.Name x p) (e :: es) [] pos) (tCall sp dvs E t) := by
  intro pins s σ H Q I h
  refine wpAny_Call_Name_kw (ld_glob I hg hm ?_ hdb)
  refine PySem.W.callWith_K (h₀ := X.base) I.ok.mod.kin hk (thn (ha pos pins s σ H _ I h) fun us s1 ⟨vs, H1, I1, r, q⟩ => ⟨I1.kIn, ?_⟩) he hpl
  exact run_fn F hr hb hd hx I1 r q
theorem pe_call0 (F : FnOk X.prog X.w X.K X.mg X.base CX k f fd ps sp) (hr : Room k X.A) (hg : Gl X x) (hm : X.mg x = some (.ref f)) (hk : PySem.W.keepIn X.K (.ref f) = true) (hb : Binds X.K fd ps ds) (hd : Vals dvs ds) (hx : Passes CX X E)
    (hdb : (x == ("__debug__" : Str)) = false := by decide) : PE X (.Call (.Name x p) [] [] pos) (tCall sp dvs E tNil) := by
  intro pins s σ H Q I h
  refine wpAny_Call_Name_kw (ld_glob I hg hm ?_ hdb)
  exact PySem.W.callWith_K0 I.kIn hk (run_fn (us := []) F hr hb hd hx I .nil h)


/-- what a class must have to be made -/
structure Mk (K : PySem.W.Frag) (C f : Addr) : Prop where
  makes : PySem.W.makesIn K C = true
  init : PySem.W.findIn K (.ref C) "__init__" = some (some (.ref f))
  fn : PySem.W.isFn K (.ref f) = true
  kp : PySem.W.keepIn K (.ref C) = true

end

/-! ### keywords -/
section
variable {X : Cx} {CX : CXT} {k : Nat} {f C : Addr} {fd : FuncData} {ps ks : List Str} {sp : Sp} {E : XK} {x m : Str} {p pos apos kpos : Pos} {e o : Expr} {es : List Expr} {kws : List Keyword} {te ta : TE} {t tk : TA} {nm : Option Str}

/-- how a call with keywords binds: g puts the positional values us and the keywords' values ws (names ks) in the parameters' order, defaults among them -/
structure KBinds (K : PySem.W.Frag) (fd : FuncData) (ps ks : List Str) (g : List Value → List Value → List Value) (gV : List V → List V → List V) : Prop where
  to : ∀ (s : Shared) (us ws : List Value), K.In s.heap → (g us ws).length = ps.length → BindsTo s fd ⟨us, ks.zip ws⟩ (ps.zip (g us ws))
  rel : ∀ {vs : List V} {us : List Value} {zs : List V} {ws : List Value}, Vals vs us → Vals zs ws → Vals (gV vs zs) (g us ws)
variable {g : List Value → List Value → List Value} {gV : List V → List V → List V}
end

/-! ### a def's body keeps its promise -/
/-- names: the parameters first -/
structure FnScope (N P : List Str) (sc : Scope) : Prop where
  kind : sc.kind = .function
  co : sc.isCoroutine = false
  gen : sc.isGenerator = false
  nd : N.Nodup
  pre : N.take P.length = P
  par : ∀ x ∈ P, sc.names.lookup x = some .local ∨ sc.names.lookup x = some .cell
  nofree : ∀ y ∈ sc.names, y.2 ≠ .free

theorem bindL_out {kindOf : Str → Option NameKind} {x : Str} : ∀ {binds : List (Str × Value)} {m : Str → Option Value}, (∀ v, (x, v) ∉ binds) → bindL kindOf binds m x = m x
  | [], _, _ => rfl
  | (n, v) :: r, m, h => by
    unfold bindL
    rw [bindL_out fun w hw => h w (List.mem_cons_of_mem _ hw)]
    split
    · have : x ≠ n := by rintro rfl; exact h v List.mem_cons_self
      simp [this]
    · rfl
theorem bindC_out {kindOf : Str → Option NameKind} {x : Str} : ∀ {binds : List (Str × Value)} {m : Str → Option Value}, (∀ v, (x, v) ∉ binds) → bindC kindOf binds m x = m x
  | [], _, _ => rfl
  | (n, v) :: r, m, h => by
    unfold bindC
    rw [bindC_out fun w hw => h w (List.mem_cons_of_mem _ hw)]
    split
    · rfl
    · have : x ≠ n := by rintro rfl; exact h v List.mem_cons_self
      simp [this]
theorem bindL_get {kindOf : Str → Option NameKind} {x : Str} {v : Value} : ∀ {P : List Str} {vs : List Value} {i : Nat} {m : Str → Option Value}, P.Nodup → P[i]? = some x → vs[i]? = some v → kindOf x = some .local →
    bindL kindOf (P.zip vs) m x = some v
  | [], _, _, _, _, h, _, _ => by simp at h
  | _ :: _, [], _, _, _, _, h, _ => by simp at h
  | p :: P, w :: vs, 0, m, nd, h1, h2, hk => by
    simp at h1 h2; subst h1; subst h2
    show bindL kindOf ((p, w) :: P.zip vs) m p = _
    unfold bindL
    rw [bindL_out fun v hv => (List.nodup_cons.mp nd).1 (List.of_mem_zip hv).1, if_pos hk]
    simp
  | p :: P, w :: vs, i + 1, m, nd, h1, h2, hk => by
    show bindL kindOf ((p, w) :: P.zip vs) m x = _
    unfold bindL
    exact bindL_get (i := i) (List.nodup_cons.mp nd).2 (by simpa using h1) (by simpa using h2) hk
theorem bindC_get {kindOf : Str → Option NameKind} {x : Str} {v : Value} : ∀ {P : List Str} {vs : List Value} {i : Nat} {m : Str → Option Value}, P.Nodup → P[i]? = some x → vs[i]? = some v → kindOf x ≠ some .local →
    bindC kindOf (P.zip vs) m x = some v
  | [], _, _, _, _, h, _, _ => by simp at h
  | _ :: _, [], _, _, _, _, h, _ => by simp at h
  | p :: P, w :: vs, 0, m, nd, h1, h2, hk => by
    simp at h1 h2; subst h1; subst h2
    show bindC kindOf ((p, w) :: P.zip vs) m p = _
    unfold bindC
    rw [bindC_out fun v hv => (List.nodup_cons.mp nd).1 (List.of_mem_zip hv).1, if_neg hk]
    simp
  | p :: P, w :: vs, i + 1, m, nd, h1, h2, hk => by
    show bindC kindOf ((p, w) :: P.zip vs) m x = _
    unfold bindC
    exact bindC_get (i := i) (List.nodup_cons.mp nd).2 (by simpa using h1) (by simpa using h2) hk

/-- the names' values at the entry -/
def start (N : List Str) (vs : List V) : St := vs.map some ++ List.replicate (N.length - vs.length) none

/-- the context of a def's body, at its entry; an exception leaves the frame, then lies as CX says -/
def cxOf (CX : CXT) (P : Program) (w : World) (K : PySem.W.Frag) (mg : Str → Option Value) (base : Heap) (N : List Str) (qual : Str) (scope : Scope) (f : Addr) (cd : Value) (A : Around) (outer : List Env) (s : Shared) (H : Hp) (E : XK) : Cx where
  prog := P
  w := w
  K := K
  mg := mg
  base := base
  A := A.deeper (envOfC qual scope s.heap.objs.size f cd)
  N := N
  s₀ := s
  H₀ := H
  env := envOfC qual scope s.heap.objs.size f cd
  outer := outer
  stack := envOfC qual scope s.heap.objs.size f cd :: outer
  ex := []
  calm := true
  fn := fun _ => true
  pn := []
  xe := fun e s' => wpAny (model P w) (A.deeper (envOfC qual scope s.heap.objs.size f cd)) (leaving (envOfC qual scope s.heap.objs.size f cd) e) (fun _ s'' => CX outer H s E e s'') (fun e' s'' => CX outer H s E e' s'') s'

theorem cell_has {sc : Scope} {n : Nat} {x : Str} (h : sc.names.lookup x = some .cell) : ∃ c, (cellsFrom n sc.names []).lookup x = some c := by
  have q := PySem.W.cellsFrom_some sc.names n [] (.inl h)
  exact Option.isSome_iff_exists.mp q

theorem inv_start {CX : CXT} {P : Program} {w : World} {K : PySem.W.Frag} {mg : Str → Option Value} {base : Heap} {N ps : List Str} {qual : Str} {scope : Scope} {f : Addr} {cd : Value} {A : Around} {outer : List Env} {s s1 : Shared} {H : Hp} {E : XK} {us : List Value} {vs : List V}
    (S : FnScope N ps scope) (hd : A.handled = none) (e0 : Env0 P w K mg base A outer s H) (hl : vs.length = ps.length) (r : Vals vs us)
    (x : InCallC s s.heap.objs.size (bindL (envOfC qual scope s.heap.objs.size f cd).kindOf (ps.zip us) fun _ => none) (cellsFrom (s.heap.objs.size + 1) scope.names []) (bindC (envOfC qual scope s.heap.objs.size f cd).kindOf (ps.zip us) fun _ => none) s1) :
    Inv (cxOf CX P w K mg base N qual scope f cd A outer s H E) [] (start N vs) H s1 := by
  have hpl : ps.length ≤ N.length := by have := congrArg List.length S.pre; rw [List.length_take] at this; omega
  obtain ⟨h1, tk, rfl, hk⟩ := x.done
  have noA : ∀ b : Addr, b ∉ (cxOf CX P w K mg base N qual scope f cd A outer s H E).ex := fun b z => absurd (show b ∈ ([] : List Addr) from z) (by simp)
  refine ⟨⟨e0.mod, S.kind, rfl, rfl, Nat.le_refl _, fun y z c h1 h2 => ?_, fun y hy => ?_, fun y c _ h => ?_, fun _ => hd, Around.frames_deeper e0.frames, .inr ⟨rfl, rfl⟩, fun b z => absurd z (noA b), e0.bs, e0.bsz, fun b _ _ => noA b, fun b z => absurd z (noA b), e0.funs, e0.frf⟩,
    rfl, e0.bare, Un.kept hk, ⟨_, x.toInCall.ns, fun i y v h1 h2 h3 => ?_⟩, fun y c h => ⟨_, x.cell y c h⟩, e0.hok.fresh (Nat.le_refl _), fun y c h => ?_, fun p hp => absurd (show p ∈ ([] : List (Addr × Obj)) from hp) (by simp), e0.hok.kept hk, ?_⟩
  · exact name_of_addr x.apart (PySem.mem_of_lookup h1) (PySem.mem_of_lookup h2)
  · have hy : scope.names.lookup y = some .cell ∨ scope.names.lookup y = some .free := hy
    rcases hy with hy | hy
    · exact cell_has hy
    · exact absurd rfl (S.nofree _ (PySem.mem_of_lookup hy))
  · exact Nat.le_of_lt (x.above y c (PySem.mem_of_lookup h))
  · have hi : i < vs.length := by
      unfold start at h2
      by_cases hi : i < vs.length
      · exact hi
      · rw [List.getElem?_append_right (by simpa using hi)] at h2
        rw [List.getElem?_replicate] at h2
        split at h2 <;> cases h2
    have ha : vs[i]? = some v := by
      unfold start at h2
      rw [List.getElem?_append_left (by simpa using hi), List.getElem?_map] at h2
      cases e : vs[i]? with
      | none => rw [e] at h2; cases h2
      | some a => rw [e] at h2; cases h2; rfl
    obtain ⟨u, hu, rv⟩ := r.get ha
    have hp : ps[i]? = some y := by
      rw [← S.pre, List.getElem?_take_of_lt (by omega)]; exact h1
    have ndP : ps.Nodup := by rw [← S.pre]; exact S.nd.sublist (List.take_sublist _ _)
    refine ⟨u, rv, ?_⟩
    rcases S.par y (List.mem_of_getElem? hp) with k | k
    · exact .inl ⟨k, bindL_get ndP hp hu k⟩
    · obtain ⟨c, e⟩ := cell_has (n := s.heap.objs.size + 1) k
      refine .inr ⟨.inl k, c, e, ?_⟩
      have q := x.cell y c e
      rw [bindC_get ndP hp hu (by show scope.names.lookup y ≠ _; rw [k]; decide)] at q
      exact q
  · exact e0.hok.fresh (Nat.le_of_lt (x.above y c (PySem.mem_of_lookup h)))
  · unfold start
    show _ = N.length
    rw [List.length_append, List.length_map, List.length_replicate]
    omega

/-- THE RULE: a def (or a method) of the text, by its body. The body's reading t is chosen for each entry; it is run at the parameters' values -/
theorem fn_of {CX : CXT} {P : Program} {w : World} {K : PySem.W.Frag} {mg : Str → Option Value} {base : Heap} {k : Nat} {f : Addr} {name qual : Str} {params : Arguments} {body : List Stmt} {scope : Scope} {dV kV doc pm cdv ct oc : Value} {an od : Option Addr}
    {osl : Array (Option Value)} {N ps : List Str} {sp : Sp} (lk : K.lookup f = some ⟨oc, od, .func (PySem.W.fnOf name qual params body scope dV kV doc pm an cdv ct), osl⟩) (hcd : PySem.W.codeIn K cdv qual = true) (S : FnScope N ps scope)
    (len : ∀ vs H Q E, sp vs H Q E → vs.length = ps.length)
    (hbody : ∀ (A : Around) (outer : List Env) (s : Shared) (H : Hp) (vs : List V) (Q : VK) (E : XK), Room k (A.deeper (envOfC qual scope s.heap.objs.size f cdv)) → sp vs H Q E →
      ∃ t, PSs (cxOf CX P w K mg base N qual scope f cdv A outer s H E) body t ∧ t { nx := fun _ H' => Q .non H', rt := Q } (start N vs) H) :
    FnOk P w K mg base CX (k + 1) f (PySem.W.fnOf name qual params body scope dV kV doc pm an cdv ct) ps sp := by
  refine ⟨len, fun A outer s H args us vs Q E hr e0 hb r hsp => ?_⟩
  have hl := len _ _ _ _ hsp
  have KX : K.In s.heap := e0.mod.kin.keeps fun b o e => (e0.bs b o e).1
  have lim : s.heap.NoLimit := e0.mod.nolimit.keeps fun b o e => (e0.bs b o e).1
  have hkind : ∀ y ∈ ps.zip us, scope.names.lookup y.1 = some .local ∨ (scope.names.lookup y.1 = some .cell ∧ ((cellsFrom (s.heap.objs.size + 1) scope.names []).lookup y.1).isSome = true) := fun ⟨n, v⟩ hy => by
    rcases S.par n (List.of_mem_zip hy).1 with q | q
    · exact .inl q
    · exact .inr ⟨q, PySem.W.cellsFrom_some _ _ _ (.inl q)⟩
  refine codeAny_call_function hr.depth (KX _ _ lk) rfl S.co S.gen rfl (PySem.W.codeRec_of KX hcd) (hb _ _ _ _ ?_)
  refine wpAny_newFunctionEnv_cells S.kind hkind fun env he s1 x => ?_
  subst he
  refine ⟨lim.keeps x.toInCall.keep, codeAny_func ?_⟩
  obtain ⟨t, ht, hq⟩ := hbody A outer s H vs Q E (hr.deeper _) hsp
  have I : Inv (cxOf CX P w K mg base N qual scope f cdv A outer s H E) [] (start N vs) H s1 := inv_start S hr.hd e0 hl r x
  refine wpAny_mono (ht [] s1 (start N vs) H _ I hq) (fun fl s' hs => ?_) fun e s' hs => hs
  have fin : ∀ {σ' : St} {H' : Hp} {v : V} {u : Value}, Inv (cxOf CX P w K mg base N qual scope f cdv A outer s H E) [] σ' H' s' → RelV v u → Q v H' → CE outer P w H s Q u s' :=
    fun {σ' H' v u} J rv q => ⟨v, H', J.os, J.bare, J.base, J.hok, rv, q⟩
  cases fl with
  | ret u =>
    obtain ⟨v, σ', H', J, rv, q⟩ := hs
    exact fin J rv q
  | next =>
    obtain ⟨σ', H', J, q⟩ := hs
    exact fin (v := V.non) (u := Value.none) J rfl q
  | brk =>
    obtain ⟨_, _, _, q⟩ := hs
    exact False.elim q
  | cont =>
    obtain ⟨_, _, _, q⟩ := hs
    exact False.elim q
end L2

namespace L2
open PySem PySem.Spec PyProof.Rows
section
variable {X : Cx} {x : Str} {p pos : Pos} {e : Expr} {es : List Expr} {t : TA} {id T : String} {r : List V → Hp → VK → Prop}

def tCB (r : List V → Hp → VK → Prop) (t : TA) : TE := fun σ H Q => t σ H fun vs H1 => r vs H1 Q
/-- f(e, ..), f a built-in function -/
theorem pe_callB (hc : CallR X (.builtin id) r) (hg : Gl X x) (hm : X.mg x = none) (hv : bootBuiltins x = some (.builtin id)) (ha : PA X (e :: es) t) (hn : x ≠ "__name__" := by decide) (hdb : (x == ("__debug__" : Str)) = false := by decide)
    (he : starEach (e :: es) X.env = (false, eval e X.env) :: starEach es X.env := by rfl) (hpl : (backTo pos (starEach es X.env)).any (·.1) = false := by rfl) : PE X (.Call (.Name x p) (e :: es) [] pos) (tCB r t) := by
  intro pins s σ H Q I h
  refine wpAny_Call_Name_kw (ld_blt I hg hm hv ?_ hn hdb)
  exact PyProof.Rows.callWith_builtin1 (thn (ha pos pins s σ H _ I h) fun us s1 ⟨vs, H1, I1, r1, q1⟩ => hc pins s1 σ H1 vs us Q I1 r1 q1) he hpl
/-- T(e, ..), T a built-in type -/
theorem pe_callTy (hc : CallR X (.type T) r) (hg : Gl X x) (hm : X.mg x = none) (hv : bootBuiltins x = some (.type T)) (ha : PA X (e :: es) t) (hn : x ≠ "__name__" := by decide) (hdb : (x == ("__debug__" : Str)) = false := by decide)
    (he : starEach (e :: es) X.env = (false, eval e X.env) :: starEach es X.env := by rfl) (hpl : (backTo pos (starEach es X.env)).any (·.1) = false := by rfl) : PE X (.Call (.Name x p) (e :: es) [] pos) (tCB r t) := by
  intro pins s σ H Q I h
  refine wpAny_Call_Name_kw (ld_blt I hg hm hv ?_ hn hdb)
  exact PyProof.Rows.callWith_type1 (thn (ha pos pins s σ H _ I h) fun us s1 ⟨vs, H1, I1, r1, q1⟩ => hc pins s1 σ H1 vs us Q I1 r1 q1) he hpl
end
end L2

namespace HT
open PySem PyProof.Rows



section
open PySem.SeqAt
open PySem.AutoSeq1 (wpAny_loadPart')
open PySem.MeetsSeq PySem.MeetsSeq2 PySem.MeetsSeq3

end

section
variable {prog : Program} {w : World} {A : Around} {E : Value → Shared → Prop} {s : Shared}


/-- t + u, t not empty -/
theorem cat_tup {t b : Addr} {vs ws : List Value} {Q : Value → Shared → Prop} (ht : IsTup s.heap t vs.toArray) (hb : IsTup s.heap b ws.toArray) (hv : vs ≠ [])
    (h1 : ws = [] → Q (.ref t) s) (h2 : ws ≠ [] → Q (.ref s.heap.objs.size) { s with heap := s.heap.push { cls := .type "tuple", data := .seq (vs ++ ws).toArray } })
    (hsz : vs.length + ws.length ≤ sizeLine) : wpAny (model prog w) A (binaryOp .Add (.ref t) (.ref b)) Q E s := by
  obtain ⟨⟨cls, dd, data, sl⟩, ho, hc, n, hd⟩ := id ht
  obtain ⟨⟨cls2, dd2, data2, sl2⟩, ho2, hc2, n2, hd2⟩ := id hb
  simp only at hc hd hc2 hd2
  subst hc hd hc2 hd2
  have e : vs.toArray ++ ws.toArray = (vs ++ ws).toArray := by simp
  by_cases hw : ws = []
  · exact concat_meets ⟨_, ho, rfl⟩ ⟨_, ho2, rfl⟩ noFill_tuple_add seq_tuple_add PySem.F.slot_tuple_add PySem.F.entry_tuple_add (PySem.F.args_tuple_add_2 _ _)
      (tuple_addW1 t b vs.toArray ws.toArray n n2 dd dd2 sl sl2 (by simpa using hv) (by simp [hw])) ⟨ho, ho2, h1 hw⟩
  · refine concat_meets ⟨_, ho, rfl⟩ ⟨_, ho2, rfl⟩ noFill_tuple_add seq_tuple_add PySem.F.slot_tuple_add PySem.F.entry_tuple_add (PySem.F.args_tuple_add_2 _ _)
      (tuple_addW2 t b vs.toArray ws.toArray n n2 dd dd2 sl sl2 (by simpa using hv) (by simpa using hw) (by rw [List.size_toArray, List.size_toArray]; exact hsz)) ⟨ho, ho2, ?_⟩
    rw [e]
    exact h2 hw

/-! ### t[a:b], not the whole -/
/-- a slice's bound as a place among n (d where it is left out) -/
def sIx (n d : Nat) : Option Int → Nat
  | none => d
  | some v => if v < 0 then (v + (n : Int)).toNat else min v.toNat n

end
end HT

namespace L2
open PySem PySem.Spec PyProof.Rows

/-! ### the parts of a slice -/
abbrev TO := St → Hp → (Option Int → Hp → Prop) → Prop
/-- a slice's part (left out, or an int) -/
def PO (X : Cx) (e : Option Expr) (t : TO) : Prop :=
  ∀ (pins : List (Addr × Obj)) (s : Shared) (σ : St) (H : Hp) (Q : Option Int → Hp → Prop), Inv X pins σ H s → t σ H Q →
    wpAny (model X.prog X.w) X.A (evalPart e X.env) (fun u s' => ∃ o H', Inv X pins σ H' s' ∧ IsPart u o ∧ Q o H') X.xe s
def tPart (t : TE) : TO := fun σ H Q => t σ H fun x H1 => ∃ i, x = .int i ∧ Q (some i) H1

theorem intsAre_of {ns : List Int} : ∀ {us : List Value}, Vals (ns.map V.int) us → IntsAre us ns := by
  induction ns with
  | nil => intro us r; rw [List.map_nil] at r; cases r; exact .nil
  | cons n ns ih =>
    intro us r
    rw [List.map_cons] at r
    cases r with
    | cons r1 r2 =>
      obtain ⟨t, e⟩ := r1
      subst e
      exact .cons n t (ih r2)

section
variable {X : Cx} {e : Expr} {te : TE} {lo hi : Option Expr} {tl th : TO} {pos p2 : Pos}

theorem po_some (h : PE X e te) : PO X (some e) (tPart te) := by
  intro pins s σ H Q I hw
  rw [evalPart_some]
  refine thn (h pins s σ H _ I hw) fun u s1 ⟨x, H1, I1, r1, q1⟩ => ?_
  obtain ⟨i, rfl, q⟩ := q1
  obtain ⟨t, rfl⟩ := r1
  exact ⟨some i, H1, I1, .int i t, q⟩

/-- what a slice of a value is, by values: the slice object stands at sl -/
def SlR (X : Cx) (r : V → Option Int → Option Int → Hp → VK → Prop) : Prop :=
  ∀ (pins : List (Addr × Obj)) (s : Shared) (σ : St) (H : Hp) (x : V) (v vl vu : Value) (lo hi : Option Int) (sl : Addr) (Q : VK), Inv X pins σ H s → RelV x v → s.heap.IsSliceOf sl vl vu .none → IsPart vl lo → IsPart vu hi → r x lo hi H Q →
    ∃ T id, typeLookup (.type T) "__getitem__" = pure (some (.builtin id)) ∧ s.TypeIs v T ∧ wpAny (model X.prog X.w) X.A (getItem v (.ref sl)) (EP X pins σ Q) X.xe s
def tSl (r : V → Option Int → Option Int → Hp → VK → Prop) (te : TE) (tl th : TO) : TE := fun σ H Q => te σ H fun x H1 => tl σ H1 fun l H2 => th σ H2 fun u H3 => r x l u H3 Q
/-- a[lo:hi], any a -/
theorem pe_slice {r : V → Option Int → Option Int → Hp → VK → Prop} (hr : SlR X r) (he : PE X e te) (hl : PO X lo tl) (hu : PO X hi th) : PE X (.Subscript e (.Slice lo hi none p2) pos) (tSl r te tl th) := by
  intro pins s σ H Q I h
  refine Subscript_ (thn (he pins s σ H _ I h) fun v s1 ⟨x, H1, I1, r1, q1⟩ => ?_)
  refine wpAny_Slice (thn (hl pins s1 σ H1 _ I1 q1) fun vl s2 ⟨l, H2, I2, pl, q2⟩ => thn (hu pins s2 σ H2 _ I2 q2) fun vu s3 ⟨u, H3, I3, pu, q3⟩ => ?_)
  rw [evalPart_none]
  refine wpAny_pure ?_
  have I4 : Inv X pins σ H3 { s3 with heap := s3.heap.push { cls := .type "slice", data := .fields #[vl, vu, .none] } } := I3.kept (t' := s3.toks) fun b ob q => Heap.get?_push_of_some _ q
  obtain ⟨T, id, hT, ht, hg⟩ := hr pins { s3 with heap := s3.heap.push { cls := .type "slice", data := .fields #[vl, vu, .none] } } σ H3 x v vl vu l u s3.heap.objs.size Q I4 r1 (Heap.IsSliceOf.new ..) pl pu q3
  show wpAny (model X.prog X.w) X.A (subscriptTail e (.Slice lo hi none p2) v (.ref s3.heap.objs.size)) (EP X pins σ Q) X.xe { s3 with heap := s3.heap.push { cls := .type "slice", data := .fields #[vl, vu, .none] } }
  exact tail_any (ops := [.ref s3.heap.objs.size, v]) ht hT hg (by with_unfolding_all rfl)

/-- the items of xs[lo:hi] -/
def cutV (xs : List V) (lo hi : Option Int) : List V := (xs.drop (HT.sIx xs.length 0 lo)).take (HT.sIx xs.length xs.length hi - HT.sIx xs.length 0 lo)
theorem cutV_length (xs : List V) (lo hi : Option Int) : (cutV xs lo hi).length ≤ xs.length := by
  unfold cutV
  rw [List.length_take, List.length_drop]
  omega

/-! ### t < u, t + u -/
/-- t + u, t not empty: u empty gives t itself -/
def rCatT (K : PySem.W.Frag) : R2 := fun x y H Q => ∃ a b xs ys, x = .ref a ∧ y = .ref b ∧ SqT K H a xs ∧ SqT K H b ys ∧ xs ≠ [] ∧ xs.length + ys.length ≤ sizeLine ∧
  (ys = [] → Q (.ref a) H) ∧ (ys ≠ [] → ∀ p, H p = none → Q (.ref p) (upd H p (.tup (xs ++ ys))))
theorem Vals.nil_iff {xs : List V} {us : List Value} (r : Vals xs us) : us = [] ↔ xs = [] := by
  cases r with
  | nil => simp
  | cons _ _ => simp
theorem op_catT : OpR X (binaryOp .Add) (rCatT X.K) := by
  intro pins s σ H x y v u Q I rx ry h
  obtain ⟨a, b, xs, ys, rfl, rfl, ha, hb, hx, hz, q1, q2⟩ := h
  cases rx
  cases ry
  obtain ⟨its, r1, p1, _⟩ := I.tuple ha
  obtain ⟨its2, r2, p2, _⟩ := I.tuple hb
  refine HT.cat_tup p1 p2 (fun z => hx (r1.nil_iff.mp z)) (fun z => ⟨.ref a, H, I, rfl, q1 (r2.nil_iff.mp z)⟩) (fun z => ?_) (by rw [← r1.length, ← r2.length]; exact hz)
  refine ⟨.ref s.heap.objs.size, _, I.laid (t' := s.toks) (o := .tup (xs ++ ys)) (fun b ob q => Heap.get?_push_of_some _ q) (Nat.le_refl _) ?_, rfl, q2 (fun w => z (r2.nil_iff.mpr w)) _ (I.hok.fresh (Nat.le_refl _))⟩
  exact ⟨by rw [List.length_append]; exact hz, _, r1.append r2, IsTup.new _ _⟩
end
end L2

namespace L2
open PySem PySem.Spec PyProof.Rows

/-! ### places -/
/-- the place that an index of any sign means -/
def ixN (n : Nat) (i : Int) : Option Nat := if 0 ≤ i then (if i < n then some i.toNat else none) else if -(n : Int) ≤ i then some (i + n).toNat else none
def atI {α : Type} (xs : List α) (i : Int) : Option α := (ixN xs.length i).bind fun j => xs[j]?
theorem ixN_seq {n : Nat} {i : Int} {j : Nat} (h : ixN n i = some j) : seqIndex? i n = some j ∧ j < n ∧ -(n : Int) ≤ i ∧ i < n := by
  unfold ixN at h
  by_cases h0 : 0 ≤ i
  · rw [if_pos h0] at h
    by_cases h1 : i < n
    · rw [if_pos h1] at h
      have e : i.toNat = j := Option.some.inj h
      exact ⟨by rw [seqIndex_of h0 h1, e], by omega, by omega, h1⟩
    · rw [if_neg h1] at h; cases h
  · rw [if_neg h0] at h
    by_cases h1 : -(n : Int) ≤ i
    · rw [if_pos h1] at h
      have e : (i + n).toNat = j := Option.some.inj h
      exact ⟨by rw [seqIndex_neg (by omega) h1, e], by omega, h1, by omega⟩
    · rw [if_neg h1] at h; cases h
theorem atI_get {α : Type} {xs : List α} {i : Int} {v : α} (h : atI xs i = some v) : ∃ j, seqIndex? i xs.length = some j ∧ xs[j]? = some v ∧ j < xs.length ∧ -(xs.length : Int) ≤ i ∧ i < xs.length := by
  unfold atI at h
  cases e : ixN xs.length i with
  | none => rw [e] at h; cases h
  | some j =>
    rw [e] at h
    obtain ⟨h1, h2, h3, h4⟩ := ixN_seq e
    exact ⟨j, h1, h, h2, h3, h4⟩
theorem atI_nat {α : Type} {xs : List α} {j : Nat} {v : α} (h : xs[j]? = some v) : atI xs (j : Int) = some v := by
  have hj : j < xs.length := (List.getElem?_eq_some_iff.mp h).1
  have e : ixN xs.length (j : Int) = some j := by
    unfold ixN
    rw [if_pos (by omega), if_pos (by omega)]; simp
  unfold atI; rw [e]; exact h

/-! ### what may be subscripted -/
/-- what stands as an index of a plain subscript -/
def PlainIx (b : Expr) : Prop := ∀ o i, subscripted b false o i = operate [o, i] (getItem o i)
/-- a subscript by values -/
def IxR (X : Cx) (r : R2) : Prop :=
  ∀ (value slice : Expr) (pins : List (Addr × Obj)) (s : Shared) (σ : St) (H : Hp) (x y : V) (v u : Value) (Q : VK), Inv X pins σ H s → RelV x v → RelV y u → r x y H Q →
    subscripted slice false v u = operate [v, u] (getItem v u) → wpAny (model X.prog X.w) X.A (subscriptTail value slice v u) (EP X pins σ Q) X.xe s
/-- a call of a builtin's method by values: the receiver, the arguments -/
def MtR (X : Cx) (id : String) (r : V → List V → Hp → VK → Prop) : Prop :=
  ∀ (pins : List (Addr × Obj)) (s : Shared) (σ : St) (H : Hp) (x : V) (xs : List V) (v : Value) (us : List Value) (Q : VK), Inv X pins σ H s → RelV x v → Vals xs us → r x xs H Q →
    wpAny (model X.prog X.w) X.A (call (.builtin id) (v :: us)) (EP X pins σ Q) X.xe s
section
variable {X : Cx} {a b : Expr} {ta tb : TE} {pos : Pos}
/-- a[b] -/
theorem pe_ix {r : R2} (hr : IxR X r) (ha : PE X a ta) (hb : PE X b tb) (hs : PlainIx b) : PE X (.Subscript a b pos) (tOp r ta tb) := by
  intro pins s σ H Q I h
  exact Subscript_ (binT ha hb I h fun v u s2 x y H2 I2 rx ry q => hr a b pins s2 σ H2 x y v u Q I2 rx ry q (hs _ _))

def rIxL (K : PySem.W.Frag) : R2 := fun x y H Q => ∃ p xs i v, x = .ref p ∧ y = .int i ∧ SqL K H p xs ∧ atI xs i = some v ∧ Q v H
def rIxT (K : PySem.W.Frag) : R2 := fun x y H Q => ∃ p xs i v, x = .ref p ∧ y = .int i ∧ SqT K H p xs ∧ atI xs i = some v ∧ Q v H
theorem ix_list : IxR X (rIxL X.K) := by
  intro value slice pins s σ H x y v u Q I rx ry h hs
  obtain ⟨p, xs, i, z, rfl, rfl, hq, he, q⟩ := h
  cases rx
  obtain ⟨t, rfl⟩ := ry
  obtain ⟨its, r, pl, hz⟩ := I.list hq
  obtain ⟨j, h1, h2, h3, h4, h5⟩ := atI_get he
  obtain ⟨w, ew, rw'⟩ := r.get h2
  have hl := r.length
  have hn := line63
  have fin : EP X pins σ Q w s := ⟨z, H, I, rw', q⟩
  by_cases h0 : 0 ≤ i
  · have hj : i.toNat = j := by
      rw [seqIndex_of h0 h5] at h1
      exact Option.some.inj h1
    exact item_listR pl.isList h0 (by omega) (by rw [hj]; simpa using ew) fin hs
  · have hj : (i + (its.toArray.size : Int)).toNat = j := by
      rw [seqIndex_neg (by omega) h4] at h1
      rw [List.size_toArray, ← hl]
      exact Option.some.inj h1
    exact subscriptTail_builtinR (x := w) pl.isList.typeIs slot_list_getitem.lookup
      (wpAny_getItem_list_neg (Q := fun r s' => r = w ∧ EP X pins σ Q r s') pl.isList (by omega) (by rw [List.size_toArray] <;> omega) (by omega) (by rw [hj]; simpa using ew) ⟨rfl, fin⟩) hs
theorem ix_tup : IxR X (rIxT X.K) := by
  intro value slice pins s σ H x y v u Q I rx ry h hs
  obtain ⟨p, xs, i, z, rfl, rfl, hq, he, q⟩ := h
  cases rx
  obtain ⟨t, rfl⟩ := ry
  obtain ⟨its, r, pl, hz⟩ := I.tuple hq
  obtain ⟨j, h1, h2, h3, h4, h5⟩ := atI_get he
  obtain ⟨w, ew, rw'⟩ := r.get h2
  have hl := r.length
  have hn := line63
  have fin : EP X pins σ Q w s := ⟨z, H, I, rw', q⟩
  exact subscriptTail_builtinR (x := w) pl.typeIs slot_tuple_getitem.lookup
    (getItem_tuple (j := j) (Q := fun r s' => r = w ∧ EP X pins σ Q r s') pl (by omega) (by omega) (by rw [List.size_toArray, ← hl]; exact h1) (by simpa using ew) ⟨rfl, fin⟩) hs

/-! ### xs[i] = v, any sign -/
/-- the list's object behind a store -/
theorem mapSeq_set (its : List Value) (n j : Nat) (u : Value) : Obj.mapSeq (·.setIfInBounds j u) { cls := .type "list", data := .seq its.toArray n } = { cls := .type "list", data := .seq (its.set j u).toArray n } := by
  simp [Obj.mapSeq]
theorem Inv.lst {pins : List (Addr × Obj)} {σ : St} {H : Hp} {s : Shared} {p : Addr} {xs : List V} (I : Inv X pins σ H s) (h : H p = some (.lst xs)) :
    ∃ (its : List Value) (n : Nat), Vals xs its ∧ s.heap.get? p = some { cls := .type "list", data := .seq its.toArray n } ∧ xs.length ≤ sizeLine := by
  obtain ⟨z, its, n, r, e⟩ := I.hok p _ h
  exact ⟨its, n, r, e, z⟩
/-- the list at p is written by an update of its object -/
theorem Inv.lstUpd {pins : List (Addr × Obj)} {σ : St} {H : Hp} {s : Shared} {p : Addr} {xs ys : List V} {its its' : List Value} {n n' : Nat} {f : Obj → Obj} (I : Inv X pins σ H s) (h : H p = some (.lst xs))
    (ho : s.heap.get? p = some { cls := .type "list", data := .seq its.toArray n }) (hf : f { cls := .type "list", data := .seq its.toArray n } = { cls := .type "list", data := .seq its'.toArray n' }) (r : Vals ys its') (hz : ys.length ≤ sizeLine) (t : Nat) :
    Inv X pins σ (upd H p (.lst ys)) { s with heap := s.heap.update p f, toks := t } := by
  have e : (s.heap.update p f).get? p = some { cls := .type "list", data := .seq its'.toArray n' } := by
    rw [Heap.get?_update_self f ho (by rw [hf] <;> rfl), hf]
  refine I.write (x := p) (e := p) (by rw [h]; trivial) (.inl rfl) (fun b u hb q => (Heap.get?_update_other _ _ (Ne.symm hb)).trans q) ⟨_, e⟩ ?_
  exact ⟨hz, its', n', r, e⟩
def rSetL : V → V → V → Hp → (Hp → Prop) → Prop := fun o i v H Q => ∃ p xs k j, o = .ref p ∧ i = .int k ∧ H p = some (.lst xs) ∧ ixN xs.length k = some j ∧ Q (upd H p (.lst (xs.set j v)))
theorem set_list : PSet X rSetL := by
  intro pins s σ H o i v ov iv u Q I ro ri rv h
  obtain ⟨p, xs, k, j, rfl, rfl, hp, hj, q⟩ := h
  cases ro
  obtain ⟨t, rfl⟩ := ri
  obtain ⟨its, n, r, ho, hz⟩ := I.lst hp
  obtain ⟨h1, h2, h3, h4⟩ := ixN_seq hj
  have hl := r.length
  have hn := line63
  have I' : Inv X pins σ (upd H p (.lst (xs.set j v))) { s with heap := s.heap.update p (Obj.mapSeq (·.setIfInBounds j u)) } :=
    I.lstUpd hp ho (mapSeq_set its n j u) (r.set rv j) (by rw [List.length_set]; exact hz) s.toks
  by_cases h0 : 0 ≤ k
  · have hk : k.toNat = j := by
      rw [seqIndex_of h0 h4] at h1
      exact Option.some.inj h1
    exact PySem.W.ki_setAt ho h0 (by omega) (by rw [List.size_toArray, ← hl]; exact h4) (by rw [hk]; exact ⟨_, I', q⟩)
  · have hk : (k + (its.toArray.size : Int)).toNat = j := by
      rw [seqIndex_neg (by omega) h3] at h1
      rw [List.size_toArray, ← hl]
      exact Option.some.inj h1
    exact PySem.W.ki_setBack ho (by omega) (by rw [List.size_toArray, ← hl]; exact h3) (by omega) (by rw [hk]; exact ⟨_, I', q⟩)

/-! ### slices -/
theorem slice_bounds (lo hi : Option Int) (n : Nat) : (sliceBounds lo hi none n).1 = ((HT.sIx n 0 lo : Nat) : Int) ∧ (sliceBounds lo hi none n).2.1 = ((HT.sIx n n hi : Nat) : Int) ∧ (sliceBounds lo hi none n).2.2 = 1 := by
  refine ⟨?_, ?_, rfl⟩
  · cases lo with
    | none => simp [sliceBounds, HT.sIx]
    | some i =>
      simp only [sliceBounds, HT.sIx, Option.getD_none, show (1 : Int) > 0 by decide, if_true]
      by_cases h : i < 0
      · simp only [h, if_true] <;> omega
      · simp only [h, if_false] <;> omega
  · cases hi with
    | none => simp [sliceBounds, HT.sIx]
    | some i =>
      simp only [sliceBounds, HT.sIx, Option.getD_none, show (1 : Int) > 0 by decide, if_true]
      by_cases h : i < 0
      · simp only [h, if_true] <;> omega
      · simp only [h, if_false] <;> omega
theorem slicePick_cut (its : List Value) (lo hi : Option Int) : slicePick its.toArray lo hi none = ((its.drop (HT.sIx its.length 0 lo)).take (HT.sIx its.length its.length hi - HT.sIx its.length 0 lo)).toArray := by
  obtain ⟨h1, h2, h3⟩ := slice_bounds lo hi its.toArray.size
  unfold slicePick
  rw [h1, h2, h3]
  simp only [sliceRange_one, pick_run, List.size_toArray] <;> rfl
/-- xs[lo:hi] of a list: a new list -/
def rSlL (K : PySem.W.Frag) : V → Option Int → Option Int → Hp → VK → Prop := fun x lo hi H Q => ∃ a xs, x = .ref a ∧ SqL K H a xs ∧ ∀ p, H p = none → Q (.ref p) (upd H p (.lst (cutV xs lo hi)))
theorem sl_list : SlR X (rSlL X.K) := by
  intro pins s σ H x v vl vu lo hi sl Q I rx hs pl pu h
  obtain ⟨a, xs, rfl, hx, q⟩ := h
  cases rx
  obtain ⟨its, r, ht, hz⟩ := I.list hx
  have hlen := r.length
  refine ⟨"list", _, slot_list_getitem.lookup, ht.isList.typeIs, ?_⟩
  refine wpAny_getItem_list_slice ht.isList hs pl pu .none (by simp) ?_ (by rw [List.size_toArray] <;> omega)
  rw [slicePick_cut, ← hlen]
  refine ⟨.ref s.heap.objs.size, _, I.laid (t' := s.toks) (o := .lst (cutV xs lo hi)) (fun b ob q => Heap.get?_push_of_some _ q) (Nat.le_refl _) ?_, rfl, q _ (I.hok.fresh (Nat.le_refl _))⟩
  exact ⟨Nat.le_trans (cutV_length xs lo hi) hz, _, 0, (r.drop (HT.sIx xs.length 0 lo)).take (HT.sIx xs.length xs.length hi - HT.sIx xs.length 0 lo), Heap.get?_push_size _ rfl⟩

/-! ### in, not in: flat items -/
def flatV : V → Bool
  | .non => true
  | .bl _ => true
  | .int _ => true
  | .str _ => true
  | _ => false
/-- == of flat values -/
def eqV : V → V → Bool
  | .non, .non => true
  | .bl a, .bl b => a == b
  | .bl a, .int b => (if a then 1 else 0) == b
  | .int a, .bl b => a == (if b then 1 else 0)
  | .int a, .int b => a == b
  | .str a, .str b => a == b
  | _, _ => false
theorem eqAt_V {A : Around} {s : Shared} {y x : V} {u v : Value} (ry : RelV y u) (rx : RelV x v) (fy : flatV y = true) (fx : flatV x = true) : SeqAt.EqAt A s u v (eqV y x) := by
  cases y with
  | non =>
    cases ry
    cases x with
    | non => cases rx; exact SeqAt.EqAt.same _
    | bl b => cases rx; exact SeqAt.EqAt.none_bool b
    | int b => obtain ⟨t, rfl⟩ := rx; exact SeqAt.EqAt.none_int b t
    | str b => obtain ⟨t, rfl⟩ := rx; exact SeqAt.EqAt.none_str b t
    | _ => exact absurd (show false = true from fx) Bool.false_ne_true
  | bl a =>
    cases ry
    cases x with
    | non => cases rx; exact SeqAt.EqAt.bool_none a
    | bl b => cases rx; exact SeqAt.EqAt.bool_bool a b
    | int b => obtain ⟨t, rfl⟩ := rx; exact SeqAt.EqAt.bool_int a b t
    | str b => obtain ⟨t, rfl⟩ := rx; exact SeqAt.EqAt.bool_str a b t
    | _ => exact absurd (show false = true from fx) Bool.false_ne_true
  | int a =>
    obtain ⟨t', rfl⟩ := ry
    cases x with
    | non => cases rx; exact SeqAt.EqAt.int_none a t'
    | bl b => cases rx; exact SeqAt.EqAt.int_bool a t' b
    | int b => obtain ⟨t, rfl⟩ := rx; exact SeqAt.EqAt.int_int a t' b t
    | str b => obtain ⟨t, rfl⟩ := rx; exact SeqAt.EqAt.int_str a t' b t
    | _ => exact absurd (show false = true from fx) Bool.false_ne_true
  | str a =>
    obtain ⟨t', rfl⟩ := ry
    cases x with
    | non => cases rx; exact SeqAt.EqAt.str_none a t'
    | bl b => cases rx; exact SeqAt.EqAt.str_bool a t' b
    | int b => obtain ⟨t, rfl⟩ := rx; exact SeqAt.EqAt.str_int a t' b t
    | str b => obtain ⟨t, rfl⟩ := rx; exact SeqAt.EqAt.str_str a t' b t
    | _ => exact absurd (show false = true from fx) Bool.false_ne_true
  | _ => exact absurd (show false = true from fy) Bool.false_ne_true
/-- the items' answers, read off the values (a value's own answer does not lean on its token) -/
def eqU (x : V) (u : Value) : Bool := match u with
  | .none => eqV .non x
  | .bool b => eqV (.bl b) x
  | .int i _ => eqV (.int i) x
  | .str z _ => eqV (.str z) x
  | _ => false
theorem eqU_of {x y : V} {u : Value} (r : RelV y u) (f : flatV y = true) : eqU x u = eqV y x := by
  cases y with
  | non => cases r; rfl
  | bl b => cases r; rfl
  | int i => obtain ⟨t, rfl⟩ := r; rfl
  | str z => obtain ⟨t, rfl⟩ := r; rfl
  | _ => exact absurd (show false = true from f) Bool.false_ne_true
theorem any_eqU {x : V} : ∀ {xs : List V} {us : List Value}, Vals xs us → xs.all flatV = true → us.any (eqU x) = xs.any fun y => eqV y x
  | _, _, .nil, _ => rfl
  | y :: xs, u :: us, .cons r t, f => by
    rw [List.all_cons, Bool.and_eq_true] at f
    rw [List.any_cons, List.any_cons, eqU_of r f.1, any_eqU t f.2]
theorem mem_eqAt {A : Around} {s : Shared} {x : V} {v : Value} (rx : RelV x v) (fx : flatV x = true) : ∀ {xs : List V} {us : List Value}, Vals xs us → xs.all flatV = true → ∀ u ∈ us, SeqAt.EqAt A s u v (eqU x u)
  | _, _, .nil, _ => fun u hu => by cases hu
  | y :: xs, u :: us, .cons r t, f => fun u' hu => by
    rw [List.all_cons, Bool.and_eq_true] at f
    rcases List.mem_cons.mp hu with rfl | hu
    · rw [eqU_of r f.1]; exact eqAt_V r rx f.1 fx
    · exact mem_eqAt rx fx t f.2 u' hu
def inV (x : V) (xs : List V) : Bool := xs.any fun y => eqV y x
/-- x in a list or tuple of flat items -/
def rIn (K : PySem.W.Frag) (neg : Bool) : R2 := fun x y H Q => ∃ p xs, y = .ref p ∧ (SqL K H p xs ∨ SqT K H p xs) ∧ flatV x = true ∧ xs.all flatV = true ∧ Q (.bl (if neg then !inV x xs else inV x xs)) H
theorem op_in_seq : OpR X (compareOp .In) (rIn X.K false) := by
  intro pins s σ H x y v u Q I rx ry h
  obtain ⟨p, xs, rfl, hq, fx, fs, q⟩ := h
  cases ry
  rcases hq with hq | hq
  · obtain ⟨its, r, pl, hz⟩ := I.list hq
    refine SeqAt.in_listAt (eqU x) pl.isList (fun w hw => mem_eqAt rx fx r fs w (by simpa using hw)) ⟨.bl _, H, I, rfl, ?_⟩
    rw [show its.toArray.any (eqU x) = its.any (eqU x) by simp, any_eqU r fs]
    exact q
  · obtain ⟨its, r, pl, hz⟩ := I.tuple hq
    refine SeqAt.in_tupleAt (eqU x) pl (fun w hw => mem_eqAt rx fx r fs w (by simpa using hw)) ⟨.bl _, H, I, rfl, ?_⟩
    rw [show its.toArray.any (eqU x) = its.any (eqU x) by simp, any_eqU r fs]
    exact q

/-! ### len, list(x), tuple(x) of any list or tuple that is read -/
theorem call_len_seq : CallR X (.builtin "len") (fun xs H Q => ∃ p ys, xs = [.ref p] ∧ (SqL X.K H p ys ∨ SqT X.K H p ys) ∧ Q (.int ys.length) H) := by
  intro pins s σ H xs us Q I r h
  obtain ⟨p, ys, rfl, hq, q⟩ := h
  obtain ⟨u, rfl, rx⟩ := vals1 r
  cases rx
  have hn := line63
  rcases hq with hq | hq
  · obtain ⟨its, r', pl, hz⟩ := I.list hq
    have hlen := r'.length
    exact Calls.call_len_list pl.isList (by simp only [List.size_toArray] <;> omega) ⟨.int ys.length, H, I.tok _, ⟨s.toks + 1, by rw [List.size_toArray, hlen]⟩, q⟩
  · obtain ⟨its, r', pl, hz⟩ := I.tuple hq
    have hlen := r'.length
    exact len_tuple pl (by simp only [List.size_toArray] <;> omega) ⟨.int ys.length, H, I.tok _, ⟨s.toks + 1, by rw [List.size_toArray, hlen]⟩, q⟩
theorem call_list_of : CallR X (.type "list") (fun xs H Q => ∃ p ys, xs = [.ref p] ∧ (SqL X.K H p ys ∨ SqT X.K H p ys) ∧ ∀ l, H l = none → Q (.ref l) (upd H l (.lst ys))) := by
  intro pins s σ H xs us Q I r h
  obtain ⟨p, ys, rfl, hq, q⟩ := h
  obtain ⟨u, rfl, rx⟩ := vals1 r
  cases rx
  have fin : ∀ (its : List Value), Vals ys its → ys.length ≤ sizeLine → ∀ (h' : Heap) (c' : Nat), (∀ b o', s.heap.get? b = some o' → h'.get? b = some o') →
      h'.get? s.heap.objs.size = some { cls := .type "list", dict := none, data := .seq its.toArray c', slots := #[] } → EP X pins σ Q (.ref s.heap.objs.size) { s with heap := h' } := fun its r' hz h' c' kp e =>
    ⟨.ref s.heap.objs.size, _, I.laid (t' := s.toks) kp (Nat.le_refl _) (show ObjOk X.prog X.w _ h' _ (.lst ys) from ⟨hz, its, c', r', e⟩), rfl, q _ (I.hok.fresh (Nat.le_refl _))⟩
  rcases hq with hq | hq
  · obtain ⟨its, r', pl, hz⟩ := I.list hq
    have hlen := r'.length
    obtain ⟨o, ho, hc, n, hd⟩ := pl.isList
    exact call_list_seq p (.inl rfl) ho hc hd (fun h' c' kp e => fin its r' hz h' c' kp e) (by simp only [List.size_toArray] <;> omega)
  · obtain ⟨its, r', pl, hz⟩ := I.tuple hq
    have hlen := r'.length
    obtain ⟨o, ho, hc, n, hd⟩ := pl
    exact call_list_seq p (.inr rfl) ho hc hd (fun h' c' kp e => fin its r' hz h' c' kp e) (by simp only [List.size_toArray] <;> omega)
theorem call_tuple_of : CallR X (.type "tuple") (fun xs H Q => ∃ p ys, xs = [.ref p] ∧ ((SqL X.K H p ys ∧ ∀ l, H l = none → Q (.ref l) (upd H l (.tup ys))) ∨ (SqT X.K H p ys ∧ Q (.ref p) H))) := by
  intro pins s σ H xs us Q I r h
  obtain ⟨p, ys, rfl, h⟩ := h
  obtain ⟨u, rfl, rx⟩ := vals1 r
  cases rx
  rcases h with ⟨hq, q⟩ | ⟨hq, q⟩
  · obtain ⟨its, r', pl, hz⟩ := I.list hq
    have hlen := r'.length
    refine call_tuple_list pl.isList (fun h' kp => ?_) (by simp only [List.size_toArray] <;> omega)
    have I1 : Inv X pins σ H { s with heap := h' } := I.kept (t' := s.toks) kp
    have I2 : Inv X pins σ (upd H h'.objs.size (.tup ys)) { s with heap := h'.push { cls := .type "tuple", data := .seq its.toArray } } :=
      I1.laid (t' := s.toks) (fun b o e => Heap.get?_push_of_some _ e) (Nat.le_refl _) (show ObjOk X.prog X.w _ _ _ (.tup ys) from ⟨hz, its, r', IsTup.new _ _⟩)
    exact ⟨.ref h'.objs.size, _, I2, rfl, q _ (I1.hok.fresh (Nat.le_refl _))⟩
  · obtain ⟨its, r', pl, hz⟩ := I.tuple hq
    exact call_tuple_same pl ⟨.ref p, H, I, rfl, q⟩

/-! ### the call of a builtin's method: o.m(..) -/
/-- the value is of that builtin type -/
def tyV (K : PySem.W.Frag) (T : String) (x : V) (H : Hp) : Prop := match x with
  | .str _ => T = "str"
  | .int _ => T = "int"
  | .ref p => (T = "list" ∧ ∃ xs, SqL K H p xs) ∨ (T = "tuple" ∧ ∃ o, K.lookup p = some o ∧ o.cls = .type "tuple" ∧ o.dict = none) ∨
      (T = "dict" ∧ ((∃ kvs, H p = some (.dK kvs)) ∨ ∃ kvs, H p = some (.dT kvs))) ∨ (T = "set" ∧ ∃ S n, H p = some (.set S n))
  | _ => False
theorem tyV_is {pins : List (Addr × Obj)} {σ : St} {H : Hp} {s : Shared} {T : String} {x : V} {v : Value} (I : Inv X pins σ H s) (r : RelV x v) (ty : tyV X.K T x H) :
    s.TypeIs v T ∧ ∀ a, v = .ref a → ∃ ob, s.heap.get? a = some ob ∧ ob.dict = none := by
  cases x with
  | str z =>
    obtain ⟨t, rfl⟩ := r
    cases (show T = "str" from ty)
    exact ⟨typeIs_str s z t, fun _ e => nomatch e⟩
  | int i =>
    obtain ⟨t, rfl⟩ := r
    cases (show T = "int" from ty)
    exact ⟨typeIs_int s i t, fun _ e => nomatch e⟩
  | ref p =>
    cases r
    rcases ty with ⟨rfl, xs, hq⟩ | ⟨rfl, o, hk, hc, hd⟩ | ⟨rfl, hk⟩ | ⟨rfl, S, n, hk⟩
    · obtain ⟨its, _, pl, _⟩ := I.list hq
      refine ⟨pl.isList.typeIs, fun a e => ?_⟩
      cases e
      obtain ⟨o, n, e, c, hd, _⟩ := pl
      exact ⟨o, e, hd⟩
    · refine ⟨⟨o, I.kIn p o hk, hc⟩, fun a e => ?_⟩
      cases e
      exact ⟨o, I.kIn _ o hk, hd⟩
    · have z : ∃ o, s.heap.get? p = some o ∧ o.ExactDict := by
        rcases hk with ⟨kvs, hk⟩ | ⟨kvs, hk⟩
        · obtain ⟨_, _, _, _, o, _, _, e, ex, _⟩ := I.hok p _ hk
          exact ⟨o, e, ex⟩
        · obtain ⟨_, _, _, _, o, _, _, e, ex, _⟩ := I.hok p _ hk
          exact ⟨o, e, ex⟩
      obtain ⟨o, e, ex⟩ := z
      refine ⟨⟨o, e, ex.1⟩, fun a e2 => ?_⟩
      cases e2
      exact ⟨o, e, ex.2.1⟩
    · obtain ⟨o, _, _, _, e, ex, _⟩ := I.hok p _ hk
      refine ⟨⟨o, e, ex.1⟩, fun a e2 => ?_⟩
      cases e2
      exact ⟨o, e, ex.2.1⟩
  | _ => exact False.elim ty
def tBM (K : PySem.W.Frag) (T : String) (r : V → List V → Hp → VK → Prop) (to : TE) (t : TA) : TE := fun σ H Q => to σ H fun x H1 => tyV K T x H1 ∧ t σ H1 fun xs H2 => r x xs H2 Q
variable {o e : Expr} {es : List Expr} {to : TE} {t : TA} {name : Str} {apos cpos : Pos} {T id : String} {r : V → List V → Hp → VK → Prop}
theorem pe_bm (pa : PlainAttrs T) (slot : Slot T name id) (hty : typeOf (.builtin id) = pure (.type "method_descriptor")) (hm : MtR X id r) (ho : PE X o to) (ha : PA X (e :: es) t)
    (hbase : attributeBase o name X.env (eval o X.env) = eval o X.env := by rfl)
    (hfew : ((backTo cpos (starEach (e :: es) X.env)).all (fun x => !x.1) && (backToKw cpos (keywordEach [] X.env)).all (fun x => x.1.isSome)
      && decide ((e :: es).length + ([] : List Keyword).length + (if ([] : List Keyword).isEmpty then 0 else 1) < 30)) = true := by rfl)
    (hline : (apos.endLine == cpos.line) = true := by rfl) (hs : starEach (e :: es) X.env = (false, eval e X.env) :: starEach es X.env := by rfl) (hplain : (backTo cpos (starEach es X.env)).any (·.1) = false := by rfl) :
    PE X (.Call (.Attribute o name apos) (e :: es) [] cpos) (tBM X.K T r to t) := by
  intro pins s σ H Q I h
  refine wpAny_Call_method_late hbase hfew hline rfl (thn (ho pins s σ H _ I h) fun v s1 ⟨x, H1, I1, r1, ty, q1⟩ => ?_)
  obtain ⟨h1, h2⟩ := tyV_is I1 r1 ty
  refine ⟨T, id, pa, slot, hty, h1, h2, ?_⟩
  have hA := ha cpos pins s1 σ H1 _ I1 q1
  rw [hs] at hA ⊢
  refine Calls.callWith_builtin (by show (false || (backTo cpos (starEach es X.env)).any (·.1)) = false; rw [hplain] <;> rfl) (Calls.evalArgs_plain ?_)
  exact thn hA fun us s2 ⟨vs, H2, I2, r2, q2⟩ => hm pins s2 σ H2 x vs v us Q I2 r1 r2 q2
/- xs.append(e), list.index on a module's tuple .. are MtR facts of 06m -/
end
end L2

namespace L2
open PySem PySem.Spec PyProof.Rows

def MtM (X : Cx) (id : String) (r : V → List V → Hp → VK → Prop) : Prop :=
  ∀ (pins : List (Addr × Obj)) (s : Shared) (σ : St) (H : Hp) (x : V) (xs : List V) (v : Value) (us : List Value) (Q : VK), Inv X pins σ H s → RelV x v → Vals xs us → r x xs H Q →
    wpAny (model X.prog X.w) X.A (call (.builtin id) (v :: us)) (EP X pins σ Q) X.xe s

/-! ### lists of values -/
theorem Vals.one : ∀ {x : V} {us : List Value}, Vals [x] us → ∃ u, us = [u] ∧ RelV x u
  | _, _, .cons r .nil => ⟨_, rfl, r⟩
theorem Vals.eraseIdx : ∀ {xs : List V} {us : List Value} (i : Nat), Vals xs us → Vals (xs.eraseIdx i) (us.eraseIdx i)
  | _, _, _, .nil => .nil
  | _, _, 0, .cons _ t => t
  | _, _, i + 1, .cons r t => .cons r (Vals.eraseIdx i t)
theorem len_erase {α : Type} : ∀ (l : List α) (i : Nat), (l.eraseIdx i).length ≤ l.length
  | [], _ => Nat.le_refl _
  | _ :: _, 0 => Nat.le_succ _
  | _ :: r, i + 1 => Nat.succ_le_succ (len_erase r i)

section
variable {X : Cx} {pins : List (Addr × Obj)} {σ : St} {H : Hp} {s : Shared} {l b : Addr} {xs ys zs : List V}

/-! ### the two steps: a tracked list is rewritten, a new list is laid -/
theorem Inv.lset {its its' : List Value} {n : Nat} {f : Array Value → Array Value} {t' : Nat} (I : Inv X pins σ H s) (hH : H l = some (.lst xs))
    (e : s.heap.get? l = some { cls := .type "list", data := .seq its.toArray n }) (hf : f its.toArray = its'.toArray) (hv : Vals ys its') (hz : ys.length ≤ sizeLine) :
    Inv X pins σ (upd H l (.lst ys)) { s with heap := s.heap.update l (Obj.mapSeq f), toks := t' } := by
  have q := PySem.IsL.update e f
  rw [hf] at q
  refine I.write (x := l) (e := l) (by rw [hH]; exact trivial) (.inl rfl) (fun b' u hb hu => (Heap.get?_update_other s.heap (Obj.mapSeq f) (Ne.symm hb)).trans hu) ⟨_, q⟩ ?_
  exact ⟨hz, its', _, hv, q⟩
theorem Inv.lnew {its : List Value} {t' : Nat} (I : Inv X pins σ H s) (hv : Vals ys its) (hz : ys.length ≤ sizeLine) :
    Inv X pins σ (upd H s.heap.objs.size (.lst ys)) { s with heap := s.heap.push { cls := .type "list", data := .seq its.toArray }, toks := t' } :=
  I.laid (fun _ _ q => Heap.get?_push_of_some _ q) (Nat.le_refl _) ⟨hz, its, 0, hv, Heap.get?_push_size _ rfl⟩
theorem Inv.fresh (I : Inv X pins σ H s) : H s.heap.objs.size = none := I.hok.fresh (Nat.le_refl _)
theorem Inv.lstM (I : Inv X pins σ H s) (hH : H l = some (.lst xs)) : xs.length ≤ sizeLine ∧ ∃ (its : List Value) (n : Nat), Vals xs its ∧ xs.length = its.length ∧ s.heap.get? l = some { cls := .type "list", data := .seq its.toArray n } := by
  obtain ⟨z, its, n, r, e⟩ := I.hok l _ hH
  exact ⟨z, its, n, r, r.length, e⟩

theorem notLongL {n : Nat} (h : n ≤ sizeLine) : Builtin.List.listTooLong n = false := by
  unfold Builtin.List.listTooLong
  exact decide_eq_false (by omega)
end

section
variable {X : Cx}

/-! ### methods -/
def rAppend : V → List V → Hp → VK → Prop := fun x vs H Q => ∃ l xs y, x = .ref l ∧ vs = [y] ∧ H l = some (.lst xs) ∧ xs.length < sizeLine ∧ Q .non (upd H l (.lst (xs ++ [y])))
theorem mt_append : MtM X "list.append" rAppend := by
  intro pins s σ H x vs v us Q I rx rv h
  obtain ⟨l, xs, y, rfl, rfl, hH, hz, q⟩ := h
  cases rx
  obtain ⟨u, rfl, ru⟩ := rv.one
  obtain ⟨z, its, n, r, hl, e⟩ := I.lstM hH
  refine call_meets F.slot_list_append ⟨_, e, rfl⟩ F.entry_list_append (F.args_list_append_2 _ _) (PySem.list_append l its.toArray n u (by rw [List.size_toArray]; omega)) ⟨e, ?_⟩
  refine ⟨.non, _, I.lset (its' := its ++ [u]) hH e (by simp) (r.append (.cons ru .nil)) ?_, rfl, q⟩
  rw [List.length_append, List.length_singleton]
  omega

def rExtend : V → List V → Hp → VK → Prop := fun x vs H Q => ∃ l b xs zs, x = .ref l ∧ vs = [.ref b] ∧ H l = some (.lst xs) ∧ H b = some (.lst zs) ∧ xs.length + zs.length ≤ sizeLine ∧ Q .non (upd H l (.lst (xs ++ zs)))
theorem mt_extend : MtM X "list.extend" rExtend := by
  intro pins s σ H x vs v us Q I rx rv h
  obtain ⟨l, b, xs, zs, rfl, rfl, hH, hB, hz, q⟩ := h
  cases rx
  obtain ⟨u, rfl, ru⟩ := rv.one
  cases ru
  obtain ⟨z, its, n, r, hl, e⟩ := I.lstM hH
  obtain ⟨z2, its2, n2, r2, hl2, e2⟩ := I.lstM hB
  have hsz : its.toArray.size + its2.toArray.size ≤ sizeLine := by rw [List.size_toArray, List.size_toArray]; omega
  have hlong : ¬ (!its.toArray.isEmpty && Builtin.List.listTooLong (its.toArray.size + its2.toArray.size)) = true := by
    rw [notLongL hsz, Bool.and_false]
    exact Bool.false_ne_true
  refine call_meets F.slot_list_extend ⟨_, e, rfl⟩ F.entry_list_extend (F.args_list_extend_2 _ _)
    (AutoSeq1.list_extend_list_list_0 l its.toArray n b its2.toArray n2 hlong (by rw [List.size_toArray]; omega) (by omega)) ⟨e, e2, ?_⟩
  refine ⟨.non, _, I.lset (its' := its ++ its2) hH e (by simp) (r.append r2) ?_, rfl, q⟩
  rw [List.length_append]
  omega


def rPopAt : V → List V → Hp → VK → Prop := fun x vs H Q => ∃ l xs i k y, x = .ref l ∧ vs = [.int i] ∧ H l = some (.lst xs) ∧ -(2 ^ 63) ≤ i ∧ i < 2 ^ 63 ∧ seqIndex? i xs.length = some k ∧ xs[k]? = some y ∧ Q y (upd H l (.lst (xs.eraseIdx k)))
theorem mt_popAt : MtM X "list.pop" rPopAt := by
  intro pins s σ H x vs v us Q I rx rv h
  obtain ⟨l, xs, i, k, y, rfl, rfl, hH, h1, h2, hk, hy, q⟩ := h
  cases rx
  obtain ⟨u, rfl, ru⟩ := rv.one
  obtain ⟨t, rfl⟩ := ru
  obtain ⟨z, its, n, r, hl, e⟩ := I.lstM hH
  obtain ⟨w, hw, rw'⟩ := r.get hy
  refine call_meets F.slot_list_pop ⟨_, e, rfl⟩ F.entry_list_pop (F.args_list_pop_2 _ _)
    (MeetsSeq.list_pop_at l its.toArray n i t k w (fitsIndex_both h1 h2) (by rw [List.size_toArray, ← hl]; exact hk) (by rw [← Array.getElem?_toList]; exact hw) (by rw [List.size_toArray]; omega)) ⟨e, ?_⟩
  refine ⟨y, _, I.lset (its' := its.eraseIdx k) hH e ?_ (r.eraseIdx k) ?_, rw', q⟩
  · show its.toArray.eraseIdxIfInBounds k = (its.eraseIdx k).toArray
    rw [List.eraseIdxIfInBounds_toArray]
  · have := len_erase xs k
    omega



/-! ### list + list, list += list, list * int -/

/-! ### del xs[i] -/
end

/-! ### xs[a:b] = ys -/
section
variable {prog : Program} {w : World} {A : Around} {E : Value → Shared → Prop} {s : Shared}
end

section
variable {X : Cx}
end
end L2

namespace Att
open PySem PySem.W PySem.Calls PyProof.Rows

/-! ### the script -/
theorem ints_of_wellAll {P : Params} {h : Heap} : ∀ (ns : List Int) (vs : List Value), WellAll P h vs (ns.map WData.int) → IntsAre vs ns := by
  intro ns
  induction ns with
  | nil =>
    intro vs w
    rw [List.map_nil] at w
    cases w
    exact .nil
  | cons n ns ih =>
    intro vs w
    rw [List.map_cons] at w
    cases w with
    | cons a b =>
      cases a
      exact .cons _ _ (ih _ b)

theorem script_of {l : OpenLaw} {n : Nat} (hn : l.most = some n) {P : Params} {h : Heap} {args : List WData} {vals : List Value}
    (hpre : l.row.toRowW.claim.pre args = true) (hwl : WellAll P h vals args) :
    ∃ a vs ns, vals = [Value.ref a] ∧ args = [WData.list (ns.map WData.int)] ∧ h.get? a = some { cls := .type "list", data := .seq vs.toArray } ∧ IntsAre vs ns ∧ ns.length ≤ n := by
  have hsh : WShape.hasAll [] args [.list .int] = true := (pre_splitW hpre).1
  have hc : l.pre.holds [] { args := args } = true := (pre_splitW hpre).2
  obtain ⟨d, r, rfl, h1, h2⟩ := hasAllW_cons hsh
  obtain rfl := hasAllW_nil h2
  obtain ⟨xs, rfl, h3⟩ := hasW_list h1
  obtain ⟨ns, rfl⟩ := items_int h3
  have hlen : ns.length ≤ n := by
    unfold OpenLaw.pre at hc
    have h4 : (WTm.not (.lt (.lit (.int (n : Int))) (.len (.arg 0)))).holds [] { args := [.list (ns.map .int)] } = true := by
      have h4 := (holds_andW hc).1
      rw [hn] at h4
      exact h4
    have h5 := condW_of h4 (w_not (w_lt w_lit (w_len_list (w_arg rfl))))
    rw [List.length_map] at h5
    refine Nat.le_of_not_lt fun q => ?_
    have q' : (n : Int) < ((ns.length : Nat) : Int) := by omega
    first
      | (rw [decide_eq_true q'] at h5; exact absurd h5 (by decide))
      | (simp at h5; omega)
  cases hwl with
  | cons w1 w2 =>
    cases w2
    cases w1 with
    | list ho hall => exact ⟨_, _, ns, rfl, rfl, ho, ints_of_wellAll ns _ hall, hlen⟩

theorem post_true (l : OpenLaw) (args : List WData) : l.row.toRowW.claim.post args (.bool true) args = true :=
  postW_of (r := l.row.toRowW) (X := (true == true))
    (show WShape.has [] (.bool true) .bool = true by first | rfl | decide | simp [WShape.has, WShape.arms, WShape.armsAll])
    (show (WTm.eq .res (.lit (.bool true))).value [] { args := args, res := some (.bool true), after := args } = some (.bool (true == true)) from w_eq_bool (w_res rfl) w_lit) rfl

/-! ### the attachment: holds_open's last premise (the goal 'hc' behind k_head) from a wpAny of the law's body -/

/-- the same from a codeAny of the CALL (for a layer whose function contracts speak of calls) -/
theorem attach_call {l : OpenLaw} {n : Nat} {q : Program} {loose : List Str} {XP : (Str → Option Value) → Heap → Prop} {YP : World → Heap → Prop} {d : DefRec}
    (hn : l.most = some n) (hdf : d.params.defaults = [])
    (call : ∀ (w : World) (s₀ s₁ : Shared) (mg mb : Str → Option Value) (fa : Addr) (o : Obj) (pm cd doc : Value) (a : Addr) (vs : List Value) (ns : List Int),
      Ground q loose [] XP w s₀ mg mb s₁.heap → YP w s₁.heap →
      s₁.heap.get? fa = some o → o.data = .func (docDef d.name d.params d.body d.scope pm cd doc) → s₁.heap.CodeRec cd d.name → mg d.name = some (.ref fa) →
      s₁.heap.get? a = some { cls := .type "list", data := .seq vs.toArray } → IntsAre vs ns → ns.length ≤ n → s₁.gens = #[] →
      codeAny (model l.prog w) callerA (.call (.ref fa) ⟨[.ref a], []⟩) (fun r s' => r = .ok (.ret (.bool true)) ∧ OldK s₁.heap s'.heap ∧ s'.os = s₁.os ∧ AllBare s'.gens) s₁) :
    WalkO q loose XP YP l.row.toRowW d [] (fun f vs => PySem.call f vs) := by
  intro w s₀ s₁ mg mb G Y fa o pm cd doc dV kV ho hd hcd hD hmg hg args vals as hpre hlay hrd hwl hlo
  obtain rfl : dV = .none := Dflts.none hD hdf
  obtain rfl : kV = .none := Dflts.noKw hD
  obtain ⟨a, vs, ns, rfl, rfl, hobj, hints, hlen⟩ := script_of hn hpre hwl
  refine enter_call (codeAny_mono (call w s₀ s₁ mg mb fa o pm cd doc a vs ns G Y ho (fd_plain hd) hcd hmg hobj hints hlen hg) fun r s' hq => ?_)
  obtain ⟨rfl, h2, h3, h4⟩ := hq
  exact ⟨.inl ⟨.bool true, .bool true, [], rfl, fun _ => rfl, .bool true, post_true l _, fun _ => ⟨List.Pairwise.nil, fun _ hm => (nomatch hm)⟩⟩, h2, h3, h4⟩


/-! ### rules over ANY heap (no ledger) from facts about the written part K: the library's own take a ledger (News) for what they write -/
section
variable {prog : Program} {w : World} {A : Around} {E : Value → Shared → Prop} {s : Shared} {K : Frag}





/-! the whole heap as the ledger: makes every rule that writes through a ledger a rule over any heap -/

end
end Att

namespace L2
open PySem PySem.Spec PyProof.Rows

theorem vals_ints : ∀ {vs : List Value} {ns : List Int}, IntsAre vs ns → Vals (ns.map V.int) vs
  | _, _, .nil => .nil
  | _, _, .cons n t h => .cons ⟨t, rfl⟩ (vals_ints h)

/-- nothing is tracked but the script, known to the object (or it is an object of the module) -/
def Only (H : Hp) : Prop := ∀ b, H b = none ∨ ∃ o xs, H b = some (.frz o (.lst xs))

/-- THE HEAD: the law's promise, at the heap behind the top. F, the promise of the law's def, may use that base is part of the heap (so K.In base, base.Ns mainGlobals mg stand in Mod) -/
theorem law_call {P : Program} {w : World} {K : PySem.W.Frag} {mg mb : Str → Option Value} {CX : CXT} {k : Nat} {fa a : Addr} {fd : FuncData} {x : Str} {sp : Sp} {s₁ : Shared} {vs : List Value} {ns : List Int}
    (KX : K.In s₁.heap) (hns : s₁.heap.Ns mainGlobals mg) (hb : s₁.heap.Ns builtinsNs mb) (hbb : ∀ x : Str, x ≠ "__name__" → mb x = bootBuiltins x) (hlim : s₁.heap.NoLimit) (hg : s₁.gens = #[])
    (ha : s₁.heap.get? a = some { cls := .type "list", data := .seq vs.toArray }) (hi : IntsAre vs ns) (hl : ns.length ≤ sizeLine) (hr : Room k callerA)
    (F : ∀ base : Heap, K.In base → base.Ns mainGlobals mg → FnOk P w K mg base CX k fa fd [x] sp) (hbind : ∀ (s : Shared) (u : Value), BindsTo s fd ⟨[u], []⟩ [(x, u)])
    (hsp : ∀ H : Hp, Only H → SqL K H a (ns.map V.int) → sp [.ref a] H (fun v _ => v = .bl true) fun _ _ _ => False)
    (hCX : ∀ H e s', CX [] H s₁ (fun _ _ _ => False) e s' → False) :
    codeAny (model P w) callerA (.call (.ref fa) ⟨[.ref a], []⟩) (fun r s' => r = .ok (.ret (.bool true)) ∧ OldK s₁.heap s'.heap ∧ s'.os = s₁.os ∧ AllBare s'.gens) s₁ := by
  have rv := vals_ints hi
  have lenV := hi.length
  -- from an abstract heap in which nothing but the script may be tracked
  have core : ∀ H : Hp, Only H → SqL K H a (ns.map V.int) → HOk P w H s₁.heap → (∀ b, H b ≠ none → b = a) → (H a ≠ none → K.lookup a = none) →
      codeAny (model P w) callerA (.call (.ref fa) ⟨[.ref a], []⟩) (fun r s' => r = .ok (.ret (.bool true)) ∧ OldK s₁.heap s'.heap ∧ s'.os = s₁.os ∧ AllBare s'.gens) s₁ := by
    intro H hO hS hok hA hK
    have base_of : ∀ {b : Addr} {o : Obj}, s₁.heap.get? b = some o → H b = none → (hidT s₁.heap H).get? b = some o := fun e n => hidT_get e n
    have noA : ∀ {b : Addr} {o : Obj} {es : Array DictEntry} {ep : Nat}, s₁.heap.get? b = some o → o.data = .dict es ep → H b = none := fun {b o es ep} e d => by
      cases q : H b with
      | none => rfl
      | some u =>
        have e' : b = a := hA b (by rw [q]; simp)
        subst e'
        rw [ha] at e; cases e
        have d' : Data.seq vs.toArray _ = Data.dict es ep := d
        cases d'
    have nsK : ∀ {b : Addr} {m : Str → Option Value}, s₁.heap.Ns b m → (hidT s₁.heap H).Ns b m := fun {b m} ⟨o, es, ep, e, d, r⟩ => ⟨o, es, ep, base_of e (noA e d), d, r⟩
    have hKb : K.In (hidT s₁.heap H) := fun b o e => base_of (KX b o e) (by
      cases q : H b with
      | none => rfl
      | some u =>
        have e' : b = a := hA b (by rw [q]; simp)
        subst e'
        rw [hK (by rw [q]; simp)] at e; cases e)
    have hM : Mod K mg (hidT s₁.heap H) := ⟨hKb, nsK hns, ⟨mb, nsK hb, hbb⟩, let ⟨mc, h1, h2⟩ := hlim; ⟨mc, nsK h1, h2⟩⟩
    have e0 : Env0 P w K mg (hidT s₁.heap H) callerA [] s₁ H := ⟨rfl, hM, fun b o e => of_hidT e, Nat.le_of_eq (hidT_size _ _), trivial, fun b hb => absurd (show b ∈ ([] : List Addr) from hb) (by simp), hok, .of_eq hg⟩
    refine codeAny_mono ((F _ hKb (nsK hns)).run callerA [] s₁ H ⟨[.ref a], []⟩ [.ref a] [.ref a] _ _ hr e0 (hbind s₁ (.ref a)) (.cons rfl .nil) (hsp H hO hS)) fun r s' h => ?_
    cases r with
    | error e => exact (hCX H e s' h).elim
    | ok fl =>
      cases fl with
      | next => exact False.elim h
      | brk => exact False.elim h
      | cont => exact False.elim h
      | ret u =>
        obtain ⟨v, H', os, bare, un, hok', r', q⟩ := h
        have q' : v = .bl true := q
        subst q'
        obtain rfl : u = Value.bool true := r'
        refine ⟨rfl, OldK.of_keep fun b o e => ?_, os, bare⟩
        cases q : H b with
        | none => exact un.keep b o e q (by intro z; exact absurd (show b ∈ ([] : List Addr) from z) (by simp)) (by simp)
        | some u =>
          rcases hO b with z | ⟨ob, xs, z⟩
          · rw [q] at z; cases z
          · have z2 := un.frzs b ob _ z
            obtain ⟨e1, _⟩ := hok b _ z
            obtain ⟨e2, _⟩ := hok' b _ z2
            rw [e] at e1; cases e1
            exact e2
  cases hk : K.lookup a with
  | some o =>
    -- the script is one of the module's own objects
    have e := KX a o hk
    rw [ha] at e
    cases e
    refine core (fun _ => none) (fun _ => .inl rfl) (.inr ⟨_, vs.toArray, _, hk, rfl, rfl, rfl, by rw [List.size_toArray, lenV]; exact hl, by simpa using rv⟩) (fun b u z => by have z' : (none : Option HO) = some u := z; cases z') (fun b z => absurd rfl z) fun z => absurd rfl z
  | none =>
    refine core (fun b => if b = a then some (.frz { cls := .type "list", data := .seq vs.toArray } (.lst (ns.map V.int))) else none) (fun b => ?_) (.inl (.inr ⟨{ cls := .type "list", data := .seq vs.toArray }, if_pos rfl⟩)) (fun b u z => ?_) (fun b z => ?_) fun _ => hk
    · by_cases hb : b = a
      · exact .inr ⟨_, _, if_pos hb⟩
      · exact .inl (if_neg hb)
    · by_cases hb : b = a
      · have z' := (if_pos hb).symm.trans z
        cases z'
        subst hb
        exact ⟨ha, by rw [List.length_map]; exact hl, vs, _, rv, ha⟩
      · have z' := (if_neg hb).symm.trans z
        cases z'
    · by_cases hb : b = a
      · exact hb
      · exact absurd (if_neg hb) z
end L2

namespace L2
open PySem PySem.Spec PyProof.Rows


/-- the goal that k_head leaves (case hc), from the law's promise. F gives the function object fd (K's own) once, then the promise over every base -/
theorem walk_of {l : PySem.W.OpenLaw} {n k : Nat} {q : Program} {loose : List Str} {XP : (Str → Option Value) → Heap → Prop} {YP : World → Heap → Prop} {d : DefRec} {K : Params → PySem.W.Frag} {CX : World → CXT} {sp : World → Sp} {x : Str}
    (hn : l.most = some n) (hn2 : n ≤ sizeLine) (hdf : d.params.defaults = []) (hr : Room k callerA)
    (hY : ∀ (w : World) (h : Heap), YP w h → (K w.params).In h)
    (F : ∀ (w : World) (mg : Str → Option Value) (fa : Addr) (h : Heap), (K w.params).In h → h.Ns mainGlobals mg → mg d.name = some (.ref fa) →
      ∃ fd : FuncData, (∀ (s : Shared) (u : Value), BindsTo s fd ⟨[u], []⟩ [(x, u)]) ∧
        ∀ base : Heap, (K w.params).In base → base.Ns mainGlobals mg → FnOk l.prog w (K w.params) mg base (CX w) k fa fd [x] (sp w))
    (hsp : ∀ (w : World) (H : Hp) (a : Addr) (ns : List Int), ns.length ≤ n → Only H → SqL (K w.params) H a (ns.map V.int) → sp w [.ref a] H (fun v _ => v = .bl true) fun _ _ _ => False)
    (hCX : ∀ (w : World) (H : Hp) (s : Shared) (e : Value) (s' : Shared), CX w [] H s (fun _ _ _ => False) e s' → False) :
    PySem.W.WalkO q loose XP YP l.row.toRowW d [] (fun f vs => PySem.call f vs) := by
  refine Att.attach_call hn hdf fun w s₀ s₁ mg mb fa o pm cd doc a vs ns G Y ho hd hcd hmg hobj hints hlen hg => ?_
  have KX := hY w _ Y
  obtain ⟨fd, hb, hF⟩ := F w mg fa _ KX G.T.g hmg
  exact law_call KX G.T.g G.T.b G.T.builtins G.T.nolimit hg hobj hints (Nat.le_trans hlen hn2) hr hF hb (fun H hO hS => hsp w H a ns hlen hO hS) fun H e s' => hCX w H s₁ e s'
end L2


/-! SHORT WORDS over the layer: a def of the text, its body, what a loop and a test want. -/
namespace L2
open PySem PySem.Spec PyProof.Rows

/-! ### the text by places -/
def defArgs (s : Stmt) : Arguments := match s with
  | .FunctionDef _ a _ _ _ _ _ _ _ _ => a
  | _ => { posonlyargs := [], args := [], vararg := none, kwonlyargs := [], kw_defaults := [], kwarg := none, defaults := [] }
def defBody (s : Stmt) : List Stmt := match s with
  | .FunctionDef _ _ b _ _ _ _ _ _ _ => b
  | _ => []
def defScope (s : Stmt) : Scope := match s with
  | .FunctionDef _ _ _ _ _ _ sc _ _ _ => sc
  | _ => { kind := .function, names := [], isGenerator := false, isCoroutine := false }

/-! ### no exception leaves a def -/
abbrev CX0 : CXT := fun _ _ _ _ _ _ => False
abbrev E0 : XK := fun _ _ _ => False
theorem pass0 {X : Cx} : Passes CX0 X E0 := fun _ _ _ _ _ _ _ h => h.elim

/-! ### a def (or method) of the text as it stands behind the top -/
structure Fun (K : PySem.W.Frag) (x qual : Str) (st : Stmt) (f : Addr) (fd : FuncData) : Prop where
  ex : ∃ (oc : Value) (od : Option Addr) (kV doc pm : Value) (an : Option Addr) (cdv ct : Value) (osl : Array (Option Value)),
    fd = PySem.W.fnOf x qual (defArgs st) (defBody st) (defScope st) .none kV doc pm an cdv ct ∧ K.lookup f = some ⟨oc, od, .func fd, osl⟩ ∧ PySem.W.codeIn K cdv qual = true
  kp : PySem.W.keepIn K (.ref f) = true
section
variable {P : Program} {w : World} {K : PySem.W.Frag} {mg : Str → Option Value} {base : Heap}
/-- THE RULE for a def: its body as a term of rules, and the reading of that term -/
theorem Fun.ok {x qual : Str} {st : Stmt} {f : Addr} {fd : FuncData} {N ps : List Str} {k : Nat} {sp : Sp} (F : Fun K x qual st f fd) (S : FnScope N ps (defScope st)) (len : ∀ vs H Q E, sp vs H Q E → vs.length = ps.length)
    (hbody : ∀ (cdv : Value) (A : Around) (outer : List Env) (s : Shared) (H : Hp) (vs : List V) (Q : VK) (E : XK), Room k (A.deeper (envOfC qual (defScope st) s.heap.objs.size f cdv)) → sp vs H Q E →
      ∃ t, PSs (cxOf CX0 P w K mg base N qual (defScope st) f cdv A outer s H E).nox (defBody st) t ∧ t { nx := fun _ H' => Q .non H', rt := Q } (start N vs) H) : FnOk P w K mg base CX0 (k + 1) f fd ps sp := by
  obtain ⟨oc, od, kV, doc, pm, an, cdv, ct, osl, rfl, lk, hcd⟩ := F.ex
  refine fn_of lk hcd S len fun A outer s H vs Q E hr hsp => ?_
  obtain ⟨t, h, q⟩ := hbody cdv A outer s H vs Q E hr hsp
  exact ⟨t, h.nox, q⟩
/-- how its arguments bind (no defaults): h is «fun _ _ _ _ _ _ us hl => match us, hl with | [_, _], _ => rfl», one _ a parameter -/
theorem Fun.binds {x qual : Str} {st : Stmt} {f : Addr} {fd : FuncData} {ps : List Str} (F : Fun K x qual st f fd)
    (h : ∀ (kV doc pm : Value) (an : Option Addr) (cdv ct : Value) (us : List Value), us.length = ps.length → bindArgs (PySem.W.fnOf x qual (defArgs st) (defBody st) (defScope st) .none kV doc pm an cdv ct) ⟨us, []⟩ = pure (ps.zip us)) : Binds K fd ps [] := by
  obtain ⟨oc, od, kV, doc, pm, an, cdv, ct, osl, rfl, lk, hcd⟩ := F.ex
  exact .all (h kV doc pm an cdv ct)
theorem fun_mk {x qual : Str} {st : Stmt} {f : Addr} {oc : Value} {od an : Option Addr} {osl : Array (Option Value)} {kV doc pm cdv ct : Value} (l : K.lookup f = some ⟨oc, od, .func (PySem.W.fnOf x qual (defArgs st) (defBody st) (defScope st) .none kV doc pm an cdv ct), osl⟩)
    (c : PySem.W.codeIn K cdv qual = true) (k : PySem.W.keepIn K (.ref f) = true) : Fun K x qual st f (PySem.W.fnOf x qual (defArgs st) (defBody st) (defScope st) .none kV doc pm an cdv ct) := ⟨⟨oc, od, kV, doc, pm, an, cdv, ct, osl, rfl, l, c⟩, k⟩
end
theorem hu_of {A : Around} {k : Nat} (hr : Room k A) : A.units + 1 < cLine := Nat.lt_of_le_of_lt (Nat.add_le_add_left (by decide : 1 ≤ 64) _) hr.units

/-! ### expressions in short: the name that stands in the i-th slot -/
section
variable {X : Cx}
theorem pv (i : Nat) {x : Str} {pos : Pos} (hN : X.N[i]? = some x := by rfl) (hv : Vis X.env.scope x := by first | exact Or.inl rfl | exact Or.inr (Or.inl rfl) | exact Or.inr (Or.inr rfl)) (hd : (x == ("__debug__" : Str)) = false := by decide)
    (hcd : (x == ("__classdict__" : Str)) = false := by decide) : PE X (.Name x pos) (tVar i) := pe_var hN hv hd hcd
end

/-! ### tests -/
theorem iteF {A B : Prop} (h : B) : if false = true then A else B := by
  rw [if_neg Bool.false_ne_true]
  exact h
theorem iteT {A B : Prop} (h : A) : if true = true then A else B := by
  rw [if_pos rfl]
  exact h
theorem ite2 {c A B : Prop} [Decidable c] (h1 : c → A) (h2 : ¬ c → B) : if c then A else B := by
  by_cases h : c
  · rw [if_pos h]
    exact h1 h
  · rw [if_neg h]
    exact h2 h
theorem iteNS {c A B : Prop} [Decidable c] (hc : c) (h : B) : if (!decide c) = true then A else B := by
  rw [decide_eq_true hc]
  exact iteF h

/-! ### heaps -/
/-- all that was tracked is as it was -/
def Same (H H' : Hp) : Prop := ∀ b o, H b = some o → H' b = some o
theorem Same.refl (H : Hp) : Same H H := fun _ _ h => h
theorem Same.trans {H H1 H2 : Hp} (a : Same H H1) (b : Same H1 H2) : Same H H2 := fun c o h => b c o (a c o h)
theorem Same.free {H H' : Hp} (e : Same H H') {l : Addr} (h : H' l = Option.none) : H l = Option.none := by
  cases q : H l with
  | none => rfl
  | some o =>
    rw [e l o q] at h
    cases h
theorem Same.seq {K : PySem.W.Frag} {H H' : Hp} {a : Addr} {xs : List V} (e : Same H H') (h : SqL K H a xs) : SqL K H' a xs := by
  rcases h with (h | ⟨o, h⟩) | h
  · exact .inl (.inl (e _ _ h))
  · exact .inl (.inr ⟨o, e _ _ h⟩)
  · exact .inr h

end L2


set_option Elab.async false
set_option linter.all false
set_option maxRecDepth 100000

namespace L2
open PySem PySem.Spec PyProof.Rows

/-! ### a comprehension's block -/
theorem lookup_relabel_free {env : Env} : ∀ {names : List (Str × NameKind)} {x : Str}, names.lookup x = some .free →
    ((names.map fun (n, k) => if (k == NameKind.free && env.scope.kind == .function && env.kindOf n == some .cell) then (n, NameKind.cell) else (n, k)).lookup x = some .cell ∨
    (names.map fun (n, k) => if (k == NameKind.free && env.scope.kind == .function && env.kindOf n == some .cell) then (n, NameKind.cell) else (n, k)).lookup x = some .free)
  | [], _, h => by simp at h
  | (n, k) :: r, x, h => by
    have ih := @lookup_relabel_free env r x
    show (List.lookup x ((if (k == NameKind.free && env.scope.kind == .function && env.kindOf n == some .cell) = true then (n, NameKind.cell) else (n, k)) :: _) = _ ∨ List.lookup x ((if (k == NameKind.free && env.scope.kind == .function && env.kindOf n == some .cell) = true then (n, NameKind.cell) else (n, k)) :: _) = _)
    cases hx : x == n with
    | true =>
      simp only [List.lookup_cons, hx] at h
      cases h
      by_cases hc : (NameKind.free == NameKind.free && env.scope.kind == .function && env.kindOf n == some .cell) = true
      · rw [if_pos hc]; left; simp only [List.lookup_cons, hx]
      · rw [if_neg hc]; right; simp only [List.lookup_cons, hx]
    | false =>
      simp only [List.lookup_cons, hx] at h
      by_cases hc : (k == NameKind.free && env.scope.kind == .function && env.kindOf n == some .cell) = true
      · rw [if_pos hc]; simp only [List.lookup_cons, hx]; exact ih h
      · rw [if_neg hc]; simp only [List.lookup_cons, hx]; exact ih h
theorem lookup_relabel_inv {env : Env} : ∀ {names : List (Str × NameKind)} {x : Str}, (∀ y ∈ names, y.2 ≠ .cell) →
    ((names.map fun (n, k) => if (k == NameKind.free && env.scope.kind == .function && env.kindOf n == some .cell) then (n, NameKind.cell) else (n, k)).lookup x = some .cell ∨
    (names.map fun (n, k) => if (k == NameKind.free && env.scope.kind == .function && env.kindOf n == some .cell) then (n, NameKind.cell) else (n, k)).lookup x = some .free) →
    (x, NameKind.free) ∈ names
  | [], _, _, h => by simp at h
  | (n, k) :: r, x, hn, h => by
    have ih := @lookup_relabel_inv env r x (fun y hy => hn y (List.mem_cons_of_mem _ hy))
    have hk : k ≠ .cell := hn (n, k) List.mem_cons_self
    have h' : (List.lookup x ((if (k == NameKind.free && env.scope.kind == .function && env.kindOf n == some .cell) = true then (n, NameKind.cell) else (n, k)) :: r.map fun (n, k) => if (k == NameKind.free && env.scope.kind == .function && env.kindOf n == some .cell) then (n, NameKind.cell) else (n, k)) = some NameKind.cell ∨ List.lookup x ((if (k == NameKind.free && env.scope.kind == .function && env.kindOf n == some .cell) = true then (n, NameKind.cell) else (n, k)) :: r.map fun (n, k) => if (k == NameKind.free && env.scope.kind == .function && env.kindOf n == some .cell) then (n, NameKind.cell) else (n, k)) = some NameKind.free) := h
    cases hx : x == n with
    | true =>
      have e : x = n := eq_of_beq hx
      subst e
      by_cases hc : (k == NameKind.free && env.scope.kind == .function && env.kindOf x == some .cell) = true
      · have hkf : k = .free := by
          have := hc
          simp only [Bool.and_eq_true] at this
          exact eq_of_beq this.1.1
        subst hkf; exact List.mem_cons_self
      · rw [if_neg hc] at h'
        simp only [List.lookup_cons, hx] at h'
        rcases h' with h' | h'
        · cases h'; exact absurd rfl hk
        · cases h'; exact List.mem_cons_self
    | false =>
      refine List.mem_cons_of_mem _ (ih ?_)
      by_cases hc : (k == NameKind.free && env.scope.kind == .function && env.kindOf n == some .cell) = true
      · rw [if_pos hc] at h'; simp only [List.lookup_cons, hx] at h'; exact h'
      · rw [if_neg hc] at h'; simp only [List.lookup_cons, hx] at h'; exact h'

theorem closure_go {env : Env} (f : Str × NameKind → List (Str × Addr) → Sem (ForInStep (List (Str × Addr))))
    (h1 : ∀ n k r, (k == NameKind.free) = false → f (n, k) r = pure (.yield r)) (h2 : ∀ n c r, env.cells.lookup n = some c → f (n, .free) r = pure (.yield ((n, c) :: r))) :
    ∀ (l : List (Str × NameKind)) (acc : List (Str × Addr)), (∀ y ∈ l, y.2 = .free → ∃ c, env.cells.lookup y.1 = some c) → (∀ n c, acc.lookup n = some c → env.cells.lookup n = some c) →
      ∃ cl, forIn l acc f = pure cl ∧ (∀ n c, cl.lookup n = some c → env.cells.lookup n = some c) ∧ (∀ y ∈ l, y.2 = .free → ∃ c, cl.lookup y.1 = some c) ∧ ∀ n c, acc.lookup n = some c → ∃ c', cl.lookup n = some c'
  | [], acc, _, ha => ⟨acc, rfl, ha, ⟨fun y hy _ => absurd hy List.not_mem_nil, fun n c e => ⟨c, e⟩⟩⟩
  | (n, k) :: r, acc, hl, ha => by
    cases hk : k == NameKind.free with
    | false =>
      obtain ⟨cl, e, p1, p2, p3⟩ := closure_go f h1 h2 r acc (fun y hy => hl y (List.mem_cons_of_mem _ hy)) ha
      refine ⟨cl, ?_, p1, fun y hy hf => ?_, p3⟩
      · rw [List.forIn_cons, h1 n k acc hk, pure_bind]; exact e
      · rcases List.mem_cons.mp hy with rfl | hy
        · rw [show k = .free from hf] at hk; cases hk
        · exact p2 y hy hf
    | true =>
      have hkf : k = .free := eq_of_beq hk
      subst hkf
      obtain ⟨c, hc⟩ := hl (n, .free) List.mem_cons_self rfl
      have hc : env.cells.lookup n = some c := hc
      obtain ⟨cl, e, p1, p2, p3⟩ := closure_go f h1 h2 r ((n, c) :: acc) (fun y hy => hl y (List.mem_cons_of_mem _ hy)) (fun m d hm => by
        rw [List.lookup_cons] at hm
        cases hx : m == n with
        | true => rw [hx] at hm; cases hm; rw [eq_of_beq hx]; exact hc
        | false => rw [hx] at hm; exact ha m d hm)
      have here : ∃ c', cl.lookup n = some c' := p3 n c (by rw [List.lookup_cons]; simp)
      refine ⟨cl, ?_, p1, fun y hy hf => ?_, fun m d hm => ?_⟩
      · rw [List.forIn_cons, h2 n c acc hc, pure_bind]; exact e
      · rcases List.mem_cons.mp hy with rfl | hy
        · exact here
        · exact p2 y hy hf
      · cases hx : m == n with
        | true => rw [eq_of_beq hx]; exact here
        | false => exact p3 m d (by rw [List.lookup_cons, hx]; exact hm)
theorem closure_ex {scope : Scope} {env : Env} (h : ∀ y ∈ scope.names, y.2 = .free → ∃ c, env.cells.lookup y.1 = some c) :
    ∃ cl, closureFor scope env = pure cl ∧ (∀ n c, cl.lookup n = some c → env.cells.lookup n = some c) ∧ ∀ y ∈ scope.names, y.2 = .free → ∃ c, cl.lookup y.1 = some c := by
  obtain ⟨cl, e, p1, p2, _⟩ := closure_go (env := env) (fun x r => if (x.2 == NameKind.free) = true then (cellOf env x.1 >>= fun a => pure (ForInStep.yield ((x.1, a) :: r))) else pure (ForInStep.yield r))
    (fun n k r hk => by simp only [hk, Bool.false_eq_true, if_false]) (fun n c r hc => by simp only [cellOf, hc, beq_self_eq_true, if_true, pure_bind]) scope.names [] h (fun n c e => by simp at e)
  refine ⟨cl, ?_, p1, p2⟩
  rw [show closureFor scope env = (forIn scope.names [] (fun (x : Str × NameKind) (r : List (Str × Addr)) => if (x.2 == NameKind.free) = true then (cellOf env x.1 >>= fun a => pure (ForInStep.yield ((x.1, a) :: r))) else pure (ForInStep.yield r)) >>= fun cs => pure cs) from rfl, e, pure_bind]

section
variable {prog : Program} {w : World} {A : Around} {R : Result → Shared → Prop} {s : Shared}
theorem codeAny_compLoop_own {elt target iter : Expr} {scope : Scope} {pos : Pos} {it acc : Value} {env : Env} (I : Nat → Shared → Prop)
    (turn : ∀ n s, I n s → wpAny (model prog w) A (pyNext it) (fun r s1 => match r with
      | none => R (.ok .next) s1
      | some v => wpAny (model prog w) A (letOwnedTupleGo target it v) (fun _ s0 => wpAny (model prog w) A (assign target env v) (fun _ s2 => wpAny (model prog w) A (eval elt env) (fun x s3 =>
          wpAny (model prog w) A (call (.builtin "list.append") [acc, x]) (fun _ s4 => ∃ m, m < n ∧ I m s4) (notedBy (model prog w) A env fun e s' => R (.error e) s') s3)
          (notedBy (model prog w) A env fun e s' => R (.error e) s') s2) (notedBy (model prog w) A env fun e s' => R (.error e) s') s0) (notedBy (model prog w) A env fun e s' => R (.error e) s') s1) (notedBy (model prog w) A env fun e s' => R (.error e) s') s)
    (n : Nat) (h : I n s) :
    codeAny (model prog w) A (.compLoop (.ListComp elt [⟨target, iter, [], 0⟩] scope pos) 0 it acc env) R s := by
  refine codeAny_loop rfl I (fun n s hI => ?_) n h
  show wpAny _ _ ((compTurn (.ListComp elt [⟨target, iter, [], 0⟩] scope pos) 0 it acc env).onRaise (fun x => do noteFrame x env; theTreesLotGoes x)) _ _ s
  refine wpAny_noted ?_
  rw [compTurn_list1]
  refine wpAny_bind (wpAny_standAt (wpAny_bind (wpAny_mono (turn n s hI) (fun r s1 h1 => ?_) fun _ _ h' => h')))
  cases r with
  | none => exact wpAny_pure h1
  | some v =>
    refine wpAny_bind (wpAny_mono h1 (fun _ s0 h0 => ?_) fun _ _ h' => h')
    exact wpAny_bind (wpAny_mono h0 (fun _ s2 h2 => wpAny_bind (wpAny_bind (wpAny_mono h2 (fun x s3 h3 => wpAny_bind (wpAny_mono h3
      (fun _ s4 h4 => wpAny_pure (wpAny_pure ⟨rfl, h4⟩)) fun _ _ h' => h')) fun _ _ h' => h'))) fun _ _ h' => h')
end

/-- the block's names at its start: own ones unset, then the free ones as they are outside -/
def blkStart (own : Nat) (fv : List Nat) (σ : St) : St := List.replicate own none ++ fv.map fun j => (σ[j]?).getD none
def Cx.blk (X : Cx) (scope : Scope) (N' : List Str) (cl : List (Str × Addr)) (s3 : Shared) (H3 : Hp) (ex : List Addr) : Cx :=
  { X with N := N', s₀ := s3, H₀ := H3, env := compEnvC scope cl s3.heap.objs.size X.env, outer := X.stack, stack := X.stack, ex := ex, fn := fun _ => false, pn := [], xe := fun _ _ => False }
/-- what of the text a block must have; N': own names first (own of them), then the free ones, which stand in the slots fv of the names outside -/
structure BlkScope (X : Cx) (scope : Scope) (N' : List Str) (own : Nat) (fv : List Nat) : Prop where
  kind : scope.kind = .function
  nocell : ∀ y ∈ scope.names, y.2 ≠ .cell
  names : ∀ y ∈ scope.names, y.2 = .local → scope.names.lookup y.1 = some .local
  free : ∀ y ∈ scope.names, y.2 = .free → X.env.kindOf y.1 = some .cell ∨ X.env.kindOf y.1 = some .free
  len : N'.length = own + fv.length
  fvs : ∀ i : Fin fv.length, ∃ x, N'[own + i.val]? = some x ∧ X.N[fv[i.val]]? = some x ∧ scope.names.lookup x = some .free ∧ (X.env.kindOf x = some .cell ∨ X.env.kindOf x = some .free)

theorem mem_of_lookup {x : Str} {k : NameKind} : ∀ {l : List (Str × NameKind)}, l.lookup x = some k → (x, k) ∈ l
  | [], h => by simp at h
  | (n, j) :: r, h => by
    rw [List.lookup_cons] at h
    cases hx : x == n with
    | true => rw [hx] at h; cases h; rw [eq_of_beq hx]; exact List.mem_cons_self
    | false => rw [hx] at h; exact List.mem_cons_of_mem _ (mem_of_lookup h)

section
variable {X : Cx} {scope : Scope} {N' : List Str} {own : Nat} {fv : List Nat} {cl : List (Str × Addr)} {pins : List (Addr × Obj)} {σ : St} {H2 : Hp} {s3 : Shared} {fp : List Addr} {h1 : Heap} {t1 : Nat} {m1 : Str → Option Value}
theorem blk_inv (sc : BlkScope X scope N' own fv) (I : Inv X pins σ H2 s3) (f : ∀ b ∈ fp, FpOk X pins H2 b) (fo : ∀ b ∈ fp, b < s3.heap.objs.size)
    (c1 : ∀ n c, cl.lookup n = some c → X.env.cells.lookup n = some c) (c2 : ∀ y ∈ scope.names, y.2 = .free → ∃ c, cl.lookup y.1 = some c)
    (hns : h1.Ns s3.heap.objs.size m1) (old : ∀ b o, s3.heap.get? b = some o → h1.get? b = some o) :
    Inv (X.blk scope N' cl s3 H2 fp) [] (blkStart own fv σ) H2 { s3 with heap := h1, toks := t1 } where
  ok := {
    mod := I.ok.mod
    kind := sc.kind
    glob := I.ok.glob
    blt := I.ok.blt
    above := Nat.le_refl _
    inj := fun x y c hx hy => I.ok.inj x y c (c1 x c hx) (c1 y c hy)
    has := fun x hx => c2 (x, .free) (lookup_relabel_inv (env := X.env) sc.nocell hx) rfl
    cab := fun x c h => nomatch h
    hd := I.ok.hd
    frames := I.ok.frames
    stk := .inl rfl
    exf := fun b hb => ⟨Nat.ne_of_lt (fo b hb), fun x c hc => (f b hb).2.2.2.2.1 x c (c1 x c hc)⟩
    bs := fun b o e => I.bs b o e
    bsz := Nat.le_trans I.ok.bsz I.sz
    noex := fun b o e hb => by
      rcases (f b hb).2.2.2.1 with h | h
      · exact I.ok.noex b o e h
      · exact Nat.lt_irrefl _ (Nat.lt_of_lt_of_le (Heap.lt_size e) (Nat.le_trans I.ok.bsz h))
    exfs := fun b hb hf => by
      rcases List.mem_cons.mp (I.stkSub b hf) with h | h
      · exact (f b hb).2.1 h
      · exact (f b hb).2.2.1 h
    funs := I.stack
    frf := I.stkFree }
  os := rfl
  bare := I.bare
  base := Un.kept old
  loc := by
    refine ⟨m1, hns, fun i x v hi hv _ => ?_⟩
    have hi' : N'[i]? = some x := hi
    unfold blkStart at hv
    by_cases hlt : i < own
    · rw [List.getElem?_append_left (by rw [List.length_replicate]; exact hlt), List.getElem?_replicate, if_pos hlt] at hv
      cases hv
    · rw [List.getElem?_append_right (by rw [List.length_replicate]; omega), List.length_replicate, List.getElem?_map] at hv
      cases hj : fv[i - own]? with
      | none => rw [hj] at hv; cases hv
      | some j =>
        rw [hj] at hv
        have hv' : (σ[j]?).getD none = some v := Option.some.inj hv
        have hσ : σ[j]? = some (some v) := by
          cases e : σ[j]? with
          | none => rw [e] at hv'; cases hv'
          | some o => rw [e] at hv'; simp only [Option.getD_some] at hv'; rw [hv']
        obtain ⟨hk, ej⟩ := List.getElem?_eq_some_iff.mp hj
        obtain ⟨y, y1, y2, y3, y4⟩ := sc.fvs ⟨i - own, hk⟩
        have e1 : own + (i - own) = i := by omega
        simp only [e1] at y1
        rw [hi'] at y1; cases y1
        simp only [ej] at y2
        obtain ⟨m3, hn3, hl3⟩ := I.loc
        obtain ⟨u, ru, lk⟩ := hl3 j x v y2 hσ (by rcases y4 with h | h; exact .inr (.inl h); exact .inr (.inr h))
        refine ⟨u, ru, .inr ⟨lookup_relabel_free y3, ?_⟩⟩
        rcases lk with ⟨h, _⟩ | ⟨_, c, hc, ic⟩
        · rcases y4 with h' | h' <;> rw [h] at h' <;> cases h'
        · obtain ⟨c', hc'⟩ := c2 (x, .free) (mem_of_lookup y3) rfl
          have : c' = c := by have := c1 x c' hc'; rw [hc] at this; exact (Option.some.inj this).symm
          subst this
          exact ⟨c', hc', ic.keeps old⟩
  cell := fun x c hc => let ⟨v, hv⟩ := I.cell x c (c1 x c hc); ⟨v, hv.keeps old⟩
  free := I.fresh
  freeC := fun x c hc => I.freeC x c (c1 x c hc)
  pin := fun p hp => nomatch hp
  hok := I.hok.kept old
  len := by
    show (blkStart own fv σ).length = N'.length
    unfold blkStart
    rw [List.length_append, List.length_replicate, List.length_map, sc.len]
end

/-- W: the invariant by the turn and a measure; acc: where the new list stands -/
def compWalk (J : It) (H1 : Hp) (σ0 : St) (g : TG) (te : TE) (Q : Addr → Hp → Prop) : Prop :=
  ∀ acc, H1 acc = none → ∃ W : Nat → Nat → St → Hp → Prop, (∃ m, W 0 m σ0 (upd H1 acc (.lst []))) ∧ ∀ i m σ' H', W i m σ' H' →
    (J.stop i H' ∧ Q acc H') ∨ (J.go i H' ∧ ∀ x H2, J.yld i H' x H2 → g x σ' H2 fun σ2 H3 => te σ2 H3 fun y H4 => ∃ ys, H4 acc = some (.lst ys) ∧ ys.length < sizeLine ∧ ∃ m', m' < m ∧ W (i + 1) m' σ2 (upd H4 acc (.lst (ys ++ [y]))))
def tComp (wi : TI) (own : Nat) (fv : List Nat) (g : TG) (te : TE) : TE := fun σ H Q => wi σ H fun J H1 => compWalk J H1 (blkStart own fv σ) g te fun acc H' => Q (.ref acc) H'

section
variable {X : Cx} {elt tg iter : Expr} {scope : Scope} {N' : List Str} {own : Nat} {fv : List Nat} {cl : List (Str × Addr)} {pins : List (Addr × Obj)} {σ : St} {H2 : Hp} {s2 : Shared} {fp : List Addr} {it : Addr} {tn : Nat → Heap → Prop} {J : It} {pos : Pos} {g : TG} {te : TE} {Q : Addr → Hp → Prop}
theorem comp_block (hc : X.calm = true) (sc : BlkScope X scope N' own fv) (I2 : Inv X pins σ H2 s2) (T : Turn X.prog X.w X.K tg J fp it tn) (st2 : tn 0 s2.heap) (f2 : ∀ b ∈ fp, FpOk X pins H2 b)
    (c1 : ∀ n c, cl.lookup n = some c → X.env.cells.lookup n = some c) (c2 : ∀ y ∈ scope.names, y.2 = .free → ∃ c, cl.lookup y.1 = some c)
    (hg : ∀ cl s3 H3 ex, PG (X.blk scope N' cl s3 H3 ex) tg g) (he : ∀ cl s3 H3 ex, PE (X.blk scope N' cl s3 H3 ex) elt te)
    (hq : compWalk J H2 (blkStart own fv σ) g te Q) {RR : Value → Addr → Result → Shared → Prop}
    (hRR : ∀ acc C s' H' m, Inv X pins σ H' s' → Q acc H' → s'.heap.Ns C m → H' C = none → C ≠ X.env.locals → X.s₀.heap.objs.size ≤ C → (∀ x c, X.env.cells.lookup x = some c → c ≠ C) → (∀ p ∈ X.pn ++ pins, p.1 ≠ C) → RR (.ref acc) C (.ok .next) s') :
    wpAny (model X.prog X.w) X.A (newList []) (fun acc s3 => wpAny (model X.prog X.w) X.A (newFunctionEnv scope X.env.globals cl [] X.env.qual none .none (some X.env)) (fun cenv s4 =>
      codeAny (model X.prog X.w) X.A (.compStart (.ListComp elt [⟨tg, iter, [], 0⟩] scope pos) 0 (.ref it) acc { cenv with scope := relabel scope X.env }) (RR acc cenv.locals) s4) X.xe s3) X.xe s2 := by
  refine wpAny_newObj_type (wpAny_newFunctionEnv sc.nocell (by intro y hy; simp at hy) (fun h1 hns hsb => ?_) sc.kind)
  dsimp only at hns hsb ⊢
  have I3 : Inv X pins σ (upd H2 s2.heap.objs.size (.lst [])) { s2 with heap := s2.heap.push { cls := .type "list", dict := none, data := .seq ([] : List Value).toArray } } := I2.lnew (t' := s2.toks) .nil (Nat.zero_le _)
  have hacc : H2 s2.heap.objs.size = none := I2.fresh
  obtain ⟨W, ⟨m0, w0⟩, turn⟩ := hq s2.heap.objs.size hacc
  have flt : ∀ b ∈ fp, b < s2.heap.objs.size := fun b hb => by
    obtain ⟨o, e, _⟩ := T.obj _ _ st2 b hb
    exact Heap.lt_size e
  have f3 : ∀ b ∈ fp, FpOk X pins (upd H2 s2.heap.objs.size (.lst [])) b := fun b hb => ⟨by rw [upd_ne (Nat.ne_of_lt (flt b hb))]; exact (f2 b hb).1, (f2 b hb).2⟩
  have st3 : tn 0 (s2.heap.push { cls := .type "list", dict := none, data := .seq ([] : List Value).toArray }) := T.keep _ _ _ st2 fun b _ o e => Heap.get?_push_of_some _ e
  generalize hs3 : ({ s2 with heap := s2.heap.push { cls := .type "list", dict := none, data := .seq ([] : List Value).toArray } } : Shared) = s3 at I3 
  have eh : s2.heap.push { cls := .type "list", dict := none, data := .seq ([] : List Value).toArray } = s3.heap := by rw [← hs3]
  rw [eh] at hns hsb st3
  have old : ∀ b o, s3.heap.get? b = some o → h1.get? b = some o := fun b o e => hsb.extBut b o (Nat.ne_of_lt (Heap.lt_size e)) (Heap.get?_push_of_some _ e)
  have fo3 : ∀ b ∈ fp, b < s3.heap.objs.size := fun b hb => by
    obtain ⟨o, e, _⟩ := T.obj _ _ st3 b hb
    exact Heap.lt_size e
  have est : ({ s2 with heap := h1, toks := s2.toks + ([] : List (Str × Value)).length } : Shared) = { s3 with heap := h1, toks := s3.toks } := by rw [← hs3]; rfl
  have I4 : Inv (X.blk scope N' cl s3 (upd H2 s2.heap.objs.size (.lst [])) fp) [] (blkStart own fv σ) (upd H2 s2.heap.objs.size (.lst [])) { s3 with heap := h1, toks := s3.toks } :=
    blk_inv sc I3 f3 fo3 c1 c2 hns old
  have st4 : tn 0 h1 := T.keep _ _ _ st3 fun b _ o e => old b o e
  have stat : ∀ {H' : Hp}, (∀ b ∈ fp, H' b = none) → ∀ b ∈ fp, FpOk (X.blk scope N' cl s3 (upd H2 s2.heap.objs.size (.lst [])) fp) [] H' b := fun hn b hb =>
    ⟨hn b hb, Nat.ne_of_lt (fo3 b hb), fun hf => by
      rcases List.mem_cons.mp (I3.stkSub b hf) with h | h
      · exact (f3 b hb).2.1 h
      · exact (f3 b hb).2.2.1 h, .inl hb, fun x c hc' => (f3 b hb).2.2.2.2.1 x c (c1 x c hc'), fun p hp => nomatch hp⟩
  have loop : ∀ s4 : Shared, s4 = { s3 with heap := h1, toks := s3.toks } →
      codeAny (model X.prog X.w) X.A (.compLoop (.ListComp elt [⟨tg, iter, [], 0⟩] scope pos) 0 (.ref it) (.ref s2.heap.objs.size) (compEnvC scope cl s3.heap.objs.size X.env)) (RR (.ref s2.heap.objs.size) s3.heap.objs.size) s4 := by
    rintro s4 rfl
    refine codeAny_compLoop_own (fun n s' => ∃ i σ' H', Inv (X.blk scope N' cl s3 (upd H2 s2.heap.objs.size (.lst [])) fp) [] σ' H' s' ∧ tn i s'.heap ∧ (∀ b ∈ fp, H' b = none) ∧ W i n σ' H') ?_ m0
      ⟨0, _, _, I4, st4, fun b hb => (f3 b hb).1, w0⟩
    rintro n s5 ⟨i, σ5, H5, I5, st5, fr5, w5⟩
    rcases turn i n σ5 H5 w5 with ⟨stop, q⟩ | ⟨go, step⟩
    · refine thn (T.done (X.blk scope N' cl s3 (upd H2 s2.heap.objs.size (.lst [])) fp) rfl rfl rfl hc i [] s5 σ5 H5 _ I5 (stat fr5) st5 stop) fun r s6 ⟨hr, I6⟩ => ?_
      subst hr
      obtain ⟨m6, hn6, _⟩ := I6.loc
      refine hRR _ _ s6 H5 m6 (I3.call' (ch := fp) I6.os I6.base I6.hok I6.bare fun b hb => ⟨(f3 b hb).2.2.2.1, (f3 b hb).2.1, (f3 b hb).2.2.2.2.1, (f3 b hb).2.2.2.2.2⟩) q hn6 I6.free (Nat.ne_of_gt I3.lt) I3.sz (fun x c hc' => ?_) fun p hp => ?_
      · obtain ⟨v, o, ho, _⟩ := I3.cell x c hc'
        exact Nat.ne_of_lt (Heap.lt_size ho)
      · exact Nat.ne_of_lt (Heap.lt_size (I3.pin p hp).1)
    · refine thn (T.item (X.blk scope N' cl s3 (upd H2 s2.heap.objs.size (.lst [])) fp) rfl rfl rfl hc i [] s5 σ5 H5 _ I5 (stat fr5) st5 go) fun r s6 ⟨u, hr, h6⟩ => ?_
      subst hr
      refine thn h6 fun _ s7 ⟨x, H7, I7, r7, y7, st7, fr7⟩ => ?_
      have I7' := I7.pinned (stat fr7) (T.obj _ _ st7)
      refine wpAny_mono (hg cl s3 _ fp _ s7 σ5 H7 x u _ I7' r7 (step x H7 y7)) (fun _ s8 ⟨σ8, H8, I8, q8⟩ => ?_) fun _ _ z => z.elim
      refine wpAny_mono (he cl s3 _ fp _ s8 σ8 H8 _ I8 q8) (fun v s9 ⟨y, H9, I9, r9, ys, e9, z9, m', hm', w9⟩ => ?_) fun _ _ z => z.elim
      refine wpAny_mono (mt_append (X := X.blk scope N' cl s3 (upd H2 s2.heap.objs.size (.lst [])) fp) _ s9 σ8 H9 (.ref s2.heap.objs.size) [y] (.ref s2.heap.objs.size) [v] (fun _ H' => ∃ m', m' < n ∧ W (i + 1) m' σ8 H') I9 rfl (.cons r9 .nil) ⟨_, ys, y, rfl, rfl, e9, z9, m', hm', w9⟩) (fun _ s10 ⟨_, H10, I10, _, m10, hm10, w10⟩ => ?_) fun _ _ z => z.elim
      refine ⟨m10, hm10, i + 1, σ8, H10, I10.unpinned (pl := pinsAt fp s7.heap), T.keep _ _ _ st7 fun b hb o e => (I10.pin (b, o) (List.mem_append_right _ (List.mem_append_right _ (mem_pinsAt hb e)))).1, fun b hb => ?_, w10⟩
      obtain ⟨o, e, d⟩ := T.obj _ _ st7 b hb
      exact (I10.pin (b, o) (List.mem_append_right _ (List.mem_append_right _ (mem_pinsAt hb e)))).2.1
  rw [est]
  rw [eh]
  exact codeAny_compStart_list (loop _ rfl) (T.self _ 0 _ _ _ st4 (loop _ rfl))

theorem pe_comp {wi : TI} (hc : X.calm = true) (sc : BlkScope X scope N' own fv) (hi : PI X tg iter wi)
    (hg : ∀ cl s3 H3 ex, PG (X.blk scope N' cl s3 H3 ex) tg g) (he : ∀ cl s3 H3 ex, PE (X.blk scope N' cl s3 H3 ex) elt te)
    (hs : ∀ x, foldedSetIterable iter X.env x = pure x := by intro _; rfl) : PE X (.ListComp elt [⟨tg, iter, [], 0⟩] scope pos) (tComp wi own fv g te) := by
  intro pins s σ H Q I h
  obtain ⟨cl, hcl, c1, c2⟩ := closure_ex (scope := scope) (env := X.env) fun y hy hf => I.ok.has _ (sc.free y hy hf)
  rw [eval_ListComp]
  refine wpAny_comprehension_free (use := none) rfl hs hcl sc.kind sc.names (thn (hi pins s σ H _ I h) fun v s1 h1 => thn h1 fun itv s2 h2 => ?_)
  obtain ⟨it, fp, tn, J, H2, e, I2, T, st2, f2, hq⟩ := h2
  subst e
  refine comp_block (RR := fun acc C => compPost (model X.prog X.w) X.A X.xe none (EP X pins σ Q) acc C) hc sc I2 T st2 f2 c1 c2 hg he hq ?_
  intro acc C s' H' m I' q hn hC hL h0 hcc hp
  exact ⟨m, hn, fun h' sb => ⟨.ref acc, H', I'.turned (t' := s'.toks) (fun b o hb e => sb.extBut b o hb e) hC hL (.inr h0) hcc hp, rfl, q⟩⟩

/-- name = [..], a comprehension that is stored into a plain local name of its own row -/
theorem ps_setComp {wi : TI} {i : Nat} {x : Str} {pos' spos : Pos} (hc : X.calm = true) (sc : BlkScope X scope N' own fv) (hN : X.N.Nodup) (hix : X.N[i]? = some x) (hx : Loc X.env.scope x) (hi : PI X tg iter wi)
    (hg : ∀ cl s3 H3 ex, PG (X.blk scope N' cl s3 H3 ex) tg g) (he : ∀ cl s3 H3 ex, PE (X.blk scope N' cl s3 H3 ex) elt te)
    (hsw : swapsWith (.ListComp elt [⟨tg, iter, [], 0⟩] scope pos) (some (.Name x pos')) spos.line X.env = pure true := by rfl)
    (hs : ∀ x, foldedSetIterable iter X.env x = pure x := by intro _; rfl)
    (hf : X.fn x = true ∨ X.env.scope.names.lookup x = some .local := by first | exact .inl rfl | exact .inr rfl | assumption) :
    PS X (.Assign [.Name x pos'] (.ListComp elt [⟨tg, iter, [], 0⟩] scope pos) spos) (tAsg (tComp wi own fv g te) (gName i)) := by
  intro pins s σ H D I h
  obtain ⟨cl, hcl, c1, c2⟩ := closure_ex (scope := scope) (env := X.env) fun y hy hf => I.ok.has _ (sc.free y hy hf)
  rw [exec_Assign_Name_used _ _ _ _ hsw]
  refine wpAny_bind (wpAny_standAt (wpAny_bind ?_))
  show wpAny _ X.A (do let _ ← comprehension (.ListComp elt [⟨tg, iter, [], 0⟩] scope pos) scope X.env _ (newList []) false (eval iter X.env) (some (assign (.Name x pos') X.env))) _ _ s
  refine wpAny_bind (wpAny_mono (wpAny_comprehension_free (use := some (assign (.Name x pos') X.env)) (Q := fun _ s' => SP X pins D .next s') rfl hs hcl sc.kind sc.names
    (thn (hi pins s σ H _ I h) fun v s1 h1 => thn h1 fun itv s2 h2 => ?_)) (fun _ s' hq => wpAny_pure (wpAny_pure hq)) fun _ _ e => e)
  obtain ⟨it, fp, tn, J, H2, e, I2, T, st2, f2, hq⟩ := h2
  subst e
  refine comp_block (RR := fun acc C => compPost (model X.prog X.w) X.A X.xe (some (assign (.Name x pos') X.env)) (fun _ s' => SP X pins D .next s') acc C) hc sc I2 T st2 f2 c1 c2 hg he hq ?_
  intro acc C s' H' m I' q hn hC hL h0 hcc hp
  show wpAny _ X.A (assign (.Name x pos') X.env (.ref acc)) _ _ _
  refine wpAny_assign_Name (store_ok2 I' hN hix hx (v := .ref acc) rfl (fun s'' I'' ⟨a, sb, ha⟩ => ?_) hf)
  have hCa : C ≠ a := by
    rcases ha with rfl | ha
    · exact hL
    · exact fun z => hcc x a ha z.symm
  refine ⟨m, hn.sameBut sb hCa, fun h' sb' => ⟨_, H', I''.turned (t' := s''.toks) (fun b o hb e => sb'.extBut b o hb e) hC hL (.inr h0) hcc hp, q⟩⟩
end
end L2

set_option Elab.async false
set_option linter.all false
set_option maxRecDepth 100000

namespace L2
open PySem PySem.Spec PyProof.Rows

/-! ### a list taken apart: a, b = xs -/
section
variable {prog : Program} {w : World} {A : Around} {E : Value → Shared → Prop}
end
section
variable {X : Cx} {pos : Pos}

/-! ### all(list of bools) -/

/-! ### min, max of a tuple of ints -/
end

/-! ### data within one another: what a value stands for -/
mutual
inductive Rep (K : PySem.W.Frag) (H : Hp) : V → PyData → Prop
  | non : Rep K H .non .none
  | bl (b : Bool) : Rep K H (.bl b) (.bool b)
  | int (i : Int) : Rep K H (.int i) (.int i)
  | str (x : Str) : Rep K H (.str x) (.str x)
  | lst {a : Addr} {xs : List V} {ds : List PyData} : SqL K H a xs → RepAll K H xs ds → Rep K H (.ref a) (.list ds)
  | tup {a : Addr} {xs : List V} {ds : List PyData} : SqT K H a xs → RepAll K H xs ds → Rep K H (.ref a) (.tuple ds)
inductive RepAll (K : PySem.W.Frag) (H : Hp) : List V → List PyData → Prop
  | nil : RepAll K H [] []
  | cons {x : V} {d : PyData} {xs : List V} {ds : List PyData} : Rep K H x d → RepAll K H xs ds → RepAll K H (x :: xs) (d :: ds)
end
theorem Same.seqT {K : PySem.W.Frag} {H H' : Hp} {a : Addr} {xs : List V} (e : Same H H') (h : SqT K H a xs) : SqT K H' a xs := by
  rcases h with (h | ⟨o, h⟩) | h
  · exact .inl (.inl (e _ _ h))
  · exact .inl (.inr ⟨o, e _ _ h⟩)
  · exact .inr h
mutual
theorem Rep.reads {X : Cx} {pins : List (Addr × Obj)} {σ : St} {H : Hp} {s : Shared} (I : Inv X pins σ H s) : ∀ {v : V} {d : PyData} {u : Value}, Rep X.K H v d → RelV v u → ∃ as, Reads s.heap u d as
  | _, _, _, .non, r => by cases r; exact ⟨_, .none⟩
  | _, _, _, .bl b, r => by cases r; exact ⟨_, .bool b⟩
  | _, _, _, .int i, r => by obtain ⟨t, rfl⟩ := r; exact ⟨_, .int i t⟩
  | _, _, _, .str x, r => by obtain ⟨t, rfl⟩ := r; exact ⟨_, .str x t⟩
  | _, _, _, .lst h q, r => by
    cases r
    obtain ⟨its, rv, pl, _⟩ := I.list h
    obtain ⟨as, ra⟩ := RepAll.reads I q rv
    obtain ⟨o, e, c, n, d⟩ := pl.isList
    exact ⟨_, .list e c d ra⟩
  | _, _, _, .tup h q, r => by
    cases r
    obtain ⟨its, rv, pl, _⟩ := I.tuple h
    obtain ⟨as, ra⟩ := RepAll.reads I q rv
    obtain ⟨o, e, c, n, d⟩ := pl
    exact ⟨_, .tuple e c d ra⟩
theorem RepAll.reads {X : Cx} {pins : List (Addr × Obj)} {σ : St} {H : Hp} {s : Shared} (I : Inv X pins σ H s) : ∀ {xs : List V} {ds : List PyData} {us : List Value}, RepAll X.K H xs ds → Vals xs us → ∃ as, ReadsAll s.heap us ds as
  | _, _, _, .nil, .nil => ⟨_, .nil⟩
  | _, _, _, .cons h q, .cons r rr => by
    obtain ⟨as, ra⟩ := Rep.reads I h r
    obtain ⟨bs, rb⟩ := RepAll.reads I q rr
    exact ⟨_, .cons ra rb⟩
end
section
variable {X : Cx}
/-- == of two things that are data; the parts of one may be the parts of the other -/
def rEqD (K : PySem.W.Frag) (neg : Bool) : R2 := fun x y H Q => ∃ d e, Rep K H x d ∧ Rep K H y e ∧ d.canLay0 = true ∧ e.canLay0 = true ∧ d.depth ≤ 64 ∧ Q (.bl (if neg then !PyData.eqv d e else PyData.eqv d e)) H
theorem op_eqD (hu : X.A.units + 64 < cLine) : OpR X (compareOp .Eq) (rEqD X.K false) := by
  intro pins s σ H x y v u Q I rx ry h
  obtain ⟨d, e, rd, re, ld, le, dd, q⟩ := h
  obtain ⟨as, ra⟩ := rd.reads I rx
  obtain ⟨bs, rb⟩ := re.reads I ry
  exact SeqAt.compareEq_reads ra rb ld le (by omega) ⟨.bl _, H, I, rfl, q⟩
theorem op_neD (hu : X.A.units + 64 < cLine) : OpR X (compareOp .NotEq) (rEqD X.K true) := by
  intro pins s σ H x y v u Q I rx ry h
  obtain ⟨d, e, rd, re, ld, le, dd, q⟩ := h
  obtain ⟨as, ra⟩ := rd.reads I rx
  obtain ⟨bs, rb⟩ := re.reads I ry
  exact SeqAt.compareNe_reads ra rb ld le (by omega) ⟨.bl _, H, I, rfl, q⟩

/-! ### isinstance(x, bool), isinstance(x, int) of a flat value; x is True -/
theorem call_isi {T : String} : CallR X (.builtin "isinstance") (fun xs H Q => ∃ x t k, xs = [x, .ty T] ∧ TyOf X.K H x t ∧ PySem.W.kitOne X.K t (.type T) = some k ∧ Q (.bl k) H) := by
  intro pins s σ H xs us Q I r h
  obtain ⟨x, t, k, rfl, ty, e, q⟩ := h
  obtain ⟨u, w', rfl, r1, r2⟩ := vals2 r
  cases r2
  exact isinst_ok I r1 ty e fun tk => ⟨.bl k, H, I.tok _, rfl, q⟩
end
end L2

namespace L2
open PySem PySem.Spec PyProof.Rows
section
variable {X : Cx}

/-! ### the text of a block, by one look -/
def blkOk (sc0 : Scope) (N0 : List Str) (scope : Scope) (N' : List Str) (own : Nat) (fv : List Nat) : Bool :=
  decide (scope.kind = .function) && (scope.names.all fun y => decide (y.2 ≠ .cell)) && (scope.names.all fun y => decide (y.2 ≠ .local) || decide (scope.names.lookup y.1 = some .local)) &&
  (scope.names.all fun y => decide (y.2 ≠ .free) || (decide (sc0.names.lookup y.1 = some .cell) || decide (sc0.names.lookup y.1 = some .free))) && decide (N'.length = own + fv.length) &&
  ((List.range fv.length).all fun i => match N'[own + i]?, fv[i]? with
    | some x, some j => decide (N0[j]? = some x) && decide (scope.names.lookup x = some .free) && (decide (sc0.names.lookup x = some .cell) || decide (sc0.names.lookup x = some .free))
    | _, _ => false)
theorem blk_of {sc0 : Scope} {N0 : List Str} {scope : Scope} {N' : List Str} {own : Nat} {fv : List Nat} (h : blkOk sc0 N0 scope N' own fv = true) (h1 : X.env.scope = sc0) (h2 : X.N = N0) : BlkScope X scope N' own fv := by
  unfold blkOk at h
  simp only [Bool.and_eq_true, List.all_eq_true, decide_eq_true_eq, Bool.or_eq_true] at h
  obtain ⟨⟨⟨⟨⟨a1, a2⟩, a3⟩, a4⟩, a5⟩, a6⟩ := h
  refine ⟨a1, a2, fun y hy e => ?_, fun y hy e => ?_, a5, fun i => ?_⟩
  · rcases a3 y hy with z | z
    · exact absurd e z
    · exact z
  · rcases a4 y hy with z | z
    · exact absurd e z
    · show X.env.scope.names.lookup y.1 = _ ∨ X.env.scope.names.lookup y.1 = _
      rw [h1]; exact z
  · have := a6 i.val (List.mem_range.mpr i.isLt)
    split at this
    · rename_i x j e1 e2
      simp only [Bool.and_eq_true, decide_eq_true_eq, Bool.or_eq_true] at this
      refine ⟨x, e1, ?_, this.1.2, ?_⟩
      · have e3 : fv[i.val] = j := by
          have := List.getElem?_eq_getElem i.isLt
          rw [e2] at this; exact (Option.some.inj this).symm
        rw [h2, e3]; exact this.1.1
      · show X.env.scope.names.lookup x = _ ∨ X.env.scope.names.lookup x = _
        rw [h1]; exact this.2
    · cases this
end

/-! ### comprehensions: the forms one uses (one name, own slot 0, then the free names' values fvals) -/
theorem Same.put {H : Hp} {a : Addr} {o : HO} (h : H a = none) : Same H (upd H a o) := fun b u e => by
  rw [upd_ne (ne_of_none e h)]; exact e
theorem take_map_snoc {α β : Type} (f : α → β) (xs : List α) (i : Nat) (x : α) (h : xs[i]? = some x) : (xs.take i).map f ++ [f x] = (xs.take (i + 1)).map f := by
  rw [List.take_add_one, h, List.map_append]; rfl
theorem comp_map {K : PySem.W.Frag} {a : Addr} {xs : List V} {H1 : Hp} {fvals : St} {te : TE} {Q : Addr → Hp → Prop} (f : V → V) (hs : SqL K H1 a xs) (hz : xs.length ≤ sizeLine)
    (step : ∀ (i : Nat) (x : V) (H : Hp) (R : VK), xs[i]? = some x → Same H1 H → R (f x) H → te (some x :: fvals) H R)
    (q : ∀ acc, H1 acc = none → Q acc (upd H1 acc (.lst (xs.map f)))) : compWalk (Itl K a) H1 (none :: fvals) (gName 0) te Q := by
  intro acc hacc
  refine ⟨fun i m σ' H' => m = xs.length - i ∧ i ≤ xs.length ∧ (∃ o, σ' = o :: fvals) ∧ H' = upd H1 acc (.lst ((xs.take i).map f)), ⟨_, rfl, Nat.zero_le _, ⟨none, rfl⟩, by simp⟩, ?_⟩
  rintro i m σ' H' ⟨rfl, hi, ⟨o, rfl⟩, rfl⟩
  have sm : Same H1 (upd H1 acc (.lst ((xs.take i).map f))) := Same.put hacc
  by_cases hlt : i < xs.length
  · refine .inr ⟨⟨xs, xs[i], sm.seq hs, List.getElem?_eq_getElem hlt⟩, ?_⟩
    rintro x H2 ⟨rfl, hx⟩
    have hx' := hx xs (sm.seq hs)
    refine step i x _ _ hx' sm ⟨(xs.take i).map f, upd_same, ?_, xs.length - (i + 1), by omega, rfl, hlt, ⟨some x, rfl⟩, ?_⟩
    · rw [List.length_map, List.length_take]; omega
    · rw [upd_upd, take_map_snoc f xs i x hx']
  · refine .inl ⟨⟨xs, sm.seq hs, by omega⟩, ?_⟩
    have e : xs.take i = xs := List.take_of_length_le (by omega)
    rw [e]
    exact q acc hacc
theorem comp_mapT {K : PySem.W.Frag} {a : Addr} {xs : List V} {H1 : Hp} {fvals : St} {te : TE} {Q : Addr → Hp → Prop} (f : V → V) (hs : SqT K H1 a xs) (hz : xs.length ≤ sizeLine)
    (step : ∀ (i : Nat) (x : V) (H : Hp) (R : VK), xs[i]? = some x → Same H1 H → R (f x) H → te (some x :: fvals) H R)
    (q : ∀ acc, H1 acc = none → Q acc (upd H1 acc (.lst (xs.map f)))) : compWalk (Itt K a) H1 (none :: fvals) (gName 0) te Q := by
  intro acc hacc
  refine ⟨fun i m σ' H' => m = xs.length - i ∧ i ≤ xs.length ∧ (∃ o, σ' = o :: fvals) ∧ H' = upd H1 acc (.lst ((xs.take i).map f)), ⟨_, rfl, Nat.zero_le _, ⟨none, rfl⟩, by simp⟩, ?_⟩
  rintro i m σ' H' ⟨rfl, hi, ⟨o, rfl⟩, rfl⟩
  have sm : Same H1 (upd H1 acc (.lst ((xs.take i).map f))) := Same.put hacc
  by_cases hlt : i < xs.length
  · refine .inr ⟨⟨xs, xs[i], sm.seqT hs, List.getElem?_eq_getElem hlt⟩, ?_⟩
    rintro x H2 ⟨rfl, hx⟩
    have hx' := hx xs (sm.seqT hs)
    refine step i x _ _ hx' sm ⟨(xs.take i).map f, upd_same, ?_, xs.length - (i + 1), by omega, rfl, hlt, ⟨some x, rfl⟩, ?_⟩
    · rw [List.length_map, List.length_take]; omega
    · rw [upd_upd, take_map_snoc f xs i x hx']
  · refine .inl ⟨⟨xs, sm.seqT hs, by omega⟩, ?_⟩
    have e : xs.take i = xs := List.take_of_length_le (by omega)
    rw [e]
    exact q acc hacc
end L2

namespace L2
open PySem PySem.Spec PyProof.Rows
section
variable {X : Cx} {e : Expr}
/-- an expression that changes nothing, by its value -/
def tDetE (t : TE) : TE := fun σ H Q => ∃ v, t σ H (fun x H2 => x = v ∧ H2 = H) ∧ Q v H
theorem pe_det {t : TE} (h : PE X e t) : PE X e (tDetE t) := fun pins s σ H Q I ⟨d, ht, q⟩ =>
  thn (h pins s σ H _ I ht) fun b s' ⟨x, H', I', r, e1, e2⟩ => by subst e1 e2; exact ⟨_, _, I', r, q⟩
end
end L2

namespace L2
open PySem PySem.Spec PyProof.Rows
section
variable {X : Cx}
/-- // by a positive divisor of up to 512 bits -/
def CDivL (i j : Int) : Prop := 0 < j ∧ j < 2 ^ 512
theorem op_fdivL : OpR X (binaryOp .FloorDiv) (rI CDivL fun i j => .int (i / j)) := opI fun i j _ _ _ _ _ hc q => by
  have h0 := hc.1
  have h1 := hc.2
  refine floordiv_int (by omega) ?_ (.inl (PyProof.noPylong_of_log2 ?_))
  · rw [Int.fdiv_eq_ediv_of_nonneg i (by omega)]; exact q
  · have h2 : j.natAbs < 2 ^ 512 := by omega
    have h3 : j.natAbs ≠ 0 := by omega
    exact Nat.lt_trans ((Nat.log2_lt h3).mpr h2) (by decide)
end
end L2

namespace L2
open PySem PySem.Spec PyProof.Rows
section
variable {X : Cx} {K : PySem.W.Frag} {tg l : Expr} {tl : TE}
/-! ### the rules that speak of the written part, by its own letter (for a block) -/
theorem ix_tupK (h : X.K = K := by rfl) : IxR X (rIxT K) := by subst h; exact ix_tup
theorem call_lenK (h : X.K = K := by rfl) : CallR X (.builtin "len") (fun xs H Q => ∃ (p : Addr) (ys : List V), xs = [.ref p] ∧ (SqL K H p ys ∨ SqT K H p ys) ∧ Q (.int ys.length) H) := by subst h; exact call_len_seq
end
end L2

set_option Elab.async false
set_option linter.all false
set_option maxRecDepth 100000

namespace L2
open PySem PySem.Spec PyProof.Rows
/-! ### zip of two lists, taken apart at once -/
section
variable {X : Cx} {pins : List (Addr × Obj)} {σ : St} {H : Hp} {s : Shared} {h' : Heap} {t' : Nat} {fp : List Addr}
theorem Inv.turnedAll (I : Inv X pins σ H s) (hf : ∀ b ∈ fp, FpOk X pins H b) (k : ∀ b o, b ∉ fp → s.heap.get? b = some o → h'.get? b = some o) : Inv X pins σ H { s with heap := h', toks := t' } := by
  have nit : ∀ b u, H b = some u → b ∉ fp := fun b u e z => by rw [(hf b z).1] at e; cases e
  refine I.step (g' := s.gens) (d' := s.drawn) (ch := fp) (fun b hb => ⟨(hf b hb).2.2.2.1, (hf b hb).2.1, (hf b hb).2.2.2.2.1, (hf b hb).2.2.2.2.2⟩) (fun b o _ _ hc e _ => k b o hc e) (fun b o _ _ hc e _ => ⟨o.slots, k b o hc e⟩) (fun _ _ _ _ n => n)
    (fun b o hc e => ⟨o, k b o hc e⟩) (fun _ _ e => e) (fun _ _ _ e => e) (fun b ps e => ⟨#[], by rw [e]; simp⟩) (fun m hm => ?_) (fun b u e => ?_) I.bare
  · obtain ⟨o, es, ep, ho, r⟩ := hm
    exact ⟨o, es, ep, k _ o (fun z => (hf _ z).2.1 rfl) ho, r⟩
  · refine (I.hok b u e).stay (fun c v hc q => k c v ?_ q) (fun _ q => q) fun _ _ q => q
    rcases hc with z | z
    · rw [z]; exact nit b u e
    · exact nit c _ z
/-- .. and a new tuple is laid and tracked -/
theorem Inv.turnedTup {T : Addr} {x y : V} {vx vy : Value} (I : Inv X pins σ H s) (hf : ∀ b ∈ fp, FpOk X pins H b) (hT : s.heap.objs.size ≤ T) (hp : IsPair h' T vx vy) (rx : RelV x vx) (ry : RelV y vy)
    (k : ∀ b o, b ∉ fp → s.heap.get? b = some o → h'.get? b = some o) : Inv X pins σ (upd H T (.tup [x, y])) { s with heap := h', toks := t' } := by
  have hn : H T = none := I.hok.fresh hT
  have sm : Same H (upd H T (.tup [x, y])) := fun b u e => by rw [upd_ne (ne_of_none e hn)]; exact e
  have nit : ∀ b u, H b = some u → b ∉ fp := fun b u e z => by rw [(hf b z).1] at e; cases e
  refine I.step (g' := s.gens) (d' := s.drawn) (ch := fp) (fun b hb => ⟨(hf b hb).2.2.2.1, (hf b hb).2.1, (hf b hb).2.2.2.2.1, (hf b hb).2.2.2.2.2⟩) (fun b o _ _ hc e _ => k b o hc e) (fun b o _ _ hc e _ => ⟨o.slots, k b o hc e⟩)
    (fun b o _ e n => by rw [upd_ne (Nat.ne_of_lt (Nat.lt_of_lt_of_le (Heap.lt_size e) hT))]; exact n)
    (fun b o hc e => ⟨o, k b o hc e⟩) (fun b xs e => sm b _ e) (fun b o u e => sm b _ e) (fun b ps e => ⟨#[], by rw [sm b _ e]; simp⟩) (fun m hm => ?_) (fun b u e => ?_) I.bare
  · obtain ⟨o, es, ep, ho, r⟩ := hm
    exact ⟨o, es, ep, k _ o (fun z => (hf _ z).2.1 rfl) ho, r⟩
  · by_cases hb : b = T
    · subst hb
      rw [upd_same] at e; cases e
      exact ⟨by show 2 ≤ sizeLine; rw [sizeLine_eq]; decide, [vx, vy], .cons rx (.cons ry .nil), ⟨_, hp, rfl, _, rfl⟩⟩
    · rw [upd_ne hb] at e
      refine (I.hok b u e).stay (fun c v hc q => k c v ?_ q) (fun c q => sm c _ q) fun c xs q => sm c _ q
      rcases hc with z | z
      · rw [z]; exact nit b u e
      · exact nit c _ z
end
section
variable {X : Cx} {K : PySem.W.Frag}
end

/-! ### comprehensions over zip(xs, ys), two own names -/
end L2

namespace L2
open PySem PySem.Spec PyProof.Rows
theorem pg_tupK {X : Cx} {K : PySem.W.Frag} {pos : Pos} {es : List Expr} {k : Nat} {t : TGs} {n : Nat} (hc : X.calm = true) (h : PGs X es t) (hK : X.K = K := by rfl)
    (hn : (assignEach es X.env).length = n := by rfl) (hst : (assignEach es X.env).findIdx? (·.1) = none := by rfl) : PG X (.Tuple es k pos) (gTup K n t) := by subst hK; exact pg_tup hc h hn hst
end L2


set_option Elab.async false
set_option linter.all false
set_option maxRecDepth 100000

namespace L2
open PySem PySem.Spec PyProof.Rows
section
variable {X : Cx} {K : PySem.W.Frag}
theorem call_sumI (hc : X.calm = true) (hK : X.K = K := by rfl) : CallR X (.builtin "sum") (fun xs H Q => ∃ (p : Addr) (ns : List Int), xs = [.ref p] ∧ SqL K H p (ns.map V.int) ∧ Q (.int ns.sum) H) := by
  subst hK
  intro pins s σ H xs us Q I r h
  obtain ⟨p, ns, rfl, hq, q⟩ := h
  obtain ⟨u, rfl, ru⟩ := vals1 r
  cases ru
  obtain ⟨its, rv, pl, hz⟩ := I.list hq
  have hl := pl.isList
  have hi := intsAre_of rv
  obtain ⟨ys, hx⟩ := hi.allInts.items
  have hl' : s.heap.IsList p (intItems ys) := hx ▸ hl
  refine sum_intListG (I.ok.hd hc) hl' fun h' tk t' hk => ?_
  have e1 : ns = ys.toList.map (·.1) := by
    rw [← nums_intItems, ← hx]
    exact (show numsOf its.toArray.toList = ns from hi.numsOf).symm
  have e2 : preSum (numAt ys) ys.size = ns.sum := by
    rw [preSum_eq, List.take_of_length_le (by simp), e1]
  rw [e2]
  exact ⟨.int ns.sum, H, I.kept (t' := tk) hk, ⟨t', rfl⟩, q⟩
end
/-- a comprehension over a list whose parts change the heap: an invariant of one's own -/
theorem comp_inv {K : PySem.W.Frag} {a : Addr} {xs : List V} {H1 : Hp} {fvals : St} {te : TE} {Q : Addr → Hp → Prop} (Pv : Addr → Nat → Hp → Prop) (hl : ∀ acc i H, Pv acc i H → SqL K H a xs)
    (h0 : ∀ acc, H1 acc = none → Pv acc 0 (upd H1 acc (.lst [])))
    (step : ∀ (acc : Addr) (i : Nat) (x : V) (H : Hp) (R : VK), xs[i]? = some x → Pv acc i H → (∀ v H2, (∃ ys, H2 acc = some (.lst ys) ∧ ys.length < sizeLine ∧ Pv acc (i + 1) (upd H2 acc (.lst (ys ++ [v])))) → R v H2) → te (some x :: fvals) H R)
    (q : ∀ acc H', H1 acc = none → Pv acc xs.length H' → Q acc H') :
    compWalk (Itl K a) H1 (none :: fvals) (gName 0) te Q := by
  intro acc hacc
  refine ⟨fun i m σ' H' => m = xs.length - i ∧ i ≤ xs.length ∧ (∃ o, σ' = o :: fvals) ∧ Pv acc i H', ⟨_, rfl, Nat.zero_le _, ⟨none, rfl⟩, h0 acc hacc⟩, ?_⟩
  rintro i m σ' H' ⟨rfl, hi, ⟨o, rfl⟩, pv⟩
  by_cases hlt : i < xs.length
  · have hxi : xs[i]? = some xs[i] := List.getElem?_eq_getElem hlt
    refine .inr ⟨⟨xs, _, hl _ _ _ pv, hxi⟩, ?_⟩
    rintro v H2 ⟨rfl, hx⟩
    exact step acc i v H2 _ (hx xs (hl _ _ _ pv)) pv fun u H3 ⟨ys, e1, e2, e3⟩ => ⟨ys, e1, e2, xs.length - (i + 1), by omega, rfl, hlt, ⟨some v, rfl⟩, e3⟩
  · have e : i = xs.length := by omega
    subst e
    exact .inl ⟨⟨xs, hl _ _ _ pv, Nat.le_refl _⟩, q acc H' hacc pv⟩
end L2


set_option Elab.async false
set_option linter.all false
set_option maxRecDepth 100000

namespace L2
open PySem PySem.Spec PyProof.Rows
/-- a comprehension over a list of pairs, taken apart, whose parts change the heap -/
theorem comp_tupInv {K : PySem.W.Frag} {a : Addr} {xs : List V} {H1 : Hp} {fvals : St} {te : TE} {Q : Addr → Hp → Prop} (Pv : Addr → Nat → Hp → Prop) (hl : ∀ acc i H, Pv acc i H → SqL K H a xs)
    (h0 : ∀ acc, H1 acc = none → Pv acc 0 (upd H1 acc (.lst [])))
    (tup : ∀ (acc : Addr) (i : Nat) (x : V) (H : Hp), xs[i]? = some x → Pv acc i H → ∃ (T : Addr) (x1 x2 : V), x = .ref T ∧ H T = some (.tup [x1, x2]))
    (step : ∀ (acc : Addr) (i : Nat) (T : Addr) (x1 x2 : V) (H : Hp) (R : VK), xs[i]? = some (.ref T) → H T = some (.tup [x1, x2]) → Pv acc i H → (∀ v H2, (∃ zs, H2 acc = some (.lst zs) ∧ zs.length < sizeLine ∧ Pv acc (i + 1) (upd H2 acc (.lst (zs ++ [v])))) → R v H2) → te (some x1 :: some x2 :: fvals) H R)
    (q : ∀ acc H', H1 acc = none → Pv acc xs.length H' → Q acc H') :
    compWalk (Itl K a) H1 (none :: none :: fvals) (gTup K 2 (gCons (gName 0) (gCons (gName 1) gNil))) te Q := by
  intro acc hacc
  refine ⟨fun i m σ' H' => m = xs.length - i ∧ i ≤ xs.length ∧ (∃ o1 o2, σ' = o1 :: o2 :: fvals) ∧ Pv acc i H', ⟨_, rfl, Nat.zero_le _, ⟨none, none, rfl⟩, h0 acc hacc⟩, ?_⟩
  rintro i m σ' H' ⟨rfl, hi, ⟨o1, o2, rfl⟩, pv⟩
  by_cases hlt : i < xs.length
  · have hxi : xs[i]? = some xs[i] := List.getElem?_eq_getElem hlt
    refine .inr ⟨⟨xs, _, hl _ _ _ pv, hxi⟩, ?_⟩
    rintro v H2 ⟨rfl, hx⟩
    have hxx := hx xs (hl _ _ _ pv)
    obtain ⟨T, x1, x2, rfl, hT⟩ := tup acc i v H2 hxx pv
    refine ⟨T, _, rfl, SqT.of hT, rfl, _, _, rfl, _, _, rfl, rfl, ?_⟩
    exact step acc i T x1 x2 H2 _ hxx hT pv fun u H3 ⟨zs, e1, e2, e3⟩ => ⟨zs, e1, e2, xs.length - (i + 1), by omega, rfl, hlt, ⟨_, _, rfl⟩, e3⟩
  · have e : i = xs.length := by omega
    subst e
    exact .inl ⟨⟨xs, hl _ _ _ pv, Nat.le_refl _⟩, q acc H' hacc pv⟩
/-- a comprehension over range(n) whose parts change the heap -/
theorem comp_rngInv {lo : Int} {n : Nat} {H1 : Hp} {fvals : St} {te : TE} {Q : Addr → Hp → Prop} (Pv : Addr → Nat → Hp → Prop)
    (h0 : ∀ acc, H1 acc = none → Pv acc 0 (upd H1 acc (.lst [])))
    (step : ∀ (acc : Addr) (i : Nat) (H : Hp) (R : VK), i < n → Pv acc i H → (∀ v H2, (∃ zs, H2 acc = some (.lst zs) ∧ zs.length < sizeLine ∧ Pv acc (i + 1) (upd H2 acc (.lst (zs ++ [v])))) → R v H2) → te (some (.int (lo + i)) :: fvals) H R)
    (q : ∀ acc H', H1 acc = none → Pv acc n H' → Q acc H') : compWalk (Itr lo n) H1 (none :: fvals) (gName 0) te Q := by
  intro acc hacc
  refine ⟨fun i m σ' H' => m = n - i ∧ i ≤ n ∧ (∃ o, σ' = o :: fvals) ∧ Pv acc i H', ⟨_, rfl, Nat.zero_le _, ⟨none, rfl⟩, h0 acc hacc⟩, ?_⟩
  rintro i m σ' H' ⟨rfl, hi, ⟨o, rfl⟩, pv⟩
  by_cases hlt : i < n
  · refine .inr ⟨hlt, ?_⟩
    rintro x H2 ⟨rfl, rfl⟩
    exact step acc i _ _ hlt pv fun u H3 ⟨zs, e1, e2, e3⟩ => ⟨zs, e1, e2, n - (i + 1), by omega, rfl, hlt, ⟨_, rfl⟩, e3⟩
  · have e : i = n := by omega
    subst e
    exact .inl ⟨Nat.le_refl _, q acc H' hacc pv⟩
end L2

namespace L2
open PySem PySem.Spec PyProof.Rows

/-! ### lists of pairs as tables -/
section
variable {κ : Type} [DecidableEq κ]
def valV (kvs : List (κ × V)) (k : κ) : Option V := (kvs.find? fun kv => decide (kv.1 = k)).map (·.2)
/-- in its place, or at the end -/
def putK (kvs : List (κ × V)) (k : κ) (v : V) : List (κ × V) :=
  if (kvs.any fun kv => decide (kv.1 = k)) = true then kvs.map (fun kv => if kv.1 = k then (kv.1, v) else kv) else kvs ++ [(k, v)]

theorem valV_pos {p : κ × V} {r : List (κ × V)} {k : κ} (e : p.1 = k) : valV (p :: r) k = some p.2 := by simp [valV, List.find?_cons, e]
theorem valV_neg {p : κ × V} {r : List (κ × V)} {k : κ} (e : ¬ p.1 = k) : valV (p :: r) k = valV r k := by simp [valV, List.find?_cons, e]
theorem valV_any (k : κ) : ∀ kvs : List (κ × V), (kvs.any fun kv => decide (kv.1 = k)) = (valV kvs k).isSome
  | [] => rfl
  | p :: r => by
    rw [List.any_cons]
    by_cases e : p.1 = k
    · simp only [valV_pos e, decide_eq_true e, Bool.true_or, Option.isSome_some]
    · rw [valV_neg e, decide_eq_false e, Bool.false_or]; exact valV_any k r
theorem length_putK (kvs : List (κ × V)) (k : κ) (v : V) : (putK kvs k v).length ≤ kvs.length + 1 := by
  unfold putK
  split
  · rw [List.length_map]; omega
  · rw [List.length_append, List.length_cons, List.length_nil]; omega
theorem putK_new {kvs : List (κ × V)} {k : κ} (v : V) (h : valV kvs k = none) : putK kvs k v = kvs ++ [(k, v)] := by
  unfold putK
  rw [valV_any, h]
  exact if_neg (by decide)

theorem RelO.isSome_eq {o : Option V} {u : Option Value} (r : RelO o u) : o.isSome = u.isSome := by
  cases o with
  | none => cases u with
    | none => rfl
    | some _ => exact (show False from r).elim
  | some _ => cases u with
    | none => exact (show False from r).elim
    | some _ => rfl
theorem RelO.getD {o : Option V} {u : Option Value} {d : V} {d' : Value} (r : RelO o u) (rd : RelV d d') : RelV (o.getD d) (u.getD d') := by
  cases o with
  | none => cases u with
    | none => exact rd
    | some _ => exact (show False from r).elim
  | some _ => cases u with
    | none => exact (show False from r).elim
    | some _ => exact r

/-- raw tables of the same keys -/
theorem KV.val {kvs : List (κ × V)} {vs : List (κ × Value)} (r : KV kvs vs) (k : κ) : RelO (valV kvs k) (valueAt vs k) := by
  unfold KV at r
  induction r with
  | nil => exact True.intro
  | @cons p q ps qs h t ih =>
    obtain ⟨h1, h2⟩ := h
    by_cases e : p.1 = k
    · have e' : q.1 = k := h1.symm.trans e
      have b : valueAt (q :: qs) k = some q.2 := by simp [valueAt, List.find?_cons, e']
      rw [valV_pos e, b]; exact h2
    · have e' : ¬ q.1 = k := fun z => e (h1.trans z)
      have b : valueAt (q :: qs) k = valueAt qs k := by simp [valueAt, List.find?_cons, e']
      rw [valV_neg e, b]; exact ih
theorem KV.any {kvs : List (κ × V)} {vs : List (κ × Value)} (r : KV kvs vs) (k : κ) : (kvs.any fun kv => decide (kv.1 = k)) = vs.any fun kv => decide (kv.1 = k) := by
  unfold KV at r
  induction r with
  | nil => rfl
  | cons h t ih => rw [List.any_cons, List.any_cons, ih, h.1]
theorem KV.repl {kvs : List (κ × V)} {vs : List (κ × Value)} (r : KV kvs vs) (k : κ) {y : V} {u : Value} (ry : RelV y u) :
    KV (kvs.map fun kv => if kv.1 = k then (kv.1, y) else kv) (vs.map fun kv => if kv.1 = k then (kv.1, u) else kv) := by
  unfold KV at r ⊢
  induction r with
  | nil => exact .nil
  | @cons p q ps qs h t ih =>
    rw [List.map_cons, List.map_cons]
    refine .cons ?_ ih
    obtain ⟨h1, h2⟩ := h
    by_cases e : p.1 = k
    · rw [if_pos e, if_pos (h1.symm.trans e)]; exact ⟨h1, ry⟩
    · rw [if_neg e, if_neg (fun z => e (h1.trans z))]; exact ⟨h1, h2⟩
theorem KV.put {kvs : List (κ × V)} {vs : List (κ × Value)} (r : KV kvs vs) (k : κ) {y : V} {u : Value} (ry : RelV y u) : KV (putK kvs k y) (stored vs k u) := by
  unfold putK stored
  rw [r.any k]
  by_cases e : (vs.any fun kv => decide (kv.1 = k)) = true
  · rw [if_pos e, if_pos e]; exact r.repl k ry
  · rw [if_neg e, if_neg e]; exact Paired.snoc r ⟨rfl, ry⟩
theorem KV.keys {kvs : List (κ × V)} {vs : List (κ × Value)} (r : KV kvs vs) : kvs.map (·.1) = vs.map (·.1) := by
  unfold KV at r
  induction r with
  | nil => rfl
  | cons h t ih => rw [List.map_cons, List.map_cons, ih, h.1]
theorem KV.length {kvs : List (κ × V)} {vs : List (κ × Value)} (r : KV kvs vs) : kvs.length = vs.length := Paired.length r
end


/-! ### a tracked dict, its keys ints and texts or tuples of these -/
theorem kV_is {P : Program} {w : World} {k : Key} {u : Value} (r : RelV (kV k) u) : (mixKind P w).is k u = true := by
  cases k with
  | inl i => obtain ⟨t, e⟩ := (show ∃ t, u = Value.int i t from r); subst e; exact mixKind_int P w i t
  | inr x => obtain ⟨t, e⟩ := (show ∃ t, u = Value.str x t from r); subst e; exact mixKind_str P w x t
theorem items_are {P : Program} {w : World} : ∀ {ks : List Key} {us : List Value}, Vals (ks.map kV) us → ItemsAre (mixKind P w) ks us
  | [], _, r => by rw [List.map_nil] at r; cases r; exact .nil
  | k :: ks, _, r => by
    rw [List.map_cons] at r
    cases r with
    | cons h t => exact .cons (kV_is h) (items_are t)

/-- raw entries of a dict with tuple keys -/
abbrev KT (H : Hp) : List (List Key × V) → List (List Key × Addr × Value) → Prop := Paired fun p q => p.1 = q.1 ∧ H q.2.1 = some (.tup (p.1.map kV)) ∧ RelV p.2 q.2.2
theorem KT.val {H : Hp} {kvs : List (List Key × V)} {xs : List (List Key × Addr × Value)} (r : KT H kvs xs) (k : List Key) : RelO (valV kvs k) ((atKey xs k).map (·.2)) := by
  induction r with
  | nil => exact True.intro
  | @cons p q ps qs h t ih =>
    obtain ⟨h1, _, h2⟩ := h
    by_cases e : p.1 = k
    · have e' : q.1 = k := h1.symm.trans e
      have b : atKey (q :: qs) k = some q.2 := by simp [atKey, List.find?_cons, e']
      rw [valV_pos e, b]; exact h2
    · have e' : ¬ q.1 = k := fun z => e (h1.trans z)
      have b : atKey (q :: qs) k = atKey qs k := by simp [atKey, List.find?_cons, e']
      rw [valV_neg e, b]; exact ih
theorem KT.repl {H : Hp} {kvs : List (List Key × V)} {xs : List (List Key × Addr × Value)} (r : KT H kvs xs) (k : List Key) {y : V} {u : Value} (ry : RelV y u) :
    KT H (kvs.map fun kv => if kv.1 = k then (kv.1, y) else kv) (xs.map (putAt k u)) := by
  induction r with
  | nil => exact .nil
  | @cons p q ps qs h t ih =>
    rw [List.map_cons, List.map_cons]
    refine .cons ?_ ih
    obtain ⟨h1, h2, h3⟩ := h
    unfold putAt
    by_cases e : p.1 = k
    · rw [if_pos e, if_pos (h1.symm.trans e)]; exact ⟨h1, h2, ry⟩
    · rw [if_neg e, if_neg (fun z => e (h1.trans z))]; exact ⟨h1, h2, h3⟩
theorem KT.put {H : Hp} {kvs : List (List Key × V)} {xs : List (List Key × Addr × Value)} (r : KT H kvs xs) (k : List Key) {b : Addr} {y : V} {u : Value} (hb : H b = some (.tup (k.map kV))) (ry : RelV y u) :
    KT H (putK kvs k y) (storedH xs k b u) := by
  have e : (kvs.any fun kv => decide (kv.1 = k)) = (atKey xs k).isSome := by
    rw [valV_any, (r.val k).isSome_eq, Option.isSome_map]
  unfold putK storedH
  rw [e]
  by_cases q : (atKey xs k).isSome = true
  · rw [if_pos q, if_pos q]; exact r.repl k ry
  · rw [if_neg q, if_neg q]; exact Paired.snoc r ⟨rfl, hb, ry⟩
theorem KT.keeps {H H' : Hp} {kvs : List (List Key × V)} {xs : List (List Key × Addr × Value)} (r : KT H kvs xs) (ht : ∀ b ys, H b = some (.tup ys) → H' b = some (.tup ys)) : KT H' kvs xs :=
  Paired.mapP r fun _ _ z => ⟨z.1, ht _ _ z.2.1, z.2.2⟩

section
variable {P : Program} {w : World} {H : Hp} {h : Heap} {a : Addr}
theorem rd_of {u : HO} (ok : HOk P w H h) (e : Rd H a u) : ObjOk P w H h a u := e.ok ok
theorem dk_rd {kvs : List (Key × V)} (ok : HOk P w H h) (e : Rd H a (.dK kvs)) : kvs.length ≤ sizeLine ∧ (a == sysModules) = false ∧ ∃ vs, KV kvs vs ∧ h.DictOf (mixKind P w) a vs :=
  show ObjOk P w H h a (.dK kvs) from rd_of ok e
theorem dk_of {kvs : List (Key × V)} (ok : HOk P w H h) (e : H a = some (.dK kvs)) : kvs.length ≤ sizeLine ∧ (a == sysModules) = false ∧ ∃ vs, KV kvs vs ∧ h.DictOf (mixKind P w) a vs := dk_rd ok (.inl e)
/-- a tracked tuple of ints and texts is a key -/
theorem key_of {ks : List Key} (ok : HOk P w H h) (e : H a = some (.tup (ks.map kV))) : (tupleKind (mixKind P w)).is h ks a := by
  obtain ⟨_, its, r, o, h1, h2, n, h3⟩ := (show ObjOk P w H h a (.tup (ks.map kV)) from ok a _ e)
  exact ⟨o, its.toArray, n, h1, h2, h3, by simpa using items_are r⟩
theorem dt_rd {kvs : List (List Key × V)} (ok : HOk P w H h) (e : Rd H a (.dT kvs)) : kvs.length ≤ sizeLine ∧ (a == sysModules) = false ∧
    ∃ xs, KT H kvs xs ∧ h.DictOfH (tupleKind (mixKind P w)) a xs := by
  obtain ⟨z, y, xs, r, o, es, ep, h1, h2, h3, h4, h5⟩ := (show ObjOk P w H h a (.dT kvs) from rd_of ok e)
  refine ⟨z, y, xs, r, o, es, ep, h1, h2, h3, h4, fun x hx => ?_, h5⟩
  have all : ∀ {l : List (List Key × V)} {m : List (List Key × Addr × Value)}, KT H l m → ∀ x ∈ m, (tupleKind (mixKind P w)).is h x.1 x.2.1 := by
    intro l m q
    induction q with
    | nil => intro x hx; exact nomatch hx
    | @cons p q ps qs hq t ih =>
      intro x hx
      rcases List.mem_cons.mp hx with e | hx
      · subst e
        exact key_of ok (by rw [← hq.1]; exact hq.2.1)
      · exact ih x hx
  exact all r x hx
theorem dt_of {kvs : List (List Key × V)} (ok : HOk P w H h) (e : H a = some (.dT kvs)) : kvs.length ≤ sizeLine ∧ (a == sysModules) = false ∧
    ∃ xs, KT H kvs xs ∧ h.DictOfH (tupleKind (mixKind P w)) a xs := dt_rd ok (.inl e)
end

/-- what the dict at a holds at the key y -/
def DGet (H : Hp) (a : Addr) (y : V) (r : Option V) : Prop :=
  (∃ kvs k, Rd H a (.dK kvs) ∧ y = kV k ∧ r = valV kvs k) ∨ ∃ kvs k b, Rd H a (.dT kvs) ∧ y = .ref b ∧ H b = some (.tup (k.map kV)) ∧ r = valV kvs k
/-- the heap behind a[y] = v -/
def DPut (H : Hp) (a : Addr) (y v : V) (H' : Hp) : Prop :=
  (∃ kvs k, H a = some (.dK kvs) ∧ y = kV k ∧ kvs.length < sizeLine ∧ H' = upd H a (.dK (putK kvs k v))) ∨
  ∃ kvs k b, H a = some (.dT kvs) ∧ y = .ref b ∧ H b = some (.tup (k.map kV)) ∧ kvs.length < sizeLine ∧ H' = upd H a (.dT (putK kvs k v))
theorem DGet.k {H : Hp} {a : Addr} {kvs : List (Key × V)} {k : Key} (e : H a = some (.dK kvs)) : DGet H a (kV k) (valV kvs k) := .inl ⟨kvs, k, .inl e, rfl, rfl⟩
theorem DPut.k {H : Hp} {a : Addr} {kvs : List (Key × V)} {k : Key} {v : V} (e : H a = some (.dK kvs)) (hl : kvs.length < sizeLine) : DPut H a (kV k) v (upd H a (.dK (putK kvs k v))) := .inl ⟨kvs, k, e, rfl, hl, rfl⟩


section
variable {X : Cx} {pins : List (Addr × Obj)} {σ : St} {H : Hp} {s : Shared} {a : Addr} {y v : V} {u r : Value} {o : Option V} {A : Around} {E : Value → Shared → Prop}

theorem Inv.big (I : Inv X pins σ H s) : sysModules < s.heap.objs.size := by
  have h : mainGlobals < s.heap.objs.size := (I.mod.glob.keeps I.bk).lt
  exact Nat.lt_trans (by decide) h

/-- d[y], there -/
theorem d_getItem {Q : Value → Shared → Prop} (hu : A.units + 1 < cLine) (I : Inv X pins σ H s) (g : DGet H a y (some v)) (ry : RelV y u) (h : ∀ w' s', Inv X pins σ H s' → RelV v w' → Q w' s') :
    wpAny (model X.prog X.w) A (getItem (.ref a) u) Q E s := by
  rcases g with ⟨kvs, k, e, ey, l⟩ | ⟨kvs, k, b, e, ey, eb, l⟩
  · subst ey
    obtain ⟨z, hd, vs, rel, dd⟩ := dk_rd I.hok e
    obtain ⟨w', hw, rw'⟩ := RelO.some_of (v := v) (o := valueAt vs k) (by rw [l]; exact rel.val k)
    exact wpAny_getItem_of (kV_is ry) dd.mapOf hw (h w' _ (I.tok _) rw')
  · subst ey
    cases (show u = Value.ref b from ry)
    obtain ⟨z, hd, xs, rel, dd⟩ := dt_rd I.hok e
    obtain ⟨w', hw, rw'⟩ := RelO.some_of (v := v) (o := (atKey xs k).map (·.2)) (by rw [l]; exact rel.val k)
    obtain ⟨p, hp, hp2⟩ := Option.map_eq_some_iff.mp hw
    refine wpAny_getItem_heap (tupleKind_room_in1 hu) (key_of I.hok eb) dd hp ?_
    rw [hp2]
    exact h w' _ (I.tok _) rw'
/-- a dict's object is replaced -/
theorem d_write {h' : Heap} {t' : Nat} {ob : HO} (I : Inv X pins σ H s) (mu : Mut (H a)) (hs : Heap.SameBut a s.heap h') (he : ∃ q, h'.get? a = some q) (new : ObjOk X.prog X.w (upd H a ob) h' a ob) :
    Inv X pins σ (upd H a ob) { s with heap := h', toks := t' } :=
  I.write (x := a) (e := a) mu (.inl rfl) (fun b q hb z => (hs.2 b hb).trans z) he new
theorem dk_new {P : Program} {w : World} {H' : Hp} {h' : Heap} {kvs : List (Key × V)} {vs : List (Key × Value)} (z : kvs.length ≤ sizeLine) (hd : (a == sysModules) = false) (rel : KV kvs vs) (dd : h'.DictOf (mixKind P w) a vs) :
    ObjOk P w H' h' a (.dK kvs) := ⟨z, hd, vs, rel, dd⟩
/-- d[y] = v -/
theorem d_setItem {H' : Hp} {Q : Unit → Shared → Prop} (hu : A.units + 1 < cLine) (I : Inv X pins σ H s) (g : DPut H a y v H') (ry : RelV y u) (rv : RelV v r) (h : ∀ s', Inv X pins σ H' s' → Q () s') :
    wpAny (model X.prog X.w) A (setItem (.ref a) u r) Q E s := by
  rcases g with ⟨kvs, k, e, ey, l, eH⟩ | ⟨kvs, k, b, e, ey, eb, l, eH⟩
  · subst ey eH
    obtain ⟨z, hd, vs, rel, dd⟩ := dk_of I.hok e
    have hz : vs.length ≤ sizeLine := by rw [← rel.length]; exact z
    have hl : (putK kvs k v).length ≤ sizeLine := by have := length_putK kvs k v; omega
    refine wpAny_setItem_pairs (hsz := hz) (kV_is ry) dd fun h' dd' hs => h _ ?_
    have he : ∃ q, h'.get? a = some q := let ⟨q, _, _, hq, _⟩ := dd'; ⟨q, hq⟩
    exact d_write I (by rw [e]; exact True.intro) hs he (dk_new hl hd (rel.put k rv) dd')
  · subst ey eH
    cases (show u = Value.ref b from ry)
    obtain ⟨z, hd, xs, rel, dd⟩ := dt_of I.hok e
    have hz : xs.length ≤ sizeLine := by rw [← Paired.length rel]; exact z
    have hl : (putK kvs k v).length ≤ sizeLine := by have := length_putK kvs k v; omega
    refine wpAny_setItem_heap (hsz := hz) (tupleKind_room_in1 hu) (key_of I.hok eb) dd fun h' dd' hs => h _ ?_
    obtain ⟨q, es, ep, hq, h2, h3, h4, _, h5⟩ := dd'
    refine d_write I (by rw [e]; exact True.intro) hs ⟨q, hq⟩ ⟨hl, hd, _, (rel.put k eb rv).keeps fun c ys ec => ?_, q, es, ep, hq, h2, h3, h4, h5⟩
    rw [upd_ne (ne_of ec e (fun z => nomatch z))]
    exact ec
end

section
variable {X : Cx} {pins : List (Addr × Obj)} {σ : St} {H : Hp} {s : Shared} {a : Addr} {kvs : List (Key × V)} {k : Key} {u : Value} {A : Around} {E : Value → Shared → Prop}
end


/-! ### readings and rules -/
/-- the element of a subscription, not a slice -/
def NoSl (i : Expr) : Prop := ∀ ov iv, subscripted i false ov iv = operate [ov, iv] (getItem ov iv)
theorem subD_of {prog : Program} {w : World} {A : Around} {E : Value → Shared → Prop} {s : Shared} {env : Env} {value slice : Expr} {pos : Pos} {T id : String} {Q : Value → Shared → Prop}
    (hl : typeLookup (.type T) "__getitem__" = pure (some (.builtin id))) (hs : NoSl slice)
    (h : wpAny (model prog w) A (eval value env) (fun o s₁ => wpAny (model prog w) A (eval slice env) (fun i s₂ => s₂.TypeIs o T ∧ wpAny (model prog w) A (getItem o i) Q E s₂) E s₁) E s) :
    wpAny (model prog w) A (eval (.Subscript value slice pos) env) Q E s := by
  refine Subscript_ (wpAny_mono h (fun o s₁ h₁ => wpAny_mono h₁ (fun i s₂ h₂ => ?_) fun _ _ x => x) fun _ _ x => x)
  obtain ⟨hT, h₂⟩ := h₂
  unfold subscriptTail
  refine wpAny_bind ?_
  rw [getitemInPython_of_ne hT.not_modules]
  refine wpAny_bind (wpAny_specialOf hT hl ?_)
  have fin : wpAny (model prog w) A (subscripted slice false o i) (fun r s₃ => wpAny (model prog w) A (letTemporaryGo value o r >>= fun _ => pure r) Q E s₃) E s₂ := by
    rw [hs o i]
    exact wpAny_operating (wpAny_mono h₂ (fun r s₃ h₃ => wpAny_bind (wpAny_letTemporaryGo (wpAny_pure h₃))) fun _ _ x => x)
  first
    | exact wpAny_pure (wpAny_bind fin)
    | exact wpAny_bind (wpAny_pure (wpAny_bind fin))
    | exact wpAny_bind fin

theorem dict_typeIs {X : Cx} {pins : List (Addr × Obj)} {σ : St} {H : Hp} {s : Shared} {a : Addr} {y : V} {o : Option V} (I : Inv X pins σ H s) (g : DGet H a y o) : s.TypeIs (.ref a) "dict" := by
  rcases g with ⟨kvs, k, e, _, _⟩ | ⟨kvs, k, b, e, _, _, _⟩
  · obtain ⟨_, _, vs, _, dd⟩ := dk_rd I.hok e
    exact dd.typeIs
  · obtain ⟨_, _, xs, _, dd⟩ := dt_rd I.hok e
    exact dd.typeIs

/-- d[y] -/
def tDGet (td ty : TE) : TE := fun σ H Q => td σ H fun x H1 => ty σ H1 fun y H2 => ∃ a v, x = .ref a ∧ DGet H2 a y (some v) ∧ Q v H2
/-- d[y] = v -/
def sDPut (td ty tv : TE) : TS := fun D σ H => tv σ H fun v H1 => td σ H1 fun x H2 => ty σ H2 fun y H3 => ∃ a H4, x = .ref a ∧ DPut H3 a y v H4 ∧ D.nx σ H4

section
variable {X : Cx} {o i e value : Expr} {pos pos' tpos : Pos} {td ty tv : TE}
theorem pe_dget (hu : X.A.units + 1 < cLine) (ho : PE X o td) (hi : PE X i ty) (hs : NoSl i) : PE X (.Subscript o i pos) (tDGet td ty) := by
  intro pins s σ H Q I h
  refine subD_of PySem.F.slot_dict_getitem.lookup hs (thn (ho pins s σ H _ I h) fun u s1 ⟨x, H1, I1, rx, q1⟩ => thn (hi pins s1 σ H1 _ I1 q1) fun iv s2 ⟨y, H2, I2, ry, a, v, ex, g, q2⟩ => ?_)
  subst ex
  obtain rfl : u = Value.ref a := rx
  exact ⟨dict_typeIs I2 g, d_getItem hu I2 g ry fun w' s3 I3 rw' => ⟨v, H2, I3, rw', q2⟩⟩
theorem ps_dput (hu : X.A.units + 1 < cLine) (ho : PE X o td) (hi : PE X i ty) (hv : PE X value tv) (hs : swapsWith value (some (.Subscript o i pos')) pos.line X.env = pure false) :
    PS X (.Assign [.Subscript o i pos'] value pos) (sDPut td ty tv) := by
  intro pins s σ H D I h
  refine wpAny_Assign_Subscript (thn (hv pins s σ H _ I h) fun r s1 ⟨v, H1, I1, rv, q1⟩ => thn (ho pins s1 σ H1 _ I1 q1) fun u s2 ⟨x, H2, I2, rx, q2⟩ => thn (hi pins s2 σ H2 _ I2 q2) fun iv s3 ⟨y, H3, I3, ry, a, H4, ex, g, q3⟩ => ?_) hs
  subst ex
  obtain rfl : u = Value.ref a := rx
  exact d_setItem hu I3 g ry rv fun s4 I4 => ⟨σ, H4, I4, q3⟩
end


/-! ### displays -/
theorem dk_empty {P : Program} {w : World} {H : Hp} (h : Heap) (hb : sysModules < h.objs.size) : ObjOk P w H (h.push { cls := .type "dict", data := .dict #[] }) h.objs.size (.dK []) :=
  ⟨Nat.zero_le _, beq_eq_false_iff_ne.mpr (Ne.symm (Nat.ne_of_lt hb)), [], .nil, Heap.DictOf.new h⟩
/-- {}, to be a dict of the kind that is wanted -/
def tDNewK : TE := fun _ H Q => ∀ p, H p = none → Q (.ref p) (upd H p (.dK []))
section
variable {X : Cx} {pos : Pos}
theorem pe_dnewK : PE X (.Dict [] [] pos) tDNewK := fun pins s σ H Q I h =>
  wpAny_Dict_empty ⟨.ref s.heap.objs.size, _, I.laid (a := s.heap.objs.size) (o := .dK []) (t' := s.toks) (fun _ _ q => Heap.get?_push_of_some _ q) (Nat.le_refl _) (dk_empty s.heap I.big), rfl, h _ (I.hok.fresh (Nat.le_refl _))⟩
end




/-! ### methods -/
/-- a method call o.m(e) of a built-in, with one argument: what must be seen of the text -/
structure M1 (X : Cx) (o : Expr) (m : Str) (apos : Pos) (e : Expr) (cpos : Pos) : Prop where
  base : attributeBase o m X.env (eval o X.env) = eval o X.env
  few : ((backTo cpos (starEach [e] X.env)).all (fun x => !x.1) && (backToKw cpos (keywordEach [] X.env)).all (fun x => x.1.isSome)
    && decide (([e] : List Expr).length + ([] : List Keyword).length + (if ([] : List Keyword).isEmpty then 0 else 1) < 30)) = true
  line : (apos.endLine == cpos.line) = true
  trees : backTo cpos (starEach [e] X.env) = [(false, eval e X.env)]
structure M2 (X : Cx) (o : Expr) (m : Str) (apos : Pos) (e f : Expr) (cpos : Pos) : Prop where
  base : attributeBase o m X.env (eval o X.env) = eval o X.env
  few : ((backTo cpos (starEach [e, f] X.env)).all (fun x => !x.1) && (backToKw cpos (keywordEach [] X.env)).all (fun x => x.1.isSome)
    && decide (([e, f] : List Expr).length + ([] : List Keyword).length + (if ([] : List Keyword).isEmpty then 0 else 1) < 30)) = true
  line : (apos.endLine == cpos.line) = true
  trees : backTo cpos (starEach [e, f] X.env) = [(false, eval e X.env), (false, eval f X.env)]

/-- a is a dict, whatever its keys -/
def IsD (H : Hp) (a : Addr) : Prop := (∃ kvs, Rd H a (.dK kvs)) ∨ ∃ kvs, Rd H a (.dT kvs)
theorem isD_at {X : Cx} {pins : List (Addr × Obj)} {σ : St} {H : Hp} {s : Shared} {a : Addr} (I : Inv X pins σ H s) (d : IsD H a) :
    s.TypeIs (.ref a) "dict" ∧ (∀ b, Value.ref a = .ref b → ∃ ob, s.heap.get? b = some ob ∧ ob.dict = none) ∧ (a == sysModules) = false := by
  rcases d with ⟨kvs, e⟩ | ⟨kvs, e⟩
  · obtain ⟨_, hd, vs, _, dd⟩ := dk_rd I.hok e
    refine ⟨dd.typeIs, fun b q => ?_, hd⟩
    cases q
    obtain ⟨ob, _, _, h1, h2, _⟩ := dd
    exact ⟨ob, h1, h2.2.1⟩
  · obtain ⟨_, hd, xs, _, dd⟩ := dt_rd I.hok e
    refine ⟨dd.typeIs, fun b q => ?_, hd⟩
    cases q
    obtain ⟨ob, _, _, h1, h2, _⟩ := dd
    exact ⟨ob, h1, h2.2.1⟩

section
variable {X : Cx} {pins : List (Addr × Obj)} {σ : St} {H : Hp} {s : Shared} {a : Addr} {y d : V} {u r : Value} {o : Option V} {A : Around} {E : Value → Shared → Prop}
/-- d.get(y, x) -/
theorem d_get2 {Q : Value → Shared → Prop} (hu : A.units + 1 < cLine) (I : Inv X pins σ H s) (g : DGet H a y o) (ry : RelV y u) (rd : RelV d r) (h : ∀ w' s', Inv X pins σ H s' → RelV (o.getD d) w' → Q w' s') :
    wpAny (model X.prog X.w) A (call (.builtin "dict.get") [.ref a, u, r]) Q E s := by
  rcases g with ⟨kvs, k, e, ey, l⟩ | ⟨kvs, k, b, e, ey, eb, l⟩
  · subst ey
    obtain ⟨z, hd, vs, rel, dd⟩ := dk_rd I.hok e
    refine call_meetsIn PySem.F.slot_dict_get dd.typeIs PySem.F.entry_dict_get (PySem.F.args_dict_get_3 _ _ _) (meets_dict_get_default (mixKind X.prog X.w) a (kV_is ry) hd r) ⟨_, dd.mapOf, h _ _ (I.tok _) ?_⟩
    rw [l]
    exact (rel.val k).getD rd
  · subst ey
    cases (show u = Value.ref b from ry)
    obtain ⟨z, hd, xs, rel, dd⟩ := dt_rd I.hok e
    refine call_meetsIn PySem.F.slot_dict_get dd.typeIs PySem.F.entry_dict_get (PySem.F.args_dict_get_3 _ _ _) (meetsH_dict_get_default (tupleKind (mixKind X.prog X.w)) a b hd r) ⟨tupleKind_room_in1 hu, k, xs, key_of I.hok eb, dd, h _ _ (I.tok _) ?_⟩
    rw [l]
    exact (rel.val k).getD rd
end

def tDGet2 (td ty tx : TE) : TE := fun σ H Q => td σ H fun x H1 => ∃ a, x = .ref a ∧ IsD H1 a ∧ ty σ H1 fun y H2 => tx σ H2 fun z H3 => ∃ o, DGet H3 a y o ∧ Q (o.getD z) H3
section
variable {X : Cx} {o e f : Expr} {apos cpos : Pos} {td ty tx : TE}
theorem pe_dget2 (hu : X.A.units + 1 < cLine) (ho : PE X o td) (he : PE X e ty) (hf : PE X f tx) (m : M2 X o "get" apos e f cpos) : PE X (.Call (.Attribute o "get" apos) [e, f] [] cpos) (tDGet2 td ty tx) := by
  intro pins s σ H Q I h
  refine wpAny_Call_method m.base m.few m.line PySem.F.plainAttrs_dict PySem.F.slot_dict_get PySem.F.type_dict_get (thn (ho pins s σ H _ I h) fun u s1 ⟨x, H1, I1, rx, a, ex, d, q1⟩ => ?_)
  subst ex
  obtain rfl : u = Value.ref a := rx
  obtain ⟨t1, t2, _⟩ := isD_at I1 d
  refine ⟨t1, t2, ?_⟩
  rw [m.trees]
  refine Calls.callWith_builtin rfl (Calls.evalArgs_plain (Calls.spliced_cons (thn (he pins s1 σ H1 _ I1 q1) fun iv s2 ⟨y, H2, I2, ry, q2⟩ =>
    Calls.spliced_cons (thn (hf pins s2 σ H2 _ I2 q2) fun fv s3 ⟨z, H3, I3, rz, ov, g, q3⟩ => Calls.spliced_nil ?_))))
  exact d_get2 hu I3 g ry rz fun w' s4 I4 rw' => ⟨_, H3, I4, rw', q3⟩
end

/-! ### dict(d): a copy -/
section
variable {X : Cx} {pins : List (Addr × Obj)} {σ : St} {H : Hp} {s : Shared} {a : Addr} {kvs : List (Key × V)} {A : Around} {E : Value → Shared → Prop}
end


section
variable {X : Cx} {pins : List (Addr × Obj)} {σ : St} {H : Hp} {s : Shared} {a : Addr} {y : V} {u : Value} {A : Around} {E : Value → Shared → Prop}
end
end L2

set_option Elab.async false
set_option linter.all false
set_option maxRecDepth 100000

namespace L2
open PySem PySem.Spec PyProof.Rows
/-! ### zip(list, tuple), taken apart at once, the list no longer than the tuple -/
section
variable {s : Shared} {E : Value → Shared → Prop} {prog : Program} {w : World} {A : Around}
theorem nextT {it t : Addr} {n : Nat} {vs : Array Value} {v : Value} {R : Value → Shared → Prop} (a : s.heap.IsTupleIter it t n) (b : s.heap.IsTuple t vs) (c : vs[n]? = some v) (k : ∀ hp, hp.IsTupleIter it t (n + 1) → Heap.SameBut it s.heap hp → R v { s with heap := hp }) :
    wpAny (model prog w) A (Builtin.SmallTypes.nextOf (.ref it)) R E s := by
  obtain ⟨oi, gi, ci, di⟩ := id a
  obtain ⟨ot, gt, _, nt, dt⟩ := b
  (unfold Builtin.SmallTypes.nextOf); refine wpAny_bind (wpAny_callSpecial?_slot (name := Str.ofString "__next__") a.typeIs F.slot_tuple_iterator_next (wpAny_call_entry F.slot_tuple_iterator_next a.typeIs F.entry_tuple_iterator_next ?_ (F.args_tuple_iterator_next_1 _)))
  (show wpAny _ _ (field (.ref it) 0 >>= _) _ _ s); refine wpAny_bind (wpAny_field gi di (x := .ref t) rfl ?_)
  (show wpAny _ _ (if (Value.ref t == Value.none) = true then _ else _) _ _ s); rw [if_neg fun hz : (Value.ref t == Value.none) = true => Bool.false_ne_true hz]
  (show wpAny _ _ (field (.ref it) 1 >>= _) _ _ s); refine wpAny_bind (wpAny_field gi di (x := .int n 0) rfl ?_)
  (show wpAny _ _ (seqItems? (.ref t) >>= _) _ _ s); refine wpAny_bind (wpAny_seqItems gt dt ?_)
  simp only [Int.toNat_natCast, c]
  refine wpAny_bind (wpAny_setField gi di (by simp) (wpAny_pure ⟨v, rfl, wpAny_pure (k _ ⟨_, Heap.get?_update_self _ gi (Obj.isFreed_of_fields (Obj.data_mapFields di _)), (Obj.cls_mapFields ..).trans ci, ?_⟩ (Heap.SameBut.update ..))⟩))
  rw [Obj.data_mapFields di]; simp [rawInt]
theorem zipT_item {z P O i j l t : Addr} {n : Nat} {xs ys : Array Value} {x y a b : Value} {R : Option Value → Shared → Prop} (D : ZipApart z P O i j l t) (gz : IsZip s.heap z P O .none) (gP : IsPair s.heap P (.ref i) (.ref j)) (gO : IsPair s.heap O a b)
    (gi : s.heap.IsListIter i l n) (gj : s.heap.IsTupleIter j t n) (gl : s.heap.IsList l xs) (gt : s.heap.IsTuple t ys) (ex : xs[n]? = some x) (ey : ys[n]? = some y)
    (k : ∀ hp, IsZip hp z P O (rawInt s.heap.objs.size) → IsPair hp O x y → hp.IsListIter i l (n + 1) → hp.IsTupleIter j t (n + 1) → IsPair hp s.heap.objs.size x y → (∀ c o, c ≠ z → c ≠ O → c ≠ i → c ≠ j → s.heap.get? c = some o → hp.get? c = some o) → R (some (.ref s.heap.objs.size)) { s with heap := hp }) :
    wpAny (model prog w) A (pyNext (.ref z)) R E s := by
  have tz : s.TypeIs (.ref z) "zip" := ⟨_, gz, rfl⟩
  unfold pyNext
  refine wpAny_bind (wpAny_attempt (wpAny_callSpecial?_slot (name := Str.ofString "__next__") tz F.slot_zip_next (wpAny_call_entry F.slot_zip_next tz F.entry_zip_next ?_ (F.args_zip_next_1 _))))
  (show wpAny _ _ (field (.ref z) 2 >>= _) _ _ _); refine wpAny_bind (wpAny_field gz rfl (x := .bool false) rfl ?_)
  (show wpAny _ _ (field (.ref z) 3 >>= _) _ _ _); refine wpAny_bind (wpAny_field gz rfl (x := .ref P) rfl ?_)
  refine wpAny_bind (wpAny_seqItems gP rfl ?_)
  (show wpAny _ _ (Builtin.SmallTypes.ownedTupleIsFree (.ref z) >>= _) _ _ _); refine wpAny_bind ?_
  (unfold Builtin.SmallTypes.ownedTupleIsFree); refine wpAny_bind (wpAny_field gz rfl (x := .none) rfl (wpAny_pure ?_))
  simp only [if_true]
  refine wpAny_bind (wpAny_rule (wpAny_bind (wpAny_field gz rfl (x := .ref O) rfl ?_)))
  refine wpAny_bind (wpAny_setField_rec gz (by simp) fun u1 q1 m1 => ?_)
  replace q1 : IsZip u1 z P O .ellipsis := q1
  refine wpAny_bind ?_
  (simp only [List.zipIdx_cons, List.zipIdx_nil, List.forIn_cons, List.forIn_nil]); refine wpAny_bind (wpAny_bind (wpAny_onRaise ?_))
  (show wpAny _ _ (Builtin.SmallTypes.nextOf (.ref i) >>= _) _ _ _); refine wpAny_bind (wpAny_nextOf_list_item (gi.extBut m1.extBut D.i1z) (gl.extBut m1.extBut D.l1z) ex fun u2 r2 m2 => wpAny_pure ?_)
  have o2 : IsPair u2 O a b := m2.extBut _ _ D.TOi1 (m1.extBut _ _ D.TOz gO)
  refine wpAny_bind (wpAny_seqItems o2 rfl (wpAny_bind (wpAny_updateSeq_pair o2 fun u3 o3 m3 => ?_)))
  replace o3 : IsPair u3 O x b := o3
  refine wpAny_bind (wpAny_letGo (wpAny_pure (wpAny_bind (wpAny_bind (wpAny_onRaise ?_)))))
  (show wpAny _ _ (Builtin.SmallTypes.nextOf (.ref j) >>= _) _ _ _); have t3 : u3.IsTuple t ys := (((gt.extBut m1.extBut D.l2z).extBut m2.extBut D.l2i1).extBut m3.extBut D.l2TO)
  refine wpAny_bind (nextT (((gj.extBut m1.extBut D.i2z).extBut m2.extBut D.i12.symm).extBut m3.extBut D.TOi2.symm) t3 ey fun u4 r4 m4 => wpAny_pure ?_)
  have o4 : IsPair u4 O x b := m4.extBut _ _ D.TOi2 o3
  refine wpAny_bind (wpAny_seqItems o4 rfl (wpAny_bind (wpAny_updateSeq_pair o4 fun u5 o5 m5 => ?_)))
  replace o5 : IsPair u5 O x y := o5
  refine wpAny_bind (wpAny_letGo (wpAny_pure (wpAny_pure (wpAny_bind (wpAny_seqItems o5 rfl (wpAny_bind (wpAny_newTuple ?_)))))))
  have sz : u5.objs.size = s.heap.objs.size := by rw [m5.1, m4.1, m3.1, m2.1, m1.1]
  have q5 : IsZip u5 z P O .ellipsis := m5.extBut _ _ D.TOz.symm (m4.extBut _ _ D.i2z.symm (m3.extBut _ _ D.TOz.symm (m2.extBut _ _ D.i1z.symm q1)))
  have all5 : ∀ c o, c ≠ z → c ≠ O → c ≠ i → c ≠ j → s.heap.get? c = some o → u5.get? c = some o := fun c o n1 n2 n3 n4 e => m5.extBut _ _ n2 (m4.extBut _ _ n4 (m3.extBut _ _ n2 (m2.extBut _ _ n3 (m1.extBut _ _ n1 e))))
  have r5 : u5.IsListIter i l (n + 1) := ((r2.extBut m3.extBut D.TOi1.symm).extBut m4.extBut D.i12).extBut m5.extBut D.TOi1.symm
  have s5 : u5.IsTupleIter j t (n + 1) := r4.extBut m5.extBut D.TOi2.symm
  have zlt : z < u5.objs.size := Heap.lt_size q5
  (show wpAny _ _ (Builtin.SmallTypes.ownedTupleHandOut (.ref z) (.ref u5.objs.size) >>= _) _ _ _); refine wpAny_bind ?_
  (unfold Builtin.SmallTypes.ownedTupleHandOut); have q6 : IsZip (u5.push { cls := .type "tuple", data := .seq #[x, y] }) z P O .ellipsis := Heap.get?_push_of_some _ q5
  refine wpAny_bind (wpAny_setField_rec q6 (by simp) fun u7 q7 m7 => ?_)
  replace q7 : IsZip u7 z P O (rawInt u5.objs.size) := q7
  refine wpAny_setField_rec q7 (by simp) fun u8 q8 m8 => ?_
  replace q8 : IsZip u8 z P O (rawInt u5.objs.size) := q8
  have up : ∀ c o, c ≠ z → u5.get? c = some o → u8.get? c = some o := fun c o n1 e => m8.extBut _ _ n1 (m7.extBut _ _ n1 (Heap.get?_push_of_some _ e))
  have T8 : IsPair u8 u5.objs.size x y := m8.extBut _ _ (Nat.ne_of_gt zlt) (m7.extBut _ _ (Nat.ne_of_gt zlt) (Heap.get?_push_size _ rfl))
  rw [sz] at q8 T8
  refine wpAny_pure ⟨_, rfl, wpAny_pure ?_⟩
  show R (some (.ref u5.objs.size)) _
  rw [sz]
  exact k u8 q8 (up _ _ D.TOz o5) (r5.at fun o e => up _ o D.i1z e) (s5.at fun o e => up _ o D.i2z e) T8 fun c o n1 n2 n3 n4 e => up c o n1 (all5 c o n1 n2 n3 n4 e)
theorem zipT_end {z P O i j l t : Addr} {n : Nat} {xs : Array Value} {a b : Value} {R : Option Value → Shared → Prop} (hh : A.handled = none) (D : ZipApart z P O i j l t) (gz : IsZip s.heap z P O .none) (gP : IsPair s.heap P (.ref i) (.ref j)) (gO : IsPair s.heap O a b)
    (gi : s.heap.IsListIter i l n) (gl : s.heap.IsList l xs) (ex : xs[n]? = none) (k : ∀ hp, (∀ c o, c ≠ z → c ≠ i → s.heap.get? c = some o → hp.get? c = some o) → R none { s with heap := hp }) :
    wpAny (model prog w) A (pyNext (.ref z)) R E s := by
  have tz : s.TypeIs (.ref z) "zip" := ⟨_, gz, rfl⟩
  unfold pyNext
  refine wpAny_bind (wpAny_attempt (wpAny_callSpecial?_slot (name := Str.ofString "__next__") tz F.slot_zip_next (wpAny_call_entry F.slot_zip_next tz F.entry_zip_next ?_ (F.args_zip_next_1 _))))
  (show wpAny _ _ (field (.ref z) 2 >>= _) _ _ _); refine wpAny_bind (wpAny_field gz rfl (x := .bool false) rfl ?_)
  (show wpAny _ _ (field (.ref z) 3 >>= _) _ _ _); refine wpAny_bind (wpAny_field gz rfl (x := .ref P) rfl ?_)
  refine wpAny_bind (wpAny_seqItems gP rfl ?_)
  (show wpAny _ _ (Builtin.SmallTypes.ownedTupleIsFree (.ref z) >>= _) _ _ _); refine wpAny_bind ?_
  (unfold Builtin.SmallTypes.ownedTupleIsFree); refine wpAny_bind (wpAny_field gz rfl (x := .none) rfl (wpAny_pure ?_))
  simp only [if_true]
  refine wpAny_bind (wpAny_rule (wpAny_bind (wpAny_field gz rfl (x := .ref O) rfl ?_)))
  refine wpAny_bind (wpAny_setField_rec gz (by simp) fun u1 q1 m1 => ?_)
  replace q1 : IsZip u1 z P O .ellipsis := q1
  refine wpAny_bind ?_
  (simp only [List.zipIdx_cons, List.zipIdx_nil, List.forIn_cons, List.forIn_nil]); refine wpAny_bind (wpAny_bind (wpAny_onRaise ?_))
  (show wpAny _ _ (Builtin.SmallTypes.nextOf (.ref i) >>= _) _ _ _); refine wpAny_bind (wpAny_nextOf_list_end hh (gi.extBut m1.extBut D.i1z) (gl.extBut m1.extBut D.l1z) ex fun u2 e m2 he => ?_)
  obtain ⟨oe, ge, ce⟩ := he
  have q2 : IsZip u2 z P O .ellipsis := m2 _ _ D.i1z.symm q1
  have ne : e ≠ z := fun h => by subst h; rw [q2] at ge; cases ge; simp at ce
  refine wpAny_setField_rec q2 (by simp) fun u3 _ m3 => ?_
  refine wpAny_bind (wpAny_isInstance (T := "StopIteration") (b := true) ⟨oe, m3.extBut _ _ ne ge, ce⟩ isSubtype_stop ?_)
  exact wpAny_pure (k _ fun c o n1 n3 h => m3.extBut _ _ n1 (m2 _ _ n3 (m1.extBut _ _ n1 h)))
end
end L2
namespace L2
open PySem PySem.Spec PyProof.Rows
def ItzT (K : PySem.W.Frag) (a b : Addr) : It :=
  ⟨fun i H => ∃ xs ys x y, SqL K H a xs ∧ xs[i]? = some x ∧ SqT K H b ys ∧ ys[i]? = some y,
   fun i H v H' => ∃ (T : Addr) (x y : V), v = .ref T ∧ H T = none ∧ H' = upd H T (.tup [x, y]) ∧ (∀ xs, SqL K H a xs → xs[i]? = some x) ∧ (∀ ys, SqT K H b ys → ys[i]? = some y),
   fun i H => ∃ xs, SqL K H a xs ∧ xs.length ≤ i⟩
theorem turn_zipT {P : Program} {w : World} {K : PySem.W.Frag} {elts : List Expr} {k0 : Nat} {pos : Pos} {z TI TO i1 i2 l1 l2 : Addr} (D : ZipApart z TI TO i1 i2 l1 l2) :
    Turn P w K (.Tuple elts k0 pos) (ItzT K l1 l2) [z, TI, TO, i1, i2] z (fun i h => IsZip h z TI TO .none ∧ IsPair h TI (.ref i1) (.ref i2) ∧ (∃ a b, IsPair h TO a b) ∧ h.IsListIter i1 l1 i ∧ h.IsTupleIter i2 l2 i) where
  mem := by simp
  obj := fun i h st b hb => by
    obtain ⟨hz, hTI, ⟨a, c, hTO⟩, ⟨o1, e1, c1, d1⟩, ⟨o2, e2, c2, d2⟩⟩ := st
    simp only [List.mem_cons, List.not_mem_nil, or_false] at hb
    rcases hb with rfl | rfl | rfl | rfl | rfl
    · exact ⟨_, hz, fun v q => nomatch q⟩
    · exact ⟨_, hTI, fun v q => nomatch q⟩
    · exact ⟨_, hTO, fun v q => nomatch q⟩
    · exact ⟨o1, e1, fun v q => by rw [d1] at q; cases q⟩
    · exact ⟨o2, e2, fun v q => by rw [d2] at q; cases q⟩
  keep := fun i h h' st kp => by
    obtain ⟨hz, hTI, ⟨a, c, hTO⟩, h1, h2⟩ := st
    exact ⟨kp z (by simp) _ hz, kp TI (by simp) _ hTI, ⟨a, c, kp TO (by simp) _ hTO⟩, h1.at fun o e => kp i1 (by simp) o e, h2.at fun o e => kp i2 (by simp) o e⟩
  item := by
    intro X hP hw hK hc i pins s σ H E I hf st hg
    subst hP hw hK
    obtain ⟨xs, ys, x, y, hq1, hx, hq2, hy⟩ := hg
    obtain ⟨its1, rv1, p1, _⟩ := I.list hq1
    obtain ⟨its2, rv2, p2, _⟩ := I.tuple hq2
    obtain ⟨u1, hu1, ru1⟩ := rv1.get hx
    obtain ⟨u2, hu2, ru2⟩ := rv2.get hy
    obtain ⟨hz, hTI, ⟨a, c, hTO⟩, h1, h2⟩ := st
    refine zipT_item D hz hTI hTO h1 h2 p1.isList (show s.heap.IsTuple l2 its2.toArray from p2) (x := u1) (y := u2) (by simpa using hu1) (by simpa using hu2) fun h' a1 a2 a3 a4 a5 hk => ?_
    have kp : ∀ b o, b ∉ [z, TI, TO, i1, i2] → s.heap.get? b = some o → h'.get? b = some o := fun b o hb q => by
      simp only [List.mem_cons, List.not_mem_nil, or_false, not_or] at hb
      exact hk b o hb.1 hb.2.2.1 hb.2.2.2.1 hb.2.2.2.2 q
    have I1 : Inv X pins σ (upd H s.heap.objs.size (.tup [x, y])) { s with heap := h', toks := s.toks } := I.turnedTup (t' := s.toks) hf (Nat.le_refl _) a5 ru1 ru2 kp
    have nz : ∀ b ∈ [z, TI, TO, i1, i2], b ≠ s.heap.objs.size := fun b hb q => by
      simp only [List.mem_cons, List.not_mem_nil, or_false] at hb
      rcases hb with rfl | rfl | rfl | rfl | rfl
      · exact Nat.lt_irrefl _ (q ▸ Heap.lt_size hz)
      · exact Nat.lt_irrefl _ (q ▸ Heap.lt_size hTI)
      · exact Nat.lt_irrefl _ (q ▸ Heap.lt_size hTO)
      · obtain ⟨_, e2, _⟩ := h1; exact Nat.lt_irrefl _ (q ▸ Heap.lt_size e2)
      · obtain ⟨_, e2, _⟩ := h2; exact Nat.lt_irrefl _ (q ▸ Heap.lt_size e2)
    have hf1 : ∀ b ∈ [z, TI, TO, i1, i2], FpOk X pins (upd H s.heap.objs.size (.tup [x, y])) b := fun b hb => ⟨by rw [upd_ne (nz b hb)]; exact (hf b hb).1, (hf b hb).2⟩
    refine ⟨.ref s.heap.objs.size, rfl, wpAny_letOwnedTupleGo_zip (s := { s with heap := h' }) a1 fun h2' hz' hs' => ?_⟩
    have I2 : Inv X pins σ (upd H s.heap.objs.size (.tup [x, y])) { s with heap := h2', toks := s.toks } := I1.turnedAll (t' := s.toks) hf1 fun c o hc q => hs'.extBut c o (fun z => hc (by simp [z])) q
    exact ⟨.ref s.heap.objs.size, _, I2, rfl, ⟨_, x, y, rfl, I.hok.fresh (Nat.le_refl _), rfl, fun xs' hx' => by rw [I.list_inj hx' hq1]; exact hx, fun ys' hy' => by rw [I.tuple_inj hy' hq2]; exact hy⟩,
      ⟨hz', hs'.extBut _ _ D.TIz (hk _ _ D.TIz D.TITO D.TIi1 D.TIi2 hTI), ⟨_, _, hs'.extBut _ _ D.TOz a2⟩, a3.extBut hs'.extBut D.i1z, a4.extBut hs'.extBut D.i2z⟩, fun b hb => (hf1 b hb).1⟩
  done := by
    intro X hP hw hK hc i pins s σ H E I hf st hg
    subst hP hw hK
    obtain ⟨xs, hq1, hl⟩ := hg
    obtain ⟨its1, rv1, p1, _⟩ := I.list hq1
    have l1' := rv1.length
    obtain ⟨hz, hTI, ⟨a, c, hTO⟩, h1, h2⟩ := st
    refine zipT_end (I.ok.hd hc) D hz hTI hTO h1 p1.isList (by simp; omega) fun h' hk => ⟨rfl, I.turnedAll (t' := s.toks) hf fun c o hc q => ?_⟩
    simp only [List.mem_cons, List.not_mem_nil, or_false, not_or] at hc
    exact hk c o hc.1 hc.2.2.2.1 q
  self := fun _ _ _ _ _ st h => wpAny_pyIter_zip st.1 h
end L2

namespace L2
open PySem PySem.Spec PyProof.Rows
abbrev zA (h : Heap) (l : Addr) : Heap := h.push { cls := .type "list_iterator", data := .fields #[.ref l, .int 0 0] }
abbrev zB (h : Heap) (l t : Addr) : Heap := (zA h l).push { cls := .type "tuple_iterator", data := .fields #[.ref t, .int 0 0] }
abbrev zC (h : Heap) (l t : Addr) : Heap := (zB h l t).push { cls := .type "tuple", data := .seq #[.ref h.objs.size, .ref (zA h l).objs.size] }
abbrev zD (h : Heap) (l t : Addr) : Heap := (zC h l t).push { cls := .type "tuple", data := .seq #[.none, .none] }
abbrev zE (h : Heap) (l t : Addr) : Heap := (zD h l t).push { cls := .type "zip", data := .fields #[.none, .bool false, .bool false, .ref (zB h l t).objs.size, .ref (zC h l t).objs.size] }
theorem meets_zipT (l t : Addr) (xs ys : Array Value) :
    Meets (Builtin.«zip.__new__» ⟨[.type "zip", .ref l, .ref t], []⟩) (fun _ R s => s.heap.IsList l xs ∧ s.heap.IsTuple t ys ∧ R (.ok (.ret (.ref (zD s.heap l t).objs.size))) { s with heap := zE s.heap l t }) :=
  .of_wp fun prog w A R s h => by
    obtain ⟨hp, g, d, tk, os⟩ := s; obtain ⟨a1, a2, h⟩ := h
    have hsub := sub_zip
    have b1 : Heap.IsList (Shared.heap ⟨hp, g, d, tk, os⟩) l xs := a1
    have b2 : Heap.IsTuple (Shared.heap ⟨hp.push { cls := .type "list_iterator", data := .fields #[.ref l, .int 0 0] }, g, d, tk, os⟩) t ys := Heap.IsTuple.push a2 _
    wp_walk using wpAny_pyIter_list b1, wpAny_pyIter_tuple b2
    exact ⟨_, rfl, h⟩
theorem call_zipT {prog : Program} {w : World} {A : Around} {E : Value → Shared → Prop} {s : Shared} {l t : Addr} {xs ys : Array Value} {Q : Value → Shared → Prop} (hl : s.heap.IsList l xs) (ht : s.heap.IsTuple t ys)
    (h : ∀ h', IsZip h' (s.heap.objs.size + 4) (s.heap.objs.size + 2) (s.heap.objs.size + 3) .none → IsPair h' (s.heap.objs.size + 2) (.ref s.heap.objs.size) (.ref (s.heap.objs.size + 1)) → IsPair h' (s.heap.objs.size + 3) .none .none →
      h'.IsListIter s.heap.objs.size l 0 → h'.IsTupleIter (s.heap.objs.size + 1) t 0 → (∀ c o, s.heap.get? c = some o → h'.get? c = some o) → Q (.ref (s.heap.objs.size + 4)) { s with heap := h' }) :
    wpAny (model prog w) A (call (.type "zip") [.ref l, .ref t]) Q E s := by
  refine callType_new F.called_zip (by decide) (F.typeCall_zip_2 _ _) (F.newCall_zip_2 _ _) (fun obj => F.args_object_init_3 obj _ _) F.entry_zip_new (meets_zipT l t xs ys) ⟨hl, ht, ?_⟩
  have n1 : (zA s.heap l).objs.size = s.heap.objs.size + 1 := Heap.size_push ..
  have n2 : (zB s.heap l t).objs.size = s.heap.objs.size + 2 := by rw [Heap.size_push, n1]
  have n3 : (zC s.heap l t).objs.size = s.heap.objs.size + 3 := by rw [Heap.size_push, n2]
  have n4 : (zD s.heap l t).objs.size = s.heap.objs.size + 4 := by rw [Heap.size_push, n3]
  have up : ∀ {h : Heap} {o o' : Obj} {c : Addr}, h.get? c = some o → (h.push o').get? c = some o := fun e => Heap.get?_push_of_some _ e
  have g5 : (zE s.heap l t).get? (zD s.heap l t).objs.size = some _ := Heap.get?_push_size _ rfl
  have g4 : (zE s.heap l t).get? (zC s.heap l t).objs.size = some _ := up (Heap.get?_push_size _ rfl)
  have g3 : (zE s.heap l t).get? (zB s.heap l t).objs.size = some _ := up (up (Heap.get?_push_size _ rfl))
  have g2 : (zE s.heap l t).get? (zA s.heap l).objs.size = some _ := up (up (up (Heap.get?_push_size _ rfl)))
  have g1 : (zE s.heap l t).get? s.heap.objs.size = some _ := up (up (up (up (Heap.get?_push_size _ rfl))))
  show _ ∧ _
  rw [n2, n3, n4] at g5
  rw [n1, n2] at g3
  rw [n3] at g4
  rw [n1] at g2
  rw [n4]
  exact ⟨⟨_, g5, rfl⟩, h _ g5 g3 g4 ⟨_, g1, rfl, rfl⟩ ⟨_, g2, rfl, rfl⟩ fun c o e => up (up (up (up (up e))))⟩
section
variable {X : Cx} {K : PySem.W.Frag}
def iZipT (K : PySem.W.Frag) (ta : TA) : TI := fun σ H R => ta σ H fun vs H1 => ∃ l1 l2, vs = [.ref l1, .ref l2] ∧ (∃ xs, SqL K H1 l1 xs) ∧ (∃ ys, SqT K H1 l2 ys) ∧ R (ItzT K l1 l2) H1
theorem pi_zipT {elts : List Expr} {k0 : Nat} {tpos : Pos} {a b : Expr} {ta : TA} {p pos : Pos} (hg : Gl X "zip") (hm : X.mg "zip" = none) (ha : PA X [a, b] ta) (hK : X.K = K := by rfl)
    (hs : starEach [a, b] X.env = [(false, eval a X.env), (false, eval b X.env)] := by rfl) (hs2 : starEach [b] X.env = [(false, eval b X.env)] := by rfl) :
    PI X (.Tuple elts k0 tpos) (.Call (.Name "zip" p) [a, b] [] pos) (iZipT K ta) := by
  subst hK
  intro pins s σ H R I h
  refine Call_ (ld_blt I hg hm (show bootBuiltins "zip" = some (.type "zip") by decide +kernel) (PyProof.Rows.callWith_type1 (thn (ha pos pins s σ H _ I h) fun us s1 ⟨vs, H1, I1, r1, q1⟩ => ?_) (by rw [hs, hs2]) (by rw [hs2]; rfl)))
  obtain ⟨l1, l2, e, ⟨xs, hx⟩, ⟨ys, hy⟩, q⟩ := q1
  subst e
  obtain ⟨u1, u2, rfl, r1, r2⟩ := vals2 r1
  cases r1
  cases r2
  obtain ⟨its1, rv1, p1, _⟩ := I1.list hx
  obtain ⟨its2, rv2, p2, _⟩ := I1.tuple hy
  have a1 : l1 < s1.heap.objs.size := by obtain ⟨_, e, _⟩ := p1.isList; exact Heap.lt_size e
  have p2' : s1.heap.IsTuple l2 its2.toArray := p2
  have a2 : l2 < s1.heap.objs.size := by obtain ⟨_, e, _⟩ := p2'; exact Heap.lt_size e
  refine call_zipT p1.isList p2' fun h' hz hTI hTO hi1 hi2 hk => ?_
  refine wpAny_pyIter_zip hz ⟨_, [s1.heap.objs.size + 4, s1.heap.objs.size + 2, s1.heap.objs.size + 3, s1.heap.objs.size, s1.heap.objs.size + 1], _, ItzT X.K l1 l2, H1, rfl, I1.kept (t' := s1.toks) hk, turn_zipT (zipApart_new a1 a2), ⟨hz, hTI, ⟨_, _, hTO⟩, hi1, hi2⟩, fun b hb => ?_, q⟩
  have hb' : s1.heap.objs.size ≤ b := by
    simp only [List.mem_cons, List.not_mem_nil, or_false] at hb
    rcases hb with rfl | rfl | rfl | rfl | rfl <;> first | exact Nat.le_add_right _ _ | exact Nat.le_refl _
  exact I1.fpOk hb' (I1.hok.fresh hb')
end
theorem for_zipT {K : PySem.W.Frag} {a b : Addr} {xs ys : List V} {g : TG} {tb : TS} {D : Ends} {σ : St} {H : Hp} (Pv : Nat → St → Hp → Prop) (h0 : Pv 0 σ H) (hl : ∀ i σ H, Pv i σ H → SqL K H a xs ∧ SqT K H b ys) (he : xs.length = ys.length)
    (hs : ∀ i x y σ H T, xs[i]? = some x → ys[i]? = some y → Pv i σ H → H T = none → g (.ref T) σ (upd H T (.tup [x, y])) fun σ2 H2 => tb { D with nx := Pv (i + 1), ct := Pv (i + 1), bk := D.nx } σ2 H2) (hd : ∀ σ H, Pv xs.length σ H → D.nx σ H) :
    ∃ W : Nat → Nat → St → Hp → Prop, (∃ m, W 0 m σ H) ∧ ∀ i m σ H, W i m σ H →
      ((ItzT K a b).stop i H ∧ D.nx σ H) ∨ ((ItzT K a b).go i H ∧ ∃ N : St → Hp → Prop, (∀ σ' H', N σ' H' → ∃ m', m' < m ∧ W (i + 1) m' σ' H') ∧ ∀ x H', (ItzT K a b).yld i H x H' → g x σ H' fun σ2 H2 => tb { D with nx := N, ct := N, bk := D.nx } σ2 H2) := by
  refine ⟨fun i m σ H => m = xs.length - i ∧ i ≤ xs.length ∧ Pv i σ H, ⟨_, rfl, Nat.zero_le _, h0⟩, ?_⟩
  rintro i m σ H ⟨rfl, hi, hp⟩
  obtain ⟨q1, q2⟩ := hl i σ H hp
  by_cases hlt : i < xs.length
  · refine .inr ⟨⟨xs, ys, xs[i], ys[i], q1, List.getElem?_eq_getElem hlt, q2, List.getElem?_eq_getElem (by omega)⟩, Pv (i + 1), fun σ' H' h' => ⟨xs.length - (i + 1), by omega, rfl, hlt, h'⟩, ?_⟩
    rintro v H' ⟨T, x, y, rfl, hT, rfl, hx, hy⟩
    exact hs i x y σ H T (hx xs q1) (hy ys q2) hp hT
  · have e : i = xs.length := by omega
    subst e
    exact .inl ⟨⟨xs, q1, Nat.le_refl _⟩, hd σ H hp⟩
end L2

set_option Elab.async false
set_option linter.all false
set_option maxRecDepth 100000

namespace PySem
open Builtin
theorem nofill_tup : fillsNumberSlot (.type "tuple") "mul" = pure false :=
  PySem.fillsNumberSlot_seq (id := "tuple.__mul__") (r := some (.builtin "tuple.__rmul__")) F.slot_tuple_mul.lookup (by decide +kernel) F.slot_tuple_rmul.lookup (by decide +kernel)
theorem rep_tup : seqRepeat? (.type "tuple") = pure (some (.builtin "tuple.__mul__")) := by
  unfold seqRepeat?
  rw [PySem.seqSlot_of (T := "tuple") (name := "__mul__") (id := "tuple.__mul__") F.slot_tuple_mul.lookup (by decide +kernel), PySem.seqSlot_of (T := "tuple") (name := "__rmul__") (id := "tuple.__rmul__") F.slot_tuple_rmul.lookup (by decide +kernel)]
  rfl
theorem rmul_tup (a : Int) (t : Tok) (l : Addr) (o : Obj) (its : Array Value) (n : Nat) (hc : o.cls = .type "tuple") (hd : o.data = .seq its n) :
    Meets (Builtin.«int.__rmul__» ⟨[.int a t, .ref l], []⟩) (fun _ R s => s.heap.get? l = some o ∧ R (.ok (.ret Value.notImplemented)) s) :=
  .of_wp fun prog w A R s h => by
    obtain ⟨hp, g, d, tk, os⟩ := s; obtain ⟨hl, h⟩ := h
    obtain ⟨c, di, da, sl⟩ := o
    cases hc
    cases hd
    wp_walk; exact ⟨_, rfl, h⟩
set_option maxHeartbeats 1000000 in
theorem mul_tup (l : Addr) (items : Array Value) (u : Tok) (o : Obj) (n : Nat) (x : Int) (hc : o.cls = .type "tuple") (hd : o.data = .seq items n) (h0 : ¬ (decide (x < -(2 ^ 63)) || decide (x ≥ 2 ^ 63)) = true) (h1 : ¬ (items.isEmpty || x == 1) = true) (h2 : ¬ (decide (x ≤ 0) || items.isEmpty) = true)
    (h3 : ¬ ((items.size : Int) * x > (2 ^ 63 - 1) / 8)) (h4 : ¬ Builtin.Tuple.tupleTooMany ((items.size : Int) * x) = true) (hsz : ((List.replicate x.toNat items).foldl (fun x1 x2 => x1 ++ x2) #[]).size ≤ sizeLine) :
    Meets (Builtin.«tuple.__mul__» ⟨[.ref l, .int x u], []⟩) (fun _ R s => s.heap.get? l = some o ∧ R (.ok (.ret (.ref s.heap.objs.size))) { s with heap := s.heap.push { cls := .type "tuple", data := .seq ((List.replicate x.toNat items).foldl (· ++ ·) #[]) } }) :=
  .of_wp fun prog w A R s h => by
    obtain ⟨hp, g, d, tk, os⟩ := s; obtain ⟨hl, h⟩ := h
    obtain ⟨c, di, da, sl⟩ := o
    cases hc
    cases hd
    wp_walk
    rw [if_neg h0]
    wp_walk
    rw [if_neg h3]
    wp_walk
    exact ⟨_, rfl, h⟩
end PySem
namespace L2
open PySem PySem.Spec PyProof.Rows
section
variable {X : Cx} {K : PySem.W.Frag}
/-- (x,) * k -/
def rRepT1 (K : PySem.W.Frag) : R2 := fun x y H Q => ∃ l k v, x = .ref l ∧ y = .int k ∧ SqT K H l [v] ∧ 2 ≤ k ∧ k ≤ 1000 ∧ ∀ p, H p = none → Q (.ref p) (upd H p (.tup (List.replicate k.toNat v)))
theorem foldl_one (v : Value) : ∀ (m : Nat) (a : List Value), List.foldl (fun x1 x2 => x1 ++ x2) a.toArray (List.replicate m #[v]) = (a ++ List.replicate m v).toArray
  | 0, a => by simp
  | m + 1, a => by
    rw [List.replicate_succ, List.foldl_cons, show a.toArray ++ #[v] = (a ++ [v]).toArray by simp, foldl_one v m (a ++ [v]), List.replicate_succ, List.append_assoc]; rfl
theorem vals_rep {v : V} {u : Value} (r : RelV v u) : ∀ m : Nat, Vals (List.replicate m v) (List.replicate m u)
  | 0 => .nil
  | m + 1 => .cons r (vals_rep r m)
theorem op_repT1 (hK : X.K = K := by rfl) : OpR X (binaryOp .Mult) (rRepT1 K) := by
  subst hK
  intro pins s σ H x y v u Q I rx ry h
  obtain ⟨l, k, a, rfl, rfl, hq, h1, h2, q⟩ := h
  cases rx
  obtain ⟨t, rfl⟩ := ry
  obtain ⟨its, r, p, _⟩ := I.tuple hq
  obtain ⟨u, rfl, ru⟩ : ∃ u, its = [u] ∧ RelV a u := by
    cases r with
    | cons h t => cases t; exact ⟨_, rfl, h⟩
  obtain ⟨o, ho, hc, n, hd⟩ := p
  have hl : (List.replicate k.toNat #[u]).foldl (fun x1 x2 => x1 ++ x2) #[] = (List.replicate k.toNat u).toArray := by
    have := foldl_one u k.toNat []
    simpa using this
  have sl := sizeLine_eq
  refine wpAny_binaryOp_repeat_ref (T := "tuple") (U := "int") (by decide) ⟨_, ho, hc⟩ (fun s' => typeIs_int s' k t) nofill_tup F.fills_int_mul F.slot_int_rmul rep_tup F.slot_int_index.lookup
    (call_meets F.slot_int_rmul (typeIs_int s k t) F.entry_int_rmul (F.args_int_rmul_2 _ _) (rmul_tup k t l o _ n hc hd)
      ⟨ho, rfl, ⟨_, ho, hc⟩, call_meets F.slot_tuple_mul ⟨_, ho, hc⟩ F.entry_tuple_mul (F.args_tuple_mul_2 _ _) (mul_tup l _ t o n k hc hd ?_ ?_ ?_ ?_ ?_ ?_) ⟨ho, ?_⟩⟩)
  · simp; omega
  · simp; omega
  · simp; omega
  · show ¬ (((1 : Nat) : Int) * k > (2 ^ 63 - 1) / 8); omega
  · unfold Builtin.Tuple.tupleTooMany; simp; omega
  · rw [show ([u].toArray : Array Value) = #[u] from rfl, hl]; simp; omega
  · rw [show ([u].toArray : Array Value) = #[u] from rfl, hl]
    refine ⟨.ref s.heap.objs.size, _, I.laid (t' := s.toks) (o := .tup (List.replicate k.toNat a)) (fun b ob q => Heap.get?_push_of_some _ q) (Nat.le_refl _) ?_, rfl, q _ (I.hok.fresh (Nat.le_refl _))⟩
    exact ⟨by rw [List.length_replicate]; omega, _, vals_rep ru _, IsTup.new _ _⟩
end
end L2

set_option Elab.async false
set_option linter.all false
set_option maxRecDepth 100000

namespace L2
open PySem PySem.Spec PyProof.Rows
/-! ### a comprehension with one test -/
section
variable {prog : Program} {w : World} {A : Around} {R : Result → Shared → Prop} {s : Shared}
theorem codeAny_compLoop_ownIf {elt target iter c : Expr} {scope : Scope} {pos : Pos} {it acc : Value} {env : Env} (I : Nat → Shared → Prop)
    (turn : ∀ n s, I n s → wpAny (model prog w) A (pyNext it) (fun r s1 => match r with
      | none => R (.ok .next) s1
      | some v => wpAny (model prog w) A (letOwnedTupleGo target it v) (fun _ s0 => wpAny (model prog w) A (assign target env v) (fun _ s2 => wpAny (model prog w) A (isTrue c env (eval c env)) (fun ok s3 =>
          if ok = true then wpAny (model prog w) A (eval elt env) (fun x s4 =>
            wpAny (model prog w) A (call (.builtin "list.append") [acc, x]) (fun _ s5 => ∃ m, m < n ∧ I m s5) (notedBy (model prog w) A env fun e s' => R (.error e) s') s4) (notedBy (model prog w) A env fun e s' => R (.error e) s') s3
          else ∃ m, m < n ∧ I m s3)
          (notedBy (model prog w) A env fun e s' => R (.error e) s') s2) (notedBy (model prog w) A env fun e s' => R (.error e) s') s0) (notedBy (model prog w) A env fun e s' => R (.error e) s') s1) (notedBy (model prog w) A env fun e s' => R (.error e) s') s)
    (n : Nat) (h : I n s) :
    codeAny (model prog w) A (.compLoop (.ListComp elt [⟨target, iter, [c], 0⟩] scope pos) 0 it acc env) R s := by
  refine codeAny_loop rfl I (fun n s hI => ?_) n h
  show wpAny _ _ ((compTurn (.ListComp elt [⟨target, iter, [c], 0⟩] scope pos) 0 it acc env).onRaise (fun x => do noteFrame x env; theTreesLotGoes x)) _ _ s
  refine wpAny_noted ?_
  rw [compTurn_list]
  refine wpAny_bind (wpAny_standAt (wpAny_bind (wpAny_mono (turn n s hI) (fun r s1 h1 => ?_) fun _ _ h' => h')))
  cases r with
  | none => exact wpAny_pure h1
  | some v =>
    refine wpAny_bind (wpAny_mono h1 (fun _ s0 h0 => ?_) fun _ _ h' => h')
    refine wpAny_bind (wpAny_mono h0 (fun _ s2 h2 => wpAny_bind (wpAny_mono (wpAny_tests_one h2) (fun ok s3 h3 => ?_) fun _ _ h' => h')) fun _ _ h' => h')
    cases ok with
    | false => exact wpAny_pure ⟨rfl, h3⟩
    | true =>
      exact wpAny_bind (wpAny_bind (wpAny_mono h3 (fun x s4 h4 => wpAny_bind (wpAny_mono h4 (fun _ s5 h5 => wpAny_pure (wpAny_pure ⟨rfl, h5⟩)) fun _ _ h' => h')) fun _ _ h' => h'))
end

def compWalkIf (J : It) (H1 : Hp) (σ0 : St) (g : TG) (tt : TT) (te : TE) (Q : Addr → Hp → Prop) : Prop :=
  ∀ acc, H1 acc = none → ∃ W : Nat → Nat → St → Hp → Prop, (∃ m, W 0 m σ0 (upd H1 acc (.lst []))) ∧ ∀ i m σ' H', W i m σ' H' →
    (J.stop i H' ∧ Q acc H') ∨ (J.go i H' ∧ ∀ x H2, J.yld i H' x H2 → g x σ' H2 fun σ2 H3 => tt σ2 H3 fun b H3' => if b = true then te σ2 H3' fun y H4 => ∃ ys, H4 acc = some (.lst ys) ∧ ys.length < sizeLine ∧ ∃ m', m' < m ∧ W (i + 1) m' σ2 (upd H4 acc (.lst (ys ++ [y])))
      else ∃ m', m' < m ∧ W (i + 1) m' σ2 H3')
def tCompIf (wi : TI) (own : Nat) (fv : List Nat) (g : TG) (tt : TT) (te : TE) : TE := fun σ H Q => wi σ H fun J H1 => compWalkIf J H1 (blkStart own fv σ) g tt te fun acc H' => Q (.ref acc) H'

section
variable {X : Cx} {elt tg iter c : Expr} {scope : Scope} {N' : List Str} {own : Nat} {fv : List Nat} {cl : List (Str × Addr)} {pins : List (Addr × Obj)} {σ : St} {H2 : Hp} {s2 : Shared} {fp : List Addr} {it : Addr} {tn : Nat → Heap → Prop} {J : It} {pos : Pos} {g : TG} {tt : TT} {te : TE} {Q : Addr → Hp → Prop}
theorem comp_blockIf (hc : X.calm = true) (sc : BlkScope X scope N' own fv) (I2 : Inv X pins σ H2 s2) (T : Turn X.prog X.w X.K tg J fp it tn) (st2 : tn 0 s2.heap) (f2 : ∀ b ∈ fp, FpOk X pins H2 b)
    (c1 : ∀ n c, cl.lookup n = some c → X.env.cells.lookup n = some c) (c2 : ∀ y ∈ scope.names, y.2 = .free → ∃ c, cl.lookup y.1 = some c)
    (hg : ∀ cl s3 H3 ex, PG (X.blk scope N' cl s3 H3 ex) tg g) (ht : ∀ cl s3 H3 ex, PT (X.blk scope N' cl s3 H3 ex) c tt) (he : ∀ cl s3 H3 ex, PE (X.blk scope N' cl s3 H3 ex) elt te)
    (hq : compWalkIf J H2 (blkStart own fv σ) g tt te Q) {RR : Value → Addr → Result → Shared → Prop}
    (hRR : ∀ acc C s' H' m, Inv X pins σ H' s' → Q acc H' → s'.heap.Ns C m → H' C = none → C ≠ X.env.locals → X.s₀.heap.objs.size ≤ C → (∀ x c, X.env.cells.lookup x = some c → c ≠ C) → (∀ p ∈ X.pn ++ pins, p.1 ≠ C) → RR (.ref acc) C (.ok .next) s') :
    wpAny (model X.prog X.w) X.A (newList []) (fun acc s3 => wpAny (model X.prog X.w) X.A (newFunctionEnv scope X.env.globals cl [] X.env.qual none .none (some X.env)) (fun cenv s4 =>
      codeAny (model X.prog X.w) X.A (.compStart (.ListComp elt [⟨tg, iter, [c], 0⟩] scope pos) 0 (.ref it) acc { cenv with scope := relabel scope X.env }) (RR acc cenv.locals) s4) X.xe s3) X.xe s2 := by
  refine wpAny_newObj_type (wpAny_newFunctionEnv sc.nocell (by intro y hy; simp at hy) (fun h1 hns hsb => ?_) sc.kind)
  dsimp only at hns hsb ⊢
  have I3 : Inv X pins σ (upd H2 s2.heap.objs.size (.lst [])) { s2 with heap := s2.heap.push { cls := .type "list", dict := none, data := .seq ([] : List Value).toArray } } := I2.lnew (t' := s2.toks) .nil (Nat.zero_le _)
  have hacc : H2 s2.heap.objs.size = none := I2.fresh
  obtain ⟨W, ⟨m0, w0⟩, turn⟩ := hq s2.heap.objs.size hacc
  have flt : ∀ b ∈ fp, b < s2.heap.objs.size := fun b hb => by
    obtain ⟨o, e, _⟩ := T.obj _ _ st2 b hb
    exact Heap.lt_size e
  have f3 : ∀ b ∈ fp, FpOk X pins (upd H2 s2.heap.objs.size (.lst [])) b := fun b hb => ⟨by rw [upd_ne (Nat.ne_of_lt (flt b hb))]; exact (f2 b hb).1, (f2 b hb).2⟩
  have st3 : tn 0 (s2.heap.push { cls := .type "list", dict := none, data := .seq ([] : List Value).toArray }) := T.keep _ _ _ st2 fun b _ o e => Heap.get?_push_of_some _ e
  generalize hs3 : ({ s2 with heap := s2.heap.push { cls := .type "list", dict := none, data := .seq ([] : List Value).toArray } } : Shared) = s3 at I3 
  have eh : s2.heap.push { cls := .type "list", dict := none, data := .seq ([] : List Value).toArray } = s3.heap := by rw [← hs3]
  rw [eh] at hns hsb st3
  have old : ∀ b o, s3.heap.get? b = some o → h1.get? b = some o := fun b o e => hsb.extBut b o (Nat.ne_of_lt (Heap.lt_size e)) (Heap.get?_push_of_some _ e)
  have fo3 : ∀ b ∈ fp, b < s3.heap.objs.size := fun b hb => by
    obtain ⟨o, e, _⟩ := T.obj _ _ st3 b hb
    exact Heap.lt_size e
  have est : ({ s2 with heap := h1, toks := s2.toks + ([] : List (Str × Value)).length } : Shared) = { s3 with heap := h1, toks := s3.toks } := by rw [← hs3]; rfl
  have I4 : Inv (X.blk scope N' cl s3 (upd H2 s2.heap.objs.size (.lst [])) fp) [] (blkStart own fv σ) (upd H2 s2.heap.objs.size (.lst [])) { s3 with heap := h1, toks := s3.toks } :=
    blk_inv sc I3 f3 fo3 c1 c2 hns old
  have st4 : tn 0 h1 := T.keep _ _ _ st3 fun b _ o e => old b o e
  have stat : ∀ {H' : Hp}, (∀ b ∈ fp, H' b = none) → ∀ b ∈ fp, FpOk (X.blk scope N' cl s3 (upd H2 s2.heap.objs.size (.lst [])) fp) [] H' b := fun hn b hb =>
    ⟨hn b hb, Nat.ne_of_lt (fo3 b hb), fun hf => by
      rcases List.mem_cons.mp (I3.stkSub b hf) with h | h
      · exact (f3 b hb).2.1 h
      · exact (f3 b hb).2.2.1 h, .inl hb, fun x c hc' => (f3 b hb).2.2.2.2.1 x c (c1 x c hc'), fun p hp => nomatch hp⟩
  have loop : ∀ s4 : Shared, s4 = { s3 with heap := h1, toks := s3.toks } →
      codeAny (model X.prog X.w) X.A (.compLoop (.ListComp elt [⟨tg, iter, [c], 0⟩] scope pos) 0 (.ref it) (.ref s2.heap.objs.size) (compEnvC scope cl s3.heap.objs.size X.env)) (RR (.ref s2.heap.objs.size) s3.heap.objs.size) s4 := by
    rintro s4 rfl
    refine codeAny_compLoop_ownIf (fun n s' => ∃ i σ' H', Inv (X.blk scope N' cl s3 (upd H2 s2.heap.objs.size (.lst [])) fp) [] σ' H' s' ∧ tn i s'.heap ∧ (∀ b ∈ fp, H' b = none) ∧ W i n σ' H') ?_ m0
      ⟨0, _, _, I4, st4, fun b hb => (f3 b hb).1, w0⟩
    rintro n s5 ⟨i, σ5, H5, I5, st5, fr5, w5⟩
    rcases turn i n σ5 H5 w5 with ⟨stop, q⟩ | ⟨go, step⟩
    · refine thn (T.done (X.blk scope N' cl s3 (upd H2 s2.heap.objs.size (.lst [])) fp) rfl rfl rfl hc i [] s5 σ5 H5 _ I5 (stat fr5) st5 stop) fun r s6 ⟨hr, I6⟩ => ?_
      subst hr
      obtain ⟨m6, hn6, _⟩ := I6.loc
      refine hRR _ _ s6 H5 m6 (I3.call' (ch := fp) I6.os I6.base I6.hok I6.bare fun b hb => ⟨(f3 b hb).2.2.2.1, (f3 b hb).2.1, (f3 b hb).2.2.2.2.1, (f3 b hb).2.2.2.2.2⟩) q hn6 I6.free (Nat.ne_of_gt I3.lt) I3.sz (fun x c hc' => ?_) fun p hp => ?_
      · obtain ⟨v, o, ho, _⟩ := I3.cell x c hc'
        exact Nat.ne_of_lt (Heap.lt_size ho)
      · exact Nat.ne_of_lt (Heap.lt_size (I3.pin p hp).1)
    · refine thn (T.item (X.blk scope N' cl s3 (upd H2 s2.heap.objs.size (.lst [])) fp) rfl rfl rfl hc i [] s5 σ5 H5 _ I5 (stat fr5) st5 go) fun r s6 ⟨u, hr, h6⟩ => ?_
      subst hr
      refine thn h6 fun _ s7 ⟨x, H7, I7, r7, y7, st7, fr7⟩ => ?_
      have I7' := I7.pinned (stat fr7) (T.obj _ _ st7)
      refine wpAny_mono (hg cl s3 _ fp _ s7 σ5 H7 x u _ I7' r7 (step x H7 y7)) (fun _ s8 ⟨σ8, H8, I8, q8⟩ => ?_) fun _ _ z => z.elim
      refine wpAny_mono (ht cl s3 _ fp _ s8 σ8 H8 _ I8 q8) (fun ok s8' ⟨H8', I8', q8'⟩ => ?_) fun _ _ z => z.elim
      have gone : ∀ {H10 : Hp} {s10 : Shared}, Inv (X.blk scope N' cl s3 (upd H2 s2.heap.objs.size (.lst [])) fp) ([] ++ pinsAt fp s7.heap) σ8 H10 s10 → ∀ m10, m10 < n → W (i + 1) m10 σ8 H10 →
          ∃ m, m < n ∧ ∃ i σ' H', Inv (X.blk scope N' cl s3 (upd H2 s2.heap.objs.size (.lst [])) fp) [] σ' H' s10 ∧ tn i s10.heap ∧ (∀ b ∈ fp, H' b = none) ∧ W i m σ' H' := fun {H10 s10} I10 m10 hm10 w10 => by
        refine ⟨m10, hm10, i + 1, σ8, H10, I10.unpinned (pl := pinsAt fp s7.heap), T.keep _ _ _ st7 fun b hb o e => (I10.pin (b, o) (List.mem_append_right _ (List.mem_append_right _ (mem_pinsAt hb e)))).1, fun b hb => ?_, w10⟩
        obtain ⟨o, e, d⟩ := T.obj _ _ st7 b hb
        exact (I10.pin (b, o) (List.mem_append_right _ (List.mem_append_right _ (mem_pinsAt hb e)))).2.1
      cases ok with
      | false =>
        obtain ⟨m', hm', w9⟩ := Eq.mp (if_neg Bool.false_ne_true) q8'
        exact Eq.mpr (if_neg Bool.false_ne_true) (gone I8' m' hm' w9)
      | true =>
        refine Eq.mpr (if_pos rfl) ?_
        refine wpAny_mono (he cl s3 _ fp _ s8' σ8 H8' _ I8' (Eq.mp (if_pos rfl) q8')) (fun v s9 ⟨y, H9, I9, r9, ys, e9, z9, m', hm', w9⟩ => ?_) fun _ _ z => z.elim
        exact wpAny_mono (mt_append (X := X.blk scope N' cl s3 (upd H2 s2.heap.objs.size (.lst [])) fp) _ s9 σ8 H9 (.ref s2.heap.objs.size) [y] (.ref s2.heap.objs.size) [v] (fun _ H' => ∃ m', m' < n ∧ W (i + 1) m' σ8 H') I9 rfl (.cons r9 .nil) ⟨_, ys, y, rfl, rfl, e9, z9, m', hm', w9⟩) (fun _ s10 ⟨_, H10, I10, _, m10, hm10, w10⟩ => gone I10 m10 hm10 w10) fun _ _ z => z.elim
  rw [est]
  rw [eh]
  exact codeAny_compStart_list (loop _ rfl) (T.self _ 0 _ _ _ st4 (loop _ rfl))

theorem pe_compIf {wi : TI} (hc : X.calm = true) (sc : BlkScope X scope N' own fv) (hi : PI X tg iter wi)
    (hg : ∀ cl s3 H3 ex, PG (X.blk scope N' cl s3 H3 ex) tg g) (ht : ∀ cl s3 H3 ex, PT (X.blk scope N' cl s3 H3 ex) c tt) (he : ∀ cl s3 H3 ex, PE (X.blk scope N' cl s3 H3 ex) elt te)
    (hs : ∀ x, foldedSetIterable iter X.env x = pure x := by intro _; rfl) : PE X (.ListComp elt [⟨tg, iter, [c], 0⟩] scope pos) (tCompIf wi own fv g tt te) := by
  intro pins s σ H Q I h
  obtain ⟨cl, hcl, c1, c2⟩ := closure_ex (scope := scope) (env := X.env) fun y hy hf => I.ok.has _ (sc.free y hy hf)
  rw [eval_ListComp]
  refine wpAny_comprehension_free (use := none) rfl hs hcl sc.kind sc.names (thn (hi pins s σ H _ I h) fun v s1 h1 => thn h1 fun itv s2 h2 => ?_)
  obtain ⟨it, fp, tn, J, H2, e, I2, T, st2, f2, hq⟩ := h2
  subst e
  refine comp_blockIf (RR := fun acc C => compPost (model X.prog X.w) X.A X.xe none (EP X pins σ Q) acc C) hc sc I2 T st2 f2 c1 c2 hg ht he hq ?_
  intro acc C s' H' m I' q hn hC hL h0 hcc hp
  exact ⟨m, hn, fun h' sb => ⟨.ref acc, H', I'.turned (t' := s'.toks) (fun b o hb e => sb.extBut b o hb e) hC hL (.inr h0) hcc hp, rfl, q⟩⟩
end
/-- over a list of pairs, taken apart, with a test; an invariant of one's own -/
theorem compIf_tup {K : PySem.W.Frag} {a : Addr} {xs : List V} {H1 : Hp} {fvals : St} {tt : TT} {te : TE} {Q : Addr → Hp → Prop} (Pv : Addr → Nat → Hp → Prop) (hl : ∀ acc i H, Pv acc i H → SqL K H a xs)
    (h0 : ∀ acc, H1 acc = none → Pv acc 0 (upd H1 acc (.lst [])))
    (tup : ∀ (acc : Addr) (i : Nat) (x : V) (H : Hp), xs[i]? = some x → Pv acc i H → ∃ (T : Addr) (x1 x2 : V), x = .ref T ∧ H T = some (.tup [x1, x2]))
    (step : ∀ (acc : Addr) (i : Nat) (T : Addr) (x1 x2 : V) (H : Hp) (m : Nat) (W : Nat → Hp → Prop), xs[i]? = some (.ref T) → H T = some (.tup [x1, x2]) → Pv acc i H → (∀ H2, Pv acc (i + 1) H2 → ∃ m', m' < m ∧ W m' H2) →
      tt (some x1 :: some x2 :: fvals) H fun b H' => if b = true then te (some x1 :: some x2 :: fvals) H' fun y H4 => ∃ ys, H4 acc = some (.lst ys) ∧ ys.length < sizeLine ∧ ∃ m', m' < m ∧ W m' (upd H4 acc (.lst (ys ++ [y]))) else ∃ m', m' < m ∧ W m' H')
    (q : ∀ acc H', H1 acc = none → Pv acc xs.length H' → Q acc H') :
    compWalkIf (Itl K a) H1 (none :: none :: fvals) (gTup K 2 (gCons (gName 0) (gCons (gName 1) gNil))) tt te Q := by
  intro acc hacc
  refine ⟨fun i m σ' H' => m = xs.length - i ∧ i ≤ xs.length ∧ (∃ o1 o2, σ' = o1 :: o2 :: fvals) ∧ Pv acc i H', ⟨_, rfl, Nat.zero_le _, ⟨none, none, rfl⟩, h0 acc hacc⟩, ?_⟩
  rintro i m σ' H' ⟨rfl, hi, ⟨o1, o2, rfl⟩, pv⟩
  by_cases hlt : i < xs.length
  · have hxi : xs[i]? = some xs[i] := List.getElem?_eq_getElem hlt
    refine .inr ⟨⟨xs, _, hl _ _ _ pv, hxi⟩, ?_⟩
    rintro v H2 ⟨rfl, hx⟩
    have hxx := hx xs (hl _ _ _ pv)
    obtain ⟨T, x1, x2, rfl, hT⟩ := tup acc i v H2 hxx pv
    refine ⟨T, _, rfl, SqT.of hT, rfl, _, _, rfl, _, _, rfl, rfl, ?_⟩
    exact step acc i T x1 x2 H2 (xs.length - i) (fun m' H'' => m' = xs.length - (i + 1) ∧ i + 1 ≤ xs.length ∧ (∃ p1 p2, some x1 :: some x2 :: fvals = p1 :: p2 :: fvals) ∧ Pv acc (i + 1) H'') hxx hT pv fun H3 e3 => ⟨xs.length - (i + 1), by omega, rfl, hlt, ⟨_, _, rfl⟩, e3⟩
  · have e : i = xs.length := by omega
    subst e
    exact .inl ⟨⟨xs, hl _ _ _ pv, Nat.le_refl _⟩, q acc H' hacc pv⟩
end L2
namespace L2
open PySem PySem.Spec PyProof.Rows
/-- over range(n), with a test; an invariant of one's own -/
theorem compIf_rng {lo : Int} {n : Nat} {H1 : Hp} {fvals : St} {tt : TT} {te : TE} {Q : Addr → Hp → Prop} (Pv : Addr → Nat → Hp → Prop)
    (h0 : ∀ acc, H1 acc = none → Pv acc 0 (upd H1 acc (.lst [])))
    (step : ∀ (acc : Addr) (i : Nat) (H : Hp) (m : Nat) (W : Nat → Hp → Prop), i < n → Pv acc i H → (∀ H2, Pv acc (i + 1) H2 → ∃ m', m' < m ∧ W m' H2) →
      tt (some (.int (lo + i)) :: fvals) H fun b H' => if b = true then te (some (.int (lo + i)) :: fvals) H' fun y H4 => ∃ ys, H4 acc = some (.lst ys) ∧ ys.length < sizeLine ∧ ∃ m', m' < m ∧ W m' (upd H4 acc (.lst (ys ++ [y]))) else ∃ m', m' < m ∧ W m' H')
    (q : ∀ acc H', H1 acc = none → Pv acc n H' → Q acc H') : compWalkIf (Itr lo n) H1 (none :: fvals) (gName 0) tt te Q := by
  intro acc hacc
  refine ⟨fun i m σ' H' => m = n - i ∧ i ≤ n ∧ (∃ o, σ' = o :: fvals) ∧ Pv acc i H', ⟨_, rfl, Nat.zero_le _, ⟨none, rfl⟩, h0 acc hacc⟩, ?_⟩
  rintro i m σ' H' ⟨rfl, hi, ⟨o, rfl⟩, pv⟩
  by_cases hlt : i < n
  · refine .inr ⟨hlt, ?_⟩
    rintro x H2 ⟨rfl, rfl⟩
    exact step acc i _ (n - i) (fun m' H'' => m' = n - (i + 1) ∧ i + 1 ≤ n ∧ (∃ p, some (V.int (lo + i)) :: fvals = p :: fvals) ∧ Pv acc (i + 1) H'') hlt pv fun H3 e3 => ⟨n - (i + 1), by omega, rfl, hlt, ⟨_, rfl⟩, e3⟩
  · have e : i = n := by omega
    subst e
    exact .inl ⟨Nat.le_refl _, q acc H' hacc pv⟩
end L2








namespace PySem
open Sem (wp)
set_option maxRecDepth 100000
namespace F
theorem plain_update_loop : plainId "dict.update.loop" = true := by decide +kernel
theorem entry_update_loop : entryFor table "dict.update.loop" = some Builtin.«dict.update.loop» := entryFor_of_fast (by kernel_rfl)
end F
section
variable {prog : Program} {w : World} {K : Type} [DecidableEq K] {knd : KeyKind prog w K} {A : Around} {E : Value → Shared → Prop} {s : Shared}
theorem dp_pair {t : Addr} {x y : Value} {Q : List Value → Shared → Prop} (ht : s.heap.IsTuple t #[x, y]) (h : Q [x, y] s) : wpAny (model prog w) A (Builtin.Dict.pairItems (.ref t)) Q E s := by
  obtain ⟨o, ho, hc, n, hd⟩ := ht
  unfold Builtin.Dict.pairItems
  refine wpAny_bind (wpAny_typeOf (T := "tuple") ⟨o, ho, hc⟩ ?_)
  refine wpAny_bind (wpAny_seqItems ho hd ?_)
  exact wpAny_pure h

end
end PySem
namespace L2
open PySem PySem.Spec PyProof.Rows
section
variable {X : Cx}
theorem valueAt_mem {vs : List (Key × Value)} (hn : (vs.map (·.1)).Nodup) : ∀ p ∈ vs, valueAt vs p.1 = some p.2 := by
  induction vs with
  | nil => intro p hp; cases hp
  | cons a r ih =>
    intro p hp
    have hn' : a.1 ∉ r.map (·.1) ∧ (r.map (·.1)).Nodup := List.nodup_cons.mp hn
    unfold valueAt
    rcases List.mem_cons.mp hp with rfl | hp
    · rw [List.find?_cons_of_pos (by simp)]; rfl
    · have hne : ¬ a.1 = p.1 := fun e => hn'.1 (e ▸ List.mem_map.mpr ⟨p, hp, rfl⟩)
      rw [List.find?_cons_of_neg (by simpa using hne)]
      exact ih hn'.2 p hp
theorem hits_ints {A : Around} {s : Shared} {kb : List (Key × Value)} : ∀ {ka : List (Key × Value)} {ps : List (Key × Int)} {vs : List (Key × Value)}, KV (ps.map fun p => (p.1, V.int p.2)) ka → KV (ps.map fun p => (p.1, V.int p.2)) vs → (∀ p ∈ vs, valueAt kb p.1 = some p.2) → PySem.W.KeqHits A s kb ka true
  | _, [], _, .nil, .nil, _ => .nil
  | _, p :: ps, _, .cons ⟨e1, t1, r1⟩ r, .cons ⟨e2, t2, r2⟩ r', hv => by
    rename_i a as b bs
    obtain ⟨k, v⟩ := a
    obtain ⟨k2, v2⟩ := b
    cases e1
    cases e2
    cases r1
    cases r2
    have h0 := hv _ List.mem_cons_self
    have he : SeqAt.EqAt A s (Value.int p.2 t1) (Value.int p.2 t2) true := by
      have := PySem.W.keq_flat (A := A) (s := s) (PyProof.V.Flat.int p.2 t1) (PyProof.V.Flat.int p.2 t2)
      rw [show PyData.eqv (.int p.2) (.int p.2) = true from SeqAt.eqv_refl _ rfl] at this
      exact this
    exact PySem.W.KeqHits.hit (e := true) h0 he (hits_ints r r' fun q hq => hv q (List.mem_cons_of_mem _ hq))
/-- d != e of two dicts with the same ints at the same keys -/
theorem op_neDk (hu : X.A.units < cLine) : OpR X (compareOp .NotEq) (fun x y H Q => ∃ (a b : Addr) (ps : List (Key × Int)), x = .ref a ∧ y = .ref b ∧ Rd H a (.dK (ps.map fun p => (p.1, V.int p.2))) ∧ Rd H b (.dK (ps.map fun p => (p.1, V.int p.2))) ∧ Q (.bl false) H) := by
  intro pins s σ H x y v u Q I rx ry h
  obtain ⟨a, b, ps, rfl, rfl, ha, hb, q⟩ := h
  cases rx
  cases ry
  obtain ⟨_, la, va, ra, da⟩ := dk_rd I.hok ha
  obtain ⟨_, lb, vb, rb, db⟩ := dk_rd I.hok hb
  have l1 := ra.length
  have l2 := rb.length
  have hn : (vb.map (·.1)).Nodup := let ⟨_, _, _, _, _, _, _, _, hn⟩ := db; hn
  refine PySem.W.keq_ne la lb da db hu (fun _ => hits_ints ra rb (valueAt_mem hn)) ?_
  have e : (va.length == vb.length) = true := by simp; omega
  rw [e]
  exact ⟨.bl false, H, I, rfl, q⟩

end
end L2




set_option Elab.async false
set_option linter.all false
set_option maxRecDepth 100000
namespace L2
open PySem PySem.Spec PyProof.Rows
theorem ObjOk.there {P : Program} {w : World} {H : Hp} {h : Heap} {a : Addr} {o : HO} (x : ObjOk P w H h a o) : ∃ ob, h.get? a = some ob := by
  cases o with
  | lst xs => obtain ⟨_, _, _, _, e⟩ := x; exact ⟨_, e⟩
  | tup xs => obtain ⟨_, _, _, ob, e, _⟩ := x; exact ⟨ob, e⟩
  | dK kvs => obtain ⟨_, _, _, _, ob, _, _, e, _⟩ := x; exact ⟨ob, e⟩
  | dT kvs => obtain ⟨_, _, _, _, ob, _, _, e, _⟩ := x; exact ⟨ob, e⟩
  | set S n => obtain ⟨ob, _, _, _, e, _⟩ := x; exact ⟨ob, e⟩
  | ins C dx fs => obtain ⟨_, _, _, e, _⟩ := x; exact ⟨_, e⟩
  | own y => exact x
  | xd fs => obtain ⟨_, ⟨ob, _, _, e, _⟩, _⟩ := x; exact ⟨ob, e⟩
  | rng lo hi => obtain ⟨_, _, _, e⟩ := x; exact ⟨_, e⟩
  | frz ob u => obtain ⟨e, _⟩ := x; exact ⟨_, e⟩
  | tbl ps => exact ⟨_, show h.get? a = some _ from x⟩
  | met f y => exact ⟨_, show h.get? a = some _ from x⟩
  | ext φ => exact x.2.1
section
variable {X : Cx} {x n : Str} {i : Nat} {CT : Addr} {np hpos pos : Pos} {body suite : List Stmt} {b0 : Stmt} {tb : (St → XK) → TS} {th : TS}
end
end L2

set_option Elab.async false
set_option linter.all false
set_option maxRecDepth 100000
namespace L2
open PySem PySem.Spec PyProof.Rows
/-! ### a dict that is walked: frozen meanwhile -/
def thaw (d : Addr) (kvs : List (Key × V)) (H : Hp) : Hp := upd H d (.dK kvs)
def thawEnds (d : Addr) (o : Obj) (kvs : List (Key × V)) (D : Ends) : Ends where
  nx := fun σ H => H d = some (.frz o (.dK kvs)) ∧ D.nx σ (thaw d kvs H)
  bk := fun σ H => H d = some (.frz o (.dK kvs)) ∧ D.bk σ (thaw d kvs H)
  ct := fun σ H => H d = some (.frz o (.dK kvs)) ∧ D.ct σ (thaw d kvs H)
  rt := fun v H => H d = some (.frz o (.dK kvs)) ∧ D.rt v (thaw d kvs H)
section
variable {X : Cx} {pins : List (Addr × Obj)} {σ : St} {H : Hp} {s : Shared} {d : Addr} {kvs : List (Key × V)} {o : Obj}
/-- what is tracked at d is told otherwise, the object being the same -/
theorem Inv.retell {a b : HO} (I : Inv X pins σ H s) (e : H d = some a) (nt : ∀ xs, a ≠ .tup xs) (nb : ∀ p, a ≠ .tbl p) (no : ∀ y, a ≠ .own y) (nf : ∀ ob u, X.H₀ d ≠ some (.frz ob u)) (new : ObjOk X.prog X.w (upd H d b) s.heap d b) : Inv X pins σ (upd H d b) s where
  ok := I.ok
  os := I.os
  bare := I.bare
  base := {
    keep := I.base.keep
    slot := I.base.slot
    free := fun c ob e1 n hx => by
      have hc := I.base.free c ob e1 n hx
      rw [upd_ne (fun z => by rw [z, e] at hc; cases hc)]; exact hc
    there := I.base.there
    tups := fun c xs e1 => by
      have h1 := I.base.tups c xs e1
      rw [upd_ne (fun z => by rw [z, e] at h1; exact nt xs (Option.some.inj h1))]; exact h1
    frzs := fun c ob u e1 => by
      have h1 := I.base.frzs c ob u e1
      have hcd : c ≠ d := fun z => by subst z; exact nf ob u e1
      rw [upd_ne hcd]; exact h1
    tbls := fun c p e1 => by
      obtain ⟨m, h1⟩ := I.base.tbls c p e1
      exact ⟨m, by rw [upd_ne (fun z => by rw [z, e] at h1; exact nb _ (Option.some.inj h1))]; exact h1⟩ }
  loc := I.loc
  cell := I.cell
  free := by
    have hf := I.free
    rw [upd_ne (fun z => by rw [z, e] at hf; cases hf)]; exact hf
  freeC := fun y c e1 => by
    have hf := I.freeC y c e1
    rw [upd_ne (fun z => by rw [z, e] at hf; cases hf)]; exact hf
  pin := fun p hp => by
    obtain ⟨p1, p2, p3⟩ := I.pin p hp
    refine ⟨p1, ?_, p3⟩
    rw [upd_ne (fun z => by rw [z, e] at p2; cases p2)]; exact p2
  hok := fun c u e1 => by
    by_cases hc : c = d
    · subst hc; rw [upd_same] at e1; cases e1; exact new
    · rw [upd_ne hc] at e1
      refine (I.hok c u e1).stay (fun _ _ _ q => q) (fun y q => ?_) fun y xs q => ?_
      · rw [upd_ne (fun z => by rw [z, e] at q; exact no _ (Option.some.inj q))]; exact q
      · rw [upd_ne (fun z => by rw [z, e] at q; exact nt _ (Option.some.inj q))]; exact q
  len := I.len
theorem dk_up {P : Program} {w : World} {H H' : Hp} {h : Heap} (x : ObjOk P w H h d (.dK kvs)) : ObjOk P w H' h d (.dK kvs) := x
theorem Inv.freeze (I : Inv X pins σ H s) (e : H d = some (.dK kvs)) : ∃ o, s.heap.get? d = some o ∧ (∀ ob u, X.H₀ d ≠ some (.frz ob u)) ∧ Inv X pins σ (upd H d (.frz o (.dK kvs))) s := by
  have x := I.hok d _ e
  obtain ⟨o, ho⟩ := x.there
  have nf : ∀ ob u, X.H₀ d ≠ some (.frz ob u) := fun ob u z => by
    have := I.base.frzs d ob u z
    rw [e] at this; cases this
  exact ⟨o, ho, nf, I.retell e (fun xs z => by cases z) (fun p z => by cases z) (fun y z => by cases z) nf ⟨ho, dk_up x⟩⟩
theorem Inv.thaw (I : Inv X pins σ H s) (nf : ∀ ob u, X.H₀ d ≠ some (.frz ob u)) (e : H d = some (.frz o (.dK kvs))) : Inv X pins σ (thaw d kvs H) s :=
  I.retell e (fun xs z => by cases z) (fun p z => by cases z) (fun y z => by cases z) nf (dk_up (I.hok d _ e).2)
end
section
variable {X : Cx} {st : Stmt} {t : TS}
/-- a statement during which a dict is frozen -/
def tFrozen (t : TS) : TS := fun D σ H => ∃ d kvs, H d = some (.dK kvs) ∧ ∀ o, t (thawEnds d o kvs D) σ (upd H d (.frz o (.dK kvs)))
theorem ps_frozen (h : PS X st t) : PS X st (tFrozen t) := by
  rintro pins s σ H D I ⟨d, kvs, e, q⟩
  obtain ⟨o, ho, nf, I1⟩ := I.freeze e
  refine thn (h pins s σ _ _ I1 (q o)) fun f s1 hq => ?_
  cases f with
  | next => obtain ⟨σ', H', I', e', q'⟩ := hq; exact ⟨σ', _, I'.thaw nf e', q'⟩
  | brk => obtain ⟨σ', H', I', e', q'⟩ := hq; exact ⟨σ', _, I'.thaw nf e', q'⟩
  | cont => obtain ⟨σ', H', I', e', q'⟩ := hq; exact ⟨σ', _, I'.thaw nf e', q'⟩
  | ret u => obtain ⟨v, σ', H', I', r, e', q'⟩ := hq; exact ⟨v, σ', _, I'.thaw nf e', r, q'⟩
end
def epOf (o : Obj) : Nat := match o.data with
  | .dict _ ep => ep
  | _ => 0
theorem frz_at {X : Cx} {pins : List (Addr × Obj)} {σ : St} {H : Hp} {s : Shared} {d : Addr} {kvs : List (Key × V)} {o : Obj} (I : Inv X pins σ H s) (e : H d = some (.frz o (.dK kvs))) : (d == sysModules) = false ∧ ∃ vs, KV kvs vs ∧ s.heap.DictAt (mixKind X.prog X.w) d vs (epOf o) := by
  obtain ⟨ho, _, h1, vs, rel, ob, es, ep, h2, h3, h4, h5, h6, h7⟩ := I.hok d _ e
  rw [ho] at h2; cases h2
  exact ⟨h1, vs, rel, o, es, ho, h3, by rw [h4]; unfold epOf; rw [h4], h5, h6, h7⟩
/-- the keys, the values of the frozen dict at d -/
def Itk (d : Addr) (o : Obj) (kvs : List (Key × V)) : It :=
  ⟨fun i H => H d = some (.frz o (.dK kvs)) ∧ i < kvs.length, fun i H x H' => H' = H ∧ (kvs.map fun p => kV p.1)[i]? = some x, fun i H => H d = some (.frz o (.dK kvs)) ∧ kvs.length ≤ i⟩
theorem kV_rel {P : Program} {w : World} {k : Key} {u : Value} (h : (mixKind P w).is k u = true) : RelV (kV k) u := by
  rw [mixKind_is] at h
  rcases keyIs_shape h with ⟨i, t, rfl, rfl⟩ | ⟨x, t, rfl, rfl⟩
  · exact ⟨t, rfl⟩
  · exact ⟨t, rfl⟩
theorem KV.at {kvs : List (Key × V)} {vs : List (Key × Value)} (r : KV kvs vs) {i : Nat} (hi : i < kvs.length) : ∃ k v u, kvs[i]? = some (k, v) ∧ vs[i]? = some (k, u) ∧ RelV v u := by
  induction r generalizing i with
  | nil => cases hi
  | cons h t ih =>
    cases i with
    | zero =>
      rename_i a b _ _
      exact ⟨a.1, a.2, b.2, rfl, by obtain ⟨b1, b2⟩ := b; rw [h.1]; rfl, h.2⟩
    | succ i => exact ih (Nat.lt_of_succ_lt_succ hi)
theorem turn_keys {P : Program} {w : World} {K : PySem.W.Frag} {tg : Expr} (d it : Addr) (o : Obj) (kvs : List (Key × V)) : Turn P w K tg (Itk d o kvs) [it] it (fun i h => h.IsKeyIter it d i kvs.length (epOf o)) where
  mem := by simp
  obj := fun i h st b hb => by
    have e : b = it := by simpa using hb
    subst e
    obtain ⟨o, e, c, dt⟩ := st
    exact ⟨o, e, fun v z => by rw [dt] at z; cases z⟩
  keep := fun i h h' st k => st.at fun o e => k it (by simp) o e
  item := by
    intro X hP hw hK hc i pins s σ H E I hf st hg
    subst hP hw hK
    obtain ⟨hq, hi⟩ := hg
    obtain ⟨_, vs, rel, dd⟩ := frz_at I hq
    have hl : vs.length = kvs.length := rel.length.symm
    obtain ⟨k, v, u, e1, e2, rv⟩ := rel.at hi
    obtain ⟨f0, f1, f2, f3, f4, f5⟩ := hf it (by simp)
    refine wpAny_pyNext_dict_item (knd := mixKind X.prog X.w) (kvs := vs) (by rw [hl]; exact st) dd e2 fun key h' hkey st' sb => ?_
    rw [hl] at st'
    have I1 : Inv X pins σ H { s with heap := h' } := I.turned (t' := s.toks) (fun b o hb e => (sb.2 b hb).trans e) f0 f1 f3 f4 f5
    obtain ⟨ob, e, c, dt⟩ := id st'
    exact ⟨key, rfl, go_of (s := { s with heap := h' }) e c dt (by decide) ⟨kV k, H, I1, kV_rel hkey, ⟨rfl, by rw [List.getElem?_map, e1]; rfl⟩, st', fun b hb => (hf b hb).1⟩⟩
  done := by
    intro X hP hw hK hc i pins s σ H E I hf st hg
    subst hP hw hK
    obtain ⟨hq, hi⟩ := hg
    obtain ⟨_, vs, rel, dd⟩ := frz_at I hq
    have hl : vs.length = kvs.length := rel.length.symm
    obtain ⟨f0, f1, f2, f3, f4, f5⟩ := hf it (by simp)
    exact wpAny_pyNext_dict_end (knd := mixKind X.prog X.w) (kvs := vs) (I.ok.hd hc) (by rw [hl]; exact st) dd (by rw [List.getElem?_eq_none_iff]; omega) fun h' eb => ⟨rfl, I.turned (t' := s.toks) (fun b o hb e => eb b o hb e) f0 f1 f3 f4 f5⟩
  self := fun _ _ _ _ _ st h => wpAny_pyIter_keyiter st h
section
variable {X : Cx} {tg : Expr}
def iKeys (tl : TE) : TI := fun σ H R => tl σ H fun x H1 => ∃ d o kvs, x = .ref d ∧ H1 d = some (.frz o (.dK kvs)) ∧ R (Itk d o kvs) H1
theorem pi_keys {l : Expr} {tl : TE} (hl : PE X l tl) : PI X tg l (iKeys tl) := by
  intro pins s σ H R I h
  refine thn (hl pins s σ H _ I h) fun v s1 ⟨x, H1, I1, r1, d, o, kvs, ex, ed, q⟩ => ?_
  subst ex
  cases r1
  obtain ⟨hd, vs, rel, dd⟩ := frz_at I1 ed
  have hlen : vs.length = kvs.length := rel.length.symm
  refine wpAny_pyIter_dict hd dd ?_
  refine ⟨s1.heap.objs.size, [s1.heap.objs.size], _, _, H1, rfl, I1.kept (t' := s1.toks) fun b o e => Heap.get?_push_of_some _ e, turn_keys d _ o kvs, ⟨_, Heap.get?_push_size _ rfl, rfl, by rw [← hlen]; rfl⟩, fun b hb => ?_, q⟩
  have e : b = s1.heap.objs.size := by simpa using hb
  subst e
  exact I1.fpOk (Nat.le_refl _) (I1.hok.fresh (Nat.le_refl _))
end
theorem for_keys {d : Addr} {o : Obj} {kvs : List (Key × V)} {g : TG} {tb : TS} {D : Ends} {σ : St} {H : Hp} (Pv : Nat → St → Hp → Prop) (h0 : Pv 0 σ H) (hl : ∀ i σ H, i ≤ kvs.length → Pv i σ H → H d = some (.frz o (.dK kvs)))
    (hs : ∀ i k v σ H, kvs[i]? = some (k, v) → Pv i σ H → g (kV k) σ H fun σ2 H2 => tb { D with nx := Pv (i + 1), ct := Pv (i + 1), bk := D.nx } σ2 H2) (hd : ∀ σ H, Pv kvs.length σ H → D.nx σ H) :
    ∃ W : Nat → Nat → St → Hp → Prop, (∃ m, W 0 m σ H) ∧ ∀ i m σ H, W i m σ H →
      ((Itk d o kvs).stop i H ∧ D.nx σ H) ∨ ((Itk d o kvs).go i H ∧ ∃ N : St → Hp → Prop, (∀ σ' H', N σ' H' → ∃ m', m' < m ∧ W (i + 1) m' σ' H') ∧ ∀ x H', (Itk d o kvs).yld i H x H' → g x σ H' fun σ2 H2 => tb { D with nx := N, ct := N, bk := D.nx } σ2 H2) := by
  refine ⟨fun i m σ H => m = kvs.length - i ∧ i ≤ kvs.length ∧ Pv i σ H, ⟨_, rfl, Nat.zero_le _, h0⟩, ?_⟩
  rintro i m σ H ⟨rfl, hi, hp⟩
  have q := hl i σ H hi hp
  by_cases hlt : i < kvs.length
  · refine .inr ⟨⟨q, hlt⟩, Pv (i + 1), fun σ' H' h' => ⟨kvs.length - (i + 1), by omega, rfl, hlt, h'⟩, fun x H' y => ?_⟩
    obtain ⟨e, y⟩ := y
    subst e
    rw [List.getElem?_map, List.getElem?_eq_getElem hlt] at y
    cases y
    exact hs i _ kvs[i].2 σ _ (List.getElem?_eq_getElem hlt) hp
  · have e : i = kvs.length := by omega
    subst e
    exact .inl ⟨⟨q, Nat.le_refl _⟩, hd σ H hp⟩
end L2








set_option Elab.async false
set_option linter.all false
set_option maxRecDepth 100000
namespace L2
open PySem PySem.Spec PyProof.Rows
/-! ### for k, v in d.items() -/
def Iti (d : Addr) (o : Obj) (kvs : List (Key × V)) : It :=
  ⟨fun i H => H d = some (.frz o (.dK kvs)) ∧ i < kvs.length, fun i H x H' => ∃ (T : Addr) (k : Key) (v : V), x = .ref T ∧ H T = none ∧ H' = upd H T (.tup [kV k, v]) ∧ kvs[i]? = some (k, v), fun i H => H d = some (.frz o (.dK kvs)) ∧ kvs.length ≤ i⟩
theorem entry_itemiter : entryFor table "dict_itemiterator.__iter__" = some Builtin.«dict_keyiterator.__iter__» :=
  entryFor_alias (id' := "dict_keyiterator.__iter__") (by kernel_rfl) rfl (by decide +kernel) (by kernel_rfl)
theorem wpAny_pyIter_itemiter {P : Program} {w : World} {A : Around} {E : Value → Shared → Prop} {s : Shared} {it d : Addr} {i n ep : Nat} {ok ov : Value} {Q : Value → Shared → Prop} (hit : IsItemIter s.heap it d i n ep ok ov) (h : Q (.ref it) s) : wpAny (model P w) A (pyIter (.ref it)) Q E s := by
  have hT : s.TypeIs (.ref it) "dict_itemiterator" := ⟨_, hit, rfl⟩
  refine wpAny_pyIter_slot hT PySem.F.slot_dict_itemiterator_iter (wpAny_call_entry PySem.F.slot_dict_itemiterator_iter hT entry_itemiter ?_ (PySem.F.args_dict_itemiterator_iter_1 _))
  show wpAny _ _ (ret (.ref it)) _ _ s
  exact wpAny_pure ⟨_, rfl, "dict_itemiterator", _, hT, PySem.F.slot_dict_itemiterator_next.lookup, h⟩
theorem turn_items {P : Program} {w : World} {K : PySem.W.Frag} {elts : List Expr} {k0 : Nat} {pos : Pos} (d it : Addr) (o : Obj) (kvs : List (Key × V)) : Turn P w K (.Tuple elts k0 pos) (Iti d o kvs) [it] it (fun i h => ∃ ok ov, IsItemIter h it d i kvs.length (epOf o) ok ov) where
  mem := by simp
  obj := fun i h st b hb => by
    have e : b = it := by simpa using hb
    subst e
    obtain ⟨ok, ov, e⟩ := st
    exact ⟨_, e, fun v q => nomatch q⟩
  keep := fun i h h' st k => by
    obtain ⟨ok, ov, e⟩ := st
    exact ⟨ok, ov, k it (by simp) _ e⟩
  item := by
    intro X hP hw hK hc i pins s σ H E I hf st hg
    subst hP hw hK
    obtain ⟨hq, hi⟩ := hg
    obtain ⟨ok, ov, st⟩ := st
    obtain ⟨_, vs, rel, dd⟩ := frz_at I hq
    have hl : vs.length = kvs.length := rel.length.symm
    obtain ⟨k, v, u, e1, e2, rv⟩ := rel.at hi
    refine wpAny_pyNext_items_item (knd := mixKind X.prog X.w) (kvs := vs) (by rw [hl]; exact st) dd e2 fun key h' hkey a1 a5 a6 hk => ?_
    rw [hl] at a1
    have kp : ∀ c ob, c ∉ [it] → s.heap.get? c = some ob → h'.get? c = some ob := fun c ob hc q => hk c ob (fun z => hc (by simp [z])) q
    have I1 : Inv X pins σ (upd H s.heap.objs.size (.tup [kV k, v])) { s with heap := h' } := I.turnedTup (t' := s.toks) hf (Nat.le_refl _) a5 (kV_rel hkey) rv kp
    have nz : ∀ b ∈ [it], b ≠ s.heap.objs.size := fun b hb q => by
      have e : b = it := by simpa using hb
      subst e
      exact Nat.lt_irrefl _ (q ▸ Heap.lt_size st)
    have hf1 : ∀ b ∈ [it], FpOk X pins (upd H s.heap.objs.size (.tup [kV k, v])) b := fun b hb => ⟨by rw [upd_ne (nz b hb)]; exact (hf b hb).1, (hf b hb).2⟩
    refine ⟨.ref s.heap.objs.size, rfl, wpAny_letOwnedTupleGo_items (s := { s with heap := h' }) a1 fun h2' hz' hs' => ?_⟩
    have I2 : Inv X pins σ (upd H s.heap.objs.size (.tup [kV k, v])) { s with heap := h2' } := I1.turnedAll (t' := s.toks) hf1 fun c o hc q => hs'.extBut c o (fun z => hc (by simp [z])) q
    exact ⟨.ref s.heap.objs.size, _, I2, rfl, ⟨_, k, v, rfl, I.hok.fresh (Nat.le_refl _), rfl, e1⟩, ⟨_, _, hz'⟩, fun b hb => (hf1 b hb).1⟩
  done := by
    intro X hP hw hK hc i pins s σ H E I hf st hg
    subst hP hw hK
    obtain ⟨hq, hi⟩ := hg
    obtain ⟨ok, ov, st⟩ := st
    obtain ⟨_, vs, rel, dd⟩ := frz_at I hq
    have hl : vs.length = kvs.length := rel.length.symm
    exact wpAny_pyNext_items_end (knd := mixKind X.prog X.w) (kvs := vs) (I.ok.hd hc) (by rw [hl]; exact st) dd (by rw [List.getElem?_eq_none_iff]; omega) fun h' eb => ⟨rfl, I.turnedAll (t' := s.toks) hf fun c o hc q => eb c o (fun z => hc (by simp [z])) q⟩
  self := fun _ _ _ _ _ st h => by obtain ⟨ok, ov, st⟩ := st; exact wpAny_pyIter_itemiter st h
section
variable {X : Cx}
def iItems (tl : TE) : TI := fun σ H R => tl σ H fun x H1 => ∃ d o kvs, x = .ref d ∧ H1 d = some (.frz o (.dK kvs)) ∧ R (Iti d o kvs) H1
theorem pi_items {elts : List Expr} {k0 : Nat} {pos : Pos} {l : Expr} {apos cpos : Pos} {tl : TE} (hl : PE X l tl) (hbase : attributeBase l "items" X.env (eval l X.env) = eval l X.env := by rfl) (hline : (apos.endLine == cpos.line) = true := by rfl) : PI X (.Tuple elts k0 pos) (.Call (.Attribute l "items" apos) [] [] cpos) (iItems tl) := by
  intro pins s σ H R I h
  refine wpAny_Call_method0_late hbase hline (thn (hl pins s σ H _ I h) fun v s1 ⟨x, H1, I1, r1, d, o, kvs, ex, ed, q⟩ => ?_)
  subst ex
  cases r1
  obtain ⟨hd, vs, rel, dd⟩ := frz_at I1 ed
  have hlen : vs.length = kvs.length := rel.length.symm
  obtain ⟨ob, es, e1, e2, e3, e4⟩ := id dd
  have dof : s1.heap.DictOf (mixKind X.prog X.w) d vs := ⟨ob, es, epOf o, e1, e2, e3, e4⟩
  refine ⟨"dict", "dict.items", PySem.F.plainAttrs_dict, PySem.F.slot_dict_items, PySem.F.type_dict_items, dof.typeIs, fun b z => ?_, Calls.callWith_builtin rfl (PySem.evalArgs_none (call_meetsIn PySem.F.slot_dict_items dof.typeIs PySem.F.entry_dict_items (PySem.F.args_dict_items_1 _) (meets_dict_items (mixKind X.prog X.w) d hd) ⟨⟨vs, dof⟩, ?_⟩))⟩
  · cases z; exact ⟨ob, e1, e2.2.1⟩
  have k1 : ∀ b u, s1.heap.get? b = some u → (s1.heap.push { cls := .type "dict_items", data := .fields #[.ref d] }).get? b = some u := fun b u e => Heap.get?_push_of_some _ e
  have I2 : Inv X pins σ H1 { s1 with heap := s1.heap.push { cls := .type "dict_items", data := .fields #[.ref d] } } := I1.kept (t' := s1.toks) k1
  refine wpAny_pyIter_items (v := s1.heap.objs.size) (knd := mixKind X.prog X.w) (kvs := vs) (ep := epOf o) ⟨_, Heap.get?_push_size _ rfl, rfl, rfl⟩ (dd.at' fun u e => k1 _ _ e) ?_
  refine ⟨_, [_], _, _, H1, rfl, I2.kept (t' := s1.toks) fun b o e => Heap.get?_push_of_some _ e, turn_items d _ o kvs, ⟨_, _, by rw [← hlen]; exact Heap.get?_push_size _ rfl⟩, fun b hb => ?_, q⟩
  have e : b = (s1.heap.push { cls := .type "dict_items", data := .fields #[.ref d] }).objs.size := by simpa using hb
  subst e
  exact I2.fpOk (Nat.le_refl _) (I2.hok.fresh (Nat.le_refl _))
end
theorem for_items {d : Addr} {o : Obj} {kvs : List (Key × V)} {g : TG} {tb : TS} {D : Ends} {σ : St} {H : Hp} (Pv : Nat → St → Hp → Prop) (h0 : Pv 0 σ H) (hl : ∀ i σ H, i ≤ kvs.length → Pv i σ H → H d = some (.frz o (.dK kvs)))
    (hs : ∀ i k v σ H T, kvs[i]? = some (k, v) → Pv i σ H → H T = none → g (.ref T) σ (upd H T (.tup [kV k, v])) fun σ2 H2 => tb { D with nx := Pv (i + 1), ct := Pv (i + 1), bk := D.nx } σ2 H2) (hd : ∀ σ H, Pv kvs.length σ H → D.nx σ H) :
    ∃ W : Nat → Nat → St → Hp → Prop, (∃ m, W 0 m σ H) ∧ ∀ i m σ H, W i m σ H →
      ((Iti d o kvs).stop i H ∧ D.nx σ H) ∨ ((Iti d o kvs).go i H ∧ ∃ N : St → Hp → Prop, (∀ σ' H', N σ' H' → ∃ m', m' < m ∧ W (i + 1) m' σ' H') ∧ ∀ x H', (Iti d o kvs).yld i H x H' → g x σ H' fun σ2 H2 => tb { D with nx := N, ct := N, bk := D.nx } σ2 H2) := by
  refine ⟨fun i m σ H => m = kvs.length - i ∧ i ≤ kvs.length ∧ Pv i σ H, ⟨_, rfl, Nat.zero_le _, h0⟩, ?_⟩
  rintro i m σ H ⟨rfl, hi, hp⟩
  have q := hl i σ H hi hp
  by_cases hlt : i < kvs.length
  · refine .inr ⟨⟨q, hlt⟩, Pv (i + 1), fun σ' H' h' => ⟨kvs.length - (i + 1), by omega, rfl, hlt, h'⟩, fun x H' y => ?_⟩
    obtain ⟨T, k, v, rfl, hT, rfl, e⟩ := y
    exact hs i k v σ H T e hp hT
  · have e : i = kvs.length := by omega
    subst e
    exact .inl ⟨⟨q, Nat.le_refl _⟩, hd σ H hp⟩
end L2

set_option Elab.async false
set_option linter.all false
set_option maxRecDepth 100000
namespace L2
open PySem PySem.Spec PyProof.Rows
/-- over a list, with a test, one name -/
theorem compIf_lst {K : PySem.W.Frag} {a : Addr} {xs : List V} {H1 : Hp} {fvals : St} {tt : TT} {te : TE} {Q : Addr → Hp → Prop} (Pv : Addr → Nat → Hp → Prop) (hl : ∀ acc i H, Pv acc i H → SqL K H a xs)
    (h0 : ∀ acc, H1 acc = none → Pv acc 0 (upd H1 acc (.lst [])))
    (step : ∀ (acc : Addr) (i : Nat) (x : V) (H : Hp) (m : Nat) (W : Nat → Hp → Prop), xs[i]? = some x → Pv acc i H → (∀ H2, Pv acc (i + 1) H2 → ∃ m', m' < m ∧ W m' H2) →
      tt (some x :: fvals) H fun b H' => if b = true then te (some x :: fvals) H' fun y H4 => ∃ ys, H4 acc = some (.lst ys) ∧ ys.length < sizeLine ∧ ∃ m', m' < m ∧ W m' (upd H4 acc (.lst (ys ++ [y]))) else ∃ m', m' < m ∧ W m' H')
    (q : ∀ acc H', H1 acc = none → Pv acc xs.length H' → Q acc H') :
    compWalkIf (Itl K a) H1 (none :: fvals) (gName 0) tt te Q := by
  intro acc hacc
  refine ⟨fun i m σ' H' => m = xs.length - i ∧ i ≤ xs.length ∧ (∃ o1, σ' = o1 :: fvals) ∧ Pv acc i H', ⟨_, rfl, Nat.zero_le _, ⟨none, rfl⟩, h0 acc hacc⟩, ?_⟩
  rintro i m σ' H' ⟨rfl, hi, ⟨o1, rfl⟩, pv⟩
  by_cases hlt : i < xs.length
  · have hxi : xs[i]? = some xs[i] := List.getElem?_eq_getElem hlt
    refine .inr ⟨⟨xs, _, hl _ _ _ pv, hxi⟩, ?_⟩
    rintro v H2 ⟨rfl, hx⟩
    have hxx := hx xs (hl _ _ _ pv)
    exact step acc i v H2 (xs.length - i) (fun m' H'' => m' = xs.length - (i + 1) ∧ i + 1 ≤ xs.length ∧ (∃ p1, some v :: fvals = p1 :: fvals) ∧ Pv acc (i + 1) H'') hxx pv fun H3 e3 => ⟨xs.length - (i + 1), by omega, rfl, hlt, ⟨_, rfl⟩, e3⟩
  · have e : i = xs.length := by omega
    subst e
    exact .inl ⟨⟨xs, hl _ _ _ pv, Nat.le_refl _⟩, q acc H' hacc pv⟩
end L2

set_option Elab.async false
set_option linter.all false
set_option maxRecDepth 100000
namespace PySem
open Sem (wp)
/-! ### enumerate, its pairs kept by nobody -/
abbrev EnRec (h : Heap) (e it : Addr) (i : Int) (own flag item : Value) : Prop :=
  h.get? e = some { cls := .type "enumerate", dict := none, data := .fields #[own, flag, .ref it, rawInt i, .none, item], slots := #[] }
/-- own: none yet, or one that is still there -/
def EnAny (h : Heap) (e it d : Addr) (i : Int) : Prop :=
  ∃ own flag item, EnRec h e it i own flag item ∧ ((own = .none ∧ flag = .bool false) ∨ ∃ (a : Addr) (oa : Obj) (b : Bool), own = rawInt a ∧ flag = .bool b ∧ h.get? a = some oa ∧ a ≠ e ∧ a ≠ it ∧ a ≠ d)
theorem EnAny.frame {h h' : Heap} {e it d : Addr} {i : Int} (x : EnAny h e it d i) (k : ∀ b o, b ≠ d → h.get? b = some o → h'.get? b = some o) (hd : e ≠ d) : EnAny h' e it d i := by
  obtain ⟨own, flag, item, he, r⟩ := x
  refine ⟨own, flag, item, k _ _ hd he, ?_⟩
  rcases r with r | ⟨a, oa, b, r1, r2, r3, r4, r5, r6⟩
  · exact .inl r
  · exact .inr ⟨a, oa, b, r1, r2, k _ _ r6 r3, r4, r5, r6⟩
section
variable {prog : Program} {w : World} {A : Around} {E : Value → Shared → Prop} {s : Shared}
theorem wpAny_ifAlive {M : Model} {a : Addr} {Q : Option Obj → Shared → Prop} (h : Q (s.heap.get? a) s) : wpAny M A (loadIfAlive a) Q E s := fun Γ p _ => by
  unfold loadIfAlive
  rw [Sem.wp_loadIfAlive]
  exact h
theorem en_next_out {e it l a : Addr} {oa : Obj} {b : Bool} {i : Nat} {items : Array Value} {x item : Value} {Q : Value → Shared → Prop}
    (he : EnRec s.heap e it i (rawInt a) (.bool b) item) (ha : s.heap.get? a = some oa) (hae : a ≠ e) (hai : a ≠ it)
    (hit : s.heap.IsListIter it l i) (hl : s.heap.IsList l items) (hx : items[i]? = some x) (hne : e ≠ it)
    (hQ : ∀ h', EnRec h' e it ((i : Int) + 1) (rawInt a) (.bool true) item → h'.IsListIter it l (i + 1) → h'.get? s.heap.objs.size = some { cls := .type "tuple", data := .seq #[.int i s.toks, x] } →
      (∀ c o, c ≠ e → c ≠ it → s.heap.get? c = some o → h'.get? c = some o) → Q (.ref s.heap.objs.size) { s with heap := h', toks := s.toks + 1 }) :
    wpAny (model prog w) A (Builtin.«enumerate.__next__» ⟨[.ref e], []⟩) (fun fin s' => ∃ v, fin = .done (.ret v) ∧ Q v s') E s := by
  obtain ⟨hp, g, dr, tk, os⟩ := s
  show wpAny _ _ (field (.ref e) 2 >>= _) _ _ _
  refine wpAny_bind (wpAny_field he rfl (x := .ref it) rfl ?_)
  refine wpAny_bind (wpAny_nextOf_list_item hit hl hx fun h1 it1 s1 => ?_)
  replace s1 : Heap.SameBut it hp h1 := s1
  have e1 : EnRec h1 e it i (rawInt a) (.bool b) item := (s1.2 e hne).trans he
  show wpAny _ _ (field (.ref e) 3 >>= _) _ _ ⟨h1, g, dr, tk, os⟩
  refine wpAny_bind (wpAny_field e1 rfl (x := rawInt i) rfl ?_)
  show wpAny _ _ (field (.ref e) 4 >>= _) _ _ ⟨h1, g, dr, tk, os⟩
  refine wpAny_bind (wpAny_field e1 rfl (x := .none) rfl ?_)
  show wpAny _ _ (mkInt i >>= _) _ _ ⟨h1, g, dr, tk, os⟩
  refine wpAny_bind (wpAny_mkInt ?_)
  show wpAny _ _ (setField (.ref e) 3 (rawInt ((i : Int) + 1)) >>= _) _ _ ⟨h1, g, dr, tk + 1, os⟩
  refine wpAny_bind (wpAny_setField_rec e1 (by simp) fun h2 e2 s2 => ?_)
  replace s2 : Heap.SameBut e h1 h2 := s2
  replace e2 : EnRec h2 e it ((i : Int) + 1) (rawInt a) (.bool b) item := e2
  show wpAny _ _ (setField (.ref e) 4 .none >>= _) _ _ ⟨h2, g, dr, tk + 1, os⟩
  refine wpAny_bind (wpAny_setField_rec e2 (by simp) fun h3 e3 s3 => ?_)
  replace s3 : Heap.SameBut e h2 h3 := s3
  replace e3 : EnRec h3 e it ((i : Int) + 1) (rawInt a) (.bool b) item := e3
  show wpAny _ _ (newTuple [.int i tk, x] >>= _) _ _ ⟨h3, g, dr, tk + 1, os⟩
  refine wpAny_bind (wpAny_newTuple ?_)
  have e4 : EnRec (h3.push { cls := .type "tuple", data := .seq #[.int i tk, x] }) e it ((i : Int) + 1) (rawInt a) (.bool b) item := Heap.get?_push_of_some _ e3
  generalize q4 : h3.push { cls := .type "tuple", data := .seq #[.int i tk, x] } = h4 at e4
  have z3 : h3.objs.size = hp.objs.size := by rw [s3.1, s2.1, s1.1]
  have el : e < hp.objs.size := Heap.lt_size he
  have t4 : h4.get? hp.objs.size = some { cls := .type "tuple", data := .seq #[.int i tk, x] } := by rw [← q4, ← z3]; exact Heap.get?_push_size _ rfl
  have k4 : ∀ c o, c ≠ e → c ≠ it → hp.get? c = some o → h4.get? c = some o := fun c o n1 n2 hc => by
    rw [← q4]; exact Heap.get?_push_of_some _ (s3.extBut c o n1 (s2.extBut c o n1 (s1.extBut c o n2 hc)))
  have it4 : h4.IsListIter it l (i + 1) := by
    rw [← q4]
    obtain ⟨o, ho, r⟩ := (it1.extBut s2.extBut (Ne.symm hne)).extBut s3.extBut (Ne.symm hne)
    exact ⟨o, Heap.get?_push_of_some _ ho, r⟩
  show wpAny _ _ (Builtin.SmallTypes.ownedTupleIsFree (.ref e) >>= _) _ _ ⟨h4, g, dr, tk + 1, os⟩
  rw [z3]
  clear q4 e3 s3 e2 s2 e1 s1 it1 z3 h3 h2 h1
  have a4 := k4 _ _ hae hai ha
  refine wpAny_bind ?_
  unfold Builtin.SmallTypes.ownedTupleIsFree
  refine wpAny_bind (wpAny_field e4 rfl (x := rawInt a) rfl ?_)
  refine wpAny_bind (wpAny_ifAlive (s := ⟨h4, g, dr, tk + 1, os⟩) ?_)
  show wpAny _ _ (if (h4.get? (Int.toNat (a : Int))).isNone then _ else _) _ _ _
  rw [Int.toNat_natCast, a4]
  refine wpAny_bind (wpAny_field e4 rfl (x := .bool b) rfl ?_)
  cases b with
  | true => exact wpAny_pure (wpAny_pure ⟨_, rfl, hQ h4 e4 it4 t4 k4⟩)
  | false =>
    refine wpAny_bind (wpAny_setField_rec e4 (by simp) fun h5 e5 s5 => ?_)
    replace s5 : Heap.SameBut e h4 h5 := s5
    refine wpAny_pure (wpAny_pure ⟨_, rfl, hQ h5 e5 (it4.extBut s5.extBut (Ne.symm hne)) (s5.extBut _ _ (Nat.ne_of_gt el) t4) fun c o n1 n2 hc => s5.extBut c o n1 (k4 c o n1 n2 hc)⟩)
theorem en_pyNext {e it l d : Addr} {i : Nat} {items : Array Value} {x : Value} {Q : Option Value → Shared → Prop} (he : EnAny s.heap e it d i)
    (hit : s.heap.IsListIter it l i) (hl : s.heap.IsList l items) (hx : items[i]? = some x) (hne : e ≠ it) (hd : d < s.heap.objs.size)
    (hQ : ∀ h', EnAny h' e it d ((i : Int) + 1) → h'.IsListIter it l (i + 1) → h'.get? s.heap.objs.size = some { cls := .type "tuple", data := .seq #[.int i s.toks, x] } →
      (∀ c o, c ≠ e → c ≠ it → s.heap.get? c = some o → h'.get? c = some o) → Q (some (.ref s.heap.objs.size)) { s with heap := h', toks := s.toks + 1 }) :
    wpAny (model prog w) A (pyNext (.ref e)) Q E s := by
  obtain ⟨own, flag, item, hr, r⟩ := he
  have ez : e < s.heap.objs.size := Heap.lt_size hr
  have iz : it < s.heap.objs.size := by obtain ⟨o, ho, _⟩ := hit; exact Heap.lt_size ho
  rcases r with ⟨rfl, rfl⟩ | ⟨a, oa, b, rfl, rfl, ha, hae, hai, had⟩
  · refine wpAny_pyNext_enum_item (old := item) hr hit hl hx hne fun h' f1 f2 f3 f4 f5 => hQ h' ⟨_, _, _, f1, .inr ⟨_, _, false, rfl, rfl, f3, Nat.ne_of_gt ez, Nat.ne_of_gt iz, Nat.ne_of_gt hd⟩⟩ f2 f3 f5
  · have hT : s.TypeIs (.ref e) "enumerate" := ⟨_, hr, rfl⟩
    unfold pyNext
    refine wpAny_bind (wpAny_attempt (wpAny_callSpecial?_slot (name := Str.ofString "__next__") hT F.slot_enumerate_next ?_))
    refine wpAny_call_entry F.slot_enumerate_next hT F.entry_enumerate_next ?_ (F.args_enumerate_next_1 _)
    refine en_next_out hr ha hae hai hit hl hx hne fun h' f1 f2 f3 f5 => wpAny_pure (hQ h' ⟨_, _, _, f1, .inr ⟨a, oa, true, rfl, rfl, f5 _ _ hae hai ha, hae, hai, had⟩⟩ f2 f3 f5)
theorem en_pyNext_end {e it l d : Addr} {i : Nat} {items : Array Value} {Q : Option Value → Shared → Prop} (hh : A.handled = none) (he : EnAny s.heap e it d i)
    (hit : s.heap.IsListIter it l i) (hl : s.heap.IsList l items) (hx : items[i]? = none) (hQ : ∀ h', Heap.ExtBut it s.heap h' → Q none { s with heap := h' }) : wpAny (model prog w) A (pyNext (.ref e)) Q E s := by
  obtain ⟨own, flag, item, hr, _⟩ := he
  have hT : s.TypeIs (.ref e) "enumerate" := ⟨_, hr, rfl⟩
  unfold pyNext
  refine wpAny_bind (wpAny_attempt (wpAny_callSpecial?_slot (name := Str.ofString "__next__") hT F.slot_enumerate_next ?_))
  refine wpAny_call_entry F.slot_enumerate_next hT F.entry_enumerate_next ?_ (F.args_enumerate_next_1 _)
  show wpAny _ _ (field (.ref e) 2 >>= _) _ _ _
  refine wpAny_bind (wpAny_field hr rfl (x := .ref it) rfl ?_)
  refine wpAny_bind (wpAny_nextOf_list_end hh hit hl hx fun h' x q1 q2 => ?_)
  obtain ⟨o, ho, hc⟩ := q2
  exact wpAny_bind (wpAny_isInstance (T := "StopIteration") (b := true) ⟨o, ho, hc⟩ isSubtype_stop (wpAny_pure (hQ _ q1)))
end
section
variable {prog : Program} {w : World} {K : Type} [DecidableEq K] {knd : KeyKind prog w K} {A : Around} {E : Value → Shared → Prop} {s : Shared}
theorem codeAny_de_loop {e it l d : Addr} {items : Array Value} {ps : List (K × Value)} {R : Result → Shared → Prop} (hh : A.in1.handled = none) (hde : d ≠ e) (hdi : d ≠ it) (hdl : d ≠ l) (hel : l ≠ e) (hil : l ≠ it) (hne : e ≠ it) (hsz : ps.length ≤ sizeLine) (hn : items.size = ps.length) (hdis : (ps.map (·.1)).Nodup)
    (hps : ∀ j (h : j < ps.length), items[j]? = some ps[j].2 ∧ ∀ t, knd.is ps[j].1 (.int (j : Int) t) = true) :
    ∀ (k i : Nat) (s : Shared) (n : Int), ps.length - i = k → i ≤ ps.length → EnAny s.heap e it d i → s.heap.IsListIter it l i → s.heap.IsList l items → s.heap.DictOf knd d (ps.take i) →
    (∀ h' t', h'.DictOf knd d ps → (∀ b o, b ≠ d → b ≠ e → b ≠ it → s.heap.get? b = some o → h'.get? b = some o) → R (.ok (.ret .none)) { s with heap := h', toks := t' }) →
    codeAny (model prog w) A (.builtin "dict.update.loop" ⟨[.ref d, .ref e, .int n 0, .none], []⟩) R s := by
  intro k
  induction k with
  | zero =>
    intro i s n hk hi he hit hl hd hR
    refine codeAny_builtin F.entry_update_loop ?_
    rw [Around.under_plainId F.plain_update_loop _]
    show wpAny _ A.in1 (pyNext (.ref e) >>= _) _ _ s
    refine wpAny_bind (en_pyNext_end hh he hit hl (by simp; omega) fun h' eb => ?_)
    show wpAny _ _ (Builtin.Dict.addKeywords d [] >>= _) _ _ _
    refine wpAny_bind (wpAny_pure (wpAny_pure ?_))
    rw [List.take_of_length_le (by omega)] at hd
    exact hR _ _ (hd.extBut eb hdi) (fun b o _ _ hb2 z => eb b o hb2 z)
  | succ k ih =>
    intro i s n hk hi he hit hl hd hR
    have hlt : i < ps.length := by omega
    obtain ⟨p1, p2⟩ := hps i hlt
    have dz : d < s.heap.objs.size := by obtain ⟨o, es, ep, hg, r⟩ := hd; exact Heap.lt_size hg
    have lz : l < s.heap.objs.size := by obtain ⟨o, ho, _⟩ := hl; exact Heap.lt_size ho
    refine codeAny_builtin F.entry_update_loop ?_
    rw [Around.under_plainId F.plain_update_loop _]
    show wpAny _ A.in1 (pyNext (.ref e) >>= _) _ _ s
    refine wpAny_bind (en_pyNext he hit hl p1 hne dz fun h' he' hit' ht hk' => ?_)
    have hd' : h'.DictOf knd d (ps.take i) := by
      obtain ⟨o, es, ep, hg, r⟩ := hd
      exact ⟨o, es, ep, hk' _ _ hde hdi hg, r⟩
    have hl' : h'.IsList l items := let ⟨o, ho, r⟩ := hl; ⟨o, hk' _ _ hel hil ho, r⟩
    show wpAny _ _ (holding [Value.ref s.heap.objs.size] _ >>= _) _ _ _
    refine wpAny_bind (wpAny_holding ?_)
    refine wpAny_bind (wpAny_tryCatch (dp_pair (t := s.heap.objs.size) ⟨_, ht, rfl, _, rfl⟩ ?_))
    have hst : stored (ps.take i) ps[i].1 ps[i].2 = ps.take (i + 1) := by
      unfold stored
      rw [if_neg, List.take_add_one, List.getElem?_eq_getElem hlt]
      · rfl
      · intro ha
        obtain ⟨q, hq, eq⟩ := List.any_eq_true.mp ha
        have eq' : q.1 = ps[i].1 := of_decide_eq_true eq
        obtain ⟨j, hj, ej⟩ := List.getElem_of_mem hq
        rw [List.length_take] at hj
        rw [List.getElem_take] at ej
        have := List.pairwise_iff_getElem.mp hdis j i (by rw [List.length_map]; omega) (by rw [List.length_map]; exact hlt) (by omega)
        apply this
        rw [List.getElem_map, List.getElem_map, ej, eq']
    show wpAny _ _ (holding [Value.int (i : Int) s.toks, ps[i].2] (dictSet d (.int (i : Int) s.toks) ps[i].2)) _ _ _
    refine wpAny_holding (wpAny_dictSet_pairs (s := { s with heap := h', toks := s.toks + 1 }) (p2 s.toks) hd' (fun h2 dd sb2 => ?_) (by rw [List.length_take]; omega))
    rw [hst] at dd
    have kp : ∀ b o, b ≠ d → h'.get? b = some o → h2.get? b = some o := fun b o hb q => (sb2.2 b hb).trans q
    refine wpAny_pure ⟨plainId_quiet F.plain_update_loop _, ih (i + 1) _ _ (by omega) hlt (he'.frame kp (Ne.symm hde)) ?_ ?_ dd fun h3 t3 d' ext => hR h3 t3 d' (fun b o hb1 hb2 hb3 z => ext b o hb1 hb2 hb3 (kp b o hb1 (hk' b o hb2 hb3 z)))⟩
    · obtain ⟨o, ho, r⟩ := hit'
      exact ⟨o, kp _ _ (Ne.symm hdi) ho, r⟩
    · obtain ⟨o, ho, r⟩ := hl'
      exact ⟨o, kp _ _ (Ne.symm hdl) ho, r⟩
end
end PySem
namespace PySem
open Sem (wp)
theorem en_no_getattr : typeLookup (.type "enumerate") "__getattr__" = pure none := by rw [typeLookup_type, builtinLookup_eq_fast]; kernel_rfl
theorem en_no_keys : typeLookup (.type "enumerate") "keys" = pure none := by rw [typeLookup_type, builtinLookup_eq_fast]; kernel_rfl
theorem en_entry_ga : entryFor table "enumerate.__getattribute__" = some Builtin.«object.__getattribute__» :=
  entryFor_alias (id' := "object.__getattribute__") (by kernel_rfl) (by decide +kernel) (by decide +kernel) (by kernel_rfl)
theorem en_meets_miss (a : Addr) (fs : Array Value) (u : Tok) (nm : Str) (hmiss : typeLookup (.type "enumerate") nm = pure none)
    (hname : (["__module__", "__name__", "__qualname__", "__doc__", "__annotations__"] : List Str).contains nm = false) (hsz : nm.length + 100 ≤ sizeLine) :
    Meets (Builtin.«object.__getattribute__» ⟨[.ref a, .str nm u], []⟩) (fun A R s => s.heap.get? a = some { cls := .type "enumerate", dict := none, data := .fields fs, slots := #[] } ∧ raisesAttr (.ref a) nm A R s) :=
  Meets.of_wp fun prog w A R s hs => by
    obtain ⟨hp, g, d, tk, os⟩ := s
    obtain ⟨hx, hs⟩ := hs
    have hT : (⟨hp, g, d, tk, os⟩ : Shared).TypeIs (.ref a) "enumerate" := ⟨_, hx, rfl⟩
    unfold Builtin.«object.__getattribute__»
    repeat (any_goals (first | assumption | wp_step))
    simp only [hname, Bool.false_eq_true, if_false]
    repeat (any_goals (first | assumption | wp_step))
    exact wpAny_raiseAttrError hs.1 hs.2 (attrMsg_fits (by decide +kernel) hsz)
section
variable {prog : Program} {w : World} {A : Around} {E : Value → Shared → Prop} {s : Shared}
theorem en_miss {a : Addr} {fs : Array Value} {Q : Option Value → Shared → Prop}
    (hx : s.heap.get? a = some { cls := .type "enumerate", dict := none, data := .fields fs, slots := #[] }) (hA : A.handled = none)
    (h : ∀ h' tk e, Heap.NewExcOf s.heap h' e "AttributeError" → Q none { s with heap := h', toks := tk }) :
    wpAny (model prog w) A (getAttr? (.ref a) "keys") Q E s := by
  obtain ⟨hp, g, d, tk, os⟩ := s
  have hT : ∀ tk', (⟨hp, g, d, tk', os⟩ : Shared).TypeIs (.ref a) "enumerate" := fun _ => ⟨_, hx, rfl⟩
  have f1 := sub_AttributeError
  have f3 := F.slot_enumerate_getattribute.lookup
  have f4 := F.slot_enumerate_getattribute.bind (.ref a)
  have f5 := en_no_getattr
  unfold getAttr? getAttrBy? getAttrBy
  repeat (any_goals (first | assumption | exact hT _ | ((with_reducible show wpAny _ _ (call (Value.builtin "enumerate.__getattribute__") _ _) _ _ _); refine call_meets F.slot_enumerate_getattribute (hT _) en_entry_ga (F.args_enumerate_getattribute_2 _ _) (en_meets_miss a fs _ _ en_no_keys (by decide +kernel) (by size_fits)) ⟨hx, hA, fun h' tk' e hx' => ?_⟩) | wp_step))
  obtain ⟨t', u', he⟩ := hx'.there
  show wpAny _ _ (getattributeRaised _ _ _ _ _ _ _) _ _ _
  unfold getattributeRaised
  repeat (any_goals (first | assumption | wp_step))
  exact h _ _ _ hx'.of
end
section
variable {prog : Program} {w : World} {K : Type} [DecidableEq K] {knd : KeyKind prog w K} {A : Around} {E : Value → Shared → Prop} {s : Shared}
theorem de_call {e it l : Addr} {items : Array Value} {old : Value} {ps : List (K × Value)} {Q : Value → Shared → Prop} (hh : A.handled = none) (hsz : ps.length ≤ sizeLine) (hn : items.size = ps.length) (hdis : (ps.map (·.1)).Nodup)
    (he : IsEnum s.heap e it 0 old) (hit : s.heap.IsListIter it l 0) (hl : s.heap.IsList l items) (hne : e ≠ it) (hel : l ≠ e) (hil : l ≠ it)
    (hps : ∀ j (h : j < ps.length), items[j]? = some ps[j].2 ∧ ∀ t, knd.is ps[j].1 (.int (j : Int) t) = true)
    (h : ∀ h' t', h'.DictOf knd s.heap.objs.size ps → (∀ b o, b ≠ e → b ≠ it → s.heap.get? b = some o → h'.get? b = some o) → Q (.ref s.heap.objs.size) { s with heap := h', toks := t' }) :
    wpAny (model prog w) A (call (.type "dict") [.ref e]) Q E s := by
  refine callType_codes (Q₁ := fun obj s₁ => obj = .ref s.heap.objs.size ∧ s₁ = { s with heap := s.heap.push { cls := .type "dict", data := .dict #[] } }) F.kt_called_dict (F.kt_typeCall_dict_1 _) F.entry_dict_init (kt_code_dict_new _ ⟨rfl, rfl⟩) ?_
  rintro obj s₁ ⟨rfl, rfl⟩
  have hnew : (s.heap.push { cls := .type "dict", data := .dict #[] }).DictOf knd s.heap.objs.size [] := Heap.DictOf.new s.heap
  have he1 : IsEnum (s.heap.push { cls := .type "dict", data := .dict #[] }) e it 0 old := Heap.get?_push_of_some _ he
  refine ⟨hnew.typeIs, F.args_dict_init_2 _ _, ?_⟩
  unfold Builtin.«dict.__init__»
  refine wpAny_bind ?_
  unfold Builtin.Dict.selfAndRest
  refine wpAny_bind (wpAny_notOrdered_dict hnew.typeIs ?_)
  show wpAny _ _ (pure (s.heap.objs.size, [Value.ref e])) _ _ _
  refine wpAny_pure ?_
  show wpAny _ _ (Builtin.Dict.updateFrom "dict.__init__" s.heap.objs.size (.ref e) [] .none) _ _ _
  unfold Builtin.Dict.updateFrom
  refine wpAny_bind (wpAny_typeOf (T := "enumerate") ⟨_, he1, rfl⟩ ?_)
  rw [if_pos (by decide)]
  refine wpAny_bind (en_miss he1 hh (fun h' tk ex ne => ?_))
  simp only [Option.isNone_none, if_true]
  have he2 : IsEnum h' e it 0 old := ne.keeps _ _ he1
  have hl2 : h'.IsList l items := by
    obtain ⟨o, ho, r⟩ := hl
    exact ⟨o, ne.keeps _ _ (Heap.get?_push_of_some _ ho), r⟩
  have hit2 : h'.IsListIter it l 0 := by
    obtain ⟨o, ho, r⟩ := hit
    exact ⟨o, ne.keeps _ _ (Heap.get?_push_of_some _ ho), r⟩
  have hd2 : h'.DictOf knd s.heap.objs.size [] := by
    obtain ⟨o', es, ep, hg, r⟩ := hnew
    exact ⟨o', es, ep, ne.keeps _ _ hg, r⟩
  have ez : e < s.heap.objs.size := Heap.lt_size he
  have iz : it < s.heap.objs.size := by obtain ⟨o, ho, _⟩ := hit; exact Heap.lt_size ho
  have lz : l < s.heap.objs.size := by obtain ⟨o, ho, _⟩ := hl; exact Heap.lt_size ho
  show wpAny _ _ (pyIter (Value.ref e) >>= _) _ _ _
  refine wpAny_bind (wpAny_pyIter_enum he2 ?_)
  refine wpAny_pure ⟨plainId_quiet F.plain_update_loop _, codeAny_de_loop (A := A.in1) (d := s.heap.objs.size) (e := e) (it := it) (ps := ps) (knd := knd) (l := l) (items := items) hh (Nat.ne_of_gt ez) (Nat.ne_of_gt iz) (Nat.ne_of_gt lz) hel hil hne hsz hn hdis hps ps.length 0 _ 0 rfl (Nat.zero_le _) ⟨_, _, _, he2, .inl ⟨rfl, rfl⟩⟩ hit2 hl2 hd2 ?_⟩
  intro h3 t3 d3 ext
  refine ⟨rfl, h h3 t3 d3 fun b o n1 n2 z => ?_⟩
  exact ext b o (Nat.ne_of_lt (Heap.lt_size z)) n1 n2 (ne.keeps _ _ (Heap.get?_push_of_some _ z))
end
end PySem
namespace L2
open PySem PySem.Spec PyProof.Rows
section
variable {X : Cx}
/-- the pairs of enumerate(xs) -/
def enKV (xs : List V) : List (Key × V) := xs.zipIdx.map fun p => (.inl (p.2 : Int), p.1)
def tDenum (ta : TA) : TE := fun σ H Q => ta σ H fun vs H1 => ∃ (l : Addr) (xs : List V), vs = [.ref l] ∧ H1 l = some (.lst xs) ∧ ∀ p, H1 p = none → Q (.ref p) (upd H1 p (.dK (enKV xs)))
theorem enKV_nodup (xs : List V) : ((enKV xs).map (·.1)).Nodup := by
  unfold enKV
  rw [List.map_map]
  have : ((fun p : Key × V => p.1) ∘ fun p : V × Nat => ((.inl (p.2 : Int) : Key), p.1)) = fun p : V × Nat => (.inl (p.2 : Int) : Key) := rfl
  rw [this, List.nodup_iff_pairwise_ne, List.pairwise_map, List.pairwise_iff_getElem]
  intro i j hi hj hij z
  rw [List.getElem_zipIdx, List.getElem_zipIdx] at z
  injection z with z
  have z : ((0 + i : Nat) : Int) = ((0 + j : Nat) : Int) := z
  omega
theorem enKV_get (xs : List V) (j : Nat) : (enKV xs)[j]? = (xs[j]?).map fun x => (.inl (j : Int), x) := by
  unfold enKV
  rw [List.getElem?_map, List.getElem?_zipIdx, Nat.zero_add, Option.map_map]
  rfl
theorem enKV_len (xs : List V) : (enKV xs).length = xs.length := by unfold enKV; rw [List.length_map, List.length_zipIdx]
theorem en_kv : ∀ {xs : List V} {us : List Value} (k : Nat), Vals xs us → KV ((xs.zipIdx k).map fun p => ((.inl (p.2 : Int) : Key), p.1)) ((us.zipIdx k).map fun p => ((.inl (p.2 : Int) : Key), p.1))
  | _, _, _, .nil => .nil
  | _, _, k, .cons r rr => by
    rw [List.zipIdx_cons, List.zipIdx_cons, List.map_cons, List.map_cons]
    exact .cons ⟨rfl, r⟩ (en_kv (k + 1) rr)
theorem pe_denum {a : Expr} {ta : TA} {p p1 pos pos1 : Pos} (hc : X.calm = true) (hg1 : Gl X "dict") (hm1 : X.mg "dict" = none) (hg : Gl X "enumerate") (hm : X.mg "enumerate" = none) (ha : PA X [a] ta)
    (hs : starEach [a] X.env = [(false, eval a X.env)] := by rfl) : PE X (.Call (.Name "dict" p) [.Call (.Name "enumerate" p1) [a] [] pos1] [] pos) (tDenum ta) := by
  intro pins s σ H Q I h
  refine wpAny_Call_Name_kw (ld_blt I hg1 hm1 (show bootBuiltins "dict" = some (.type "dict") by decide +kernel) ?_)
  refine PyProof.Rows.callWith_type1 ?_ rfl rfl
  refine Calls.spliced_cons ?_
  refine wpAny_Call_Name_kw (ld_blt I hg hm (show bootBuiltins "enumerate" = some (.type "enumerate") by decide +kernel) ?_)
  refine PyProof.Rows.callWith_type1 (thn (ha pos1 pins s σ H _ I h) fun us s1 ⟨vs, H1, I1, r1, q1⟩ => ?_) hs rfl
  obtain ⟨l, xs, e, hx, q⟩ := q1
  subst e
  obtain ⟨u1, rfl, r2⟩ := vals1 r1
  have e1 : u1 = .ref l := r2
  subst e1
  obtain ⟨z, its, n, rv, el⟩ := I1.hok l _ hx
  have lz : l < s1.heap.objs.size := Heap.lt_size el
  have lv : xs.length = its.length := rv.length
  refine call_enumerate_1 el fun h' hz hit _ hk => ?_
  refine Calls.spliced_nil ?_
  have I2 : Inv X pins σ H1 { s1 with heap := h', toks := s1.toks } := I1.kept (t' := s1.toks) hk
  have kv := en_kv 0 rv
  refine de_call (knd := mixKind X.prog X.w) (I.ok.hd hc) (items := its.toArray) (ps := (its.zipIdx 0).map fun p => ((.inl (p.2 : Int) : Key), p.1)) (by rw [List.length_map, List.length_zipIdx]; omega) (by rw [List.length_map, List.length_zipIdx]; simp) ?_ hz hit ⟨_, hk _ _ el, rfl, _, rfl⟩ (Nat.succ_ne_self _) (Nat.ne_of_lt (Nat.lt_succ_of_lt lz)) (Nat.ne_of_lt lz) (fun j hj => ?_) fun h3 t3 dd ext => ?_
  · rw [← kv.keys]; exact enKV_nodup xs
  · have hj' : j < its.length := by rw [List.length_map, List.length_zipIdx] at hj; exact hj
    refine ⟨?_, fun t => ?_⟩
    · rw [List.getElem_map, List.getElem_zipIdx]; simp [hj']
    · rw [List.getElem_map, List.getElem_zipIdx, Nat.zero_add]; exact kV_is (k := .inl (j : Int)) ⟨_, rfl⟩
  · have sz : s1.heap.objs.size ≤ h'.objs.size := Nat.le_of_lt (Nat.lt_of_succ_lt (Heap.lt_size hz))
    have ext' : ∀ b o, s1.heap.get? b = some o → h3.get? b = some o := fun b o z => by
      have bz := Heap.lt_size z
      exact ext b o (Nat.ne_of_lt (Nat.lt_succ_of_lt bz)) (Nat.ne_of_lt bz) (hk _ _ z)
    refine ⟨.ref h'.objs.size, _, I1.laid (a := h'.objs.size) (o := .dK (enKV xs)) (t' := t3) ext' sz (dk_new (by rw [enKV_len]; omega) (beq_eq_false_iff_ne.mpr (Ne.symm (Nat.ne_of_lt (Nat.lt_of_lt_of_le I1.big sz)))) kv dd), rfl, q _ (I1.hok.fresh sz)⟩
end
end L2

set_option Elab.async false
set_option linter.all false
set_option maxRecDepth 100000
set_option maxHeartbeats 4000000
namespace K21
open PySem L2
def top (i : Nat) : Stmt := PySem.Challenge.pw_gatetown_k21_programs_by_themselves.main.body.getD i (.Pass ⟨0, 0, 0, 0⟩)
abbrev s_first_state : Stmt := top 44
abbrev s_op_of : Stmt := top 45
abbrev s_number_of : Stmt := top 46
abbrev s_reaching_ops : Stmt := top 47
abbrev s_parts_read_by_own : Stmt := top 48
abbrev s_parts_set_by_own : Stmt := top 49
abbrev s_place_within : Stmt := top 50
abbrev s_asked : Stmt := top 51
abbrev s_is_barred : Stmt := top 52
abbrev s_exchanged : Stmt := top 53
abbrev s_trapped : Stmt := top 54
abbrev s_fetch : Stmt := top 55
abbrev s_cause_of : Stmt := top 56
abbrev s_row_trapped : Stmt := top 57
abbrev s_a_by_exchange : Stmt := top 58
abbrev s_new_a : Stmt := top 59
abbrev s_new_x : Stmt := top 60
abbrev s_leaps : Stmt := top 61
abbrev s_new_p : Stmt := top 62
abbrev s_own_changes : Stmt := top 63
abbrev s_row_done : Stmt := top 64
abbrev s_bell_counted : Stmt := top 65
abbrev s_written : Stmt := top 66
abbrev s_told_word : Stmt := top 67
abbrev s_beat_of : Stmt := top 68
abbrev s_without_noughts : Stmt := top 74
abbrev s_beat_in : Stmt := top 75
abbrev s_stretch : Stmt := top 76
abbrev s_end_by : Stmt := top 77
abbrev s_behind_call : Stmt := top 78
abbrev s_lone : Stmt := top 79
abbrev s_law_cell_at : Stmt := top 81
abbrev s_law_mixed : Stmt := top 82
abbrev s_law_names : Stmt := top 85
abbrev s_law_read : Stmt := top 86
abbrev s_law_told_of : Stmt := top 87
abbrev s_law_wants : Stmt := top 88
abbrev s_law_trapped : Stmt := top 89
abbrev s_law_own : Stmt := top 90
abbrev s_law_moved : Stmt := top 91
abbrev s_law_row : Stmt := top 92
abbrev s_law_beat : Stmt := top 93
abbrev s_law_words_by : Stmt := top 94
abbrev s_law_heard : Stmt := top 95
abbrev s_law_alone : Stmt := top 96
abbrev s_law_image : Stmt := top 97
abbrev s_law : Stmt := top 98
/-! ### the mirror -/
structure NetD where
  ins : Int
  keeps : Int
  gates : List (Int × Int)
  nexts : List Int
  outs : List Int
def GateAt (H : Hp) (v : V) (p : Int × Int) : Prop := ∃ q, v = .ref q ∧ H q = some (.tup [.int p.1, .int p.2])
structure NetAt (H : Hp) (v : V) (N : NetD) : Prop where
  ex : ∃ (p g n o : Addr) (gs : List V), v = .ref p ∧ H p = some (.tup [.int N.ins, .int N.keeps, .ref g, .ref n, .ref o]) ∧ H g = some (.lst gs) ∧ Paired (GateAt H) gs N.gates ∧
    H n = some (.lst (N.nexts.map V.int)) ∧ H o = some (.lst (N.outs.map V.int))
  sm : N.gates.length ≤ 1000 ∧ N.nexts.length ≤ 1000 ∧ N.outs.length ≤ 1000
theorem GateAt.same {H H' : Hp} (e : Same H H') {v : V} {p : Int × Int} (h : GateAt H v p) : GateAt H' v p := let ⟨q, a, b⟩ := h; ⟨q, a, e _ _ b⟩
theorem paired_get {α β : Type} {F : α → β → Prop} : ∀ {l1 : List α} {l2 : List β} {i : Nat} {x : α}, Paired F l1 l2 → l1[i]? = some x → ∃ y, l2[i]? = some y ∧ F x y
  | _, _, _, _, .nil, e => by simp at e
  | _, _, 0, _, .cons r _, e => by simp at e; subst e; exact ⟨_, rfl, r⟩
  | _, _, i + 1, x, .cons _ t, e => by
    obtain ⟨y, h1, h2⟩ := paired_get (i := i) (x := x) t (by simpa using e)
    exact ⟨y, by simpa using h1, h2⟩

structure Fn (K : PySem.W.Frag) (mg : Str → Option Value) (x : Str) (st : Stmt) (ps : List Str) (a : Addr) (fd : FuncData) : Prop where
  F : Fun K x x st a fd
  m : mg x = some (.ref a)
  b : Binds K fd ps []
structure Bt (mg : Str → Option Value) : Prop where
  b_enumerate : mg "enumerate" = none
  b_dict : mg "dict" = none
  b_len : mg "len" = none
  b_range : mg "range" = none
  b_list : mg "list" = none
  b_tuple : mg "tuple" = none
  b_min : mg "min" = none
  b_isinstance : mg "isinstance" = none
  b_int : mg "int" = none
  b_bool : mg "bool" = none
  b_zip : mg "zip" = none
  b_sum : mg "sum" = none
structure Ct (K : PySem.W.Frag) (mg : Str → Option Value) : Prop where
  k_SET : ∃ tk, mg "SET" = some (.int 0 tk)
  k_LOAD : ∃ tk, mg "LOAD" = some (.int 1 tk)
  k_STORE : ∃ tk, mg "STORE" = some (.int 2 tk)
  k_ADD : ∃ tk, mg "ADD" = some (.int 3 tk)
  k_TAKE : ∃ tk, mg "TAKE" = some (.int 4 tk)
  k_BOTH : ∃ tk, mg "BOTH" = some (.int 5 tk)
  k_GOTO : ∃ tk, mg "GOTO" = some (.int 6 tk)
  k_ZERO : ∃ tk, mg "ZERO" = some (.int 7 tk)
  k_BELOW : ∃ tk, mg "BELOW" = some (.int 8 tk)
  k_FROM : ∃ tk, mg "FROM" = some (.int 9 tk)
  k_INTO : ∃ tk, mg "INTO" = some (.int 10 tk)
  k_MOVE : ∃ tk, mg "MOVE" = some (.int 11 tk)
  k_LINK : ∃ tk, mg "LINK" = some (.int 12 tk)
  k_CALL : ∃ tk, mg "CALL" = some (.int 13 tk)
  k_OWN : ∃ tk, mg "OWN" = some (.int 14 tk)
  k_BACK : ∃ tk, mg "BACK" = some (.int 15 tk)
  k_WORDS : ∃ tk, mg "WORDS" = some (.int 65536 tk)
  k_PLACES : ∃ tk, mg "PLACES" = some (.int 4096 tk)
  k_FIRST_BELOW : ∃ tk, mg "FIRST_BELOW" = some (.int 32768 tk)
  k_A : ∃ tk, mg "A" = some (.int 0 tk)
  k_X : ∃ tk, mg "X" = some (.int 1 tk)
  k_P : ∃ tk, mg "P" = some (.int 2 tk)
  k_ROW : ∃ tk, mg "ROW" = some (.int 3 tk)
  k_FETCHED : ∃ tk, mg "FETCHED" = some (.int 4 tk)
  k_MODE : ∃ tk, mg "MODE" = some (.int 5 tk)
  k_BEGIN : ∃ tk, mg "BEGIN" = some (.int 6 tk)
  k_LENGTH : ∃ tk, mg "LENGTH" = some (.int 7 tk)
  k_BELL : ∃ tk, mg "BELL" = some (.int 8 tk)
  k_SAVED_A : ∃ tk, mg "SAVED_A" = some (.int 9 tk)
  k_SAVED_X : ∃ tk, mg "SAVED_X" = some (.int 10 tk)
  k_SAVED_P : ∃ tk, mg "SAVED_P" = some (.int 11 tk)
  k_CAUSE : ∃ tk, mg "CAUSE" = some (.int 12 tk)
  k_NUMBER : ∃ tk, mg "NUMBER" = some (.int 13 tk)
  k_HALTED : ∃ tk, mg "HALTED" = some (.int 14 tk)
  k_WIDTHS : ∃ a, mg "WIDTHS" = some (.ref a) ∧ ∀ H : Hp, SqT K H a ([(16 : Int), (16 : Int), (12 : Int), (16 : Int), (1 : Int), (1 : Int), (12 : Int), (12 : Int), (12 : Int), (16 : Int), (16 : Int), (12 : Int), (3 : Int), (12 : Int), (1 : Int)].map V.int)
  k_BARRED : ∃ tk, mg "BARRED" = some (.int 1 tk)
  k_NOT_OWN : ∃ tk, mg "NOT_OWN" = some (.int 2 tk)
  k_CALLED : ∃ tk, mg "CALLED" = some (.int 3 tk)
  k_RUNG : ∃ tk, mg "RUNG" = some (.int 4 tk)
  k_MOVES : ∃ tk, mg "MOVES" = some (.int 4 tk)
  k_OWNS : ∃ tk, mg "OWNS" = some (.int 16 tk)
  k_OWN_HALT : ∃ tk, mg "OWN_HALT" = some (.int 5 tk)
  k_OWN_TELL : ∃ tk, mg "OWN_TELL" = some (.int 6 tk)
  k_NONE_LEFT : ∃ tk, mg "NONE_LEFT" = some (.int 65535 tk)
  k_END : ∃ tk, mg "END" = some (.int 0 tk)
  k_TELL : ∃ tk, mg "TELL" = some (.int 1 tk)
  k_ASK : ∃ tk, mg "ASK" = some (.int 3 tk)
theorem cmul_l {i j : Int} (h1 : -18446744073709551616 < i) (h2 : i < 18446744073709551616) : CMul i j := .inl ⟨by omega, by omega⟩
theorem cmul_r {i j : Int} (h1 : -18446744073709551616 < j) (h2 : j < 18446744073709551616) : CMul i j := .inr ⟨by omega, by omega⟩
theorem cpow_of {i j : Int} (h0 : 0 ≤ j) (h1 : j ≤ 1000000) (h2 : -18446744073709551616 < i) (h3 : i < 18446744073709551616) : CPow i j := ⟨h0, h1, by omega⟩
theorem atI_ix {ns : List Int} {i : Int} (h0 : 0 ≤ i) (h1 : i < (ns.map V.int).length) : ∃ n, n ∈ ns ∧ atI (ns.map V.int) i = some (.int n) := by
  rw [List.length_map] at h1
  have hj : i.toNat < ns.length := by omega
  refine ⟨ns[i.toNat], List.getElem_mem hj, ?_⟩
  have := atI_nat (xs := ns.map V.int) (j := i.toNat) (v := .int ns[i.toNat]) (by rw [List.getElem?_map, List.getElem?_eq_getElem hj]; rfl)
  rw [Int.toNat_of_nonneg h0] at this
  exact this
structure Small (N : NetD) : Prop where
  g : N.gates.length ≤ 900
  n : N.nexts.length ≤ 100
  o : N.outs.length ≤ 100
  i : N.ins ≤ 100
def cutN (ns : List Int) (lo hi : Option Int) : List Int := (ns.drop (HT.sIx ns.length 0 lo)).take (HT.sIx ns.length ns.length hi - HT.sIx ns.length 0 lo)
theorem cut_ints (ns : List Int) (lo hi : Option Int) : cutV (ns.map V.int) lo hi = (cutN ns lo hi).map V.int := by
  unfold cutV cutN
  rw [List.length_map, List.map_take, List.map_drop]
theorem rep_ints (K : PySem.W.Frag) (H : Hp) : ∀ ns : List Int, RepAll K H (ns.map V.int) (ns.map PyData.int)
  | [] => .nil
  | n :: r => .cons (.int n) (rep_ints K H r)
theorem lay_ints : ∀ ns : List Int, PyData.canLayAll0 (ns.map PyData.int) = true
  | [] => rfl
  | n :: r => by
    show (true && PyData.canLayAll0 (r.map PyData.int)) = true
    rw [lay_ints r]; rfl
theorem dep_ints : ∀ ns : List Int, PyData.depthAll (ns.map PyData.int) ≤ 0
  | [] => Nat.le_refl _
  | n :: r => by
    show max 0 (PyData.depthAll (r.map PyData.int)) ≤ 0
    have := dep_ints r; omega
def litV : Expr → Option V
  | .Constant (.int i) _ _ => some (.int i)
  | .Constant (.str x) _ _ => some (.str x)
  | _ => none
def litsV : List Expr → Option (List V)
  | [] => some []
  | e :: r => match litV e, litsV r with
    | some v, some vs => some (v :: vs)
    | _, _ => none
def tLits (vs : List V) : TA := fun _ H Q => Q vs H
section
variable {X : Cx}
/-- a list of written numbers and texts -/
theorem pa_lits : ∀ {es : List Expr} {vs : List V}, litsV es = some vs → PA X es (tLits vs)
  | [], vs, h => by
    cases h
    exact pa_nil
  | e :: r, vs, h => by
    unfold litsV at h
    cases e1 : litV e with
    | none => rw [e1] at h; cases h
    | some v =>
      cases e2 : litsV r with
      | none => rw [e1, e2] at h; cases h
      | some us =>
        rw [e1, e2] at h
        cases h
        have ih := pa_lits e2
        cases e with
        | Constant c k pos =>
          cases c with
          | int i => cases e1; exact pa_cons pe_int ih rfl
          | str x => cases e1; exact pa_cons pe_str ih rfl
          | _ => cases e1
        | _ => cases e1
end
theorem atI_getD {ns : List Int} {i : Nat} (h : i < ns.length) : atI (ns.map V.int) (i : Int) = some (.int (ns.getD i 0)) :=
  atI_nat (by rw [List.getElem?_map, List.getD_eq_getElem?_getD, List.getElem?_eq_getElem h]; rfl)
theorem snoc_int (ms : List Int) (m : Int) : ms.map V.int ++ [V.int m] = (ms ++ [m]).map V.int := by rw [List.map_append]; rfl
theorem ixN_ok {n : Nat} {i : Int} (h0 : 0 ≤ i) (h1 : i < n) : ixN n i = some i.toNat := by unfold ixN; rw [if_pos h0, if_pos h1]
theorem set_map (xs : List Int) (j : Nat) (v : Int) : (xs.map V.int).set j (V.int v) = (xs.set j v).map V.int := by rw [List.map_set]
/-- numbers, each from 0 on and below its size -/
structure Rg (ss r : List Int) : Prop where
  len : r.length = ss.length
  bd : ∀ (j : Nat) (s : Int), ss[j]? = some s → 0 ≤ r.getD j 0 ∧ r.getD j 0 < s
theorem getD_set {r : List Int} {j k : Nat} {v : Int} (h : j < r.length) : (r.set j v).getD k 0 = if j = k then v else r.getD k 0 := by
  rw [List.getD_eq_getElem?_getD, List.getD_eq_getElem?_getD, List.getElem?_set]
  by_cases e : j = k
  · subst e; rw [if_pos rfl, if_pos rfl, if_pos h]; rfl
  · rw [if_neg e, if_neg e]
def sizes15 : List Int := [65536, 65536, 4096, 65536, 2, 2, 4096, 4096, 4096, 65536, 65536, 4096, 8, 4096, 2]
/-- all stays but the list at l -/
def Kl (l : Addr) (H H' : Hp) : Prop := ∀ b o, H b = some o → b ≠ l → H' b = some o
theorem Kl.one {l : Addr} {o : HO} {H : Hp} : Kl l H (upd H l o) := fun b o' e n => by rw [upd_ne n]; exact e
theorem Kl.same {l : Addr} {H0 H H' : Hp} (s : Same H0 H) (n : H0 l = none) (k : Kl l H H') : Same H0 H' := fun b o e => k b o (s b o e) (ne_of_none e n)
end K21

set_option Elab.async false
set_option linter.all false
set_option maxRecDepth 100000
set_option maxHeartbeats 4000000
namespace K21
open PySem L2
def sp_mix : Sp := fun vs H Q _ => ∃ (c k : Int), vs = [.int c, .int k] ∧ 0 ≤ k ∧ k ≤ 1000000000 ∧ ∀ v : Int, 0 ≤ v → v < 2147483629 → Q (.int v) H
section
variable {P : Program} {w : World} {K : PySem.W.Frag} {mg : Str → Option Value} {base : Heap}
local macro_rules | `(tactic| walk_at "sd") => `(tactic| ((try dsimp only); first | omega | decide | exact cmul_l (by omega) (by omega) | exact cmul_r (by omega) (by omega) | exact ⟨by omega, by omega⟩ | exact cpow_of (by omega) (by omega) (by omega) (by omega) | (split <;> omega)))
local macro_rules | `(tactic| walk_at "rd") => `(tactic| repeat (first | refine ⟨_, rfl, ?_⟩ | refine ⟨_, _, rfl, rfl, ?_⟩ | refine And.intro (by walk_at "sd") ?_))
theorem sc_law_mixed : FnScope ["_law_number", "_law_k", "_law_once", "_law_twice"] ["_law_number", "_law_k"] (defScope s_law_mixed) := ⟨rfl, rfl, rfl, by decide +kernel, rfl, by decide +kernel, by decide +kernel⟩
theorem ok_law_mixed {f : Addr} {fd : FuncData} (F : Fun K "_law_mixed" "_law_mixed" s_law_mixed f fd) : FnOk P w K mg base CX0 1 f fd ["_law_number", "_law_k"] sp_mix := by
  refine F.ok sc_law_mixed (fun vs H Q E h => ?_) (fun cdv A outer s H vs Q E hr h => ?_)
  · obtain ⟨c, k, rfl, _⟩ := h; rfl
  · obtain ⟨c, k, rfl, h0, h1, q⟩ := h
    refine ⟨_, (pss_cons (ps_set (i := 2) sc_law_mixed.nd rfl (Or.inl rfl) (pe_op op_mod (pe_op op_mul (pe_op op_add (pe_op op_add (pe_op op_mod (pv 0) pe_int) (pe_op op_mul pe_int (pv 1))) pe_int) pe_int) pe_int))
      (pss_cons (ps_set (i := 3) sc_law_mixed.nd rfl (Or.inl rfl) (pe_op op_mod (pe_op op_mul (pv 2) (pe_op op_add (pe_op op_add (pe_op op_mod (pv 2) pe_int) (pv 1)) pe_int)) pe_int))
      (pss_one (ps_ret (pe_op op_mod (pe_op op_add (pe_op op_mul (pv 3) pe_int) (pv 2)) pe_int))))), ?_⟩
    walk_at "rd"
    exact q _ (Int.emod_nonneg _ (by decide)) (Int.emod_lt_of_pos _ (by decide))
end
def sp_cell (K : PySem.W.Frag) : Sp := fun vs H Q _ => ∃ (a : Addr) (ns : List Int) (k : Int), vs = [.ref a, .int k] ∧ SqL K H a (ns.map V.int) ∧ 0 ≤ k ∧ ∀ c : Int, Q (.int c) H
section
variable {P : Program} {w : World} {K : PySem.W.Frag} {mg : Str → Option Value} {base : Heap}
theorem sc_law_cell_at : FnScope ["_law_script", "_law_k"] ["_law_script", "_law_k"] (defScope s_law_cell_at) := ⟨rfl, rfl, rfl, by decide +kernel, rfl, by decide +kernel, by decide +kernel⟩
theorem ok_law_cell_at {f : Addr} {fd : FuncData} (F : Fun K "_law_cell_at" "_law_cell_at" s_law_cell_at f fd) (T : Bt mg) : FnOk P w K mg base CX0 1 f fd ["_law_script", "_law_k"] (sp_cell K) := by
  refine F.ok sc_law_cell_at (fun vs H Q E h => ?_) (fun cdv A outer s H vs Q E hr h => ?_)
  · obtain ⟨a, ns, k, rfl, _⟩ := h; rfl
  · obtain ⟨a, ns, k, rfl, hq, hk, q⟩ := h
    refine ⟨_, (pss_cons (ps_if (pt_cmpR op_lt (pv 1) (pe_callB call_len_seq rfl T.b_len (by decide +kernel) (pa_cons (pv 0) pa_nil)) (nomark _))
        (pss_one (ps_ret (pe_ix ix_list (pv 0) (pv 1) (fun _ _ => rfl))))
        pss_nil)
      (pss_one (ps_ret pe_int))), ?_⟩
    refine ⟨_, rfl, _, rfl, a, _, rfl, .inl hq, _, _, rfl, rfl, _, rfl, ?_⟩
    refine ite2 (fun h => ?_) (fun h => ?_)
    · obtain ⟨n, _, e⟩ := atI_ix (ns := ns) hk (of_decide_eq_true h)
      exact ⟨_, rfl, _, rfl, a, _, _, _, rfl, rfl, hq, e, q n⟩
    · exact q 0
end
end K21

set_option Elab.async false
set_option linter.all false
set_option maxRecDepth 100000
set_option maxHeartbeats 4000000
namespace K21
open PySem L2
def sp_first : Sp := fun vs H Q _ => vs = [] ∧ ∀ (t : Addr) (H' : Hp), H t = none → Same H H' → H' t = some (.tup ((List.replicate 15 (0 : Int)).map V.int)) → Q (.ref t) H'
def sp_st (f : List Int → Int) : Sp := fun vs H Q _ => ∃ (t : Addr) (st : List Int), vs = [.ref t] ∧ H t = some (.tup (st.map V.int)) ∧ st.length = 15 ∧ ∀ H', Same H H' → Q (.int (f st)) H'
def stOp (st : List Int) : Int := st.getD 3 0 / 4096
def stNum (st : List Int) : Int := st.getD 3 0 % 4096
def stPlace (st : List Int) : Int := if st.getD 4 0 = 0 then st.getD 2 0 else if stOp st = 9 ∨ stOp st = 10 then (st.getD 1 0 + stNum st) % 65536 else stNum st
def stAsked (st : List Int) : Int := if st.getD 5 0 = 0 then stPlace st % 4096 else (st.getD 6 0 + stPlace st) % 4096
theorem in2 (x a b : Int) : (if false = true then !inV (V.int x) [V.int a, V.int b] else inV (V.int x) [V.int a, V.int b]) = decide (x = a ∨ x = b) := by
  rw [if_neg (by decide)]
  unfold inV
  simp only [List.any_cons, List.any_nil, Bool.or_false]
  rw [Bool.eq_iff_iff, Bool.or_eq_true, decide_eq_true_eq]
  simp only [eqV, beq_iff_eq]
  omega
section
variable {P : Program} {w : World} {K : PySem.W.Frag} {mg : Str → Option Value} {base : Heap}
theorem sc_op_of : FnScope ["state"] ["state"] (defScope s_op_of) := ⟨rfl, rfl, rfl, by decide +kernel, rfl, by decide +kernel, by decide +kernel⟩
theorem ok_op_of {f : Addr} {fd : FuncData} (F : Fun K "op_of" "op_of" s_op_of f fd) (C : Ct K mg) : FnOk P w K mg base CX0 1 f fd ["state"] (sp_st stOp) := by
  refine F.ok sc_op_of (fun vs H Q E h => ?_) (fun cdv A outer s H vs Q E hr h => ?_)
  · obtain ⟨t, st, rfl, _⟩ := h; rfl
  · obtain ⟨t, st, rfl, ht, hl, q⟩ := h
    refine ⟨_, (pss_one (ps_ret (pe_op op_fdivL (pe_ix ix_tup (pv 0) (pe_glob (v := .int 3) rfl C.k_ROW.choose_spec ⟨_, rfl⟩) (fun _ _ => rfl)) (pe_glob (v := .int 4096) rfl C.k_PLACES.choose_spec ⟨_, rfl⟩)))), ?_⟩
    exact ⟨_, rfl, t, _, _, _, rfl, rfl, SqT.of ht, atI_getD (i := 3) (by omega), _, _, rfl, rfl, ⟨by decide, by decide⟩, q _ (Same.refl H)⟩
theorem sc_number_of : FnScope ["state"] ["state"] (defScope s_number_of) := ⟨rfl, rfl, rfl, by decide +kernel, rfl, by decide +kernel, by decide +kernel⟩
theorem ok_number_of {f : Addr} {fd : FuncData} (F : Fun K "number_of" "number_of" s_number_of f fd) (C : Ct K mg) : FnOk P w K mg base CX0 1 f fd ["state"] (sp_st stNum) := by
  refine F.ok sc_number_of (fun vs H Q E h => ?_) (fun cdv A outer s H vs Q E hr h => ?_)
  · obtain ⟨t, st, rfl, _⟩ := h; rfl
  · obtain ⟨t, st, rfl, ht, hl, q⟩ := h
    refine ⟨_, (pss_one (ps_ret (pe_op op_mod (pe_ix ix_tup (pv 0) (pe_glob (v := .int 3) rfl C.k_ROW.choose_spec ⟨_, rfl⟩) (fun _ _ => rfl)) (pe_glob (v := .int 4096) rfl C.k_PLACES.choose_spec ⟨_, rfl⟩)))), ?_⟩
    exact ⟨_, rfl, t, _, _, _, rfl, rfl, SqT.of ht, atI_getD (i := 3) (by omega), _, _, rfl, rfl, (by show (0 : Int) < 4096; decide), q _ (Same.refl H)⟩
theorem sc_place_within : FnScope ["state"] ["state"] (defScope s_place_within) := ⟨rfl, rfl, rfl, by decide +kernel, rfl, by decide +kernel, by decide +kernel⟩
theorem ok_place_within {f f1 f2 : Addr} {fd d1 d2 : FuncData} (F : Fun K "place_within" "place_within" s_place_within f fd) (C : Ct K mg) (T_op_of : Fn K mg "op_of" s_op_of ["state"] f1 d1) (T_number_of : Fn K mg "number_of" s_number_of ["state"] f2 d2) :
    FnOk P w K mg base CX0 2 f fd ["state"] (sp_st stPlace) := by
  have G_op_of := ok_op_of (P := P) (w := w) (base := base) T_op_of.F C
  have G_number_of := ok_number_of (P := P) (w := w) (base := base) T_number_of.F C
  refine F.ok sc_place_within (fun vs H Q E h => ?_) (fun cdv A outer s H vs Q E hr h => ?_)
  · obtain ⟨t, st, rfl, _⟩ := h; rfl
  · obtain ⟨t, st, rfl, ht, hl, q⟩ := h
    have hs : sizeLine = 16777216 := sizeLine_eq
    unfold stPlace at q
    refine ⟨_, (pss_cons (ps_if (pt_cmpR op_eq (pe_ix ix_tup (pv 0) (pe_glob (v := .int 4) rfl C.k_FETCHED.choose_spec ⟨_, rfl⟩) (fun _ _ => rfl)) pe_int (nomark _))
        (pss_one (ps_ret (pe_ix ix_tup (pv 0) (pe_glob (v := .int 2) rfl C.k_P.choose_spec ⟨_, rfl⟩) (fun _ _ => rfl))))
        pss_nil)
      (pss_cons (ps_if (pt_cmpR op_in_seq (pe_call G_op_of (hr.mono (by decide)) rfl T_op_of.m T_op_of.F.kp T_op_of.b .nil pass0 (pa_cons (pv 0) pa_nil)) (pe_tup (pa_cons (pe_glob (v := .int 9) rfl C.k_FROM.choose_spec ⟨_, rfl⟩) (pa_cons (pe_glob (v := .int 10) rfl C.k_INTO.choose_spec ⟨_, rfl⟩) pa_nil))) (by with_unfolding_all rfl))
        (pss_one (ps_ret (pe_op op_mod (pe_op op_add (pe_ix ix_tup (pv 0) (pe_glob (v := .int 1) rfl C.k_X.choose_spec ⟨_, rfl⟩) (fun _ _ => rfl)) (pe_call G_number_of (hr.mono (by decide)) rfl T_number_of.m T_number_of.F.kp T_number_of.b .nil pass0 (pa_cons (pv 0) pa_nil))) (pe_glob (v := .int 65536) rfl C.k_WORDS.choose_spec ⟨_, rfl⟩))))
        pss_nil)
      (pss_one (ps_ret (pe_call G_number_of (hr.mono (by decide)) rfl T_number_of.m T_number_of.F.kp T_number_of.b .nil pass0 (pa_cons (pv 0) pa_nil)))))), ?_⟩
    refine ⟨_, rfl, t, _, _, _, rfl, rfl, SqT.of ht, atI_getD (i := 4) (by omega), rfl, _, rfl, ite2 (fun h4 => ?_) (fun h4 => ?_)⟩
    · have e : st.getD 4 0 = 0 := by simpa using h4
      rw [if_pos e] at q
      exact ⟨_, rfl, t, _, _, _, rfl, rfl, SqT.of ht, atI_getD (i := 2) (by omega), q _ (Same.refl H)⟩
    have e : ¬ st.getD 4 0 = 0 := by simpa using h4
    rw [if_neg e] at q
    refine ⟨_, rfl, t, st, rfl, ht, hl, fun H1 s1 => ?_⟩
    refine ⟨by show 2 ≤ sizeLine; omega, fun p hp => ?_⟩
    have y1 := Same.put (o := .tup [V.int 9, V.int 10]) hp
    refine ⟨p, [V.int 9, V.int 10], rfl, .inr (SqT.of upd_same), rfl, rfl, _, rfl, ?_⟩
    have s2 := s1.trans y1
    have ht2 := s2 _ _ ht
    generalize upd H1 p (.tup [V.int 9, V.int 10]) = H2 at y1 s2 ht2 ⊢
    have ein : (if false = true then !inV (V.int (stOp st)) [V.int 9, V.int 10] else inV (V.int (stOp st)) [V.int 9, V.int 10]) = decide (stOp st = 9 ∨ stOp st = 10) := in2 _ _ _
    rw [ein]
    refine ite2 (fun h5 => ?_) (fun h5 => ?_)
    · rw [if_pos (of_decide_eq_true h5)] at q
      exact ⟨_, rfl, t, _, _, _, rfl, rfl, SqT.of ht2, atI_getD (i := 1) (by omega), _, rfl, t, st, rfl, ht2, hl, fun H3 s3 => ⟨_, _, rfl, rfl, _, _, rfl, rfl, (by show (0 : Int) < 65536; decide), q _ (s2.trans s3)⟩⟩
    · rw [if_neg fun z => h5 (decide_eq_true z)] at q
      exact ⟨_, rfl, t, st, rfl, ht2, hl, fun H3 s3 => q _ (s2.trans s3)⟩
end
section
variable {P : Program} {w : World} {K : PySem.W.Frag} {mg : Str → Option Value} {base : Heap}
theorem sc_asked : FnScope ["state"] ["state"] (defScope s_asked) := ⟨rfl, rfl, rfl, by decide +kernel, rfl, by decide +kernel, by decide +kernel⟩
theorem ok_asked {f f0 f1 f2 : Addr} {fd d0 d1 d2 : FuncData} (F : Fun K "asked" "asked" s_asked f fd) (C : Ct K mg) (T_op_of : Fn K mg "op_of" s_op_of ["state"] f1 d1) (T_number_of : Fn K mg "number_of" s_number_of ["state"] f2 d2) (T_place_within : Fn K mg "place_within" s_place_within ["state"] f0 d0) :
    FnOk P w K mg base CX0 3 f fd ["state"] (sp_st stAsked) := by
  have G_place_within := ok_place_within (P := P) (w := w) (base := base) T_place_within.F C T_op_of T_number_of
  refine F.ok sc_asked (fun vs H Q E h => ?_) (fun cdv A outer s H vs Q E hr h => ?_)
  · obtain ⟨t, st, rfl, _⟩ := h; rfl
  · obtain ⟨t, st, rfl, ht, hl, q⟩ := h
    unfold stAsked at q
    refine ⟨_, (pss_cons (ps_if (pt_cmpR op_eq (pe_ix ix_tup (pv 0) (pe_glob (v := .int 5) rfl C.k_MODE.choose_spec ⟨_, rfl⟩) (fun _ _ => rfl)) pe_int (nomark _))
        (pss_one (ps_ret (pe_op op_mod (pe_call G_place_within (hr.mono (by decide)) rfl T_place_within.m T_place_within.F.kp T_place_within.b .nil pass0 (pa_cons (pv 0) pa_nil)) (pe_glob (v := .int 4096) rfl C.k_PLACES.choose_spec ⟨_, rfl⟩))))
        pss_nil)
      (pss_one (ps_ret (pe_op op_mod (pe_op op_add (pe_ix ix_tup (pv 0) (pe_glob (v := .int 6) rfl C.k_BEGIN.choose_spec ⟨_, rfl⟩) (fun _ _ => rfl)) (pe_call G_place_within (hr.mono (by decide)) rfl T_place_within.m T_place_within.F.kp T_place_within.b .nil pass0 (pa_cons (pv 0) pa_nil))) (pe_glob (v := .int 4096) rfl C.k_PLACES.choose_spec ⟨_, rfl⟩))))), ?_⟩
    refine ⟨_, rfl, t, _, _, _, rfl, rfl, SqT.of ht, atI_getD (i := 5) (by omega), rfl, _, rfl, ite2 (fun h4 => ?_) (fun h4 => ?_)⟩
    · have e : st.getD 5 0 = 0 := by simpa using h4
      rw [if_pos e] at q
      exact ⟨_, rfl, t, st, rfl, ht, hl, fun H1 s1 => ⟨_, _, rfl, rfl, (by show (0 : Int) < 4096; decide), q _ s1⟩⟩
    have e : ¬ st.getD 5 0 = 0 := by simpa using h4
    rw [if_neg e] at q
    exact ⟨_, rfl, t, _, _, _, rfl, rfl, SqT.of ht, atI_getD (i := 6) (by omega), _, rfl, t, st, rfl, ht, hl, fun H1 s1 => ⟨_, _, rfl, rfl, _, _, rfl, rfl, (by show (0 : Int) < 4096; decide), q _ s1⟩⟩
end
section
variable {P : Program} {w : World} {K : PySem.W.Frag} {mg : Str → Option Value} {base : Heap}
theorem sc_first_state : FnScope [] [] (defScope s_first_state) := ⟨rfl, rfl, rfl, by decide +kernel, rfl, by decide +kernel, by decide +kernel⟩
theorem ok_first_state {f : Addr} {fd : FuncData} (F : Fun K "first_state" "first_state" s_first_state f fd) (T : Bt mg) (C : Ct K mg) : FnOk P w K mg base CX0 1 f fd [] sp_first := by
  refine F.ok sc_first_state (fun vs H Q E h => ?_) (fun cdv A outer s H vs Q E hr h => ?_)
  · obtain ⟨rfl, _⟩ := h; rfl
  · obtain ⟨rfl, q⟩ := h
    have hs : sizeLine = 16777216 := sizeLine_eq
    have hW := C.k_WIDTHS.choose_spec.2
    refine ⟨_, (pss_one (ps_ret (pe_callTy call_tuple_of rfl T.b_tuple (by decide +kernel) (pa_cons (pe_comp rfl (blk_of (sc0 := defScope s_first_state) (N0 := []) (N' := ["width"]) (own := 1) (fv := []) (by decide +kernel) rfl rfl) (pi_tup (pe_glob (v := .ref C.k_WIDTHS.choose) rfl C.k_WIDTHS.choose_spec.1 rfl)) (fun _ _ _ _ => (pg_name (i := 0) (by show List.Nodup (["width"] : List Str); decide +kernel) rfl (Or.inl rfl))) (fun _ _ _ _ => pe_int)) pa_nil)))), ?_⟩
    refine ⟨_, rfl, ⟨_, hW H⟩, comp_mapT (fvals := []) (fun _ => V.int 0) (hW H) (by show 15 ≤ sizeLine; omega) (fun i x H2 R hx _ hR => hR) (fun acc hacc => ?_)⟩
    have y1 := Same.put (o := .lst ((List.replicate 15 (0 : Int)).map V.int)) hacc
    exact ⟨acc, _, rfl, .inl ⟨SqL.of upd_same, fun t ht => q t _ (y1.free ht) (y1.trans (Same.put ht)) upd_same⟩⟩
end
end K21

set_option Elab.async false
set_option linter.all false
set_option maxRecDepth 100000
set_option maxHeartbeats 4000000
namespace K21
open PySem L2
/-! ### the plain machine, its first parts -/
def exS (st : List Int) (chs : List (Int × Int)) : List Int := chs.foldl (fun s c => s.set c.1.toNat c.2) st
theorem exS_len : ∀ (chs : List (Int × Int)) (st : List Int), (exS st chs).length = st.length
  | [], st => rfl
  | c :: r, st => by
    show (exS (st.set c.1.toNat c.2) r).length = _
    rw [exS_len r, List.length_set]
theorem exS_take {st : List Int} {chs : List (Int × Int)} {i : Nat} {c : Int × Int} (h : chs[i]? = some c) : exS st (chs.take (i + 1)) = (exS st (chs.take i)).set c.1.toNat c.2 := by
  unfold exS
  rw [List.take_add_one, h, List.foldl_append]; rfl
def sp_ex : Sp := fun vs H Q _ => ∃ (t cl : Addr) (st : List Int) (us : List V) (chs : List (Int × Int)), vs = [.ref t, .ref cl] ∧ H t = some (.tup (st.map V.int)) ∧ st.length = 15 ∧ H cl = some (.lst us) ∧ Paired (GateAt H) us chs ∧ (∀ c ∈ chs, 0 ≤ c.1 ∧ c.1 < 15) ∧
  ∀ (t' : Addr) (H' : Hp), H t' = none → Same H H' → H' t' = some (.tup ((exS st chs).map V.int)) → Q (.ref t') H'
def stBarred (st : List Int) : Bool := decide (st.getD 5 0 = 1) && decide (st.getD 7 0 ≤ stPlace st)
def sp_stB (f : List Int → Bool) : Sp := fun vs H Q _ => ∃ (t : Addr) (st : List Int), vs = [.ref t] ∧ H t = some (.tup (st.map V.int)) ∧ st.length = 15 ∧ ∀ H', Same H H' → Q (.bl (f st)) H'
def trS (st : List Int) (cause place : Int) : List Int := exS st [(9, st.getD 0 0), (10, st.getD 1 0), (11, place % 4096), (12, cause), (5, 0), (2, 0), (4, 0)]
def sp_trap : Sp := fun vs H Q _ => ∃ (t : Addr) (st : List Int) (cause place : Int), vs = [.ref t, .int cause, .int place] ∧ H t = some (.tup (st.map V.int)) ∧ st.length = 15 ∧
  ∀ (t' : Addr) (H' : Hp), H t' = none → Same H H' → H' t' = some (.tup ((trS st cause place).map V.int)) → Q (.ref t') H'
def feS (st : List Int) (word : Int) : List Int := if stBarred st = true then trS st 1 (st.getD 2 0) else exS st [(3, word), (4, 1)]
def sp_fetch : Sp := fun vs H Q _ => ∃ (t : Addr) (st : List Int) (word : Int), vs = [.ref t, .int word] ∧ H t = some (.tup (st.map V.int)) ∧ st.length = 15 ∧
  ∀ (t' : Addr) (H' : Hp), H t' = none → Same H H' → H' t' = some (.tup ((feS st word).map V.int)) → Q (.ref t') H'
section
variable {P : Program} {w : World} {K : PySem.W.Frag} {mg : Str → Option Value} {base : Heap}
theorem sc_exchanged : FnScope ["state", "changes", "parts", "part", "value"] ["state", "changes"] (defScope s_exchanged) := ⟨rfl, rfl, rfl, by decide +kernel, rfl, by decide +kernel, by decide +kernel⟩
theorem ok_exchanged {f : Addr} {fd : FuncData} (F : Fun K "exchanged" "exchanged" s_exchanged f fd) (T : Bt mg) : FnOk P w K mg base CX0 1 f fd ["state", "changes"] sp_ex := by
  refine F.ok sc_exchanged (fun vs H Q E h => ?_) (fun cdv A outer s H vs Q E hr h => ?_)
  · obtain ⟨t, cl, st, us, chs, rfl, _⟩ := h; rfl
  · obtain ⟨t, cl, st, us, chs, rfl, ht, hl, hcl, hP, hc, q⟩ := h
    have hs : sizeLine = 16777216 := sizeLine_eq
    refine ⟨_, (pss_cons (ps_set (i := 2) sc_exchanged.nd rfl (Or.inl rfl) (pe_callTy call_list_of rfl T.b_list (by decide +kernel) (pa_cons (pv 0) pa_nil)))
      (pss_cons (ps_for PassesOwn.never rfl (pi_list (pv 1)) (pg_tup rfl (pgs_cons (pg_name (i := 3) sc_exchanged.nd rfl (Or.inl rfl)) (pgs_cons (pg_name (i := 4) sc_exchanged.nd rfl (Or.inl rfl)) pgs_nil)))
        (pss_one (ps_asg (pv 4) (pg_sub (pv 2) (pv 3) set_list))))
      (pss_one (ps_ret (pe_callTy call_tuple_of rfl T.b_tuple (by decide +kernel) (pa_cons (pv 2) pa_nil)))))), ?_⟩
    refine ⟨_, rfl, t, _, rfl, .inr (SqT.of ht), fun pl hpl => ?_⟩
    have y0 := Same.put (o := .lst (st.map V.int)) hpl
    refine ⟨_, rfl, cl, rfl, ⟨_, SqL.of (y0 _ _ hcl)⟩, for_list (K := K) (a := cl) (xs := us) (fun i σ H2 => ∃ v3 v4 : Option V, σ = [some (.ref t), some (.ref cl), some (.ref pl), v3, v4] ∧ Same H H2 ∧ H2 pl = some (.lst ((exS st (chs.take i)).map V.int)))
      ⟨none, none, rfl, y0, upd_same⟩ (fun i σ H2 _ ⟨_, _, _, s2, _⟩ => SqL.of (s2 _ _ hcl)) ?_ ?_⟩
    · rintro i x σ H2 hx ⟨v3, v4, rfl, s2, ep⟩
      obtain ⟨c, hcc, qa, rfl, hqa⟩ := paired_get hP hx
      have bc := hc c (List.mem_of_getElem? hcc)
      refine ⟨qa, _, rfl, SqT.of (s2 _ _ hqa), rfl, _, _, rfl, _, _, rfl, rfl, ?_⟩
      refine ⟨_, rfl, _, rfl, _, rfl, pl, _, _, _, rfl, rfl, ep, ixN_ok bc.1 (by rw [List.length_map, exS_len]; omega), ?_⟩
      rw [set_map, ← exS_take hcc]
      exact ⟨_, _, rfl, Kl.same s2 hpl Kl.one, upd_same⟩
    · rintro σ H2 ⟨v3, v4, rfl, s2, ep⟩
      rw [List.take_of_length_le (by rw [← hP.length]; exact Nat.le_refl _)] at ep
      exact ⟨_, rfl, pl, _, rfl, .inl ⟨SqL.of ep, fun t' ht' => q t' _ (s2.free ht') (s2.trans (Same.put ht')) upd_same⟩⟩
theorem sc_is_barred : FnScope ["state"] ["state"] (defScope s_is_barred) := ⟨rfl, rfl, rfl, by decide +kernel, rfl, by decide +kernel, by decide +kernel⟩
theorem ok_is_barred {f f0 f1 f2 : Addr} {fd d0 d1 d2 : FuncData} (F : Fun K "is_barred" "is_barred" s_is_barred f fd) (C : Ct K mg) (T_op_of : Fn K mg "op_of" s_op_of ["state"] f1 d1) (T_number_of : Fn K mg "number_of" s_number_of ["state"] f2 d2) (T_place_within : Fn K mg "place_within" s_place_within ["state"] f0 d0) :
    FnOk P w K mg base CX0 3 f fd ["state"] (sp_stB stBarred) := by
  have G_place_within := ok_place_within (P := P) (w := w) (base := base) T_place_within.F C T_op_of T_number_of
  refine F.ok sc_is_barred (fun vs H Q E h => ?_) (fun cdv A outer s H vs Q E hr h => ?_)
  · obtain ⟨t, st, rfl, _⟩ := h; rfl
  · obtain ⟨t, st, rfl, ht, hl, q⟩ := h
    unfold stBarred at q
    refine ⟨_, (pss_one (ps_ret (pe_and (pe_cmpR op_eq (pe_ix ix_tup (pv 0) (pe_glob (v := .int 5) rfl C.k_MODE.choose_spec ⟨_, rfl⟩) (fun _ _ => rfl)) pe_int (nomark _)) (pe_one (pe_cmpR op_ge (pe_call G_place_within (hr.mono (by decide)) rfl T_place_within.m T_place_within.F.kp T_place_within.b .nil pass0 (pa_cons (pv 0) pa_nil)) (pe_ix ix_tup (pv 0) (pe_glob (v := .int 7) rfl C.k_LENGTH.choose_spec ⟨_, rfl⟩) (fun _ _ => rfl)) (nomark _)))))), ?_⟩
    refine ⟨_, rfl, t, _, _, _, rfl, rfl, SqT.of ht, atI_getD (i := 5) (by omega), rfl, _, rfl, ite2 (fun h5 => ?_) (fun h5 => ?_)⟩
    · have e : st.getD 5 0 = 1 := by simpa using h5
      rw [decide_eq_true e, Bool.true_and] at q
      exact ⟨_, rfl, t, st, rfl, ht, hl, fun H1 s1 => ⟨_, rfl, t, _, _, _, rfl, rfl, SqT.of (s1 _ _ ht), atI_getD (i := 7) (by omega), _, _, rfl, rfl, q _ s1⟩⟩
    · have e : ¬ st.getD 5 0 = 1 := by simpa using h5
      rw [decide_eq_false e, Bool.false_and] at q
      exact q _ (Same.refl H)
theorem sc_trapped : FnScope ["state", "cause", "place"] ["state", "cause", "place"] (defScope s_trapped) := ⟨rfl, rfl, rfl, by decide +kernel, rfl, by decide +kernel, by decide +kernel⟩
theorem ok_trapped {f f1 : Addr} {fd d1 : FuncData} (F : Fun K "trapped" "trapped" s_trapped f fd) (T : Bt mg) (C : Ct K mg) (T_exchanged : Fn K mg "exchanged" s_exchanged ["state", "changes"] f1 d1) : FnOk P w K mg base CX0 2 f fd ["state", "cause", "place"] sp_trap := by
  have G_exchanged := ok_exchanged (P := P) (w := w) (base := base) T_exchanged.F T
  refine F.ok sc_trapped (fun vs H Q E h => ?_) (fun cdv A outer s H vs Q E hr h => ?_)
  · obtain ⟨t, st, cause, place, rfl, _⟩ := h; rfl
  · obtain ⟨t, st, cause, place, rfl, ht, hl, q⟩ := h
    have hs : sizeLine = 16777216 := sizeLine_eq
    have two : 2 ≤ sizeLine := by omega
    refine ⟨_, (pss_one (ps_ret (pe_call G_exchanged (hr.mono (by decide)) rfl T_exchanged.m T_exchanged.F.kp T_exchanged.b .nil pass0 (pa_cons (pv 0) (pa_cons (pe_lst (pa_cons (pe_tup (pa_cons (pe_glob (v := .int 9) rfl C.k_SAVED_A.choose_spec ⟨_, rfl⟩) (pa_cons (pe_ix ix_tup (pv 0) (pe_glob (v := .int 0) rfl C.k_A.choose_spec ⟨_, rfl⟩) (fun _ _ => rfl)) pa_nil))) (pa_cons (pe_tup (pa_cons (pe_glob (v := .int 10) rfl C.k_SAVED_X.choose_spec ⟨_, rfl⟩) (pa_cons (pe_ix ix_tup (pv 0) (pe_glob (v := .int 1) rfl C.k_X.choose_spec ⟨_, rfl⟩) (fun _ _ => rfl)) pa_nil))) (pa_cons (pe_tup (pa_cons (pe_glob (v := .int 11) rfl C.k_SAVED_P.choose_spec ⟨_, rfl⟩) (pa_cons (pe_op op_mod (pv 2) (pe_glob (v := .int 4096) rfl C.k_PLACES.choose_spec ⟨_, rfl⟩)) pa_nil))) (pa_cons (pe_tup (pa_cons (pe_glob (v := .int 12) rfl C.k_CAUSE.choose_spec ⟨_, rfl⟩) (pa_cons (pv 1) pa_nil))) (pa_cons (pe_tup (pa_cons (pe_glob (v := .int 5) rfl C.k_MODE.choose_spec ⟨_, rfl⟩) (pa_cons pe_int pa_nil))) (pa_cons (pe_tup (pa_cons (pe_glob (v := .int 2) rfl C.k_P.choose_spec ⟨_, rfl⟩) (pa_cons pe_int pa_nil))) (pa_cons (pe_tup (pa_cons (pe_glob (v := .int 4) rfl C.k_FETCHED.choose_spec ⟨_, rfl⟩) (pa_cons pe_int pa_nil))) pa_nil)))))))) pa_nil))))), ?_⟩
    refine ⟨_, rfl, _, rfl, t, _, _, _, rfl, rfl, SqT.of ht, atI_getD (i := 0) (by omega), two, fun p1 h1 => ?_⟩
    have y1 := Same.put (o := .tup [V.int 9, V.int (st.getD 0 0)]) h1
    refine ⟨_, rfl, t, _, _, _, rfl, rfl, SqT.of (y1 _ _ ht), atI_getD (i := 1) (by omega), two, fun p2 h2 => ?_⟩
    have y2 := Same.put (o := .tup [V.int 10, V.int (st.getD 1 0)]) h2
    refine ⟨_, rfl, _, _, rfl, rfl, (by show (0 : Int) < 4096; decide), two, fun p3 h3 => ?_⟩
    have y3 := Same.put (o := .tup [V.int 11, V.int (place % 4096)]) h3
    refine ⟨_, rfl, two, fun p4 h4 => ?_⟩
    have y4 := Same.put (o := .tup [V.int 12, V.int cause]) h4
    refine ⟨two, fun p5 h5 => ?_⟩
    have y5 := Same.put (o := .tup [V.int 5, V.int 0]) h5
    refine ⟨two, fun p6 h6 => ?_⟩
    have y6 := Same.put (o := .tup [V.int 2, V.int 0]) h6
    refine ⟨two, fun p7 h7 => ?_⟩
    have y7 := Same.put (o := .tup [V.int 4, V.int 0]) h7
    refine ⟨by show 7 ≤ sizeLine; omega, fun l h8 => ?_⟩
    have y8 := Same.put (o := .lst [V.ref p1, V.ref p2, V.ref p3, V.ref p4, V.ref p5, V.ref p6, V.ref p7]) h8
    have a78 := y7.trans y8
    have a68 := y6.trans a78
    have a58 := y5.trans a68
    have a48 := y4.trans a58
    have a38 := y3.trans a48
    have a28 := y2.trans a38
    have a18 := y1.trans a28
    refine ⟨t, l, st, _, [(9, st.getD 0 0), (10, st.getD 1 0), (11, place % 4096), (12, cause), (5, 0), (2, 0), (4, 0)], rfl, a18 _ _ ht, hl, upd_same, ?_, by simp, fun t' H' ht' s' e' => q t' H' (a18.free ht') (a18.trans s') e'⟩
    exact .cons ⟨p1, rfl, a28 _ _ upd_same⟩ (.cons ⟨p2, rfl, a38 _ _ upd_same⟩ (.cons ⟨p3, rfl, a48 _ _ upd_same⟩ (.cons ⟨p4, rfl, a58 _ _ upd_same⟩ (.cons ⟨p5, rfl, a68 _ _ upd_same⟩ (.cons ⟨p6, rfl, a78 _ _ upd_same⟩ (.cons ⟨p7, rfl, y8 _ _ upd_same⟩ .nil))))))
theorem sc_fetch : FnScope ["state", "word"] ["state", "word"] (defScope s_fetch) := ⟨rfl, rfl, rfl, by decide +kernel, rfl, by decide +kernel, by decide +kernel⟩
theorem ok_fetch {f f0 f1 f2 f3 f4 f5 : Addr} {fd d0 d1 d2 d3 d4 d5 : FuncData} (F : Fun K "fetch" "fetch" s_fetch f fd) (T : Bt mg) (C : Ct K mg) (T_op_of : Fn K mg "op_of" s_op_of ["state"] f1 d1) (T_number_of : Fn K mg "number_of" s_number_of ["state"] f2 d2) (T_place_within : Fn K mg "place_within" s_place_within ["state"] f0 d0)
    (T_is_barred : Fn K mg "is_barred" s_is_barred ["state"] f3 d3) (T_exchanged : Fn K mg "exchanged" s_exchanged ["state", "changes"] f4 d4) (T_trapped : Fn K mg "trapped" s_trapped ["state", "cause", "place"] f5 d5) : FnOk P w K mg base CX0 4 f fd ["state", "word"] sp_fetch := by
  have G_is_barred := ok_is_barred (P := P) (w := w) (base := base) T_is_barred.F C T_op_of T_number_of T_place_within
  have G_exchanged := ok_exchanged (P := P) (w := w) (base := base) T_exchanged.F T
  have G_trapped := ok_trapped (P := P) (w := w) (base := base) T_trapped.F T C T_exchanged
  refine F.ok sc_fetch (fun vs H Q E h => ?_) (fun cdv A outer s H vs Q E hr h => ?_)
  · obtain ⟨t, st, word, rfl, _⟩ := h; rfl
  · obtain ⟨t, st, word, rfl, ht, hl, q⟩ := h
    have hs : sizeLine = 16777216 := sizeLine_eq
    have two : 2 ≤ sizeLine := by omega
    unfold feS at q
    refine ⟨_, (pss_cons (ps_if (pt_val (pe_call G_is_barred (hr.mono (by decide)) rfl T_is_barred.m T_is_barred.F.kp T_is_barred.b .nil pass0 (pa_cons (pv 0) pa_nil)))
        (pss_one (ps_ret (pe_call G_trapped (hr.mono (by decide)) rfl T_trapped.m T_trapped.F.kp T_trapped.b .nil pass0 (pa_cons (pv 0) (pa_cons (pe_glob (v := .int 1) rfl C.k_BARRED.choose_spec ⟨_, rfl⟩) (pa_cons (pe_ix ix_tup (pv 0) (pe_glob (v := .int 2) rfl C.k_P.choose_spec ⟨_, rfl⟩) (fun _ _ => rfl)) pa_nil))))))
        pss_nil)
      (pss_one (ps_ret (pe_call G_exchanged (hr.mono (by decide)) rfl T_exchanged.m T_exchanged.F.kp T_exchanged.b .nil pass0 (pa_cons (pv 0) (pa_cons (pe_lst (pa_cons (pe_tup (pa_cons (pe_glob (v := .int 3) rfl C.k_ROW.choose_spec ⟨_, rfl⟩) (pa_cons (pv 1) pa_nil))) (pa_cons (pe_tup (pa_cons (pe_glob (v := .int 4) rfl C.k_FETCHED.choose_spec ⟨_, rfl⟩) (pa_cons pe_int pa_nil))) pa_nil))) pa_nil)))))), ?_⟩
    refine ⟨_, rfl, t, st, rfl, ht, hl, fun H1 s1 => ⟨_, rfl, ite2 (fun h => ?_) (fun h => ?_)⟩⟩
    · simp only [if_pos h] at q
      exact ⟨_, rfl, _, rfl, t, _, _, _, rfl, rfl, SqT.of (s1 _ _ ht), atI_getD (i := 2) (by omega), t, st, 1, _, rfl, s1 _ _ ht, hl, fun t' H' ht' s' e' => q t' H' (s1.free ht') (s1.trans s') e'⟩
    · simp only [if_neg h] at q
      refine ⟨_, rfl, _, rfl, two, fun p1 h1 => ?_⟩
      have y1 := Same.put (o := .tup [V.int 3, V.int word]) h1
      refine ⟨two, fun p2 h2 => ?_⟩
      have y2 := Same.put (o := .tup [V.int 4, V.int 1]) h2
      refine ⟨two, fun l h3 => ?_⟩
      have y3 := Same.put (o := .lst [V.ref p1, V.ref p2]) h3
      have a23 := y2.trans y3
      have a13 := s1.trans (y1.trans a23)
      refine ⟨t, l, st, _, [(3, word), (4, 1)], rfl, a13 _ _ ht, hl, upd_same, .cons ⟨p1, rfl, a23 _ _ upd_same⟩ (.cons ⟨p2, rfl, y3 _ _ upd_same⟩ .nil), by simp, fun t' H' ht' s' e' => q t' H' (a13.free ht') (a13.trans s') e'⟩
end
end K21

set_option Elab.async false
set_option linter.all false
set_option maxRecDepth 100000
set_option maxHeartbeats 4000000
namespace K21
open PySem L2
def stLeaps (st : List Int) : Bool := if stOp st = 7 then decide (st.getD 0 0 = 0) else if stOp st = 8 then decide (32768 ≤ st.getD 0 0) else decide (stOp st = 6 ∨ stOp st = 12)
def stX (st : List Int) : Int := if stOp st = 11 ∧ stNum st % 4 = 0 then st.getD 0 0 else if stOp st = 15 then st.getD 10 0 else st.getD 1 0
def stP (st : List Int) : Int := if stLeaps st = true then stNum st else if stOp st = 11 ∧ stNum st % 4 = 3 then st.getD 0 0 % 4096 else if stOp st = 15 then st.getD 11 0 else (st.getD 2 0 + 1) % 4096
def stWritten (st : List Int) : V := if stOp st = 2 ∨ stOp st = 10 then .int (st.getD 0 0) else .non
def stTold (st : List Int) : V := if stOp st = 14 ∧ stNum st % 16 = 6 then .int (st.getD 0 0) else .non
def sp_stV (f : List Int → V) : Sp := fun vs H Q _ => ∃ (t : Addr) (st : List Int), vs = [.ref t] ∧ H t = some (.tup (st.map V.int)) ∧ st.length = 15 ∧ ∀ H', Same H H' → Q (f st) H'
theorem dec_i (a b : Int) : decide (V.int a = V.int b) = decide (a = b) := by
  by_cases h : a = b
  · subst h; simp
  · rw [decide_eq_false h, decide_eq_false fun z => h (V.int.inj z)]
section
variable {P : Program} {w : World} {K : PySem.W.Frag} {mg : Str → Option Value} {base : Heap}
theorem sc_leaps : FnScope ["state", "op"] ["state"] (defScope s_leaps) := ⟨rfl, rfl, rfl, by decide +kernel, rfl, by decide +kernel, by decide +kernel⟩
theorem ok_leaps {f f1 : Addr} {fd d1 : FuncData} (F : Fun K "leaps" "leaps" s_leaps f fd) (C : Ct K mg) (T_op_of : Fn K mg "op_of" s_op_of ["state"] f1 d1) : FnOk P w K mg base CX0 2 f fd ["state"] (sp_stB stLeaps) := by
  have G_op_of := ok_op_of (P := P) (w := w) (base := base) T_op_of.F C
  refine F.ok sc_leaps (fun vs H Q E h => ?_) (fun cdv A outer s H vs Q E hr h => ?_)
  · obtain ⟨t, st, rfl, _⟩ := h; rfl
  · obtain ⟨t, st, rfl, ht, hl, q⟩ := h
    have hs : sizeLine = 16777216 := sizeLine_eq
    unfold stLeaps at q
    refine ⟨_, (pss_cons (ps_set (i := 1) sc_leaps.nd rfl (Or.inl rfl) (pe_call G_op_of (hr.mono (by decide)) rfl T_op_of.m T_op_of.F.kp T_op_of.b .nil pass0 (pa_cons (pv 0) pa_nil)))
      (pss_cons (ps_if (pt_cmpR op_eq (pv 1) (pe_glob (v := .int 7) rfl C.k_ZERO.choose_spec ⟨_, rfl⟩) (nomark _))
        (pss_one (ps_ret (pe_cmpR op_eq (pe_ix ix_tup (pv 0) (pe_glob (v := .int 0) rfl C.k_A.choose_spec ⟨_, rfl⟩) (fun _ _ => rfl)) pe_int (nomark _))))
        pss_nil)
      (pss_cons (ps_if (pt_cmpR op_eq (pv 1) (pe_glob (v := .int 8) rfl C.k_BELOW.choose_spec ⟨_, rfl⟩) (nomark _))
        (pss_one (ps_ret (pe_cmpR op_ge (pe_ix ix_tup (pv 0) (pe_glob (v := .int 0) rfl C.k_A.choose_spec ⟨_, rfl⟩) (fun _ _ => rfl)) (pe_glob (v := .int 32768) rfl C.k_FIRST_BELOW.choose_spec ⟨_, rfl⟩) (nomark _))))
        pss_nil)
      (pss_one (ps_ret (pe_cmpR op_in_seq (pv 1) (pe_tup (pa_cons (pe_glob (v := .int 6) rfl C.k_GOTO.choose_spec ⟨_, rfl⟩) (pa_cons (pe_glob (v := .int 12) rfl C.k_LINK.choose_spec ⟨_, rfl⟩) pa_nil))) (by with_unfolding_all rfl))))))), ?_⟩
    refine ⟨_, rfl, t, st, rfl, ht, hl, fun H1 s1 => ?_⟩
    have ht1 := s1 _ _ ht
    refine ⟨_, rfl, rfl, _, rfl, ite2 (fun h => ?_) (fun h => ?_)⟩
    · have e : stOp st = 7 := by simpa using h
      simp only [if_pos e, ← dec_i] at q
      exact ⟨_, rfl, t, _, _, _, rfl, rfl, SqT.of ht1, atI_getD (i := 0) (by omega), rfl, q _ s1⟩
    have e : ¬ stOp st = 7 := by simpa using h
    simp only [if_neg e] at q
    refine ⟨_, rfl, rfl, _, rfl, ite2 (fun h => ?_) (fun h => ?_)⟩
    · have e : stOp st = 8 := by simpa using h
      simp only [if_pos e] at q
      exact ⟨_, rfl, t, _, _, _, rfl, rfl, SqT.of ht1, atI_getD (i := 0) (by omega), _, _, rfl, rfl, q _ s1⟩
    have e : ¬ stOp st = 8 := by simpa using h
    simp only [if_neg e] at q
    refine ⟨_, rfl, by show 2 ≤ sizeLine; omega, fun p hp => ?_⟩
    have y := Same.put (o := .tup [V.int 6, V.int 12]) hp
    refine ⟨p, [V.int 6, V.int 12], rfl, .inr (SqT.of upd_same), rfl, rfl, ?_⟩
    have ein : (if false = true then !inV (V.int (stOp st)) [V.int 6, V.int 12] else inV (V.int (stOp st)) [V.int 6, V.int 12]) = decide (stOp st = 6 ∨ stOp st = 12) := in2 _ _ _
    rw [ein]
    exact q _ (s1.trans y)
theorem sc_new_x : FnScope ["state"] ["state"] (defScope s_new_x) := ⟨rfl, rfl, rfl, by decide +kernel, rfl, by decide +kernel, by decide +kernel⟩
theorem ok_new_x {f f1 f2 : Addr} {fd d1 d2 : FuncData} (F : Fun K "new_x" "new_x" s_new_x f fd) (C : Ct K mg) (T_op_of : Fn K mg "op_of" s_op_of ["state"] f1 d1) (T_number_of : Fn K mg "number_of" s_number_of ["state"] f2 d2) : FnOk P w K mg base CX0 2 f fd ["state"] (sp_st stX) := by
  have G_op_of := ok_op_of (P := P) (w := w) (base := base) T_op_of.F C
  have G_number_of := ok_number_of (P := P) (w := w) (base := base) T_number_of.F C
  refine F.ok sc_new_x (fun vs H Q E h => ?_) (fun cdv A outer s H vs Q E hr h => ?_)
  · obtain ⟨t, st, rfl, _⟩ := h; rfl
  · obtain ⟨t, st, rfl, ht, hl, q⟩ := h
    unfold stX at q
    refine ⟨_, (pss_cons (ps_if (PW.pt (pw_and (pt_cmpR op_eq (pe_call G_op_of (hr.mono (by decide)) rfl T_op_of.m T_op_of.F.kp T_op_of.b .nil pass0 (pa_cons (pv 0) pa_nil)) (pe_glob (v := .int 11) rfl C.k_MOVE.choose_spec ⟨_, rfl⟩) (nomark _)) (pw_and1 (pt_cmpR op_eq (pe_op op_mod (pe_call G_number_of (hr.mono (by decide)) rfl T_number_of.m T_number_of.F.kp T_number_of.b .nil pass0 (pa_cons (pv 0) pa_nil)) (pe_glob (v := .int 4) rfl C.k_MOVES.choose_spec ⟨_, rfl⟩)) pe_int (nomark _)))))
        (pss_one (ps_ret (pe_ix ix_tup (pv 0) (pe_glob (v := .int 0) rfl C.k_A.choose_spec ⟨_, rfl⟩) (fun _ _ => rfl))))
        pss_nil)
      (pss_cons (ps_if (pt_cmpR op_eq (pe_call G_op_of (hr.mono (by decide)) rfl T_op_of.m T_op_of.F.kp T_op_of.b .nil pass0 (pa_cons (pv 0) pa_nil)) (pe_glob (v := .int 15) rfl C.k_BACK.choose_spec ⟨_, rfl⟩) (nomark _))
        (pss_one (ps_ret (pe_ix ix_tup (pv 0) (pe_glob (v := .int 10) rfl C.k_SAVED_X.choose_spec ⟨_, rfl⟩) (fun _ _ => rfl))))
        pss_nil)
      (pss_one (ps_ret (pe_ix ix_tup (pv 0) (pe_glob (v := .int 1) rfl C.k_X.choose_spec ⟨_, rfl⟩) (fun _ _ => rfl)))))), ?_⟩
    have rest : ¬ (stOp st = 11 ∧ stNum st % 4 = 0) → ∀ H1, Same H H1 → Q (.int (if stOp st = 15 then st.getD 10 0 else st.getD 1 0)) H1 := fun z H1 s1 => by
      have := q H1 s1
      rw [if_neg z] at this
      exact this
    refine ⟨_, rfl, t, st, rfl, ht, hl, fun H1 s1 => ⟨rfl, _, rfl, ite2 (fun h => ?_) (fun h => ?_)⟩⟩
    · have e : stOp st = 11 := by simpa using h
      refine ⟨_, rfl, t, st, rfl, s1 _ _ ht, hl, fun H2 s2 => ⟨_, _, rfl, rfl, (by show (0 : Int) < 4; decide), rfl, _, rfl, ite2 (fun h2 => ?_) (fun h2 => ?_)⟩⟩
      · have e2 : stNum st % 4 = 0 := by simpa using h2
        have qq := q H2 (s1.trans s2)
        rw [if_pos ⟨e, e2⟩] at qq
        exact ⟨_, rfl, t, _, _, _, rfl, rfl, SqT.of (s2 _ _ (s1 _ _ ht)), atI_getD (i := 0) (by omega), qq⟩
      · have e2 : ¬ stNum st % 4 = 0 := by simpa using h2
        have s12 := s1.trans s2
        refine ⟨_, rfl, t, st, rfl, s12 _ _ ht, hl, fun H3 s3 => ⟨rfl, _, rfl, ite2 (fun h => ?_) (fun h => ?_)⟩⟩
        · have qq := rest (fun z => e2 z.2) H3 (s12.trans s3)
          rw [if_pos (by simpa using h)] at qq
          exact ⟨_, rfl, t, _, _, _, rfl, rfl, SqT.of (s3 _ _ (s12 _ _ ht)), atI_getD (i := 10) (by omega), qq⟩
        · have qq := rest (fun z => e2 z.2) H3 (s12.trans s3)
          rw [if_neg (by simpa using h)] at qq
          exact ⟨_, rfl, t, _, _, _, rfl, rfl, SqT.of (s3 _ _ (s12 _ _ ht)), atI_getD (i := 1) (by omega), qq⟩
    · have e : ¬ stOp st = 11 := by simpa using h
      refine ⟨_, rfl, t, st, rfl, s1 _ _ ht, hl, fun H3 s3 => ⟨rfl, _, rfl, ite2 (fun h => ?_) (fun h => ?_)⟩⟩
      · have qq := rest (fun z => e z.1) H3 (s1.trans s3)
        rw [if_pos (by simpa using h)] at qq
        exact ⟨_, rfl, t, _, _, _, rfl, rfl, SqT.of (s3 _ _ (s1 _ _ ht)), atI_getD (i := 10) (by omega), qq⟩
      · have qq := rest (fun z => e z.1) H3 (s1.trans s3)
        rw [if_neg (by simpa using h)] at qq
        exact ⟨_, rfl, t, _, _, _, rfl, rfl, SqT.of (s3 _ _ (s1 _ _ ht)), atI_getD (i := 1) (by omega), qq⟩
theorem sc_written : FnScope ["state"] ["state"] (defScope s_written) := ⟨rfl, rfl, rfl, by decide +kernel, rfl, by decide +kernel, by decide +kernel⟩
theorem ok_written {f f1 : Addr} {fd d1 : FuncData} (F : Fun K "written" "written" s_written f fd) (C : Ct K mg) (T_op_of : Fn K mg "op_of" s_op_of ["state"] f1 d1) : FnOk P w K mg base CX0 2 f fd ["state"] (sp_stV stWritten) := by
  have G_op_of := ok_op_of (P := P) (w := w) (base := base) T_op_of.F C
  refine F.ok sc_written (fun vs H Q E h => ?_) (fun cdv A outer s H vs Q E hr h => ?_)
  · obtain ⟨t, st, rfl, _⟩ := h; rfl
  · obtain ⟨t, st, rfl, ht, hl, q⟩ := h
    have hs : sizeLine = 16777216 := sizeLine_eq
    unfold stWritten at q
    refine ⟨_, (pss_one (ps_ret (pe_ifExp (pt_cmpR op_in_seq (pe_call G_op_of (hr.mono (by decide)) rfl T_op_of.m T_op_of.F.kp T_op_of.b .nil pass0 (pa_cons (pv 0) pa_nil)) (pe_tup (pa_cons (pe_glob (v := .int 2) rfl C.k_STORE.choose_spec ⟨_, rfl⟩) (pa_cons (pe_glob (v := .int 10) rfl C.k_INTO.choose_spec ⟨_, rfl⟩) pa_nil))) (by with_unfolding_all rfl)) (pe_ix ix_tup (pv 0) (pe_glob (v := .int 0) rfl C.k_A.choose_spec ⟨_, rfl⟩) (fun _ _ => rfl)) pe_non))), ?_⟩
    refine ⟨_, rfl, t, st, rfl, ht, hl, fun H1 s1 => ⟨by show 2 ≤ sizeLine; omega, fun p hp => ?_⟩⟩
    have y := Same.put (o := .tup [V.int 2, V.int 10]) hp
    refine ⟨p, [V.int 2, V.int 10], rfl, .inr (SqT.of upd_same), rfl, rfl, _, rfl, ?_⟩
    have ein : (if false = true then !inV (V.int (stOp st)) [V.int 2, V.int 10] else inV (V.int (stOp st)) [V.int 2, V.int 10]) = decide (stOp st = 2 ∨ stOp st = 10) := in2 _ _ _
    rw [ein]
    refine ite2 (fun h => ?_) (fun h => ?_)
    · simp only [if_pos (of_decide_eq_true h)] at q
      exact ⟨_, rfl, t, _, _, _, rfl, rfl, SqT.of (y _ _ (s1 _ _ ht)), atI_getD (i := 0) (by omega), q _ (s1.trans y)⟩
    · simp only [if_neg fun z => h (decide_eq_true z)] at q
      exact q _ (s1.trans y)
end
end K21

set_option Elab.async false
set_option linter.all false
set_option maxRecDepth 100000
set_option maxHeartbeats 4000000
namespace K21
open PySem L2
def stCause (st : List Int) : Int := if (stOp st = 1 ∨ stOp st = 2 ∨ stOp st = 3 ∨ stOp st = 4 ∨ stOp st = 5 ∨ stOp st = 9 ∨ stOp st = 10) ∧ stBarred st = true then 1 else if (stOp st = 14 ∨ stOp st = 15) ∧ st.getD 5 0 = 1 then 2 else if stOp st = 13 then 3 else 0
def rtS (st : List Int) (cause : Int) : List Int := if cause = 3 then trS (exS st [(13, stNum st)]) 3 (st.getD 2 0 + 1) else trS st cause (st.getD 2 0)
def beS (st : List Int) : List Int := if st.getD 8 0 = 0 then st else if (exS st [(8, st.getD 8 0 - 1)]).getD 8 0 = 0 then trS (exS st [(8, st.getD 8 0 - 1)]) 4 ((exS st [(8, st.getD 8 0 - 1)]).getD 2 0) else exS st [(8, st.getD 8 0 - 1)]
def sp_rt : Sp := fun vs H Q _ => ∃ (t : Addr) (st : List Int) (cause : Int), vs = [.ref t, .int cause] ∧ H t = some (.tup (st.map V.int)) ∧ st.length = 15 ∧ ∀ (t' : Addr) (H' : Hp), H t' = none → Same H H' → H' t' = some (.tup ((rtS st cause).map V.int)) → Q (.ref t') H'
def sp_bell : Sp := fun vs H Q _ => ∃ (t : Addr) (st : List Int), vs = [.ref t] ∧ H t = some (.tup (st.map V.int)) ∧ st.length = 15 ∧ ∀ (t' : Addr) (H' : Hp), Same H H' → H' t' = some (.tup ((beS st).map V.int)) → Q (.ref t') H'
section
variable {P : Program} {w : World} {K : PySem.W.Frag} {mg : Str → Option Value} {base : Heap}
theorem sc_told_word : FnScope ["state"] ["state"] (defScope s_told_word) := ⟨rfl, rfl, rfl, by decide +kernel, rfl, by decide +kernel, by decide +kernel⟩
theorem ok_told_word {f f1 f2 : Addr} {fd d1 d2 : FuncData} (F : Fun K "told_word" "told_word" s_told_word f fd) (C : Ct K mg) (T_op_of : Fn K mg "op_of" s_op_of ["state"] f1 d1) (T_number_of : Fn K mg "number_of" s_number_of ["state"] f2 d2) : FnOk P w K mg base CX0 2 f fd ["state"] (sp_stV stTold) := by
  have G_op_of := ok_op_of (P := P) (w := w) (base := base) T_op_of.F C
  have G_number_of := ok_number_of (P := P) (w := w) (base := base) T_number_of.F C
  refine F.ok sc_told_word (fun vs H Q E h => ?_) (fun cdv A outer s H vs Q E hr h => ?_)
  · obtain ⟨t, st, rfl, _⟩ := h; rfl
  · obtain ⟨t, st, rfl, ht, hl, q⟩ := h
    unfold stTold at q
    refine ⟨_, (pss_one (ps_ret (pe_ifExp (PW.pt (pw_and (pt_cmpR op_eq (pe_call G_op_of (hr.mono (by decide)) rfl T_op_of.m T_op_of.F.kp T_op_of.b .nil pass0 (pa_cons (pv 0) pa_nil)) (pe_glob (v := .int 14) rfl C.k_OWN.choose_spec ⟨_, rfl⟩) (nomark _)) (pw_and1 (pt_cmpR op_eq (pe_op op_mod (pe_call G_number_of (hr.mono (by decide)) rfl T_number_of.m T_number_of.F.kp T_number_of.b .nil pass0 (pa_cons (pv 0) pa_nil)) (pe_glob (v := .int 16) rfl C.k_OWNS.choose_spec ⟨_, rfl⟩)) (pe_glob (v := .int 6) rfl C.k_OWN_TELL.choose_spec ⟨_, rfl⟩) (nomark _))))) (pe_ix ix_tup (pv 0) (pe_glob (v := .int 0) rfl C.k_A.choose_spec ⟨_, rfl⟩) (fun _ _ => rfl)) pe_non))), ?_⟩
    refine ⟨_, rfl, t, st, rfl, ht, hl, fun H1 s1 => ⟨rfl, _, rfl, ite2 (fun h => ?_) (fun h => ?_)⟩⟩
    · have e : stOp st = 14 := by simpa using h
      refine ⟨_, rfl, t, st, rfl, s1 _ _ ht, hl, fun H2 s2 => ⟨_, _, rfl, rfl, (by show (0 : Int) < 16; decide), rfl, _, rfl, ite2 (fun h2 => ?_) (fun h2 => ?_)⟩⟩
      · have qq := q H2 (s1.trans s2)
        rw [if_pos ⟨e, by simpa using h2⟩] at qq
        exact ⟨_, rfl, t, _, _, _, rfl, rfl, SqT.of (s2 _ _ (s1 _ _ ht)), atI_getD (i := 0) (by omega), qq⟩
      · have e2 : ¬ stNum st % 16 = 6 := by simpa using h2
        have qq := q H2 (s1.trans s2)
        rw [if_neg fun z => e2 z.2] at qq
        exact qq
    · have e : ¬ stOp st = 14 := by simpa using h
      have qq := q H1 s1
      rw [if_neg fun z => e z.1] at qq
      exact qq
theorem sc_row_trapped : FnScope ["state", "cause", "called"] ["state", "cause"] (defScope s_row_trapped) := ⟨rfl, rfl, rfl, by decide +kernel, rfl, by decide +kernel, by decide +kernel⟩
theorem ok_row_trapped {f f2 f4 f5 : Addr} {fd d2 d4 d5 : FuncData} (F : Fun K "row_trapped" "row_trapped" s_row_trapped f fd) (T : Bt mg) (C : Ct K mg) (T_number_of : Fn K mg "number_of" s_number_of ["state"] f2 d2)
    (T_exchanged : Fn K mg "exchanged" s_exchanged ["state", "changes"] f4 d4) (T_trapped : Fn K mg "trapped" s_trapped ["state", "cause", "place"] f5 d5) : FnOk P w K mg base CX0 3 f fd ["state", "cause"] sp_rt := by
  have G_number_of := ok_number_of (P := P) (w := w) (base := base) T_number_of.F C
  have G_exchanged := ok_exchanged (P := P) (w := w) (base := base) T_exchanged.F T
  have G_trapped := ok_trapped (P := P) (w := w) (base := base) T_trapped.F T C T_exchanged
  refine F.ok sc_row_trapped (fun vs H Q E h => ?_) (fun cdv A outer s H vs Q E hr h => ?_)
  · obtain ⟨t, st, cause, rfl, _⟩ := h; rfl
  · obtain ⟨t, st, cause, rfl, ht, hl, q⟩ := h
    have hs : sizeLine = 16777216 := sizeLine_eq
    unfold rtS at q
    refine ⟨_, (pss_cons (ps_if (pt_cmpR op_eq (pv 1) (pe_glob (v := .int 3) rfl C.k_CALLED.choose_spec ⟨_, rfl⟩) (nomark _))
        (pss_cons (ps_set (i := 2) sc_row_trapped.nd rfl (Or.inl rfl) (pe_call G_exchanged (hr.mono (by decide)) rfl T_exchanged.m T_exchanged.F.kp T_exchanged.b .nil pass0 (pa_cons (pv 0) (pa_cons (pe_lst (pa_cons (pe_tup (pa_cons (pe_glob (v := .int 13) rfl C.k_NUMBER.choose_spec ⟨_, rfl⟩) (pa_cons (pe_call G_number_of (hr.mono (by decide)) rfl T_number_of.m T_number_of.F.kp T_number_of.b .nil pass0 (pa_cons (pv 0) pa_nil)) pa_nil))) pa_nil)) pa_nil))))
        (pss_one (ps_ret (pe_call G_trapped (hr.mono (by decide)) rfl T_trapped.m T_trapped.F.kp T_trapped.b .nil pass0 (pa_cons (pv 2) (pa_cons (pe_glob (v := .int 3) rfl C.k_CALLED.choose_spec ⟨_, rfl⟩) (pa_cons (pe_op op_add (pe_ix ix_tup (pv 0) (pe_glob (v := .int 2) rfl C.k_P.choose_spec ⟨_, rfl⟩) (fun _ _ => rfl)) pe_int) pa_nil)))))))
        pss_nil)
      (pss_one (ps_ret (pe_call G_trapped (hr.mono (by decide)) rfl T_trapped.m T_trapped.F.kp T_trapped.b .nil pass0 (pa_cons (pv 0) (pa_cons (pv 1) (pa_cons (pe_ix ix_tup (pv 0) (pe_glob (v := .int 2) rfl C.k_P.choose_spec ⟨_, rfl⟩) (fun _ _ => rfl)) pa_nil))))))), ?_⟩
    refine ⟨_, rfl, rfl, _, rfl, ite2 (fun h => ?_) (fun h => ?_)⟩
    · have e : cause = 3 := by simpa using h
      simp only [if_pos e] at q
      refine ⟨_, rfl, _, rfl, t, st, rfl, ht, hl, fun H1 s1 => ⟨by show 2 ≤ sizeLine; omega, fun p1 h1 => ?_⟩⟩
      have y1 := Same.put (o := .tup [V.int 13, V.int (stNum st)]) h1
      refine ⟨by show 1 ≤ sizeLine; omega, fun l h2 => ?_⟩
      have y2 := Same.put (o := .lst [V.ref p1]) h2
      have a2 := s1.trans (y1.trans y2)
      refine ⟨t, l, st, _, [(13, stNum st)], rfl, a2 _ _ ht, hl, upd_same, .cons ⟨p1, rfl, y2 _ _ upd_same⟩ .nil, by simp, fun t2 H3 ht2 s3 e3 => ?_⟩
      have a3 := a2.trans s3
      exact ⟨_, rfl, _, rfl, t, _, _, _, rfl, rfl, SqT.of (a3 _ _ ht), atI_getD (i := 2) (by omega), _, _, rfl, rfl, t2, _, 3, _, rfl, e3, by rw [exS_len]; exact hl, fun t' H' ht' s' e' => q t' H' (a3.free ht') (a3.trans s') e'⟩
    · have e : ¬ cause = 3 := by simpa using h
      simp only [if_neg e] at q
      exact ⟨_, rfl, _, rfl, _, rfl, t, _, _, _, rfl, rfl, SqT.of ht, atI_getD (i := 2) (by omega), t, st, cause, _, rfl, ht, hl, q⟩
theorem sc_bell_counted : FnScope ["state", "counted"] ["state"] (defScope s_bell_counted) := ⟨rfl, rfl, rfl, by decide +kernel, rfl, by decide +kernel, by decide +kernel⟩
theorem ok_bell_counted {f f4 f5 : Addr} {fd d4 d5 : FuncData} (F : Fun K "bell_counted" "bell_counted" s_bell_counted f fd) (T : Bt mg) (C : Ct K mg)
    (T_exchanged : Fn K mg "exchanged" s_exchanged ["state", "changes"] f4 d4) (T_trapped : Fn K mg "trapped" s_trapped ["state", "cause", "place"] f5 d5) : FnOk P w K mg base CX0 3 f fd ["state"] sp_bell := by
  have G_exchanged := ok_exchanged (P := P) (w := w) (base := base) T_exchanged.F T
  have G_trapped := ok_trapped (P := P) (w := w) (base := base) T_trapped.F T C T_exchanged
  refine F.ok sc_bell_counted (fun vs H Q E h => ?_) (fun cdv A outer s H vs Q E hr h => ?_)
  · obtain ⟨t, st, rfl, _⟩ := h; rfl
  · obtain ⟨t, st, rfl, ht, hl, q⟩ := h
    have hs : sizeLine = 16777216 := sizeLine_eq
    unfold beS at q
    refine ⟨_, (pss_cons (ps_if (pt_cmpR op_eq (pe_ix ix_tup (pv 0) (pe_glob (v := .int 8) rfl C.k_BELL.choose_spec ⟨_, rfl⟩) (fun _ _ => rfl)) pe_int (nomark _))
        (pss_one (ps_ret (pv 0)))
        pss_nil)
      (pss_cons (ps_set (i := 1) sc_bell_counted.nd rfl (Or.inl rfl) (pe_call G_exchanged (hr.mono (by decide)) rfl T_exchanged.m T_exchanged.F.kp T_exchanged.b .nil pass0 (pa_cons (pv 0) (pa_cons (pe_lst (pa_cons (pe_tup (pa_cons (pe_glob (v := .int 8) rfl C.k_BELL.choose_spec ⟨_, rfl⟩) (pa_cons (pe_op op_sub (pe_ix ix_tup (pv 0) (pe_glob (v := .int 8) rfl C.k_BELL.choose_spec ⟨_, rfl⟩) (fun _ _ => rfl)) pe_int) pa_nil))) pa_nil)) pa_nil))))
      (pss_cons (ps_if (pt_cmpR op_eq (pe_ix ix_tup (pv 1) (pe_glob (v := .int 8) rfl C.k_BELL.choose_spec ⟨_, rfl⟩) (fun _ _ => rfl)) pe_int (nomark _))
        (pss_one (ps_ret (pe_call G_trapped (hr.mono (by decide)) rfl T_trapped.m T_trapped.F.kp T_trapped.b .nil pass0 (pa_cons (pv 1) (pa_cons (pe_glob (v := .int 4) rfl C.k_RUNG.choose_spec ⟨_, rfl⟩) (pa_cons (pe_ix ix_tup (pv 1) (pe_glob (v := .int 2) rfl C.k_P.choose_spec ⟨_, rfl⟩) (fun _ _ => rfl)) pa_nil))))))
        pss_nil)
      (pss_one (ps_ret (pv 1)))))), ?_⟩
    refine ⟨_, rfl, t, _, _, _, rfl, rfl, SqT.of ht, atI_getD (i := 8) (by omega), rfl, _, rfl, ite2 (fun h => ?_) (fun h => ?_)⟩
    · have e : st.getD 8 0 = 0 := by simpa using h
      simp only [if_pos e] at q
      exact ⟨_, rfl, q t H (Same.refl H) ht⟩
    have e : ¬ st.getD 8 0 = 0 := by simpa using h
    simp only [if_neg e] at q
    refine ⟨_, rfl, _, rfl, t, _, _, _, rfl, rfl, SqT.of ht, atI_getD (i := 8) (by omega), _, _, rfl, rfl, by show 2 ≤ sizeLine; omega, fun p1 h1 => ?_⟩
    have y1 := Same.put (o := .tup [V.int 8, V.int (st.getD 8 0 - 1)]) h1
    refine ⟨by show 1 ≤ sizeLine; omega, fun l h2 => ?_⟩
    have y2 := Same.put (o := .lst [V.ref p1]) h2
    have a2 := y1.trans y2
    refine ⟨t, l, st, _, [(8, st.getD 8 0 - 1)], rfl, a2 _ _ ht, hl, upd_same, .cons ⟨p1, rfl, y2 _ _ upd_same⟩ .nil, by simp, fun t2 H3 ht2 s3 e3 => ?_⟩
    have a3 := a2.trans s3
    obtain ⟨st2, est2⟩ : ∃ st2, exS st [(8, st.getD 8 0 - 1)] = st2 := ⟨_, rfl⟩
    have l2 : st2.length = 15 := by rw [← est2, exS_len]; exact hl
    rw [est2] at e3
    simp only [est2] at q
    refine ⟨_, rfl, t2, _, _, _, rfl, rfl, SqT.of e3, atI_getD (i := 8) (by omega), rfl, _, rfl, ite2 (fun h => ?_) (fun h => ?_)⟩
    · have e8 : st2.getD 8 0 = 0 := by simpa using h
      simp only [if_pos e8] at q
      exact ⟨_, rfl, _, rfl, t2, _, _, _, rfl, rfl, SqT.of e3, atI_getD (i := 2) (by omega), t2, st2, 4, _, rfl, e3, l2, fun t' H' _ s' e' => q t' H' (a3.trans s') e'⟩
    · have e8 : ¬ st2.getD 8 0 = 0 := by simpa using h
      simp only [if_neg e8] at q
      exact ⟨_, rfl, q t2 H3 a3 e3⟩
end
end K21

set_option Elab.async false
set_option linter.all false
set_option maxRecDepth 100000
set_option maxHeartbeats 4000000
namespace K21
open PySem L2
theorem itDP {c : Prop} [Decidable c] {A B : Prop} (e : c) (h : A) : if decide c = true then A else B := by rw [if_pos (decide_eq_true e)]; exact h
theorem itDN {c : Prop} [Decidable c] {A B : Prop} (e : ¬ c) (h : B) : if decide c = true then A else B := by rw [if_neg fun z => e (of_decide_eq_true z)]; exact h
theorem itP {a b : Int} {A B : Prop} (e : a = b) (h : A) : if decide (V.int a = V.int b) = true then A else B := itDP (congrArg V.int e) h
theorem itN {a b : Int} {A B : Prop} (e : ¬ a = b) (h : B) : if decide (V.int a = V.int b) = true then A else B := itDN (fun z => e (V.int.inj z)) h
theorem itI {a b : Int} {A B : Prop} (h1 : a = b → A) (h2 : ¬ a = b → B) : if decide (V.int a = V.int b) = true then A else B := by
  by_cases e : a = b
  · exact itP e (h1 e)
  · exact itN e (h2 e)
theorem in7 (x : Int) : (if false = true then !inV (V.int x) [V.int 1, V.int 2, V.int 3, V.int 4, V.int 5, V.int 9, V.int 10] else inV (V.int x) [V.int 1, V.int 2, V.int 3, V.int 4, V.int 5, V.int 9, V.int 10]) = decide (x = 1 ∨ x = 2 ∨ x = 3 ∨ x = 4 ∨ x = 5 ∨ x = 9 ∨ x = 10) := by
  rw [if_neg (by decide)]
  unfold inV
  simp only [List.any_cons, List.any_nil, Bool.or_false]
  rw [Bool.eq_iff_iff]
  simp only [Bool.or_eq_true, decide_eq_true_eq, eqV, beq_iff_eq]
  omega
theorem atI_getI {ns : List Int} {i : Int} (h0 : 0 ≤ i) (h1 : i < ns.length) : atI (ns.map V.int) i = some (.int (ns.getD i.toNat 0)) := by
  have e : i = ((i.toNat : Nat) : Int) := by omega
  have := atI_getD (ns := ns) (i := i.toNat) (by omega)
  rw [← e] at this
  exact this
theorem at_own {k : Int} (h0 : 0 ≤ k) (h1 : k < 5) : atI [V.int 9, V.int 10, V.int 11, V.int 12, V.int 13] k = some (V.int (9 + k)) := by
  have : k = 0 ∨ k = 1 ∨ k = 2 ∨ k = 3 ∨ k = 4 := by omega
  rcases this with rfl | rfl | rfl | rfl | rfl <;> rfl
def sp_lst (xs : List Int) : Sp := fun vs H Q _ => vs = [] ∧ ∀ (l : Addr), H l = none → Q (.ref l) (upd H l (.lst (xs.map V.int)))
def stAx (st : List Int) : Int := if stOp st = 11 ∧ stNum st % 4 = 1 then st.getD 1 0 else if stOp st = 11 ∧ stNum st % 4 = 2 then st.getD 0 0 / 2 else if stOp st = 14 ∧ stNum st % 16 < 5 then st.getD (9 + stNum st % 16).toNat 0 else if stOp st = 15 then st.getD 9 0 else st.getD 0 0
def stA (st : List Int) (word : Int) : Int := if stOp st = 0 then stNum st else if stOp st = 1 ∨ stOp st = 9 then word else if stOp st = 3 then (st.getD 0 0 + word) % 65536 else if stOp st = 4 then (st.getD 0 0 - word) % 65536 else if stOp st = 5 then Builtin.bitAnd (st.getD 0 0) word else if stOp st = 12 then (st.getD 2 0 + 1) % 4096 else stAx st
def sp_stW (f : List Int → Int → Int) : Sp := fun vs H Q _ => ∃ (t : Addr) (st : List Int) (word : Int), vs = [.ref t, .int word] ∧ H t = some (.tup (st.map V.int)) ∧ st.length = 15 ∧ ∀ H', Same H H' → Q (.int (f st word)) H'
section
variable {P : Program} {w : World} {K : PySem.W.Frag} {mg : Str → Option Value} {base : Heap}
theorem sc_reaching_ops : FnScope [] [] (defScope s_reaching_ops) := ⟨rfl, rfl, rfl, by decide +kernel, rfl, by decide +kernel, by decide +kernel⟩
theorem ok_reaching_ops {f : Addr} {fd : FuncData} (F : Fun K "reaching_ops" "reaching_ops" s_reaching_ops f fd) (C : Ct K mg) : FnOk P w K mg base CX0 1 f fd [] (sp_lst [1, 2, 3, 4, 5, 9, 10]) := by
  refine F.ok sc_reaching_ops (fun vs H Q E h => ?_) (fun cdv A outer s H vs Q E hr h => ?_)
  · obtain ⟨rfl, _⟩ := h; rfl
  · obtain ⟨rfl, q⟩ := h
    have hs : sizeLine = 16777216 := sizeLine_eq
    refine ⟨_, (pss_one (ps_ret (pe_lst (pa_cons (pe_glob (v := .int 1) rfl C.k_LOAD.choose_spec ⟨_, rfl⟩) (pa_cons (pe_glob (v := .int 2) rfl C.k_STORE.choose_spec ⟨_, rfl⟩) (pa_cons (pe_glob (v := .int 3) rfl C.k_ADD.choose_spec ⟨_, rfl⟩) (pa_cons (pe_glob (v := .int 4) rfl C.k_TAKE.choose_spec ⟨_, rfl⟩) (pa_cons (pe_glob (v := .int 5) rfl C.k_BOTH.choose_spec ⟨_, rfl⟩) (pa_cons (pe_glob (v := .int 9) rfl C.k_FROM.choose_spec ⟨_, rfl⟩) (pa_cons (pe_glob (v := .int 10) rfl C.k_INTO.choose_spec ⟨_, rfl⟩) pa_nil)))))))))), ?_⟩
    exact ⟨by show 7 ≤ sizeLine; omega, fun l hl => q l hl⟩
theorem sc_parts_read_by_own : FnScope [] [] (defScope s_parts_read_by_own) := ⟨rfl, rfl, rfl, by decide +kernel, rfl, by decide +kernel, by decide +kernel⟩
theorem ok_parts_read_by_own {f : Addr} {fd : FuncData} (F : Fun K "parts_read_by_own" "parts_read_by_own" s_parts_read_by_own f fd) (C : Ct K mg) : FnOk P w K mg base CX0 1 f fd [] (sp_lst [9, 10, 11, 12, 13]) := by
  refine F.ok sc_parts_read_by_own (fun vs H Q E h => ?_) (fun cdv A outer s H vs Q E hr h => ?_)
  · obtain ⟨rfl, _⟩ := h; rfl
  · obtain ⟨rfl, q⟩ := h
    have hs : sizeLine = 16777216 := sizeLine_eq
    refine ⟨_, (pss_one (ps_ret (pe_lst (pa_cons (pe_glob (v := .int 9) rfl C.k_SAVED_A.choose_spec ⟨_, rfl⟩) (pa_cons (pe_glob (v := .int 10) rfl C.k_SAVED_X.choose_spec ⟨_, rfl⟩) (pa_cons (pe_glob (v := .int 11) rfl C.k_SAVED_P.choose_spec ⟨_, rfl⟩) (pa_cons (pe_glob (v := .int 12) rfl C.k_CAUSE.choose_spec ⟨_, rfl⟩) (pa_cons (pe_glob (v := .int 13) rfl C.k_NUMBER.choose_spec ⟨_, rfl⟩) pa_nil)))))))), ?_⟩
    exact ⟨by show 5 ≤ sizeLine; omega, fun l hl => q l hl⟩
theorem sc_cause_of : FnScope ["state", "op"] ["state"] (defScope s_cause_of) := ⟨rfl, rfl, rfl, by decide +kernel, rfl, by decide +kernel, by decide +kernel⟩
theorem ok_cause_of {f f0 f1 f2 f3 f4 : Addr} {fd d0 d1 d2 d3 d4 : FuncData} (F : Fun K "cause_of" "cause_of" s_cause_of f fd) (C : Ct K mg) (T_op_of : Fn K mg "op_of" s_op_of ["state"] f1 d1) (T_number_of : Fn K mg "number_of" s_number_of ["state"] f2 d2) (T_place_within : Fn K mg "place_within" s_place_within ["state"] f0 d0)
    (T_is_barred : Fn K mg "is_barred" s_is_barred ["state"] f3 d3) (T_reaching_ops : Fn K mg "reaching_ops" s_reaching_ops [] f4 d4) : FnOk P w K mg base CX0 4 f fd ["state"] (sp_st stCause) := by
  have G_op_of := ok_op_of (P := P) (w := w) (base := base) T_op_of.F C
  have G_reaching_ops := ok_reaching_ops (P := P) (w := w) (base := base) T_reaching_ops.F C
  have G_is_barred := ok_is_barred (P := P) (w := w) (base := base) T_is_barred.F C T_op_of T_number_of T_place_within
  refine F.ok sc_cause_of (fun vs H Q E h => ?_) (fun cdv A outer s H vs Q E hr h => ?_)
  · obtain ⟨t, st, rfl, _⟩ := h; rfl
  · obtain ⟨t, st, rfl, ht, hl, q⟩ := h
    have hs : sizeLine = 16777216 := sizeLine_eq
    refine ⟨_, (pss_cons (ps_set (i := 1) sc_cause_of.nd rfl (Or.inl rfl) (pe_call G_op_of (hr.mono (by decide)) rfl T_op_of.m T_op_of.F.kp T_op_of.b .nil pass0 (pa_cons (pv 0) pa_nil)))
      (pss_cons (ps_if (PW.pt (pw_and (pt_cmpR op_in_seq (pv 1) (pe_call0 G_reaching_ops (hr.mono (by decide)) rfl T_reaching_ops.m T_reaching_ops.F.kp T_reaching_ops.b .nil pass0) (by with_unfolding_all rfl)) (pw_and1 (pt_val (pe_call G_is_barred (hr.mono (by decide)) rfl T_is_barred.m T_is_barred.F.kp T_is_barred.b .nil pass0 (pa_cons (pv 0) pa_nil))))))
        (pss_one (ps_ret (pe_glob (v := .int 1) rfl C.k_BARRED.choose_spec ⟨_, rfl⟩)))
        pss_nil)
      (pss_cons (ps_if (PW.pt (pw_and (pt_cmpR op_in_seq (pv 1) (pe_tup (pa_cons (pe_glob (v := .int 14) rfl C.k_OWN.choose_spec ⟨_, rfl⟩) (pa_cons (pe_glob (v := .int 15) rfl C.k_BACK.choose_spec ⟨_, rfl⟩) pa_nil))) (by with_unfolding_all rfl)) (pw_and1 (pt_cmpR op_eq (pe_ix ix_tup (pv 0) (pe_glob (v := .int 5) rfl C.k_MODE.choose_spec ⟨_, rfl⟩) (fun _ _ => rfl)) pe_int (nomark _)))))
        (pss_one (ps_ret (pe_glob (v := .int 2) rfl C.k_NOT_OWN.choose_spec ⟨_, rfl⟩)))
        pss_nil)
      (pss_cons (ps_if (pt_cmpR op_eq (pv 1) (pe_glob (v := .int 13) rfl C.k_CALL.choose_spec ⟨_, rfl⟩) (nomark _))
        (pss_one (ps_ret (pe_glob (v := .int 3) rfl C.k_CALLED.choose_spec ⟨_, rfl⟩)))
        pss_nil)
      (pss_one (ps_ret pe_int)))))), ?_⟩
    refine ⟨_, rfl, t, st, rfl, ht, hl, fun H1 s1 => ?_⟩
    refine ⟨_, rfl, rfl, fun l hll => ?_⟩
    have y1 := Same.put (o := .lst [V.int 1, V.int 2, V.int 3, V.int 4, V.int 5, V.int 9, V.int 10]) hll
    have s2 := s1.trans y1
    refine ⟨l, [V.int 1, V.int 2, V.int 3, V.int 4, V.int 5, V.int 9, V.int 10], rfl, .inl (SqL.of upd_same), rfl, rfl, _, rfl, ?_⟩
    have ein := in7 (stOp st)
    rw [ein]
    refine ite2 (fun h => ?_) (fun h => ?_)
    · have hR := of_decide_eq_true h
      refine ⟨_, rfl, t, st, rfl, s2 _ _ ht, hl, fun H3 s3 => ⟨_, rfl, ite2 (fun hb => ?_) (fun hb => ?_)⟩⟩
      · have qq := q H3 (s2.trans s3)
        rw [show stCause st = 1 from if_pos ⟨hR, hb⟩] at qq
        exact qq
      · refine ⟨_, rfl, by show 2 ≤ sizeLine; omega, fun p hp => ?_⟩
        have y := Same.put (o := .tup [V.int 14, V.int 15]) hp
        refine ⟨p, [V.int 14, V.int 15], rfl, .inr (SqT.of upd_same), rfl, rfl, _, rfl, ?_⟩
        have ein2 := in2 (stOp st) 14 15
        rw [ein2]
        refine itDN (by omega) ?_
        refine ⟨_, rfl, rfl, _, rfl, itN (by omega) ?_⟩
        have qq := q _ ((s2.trans s3).trans y)
        rw [show stCause st = 0 from by unfold stCause; rw [if_neg fun z => hb z.2, if_neg (by omega), if_neg (by omega)]] at qq
        exact qq
    · have hR : ¬ (stOp st = 1 ∨ stOp st = 2 ∨ stOp st = 3 ∨ stOp st = 4 ∨ stOp st = 5 ∨ stOp st = 9 ∨ stOp st = 10) := fun z => h (decide_eq_true z)
      refine ⟨_, rfl, by show 2 ≤ sizeLine; omega, fun p hp => ?_⟩
      have y := Same.put (o := .tup [V.int 14, V.int 15]) hp
      have s3 := s2.trans y
      refine ⟨p, [V.int 14, V.int 15], rfl, .inr (SqT.of upd_same), rfl, rfl, _, rfl, ?_⟩
      have ein2 := in2 (stOp st) 14 15
      rw [ein2]
      refine ite2 (fun h2 => ?_) (fun h2 => ?_)
      · have h2' := of_decide_eq_true h2
        refine ⟨_, rfl, t, _, _, _, rfl, rfl, SqT.of (s3 _ _ ht), atI_getD (i := 5) (by omega), rfl, _, rfl, itI (fun e => ?_) (fun e => ?_)⟩
        · have qq := q _ s3
          rw [show stCause st = 2 from by unfold stCause; rw [if_neg fun z => hR z.1, if_pos ⟨h2', e⟩]] at qq
          exact qq
        · refine ⟨_, rfl, rfl, _, rfl, itN (by omega) ?_⟩
          have qq := q _ s3
          rw [show stCause st = 0 from by unfold stCause; rw [if_neg fun z => hR z.1, if_neg fun z => e z.2, if_neg (by omega)]] at qq
          exact qq
      · have h2' : ¬ (stOp st = 14 ∨ stOp st = 15) := fun z => h2 (decide_eq_true z)
        refine ⟨_, rfl, rfl, _, rfl, itI (fun e => ?_) (fun e => ?_)⟩
        · have qq := q _ s3
          rw [show stCause st = 3 from by unfold stCause; rw [if_neg fun z => hR z.1, if_neg fun z => h2' z.1, if_pos e]] at qq
          exact qq
        · have qq := q _ s3
          rw [show stCause st = 0 from by unfold stCause; rw [if_neg fun z => hR z.1, if_neg fun z => h2' z.1, if_neg e]] at qq
          exact qq
theorem sc_a_by_exchange : FnScope ["state", "op", "number"] ["state"] (defScope s_a_by_exchange) := ⟨rfl, rfl, rfl, by decide +kernel, rfl, by decide +kernel, by decide +kernel⟩
theorem ok_a_by_exchange {f f1 f2 f4 : Addr} {fd d1 d2 d4 : FuncData} (F : Fun K "a_by_exchange" "a_by_exchange" s_a_by_exchange f fd) (T : Bt mg) (C : Ct K mg) (T_op_of : Fn K mg "op_of" s_op_of ["state"] f1 d1) (T_number_of : Fn K mg "number_of" s_number_of ["state"] f2 d2) (T_parts_read_by_own : Fn K mg "parts_read_by_own" s_parts_read_by_own [] f4 d4) : FnOk P w K mg base CX0 2 f fd ["state"] (sp_st stAx) := by
  have G_op_of := ok_op_of (P := P) (w := w) (base := base) T_op_of.F C
  have G_number_of := ok_number_of (P := P) (w := w) (base := base) T_number_of.F C
  have G_parts_read_by_own := ok_parts_read_by_own (P := P) (w := w) (base := base) T_parts_read_by_own.F C
  refine F.ok sc_a_by_exchange (fun vs H Q E h => ?_) (fun cdv A outer s H vs Q E hr h => ?_)
  · obtain ⟨t, st, rfl, _⟩ := h; rfl
  · obtain ⟨t, st, rfl, ht, hl, q⟩ := h
    have hs : sizeLine = 16777216 := sizeLine_eq
    refine ⟨_, (pss_cons (ps_set (i := 1) sc_a_by_exchange.nd rfl (Or.inl rfl) (pe_call G_op_of (hr.mono (by decide)) rfl T_op_of.m T_op_of.F.kp T_op_of.b .nil pass0 (pa_cons (pv 0) pa_nil)))
      (pss_cons (ps_set (i := 2) sc_a_by_exchange.nd rfl (Or.inl rfl) (pe_call G_number_of (hr.mono (by decide)) rfl T_number_of.m T_number_of.F.kp T_number_of.b .nil pass0 (pa_cons (pv 0) pa_nil)))
      (pss_cons (ps_if (PW.pt (pw_and (pt_cmpR op_eq (pv 1) (pe_glob (v := .int 11) rfl C.k_MOVE.choose_spec ⟨_, rfl⟩) (nomark _)) (pw_and1 (pt_cmpR op_eq (pe_op op_mod (pv 2) (pe_glob (v := .int 4) rfl C.k_MOVES.choose_spec ⟨_, rfl⟩)) pe_int (nomark _)))))
        (pss_one (ps_ret (pe_ix ix_tup (pv 0) (pe_glob (v := .int 1) rfl C.k_X.choose_spec ⟨_, rfl⟩) (fun _ _ => rfl))))
        pss_nil)
      (pss_cons (ps_if (PW.pt (pw_and (pt_cmpR op_eq (pv 1) (pe_glob (v := .int 11) rfl C.k_MOVE.choose_spec ⟨_, rfl⟩) (nomark _)) (pw_and1 (pt_cmpR op_eq (pe_op op_mod (pv 2) (pe_glob (v := .int 4) rfl C.k_MOVES.choose_spec ⟨_, rfl⟩)) pe_int (nomark _)))))
        (pss_one (ps_ret (pe_op op_fdiv (pe_ix ix_tup (pv 0) (pe_glob (v := .int 0) rfl C.k_A.choose_spec ⟨_, rfl⟩) (fun _ _ => rfl)) pe_int)))
        pss_nil)
      (pss_cons (ps_if (PW.pt (pw_and (pt_cmpR op_eq (pv 1) (pe_glob (v := .int 14) rfl C.k_OWN.choose_spec ⟨_, rfl⟩) (nomark _)) (pw_and1 (pt_cmpR op_lt (pe_op op_mod (pv 2) (pe_glob (v := .int 16) rfl C.k_OWNS.choose_spec ⟨_, rfl⟩)) (pe_callB call_len_seq rfl T.b_len (by decide +kernel) (pa_cons (pe_call0 G_parts_read_by_own (hr.mono (by decide)) rfl T_parts_read_by_own.m T_parts_read_by_own.F.kp T_parts_read_by_own.b .nil pass0) pa_nil)) (nomark _)))))
        (pss_one (ps_ret (pe_ix ix_tup (pv 0) (pe_ix ix_list (pe_call0 G_parts_read_by_own (hr.mono (by decide)) rfl T_parts_read_by_own.m T_parts_read_by_own.F.kp T_parts_read_by_own.b .nil pass0) (pe_op op_mod (pv 2) (pe_glob (v := .int 16) rfl C.k_OWNS.choose_spec ⟨_, rfl⟩)) (fun _ _ => rfl)) (fun _ _ => rfl))))
        pss_nil)
      (pss_cons (ps_if (pt_cmpR op_eq (pv 1) (pe_glob (v := .int 15) rfl C.k_BACK.choose_spec ⟨_, rfl⟩) (nomark _))
        (pss_one (ps_ret (pe_ix ix_tup (pv 0) (pe_glob (v := .int 9) rfl C.k_SAVED_A.choose_spec ⟨_, rfl⟩) (fun _ _ => rfl))))
        pss_nil)
      (pss_one (ps_ret (pe_ix ix_tup (pv 0) (pe_glob (v := .int 0) rfl C.k_A.choose_spec ⟨_, rfl⟩) (fun _ _ => rfl)))))))))), ?_⟩
    refine ⟨_, rfl, t, st, rfl, ht, hl, fun H1 s1 => ⟨_, rfl, t, st, rfl, s1 _ _ ht, hl, fun H2 s2 => ?_⟩⟩
    have s12 := s1.trans s2
    have ht2 := s12 _ _ ht
    have p4 : (0 : Int) < 4 := by decide
    have p16 : (0 : Int) < 16 := by decide
    by_cases e11 : stOp st = 11
    · refine ⟨_, rfl, rfl, _, rfl, itP e11 ⟨_, rfl, _, _, rfl, rfl, p4, rfl, _, rfl, itI (fun e => ?_) (fun e => ?_)⟩⟩
      · have qq := q _ s12
        rw [show stAx st = st.getD 1 0 from if_pos ⟨e11, e⟩] at qq
        exact ⟨_, rfl, t, _, _, _, rfl, rfl, SqT.of ht2, atI_getD (i := 1) (by omega), qq⟩
      refine ⟨_, rfl, rfl, _, rfl, itP e11 ⟨_, rfl, _, _, rfl, rfl, p4, rfl, _, rfl, itI (fun e' => ?_) (fun e' => ?_)⟩⟩
      · have qq := q _ s12
        rw [show stAx st = st.getD 0 0 / 2 from by unfold stAx; rw [if_neg fun z => e z.2, if_pos ⟨e11, e'⟩]] at qq
        exact ⟨_, rfl, t, _, _, _, rfl, rfl, SqT.of ht2, atI_getD (i := 0) (by omega), _, _, rfl, rfl, ⟨by decide, by decide⟩, qq⟩
      · have qq := q _ s12
        rw [show stAx st = st.getD 0 0 from by unfold stAx; rw [if_neg fun z => e z.2, if_neg fun z => e' z.2, if_neg (by omega), if_neg (by omega)]] at qq
        exact ⟨_, rfl, rfl, _, rfl, itN (by omega) ⟨_, rfl, rfl, _, rfl, itN (by omega) ⟨_, rfl, t, _, _, _, rfl, rfl, SqT.of ht2, atI_getD (i := 0) (by omega), qq⟩⟩⟩
    · refine ⟨_, rfl, rfl, _, rfl, itN e11 ⟨_, rfl, rfl, _, rfl, itN e11 ?_⟩⟩
      by_cases e14 : stOp st = 14
      · refine ⟨_, rfl, rfl, _, rfl, itP e14 ⟨_, rfl, _, _, rfl, rfl, p16, rfl, fun l hll => ?_⟩⟩
        have y := Same.put (o := .lst [V.int 9, V.int 10, V.int 11, V.int 12, V.int 13]) hll
        have s3 := s12.trans y
        refine ⟨l, [V.int 9, V.int 10, V.int 11, V.int 12, V.int 13], rfl, .inl (SqL.of upd_same), _, _, rfl, rfl, _, rfl, ite2 (fun hlt => ?_) (fun hlt => ?_)⟩
        · have h5 : stNum st % 16 < 5 := of_decide_eq_true hlt
          refine ⟨_, rfl, rfl, fun l2 hl2 => ?_⟩
          have y2 := Same.put (o := .lst [V.int 9, V.int 10, V.int 11, V.int 12, V.int 13]) hl2
          have qq := q _ (s3.trans y2)
          rw [show stAx st = st.getD (9 + stNum st % 16).toNat 0 from by unfold stAx; rw [if_neg fun z => e11 z.1, if_neg fun z => e11 z.1, if_pos ⟨e14, h5⟩]] at qq
          exact ⟨_, rfl, _, _, rfl, rfl, p16, l2, [V.int 9, V.int 10, V.int 11, V.int 12, V.int 13], _, _, rfl, rfl, SqL.of upd_same, at_own (by omega) h5, t, _, _, _, rfl, rfl, SqT.of ((s3.trans y2) _ _ ht), atI_getI (by omega) (by omega), qq⟩
        · have h5 : ¬ stNum st % 16 < 5 := fun z => hlt (decide_eq_true z)
          have qq := q _ s3
          rw [show stAx st = st.getD 0 0 from by unfold stAx; rw [if_neg fun z => e11 z.1, if_neg fun z => e11 z.1, if_neg fun z => h5 z.2, if_neg (by omega)]] at qq
          exact ⟨_, rfl, rfl, _, rfl, itN (by omega) ⟨_, rfl, t, _, _, _, rfl, rfl, SqT.of (s3 _ _ ht), atI_getD (i := 0) (by omega), qq⟩⟩
      · refine ⟨_, rfl, rfl, _, rfl, itN e14 ⟨_, rfl, rfl, _, rfl, itI (fun e => ?_) (fun e => ?_)⟩⟩
        · have qq := q _ s12
          rw [show stAx st = st.getD 9 0 from by unfold stAx; rw [if_neg fun z => e11 z.1, if_neg fun z => e11 z.1, if_neg fun z => e14 z.1, if_pos e]] at qq
          exact ⟨_, rfl, t, _, _, _, rfl, rfl, SqT.of ht2, atI_getD (i := 9) (by omega), qq⟩
        · have qq := q _ s12
          rw [show stAx st = st.getD 0 0 from by unfold stAx; rw [if_neg fun z => e11 z.1, if_neg fun z => e11 z.1, if_neg fun z => e14 z.1, if_neg e]] at qq
          exact ⟨_, rfl, t, _, _, _, rfl, rfl, SqT.of ht2, atI_getD (i := 0) (by omega), qq⟩
theorem sc_new_a : FnScope ["state", "word", "op"] ["state", "word"] (defScope s_new_a) := ⟨rfl, rfl, rfl, by decide +kernel, rfl, by decide +kernel, by decide +kernel⟩
theorem ok_new_a {f f1 f2 f4 f5 : Addr} {fd d1 d2 d4 d5 : FuncData} (F : Fun K "new_a" "new_a" s_new_a f fd) (T : Bt mg) (C : Ct K mg) (T_op_of : Fn K mg "op_of" s_op_of ["state"] f1 d1) (T_number_of : Fn K mg "number_of" s_number_of ["state"] f2 d2) (T_parts_read_by_own : Fn K mg "parts_read_by_own" s_parts_read_by_own [] f4 d4) (T_a_by_exchange : Fn K mg "a_by_exchange" s_a_by_exchange ["state"] f5 d5) : FnOk P w K mg base CX0 3 f fd ["state", "word"] (sp_stW stA) := by
  have G_op_of := ok_op_of (P := P) (w := w) (base := base) T_op_of.F C
  have G_number_of := ok_number_of (P := P) (w := w) (base := base) T_number_of.F C
  have G_a_by_exchange := ok_a_by_exchange (P := P) (w := w) (base := base) T_a_by_exchange.F T C T_op_of T_number_of T_parts_read_by_own
  refine F.ok sc_new_a (fun vs H Q E h => ?_) (fun cdv A outer s H vs Q E hr h => ?_)
  · obtain ⟨t, st, word, rfl, _⟩ := h; rfl
  · obtain ⟨t, st, word, rfl, ht, hl, q⟩ := h
    have hs : sizeLine = 16777216 := sizeLine_eq
    refine ⟨_, (pss_cons (ps_set (i := 2) sc_new_a.nd rfl (Or.inl rfl) (pe_call G_op_of (hr.mono (by decide)) rfl T_op_of.m T_op_of.F.kp T_op_of.b .nil pass0 (pa_cons (pv 0) pa_nil)))
      (pss_cons (ps_if (pt_cmpR op_eq (pv 2) (pe_glob (v := .int 0) rfl C.k_SET.choose_spec ⟨_, rfl⟩) (nomark _))
        (pss_one (ps_ret (pe_call G_number_of (hr.mono (by decide)) rfl T_number_of.m T_number_of.F.kp T_number_of.b .nil pass0 (pa_cons (pv 0) pa_nil))))
        pss_nil)
      (pss_cons (ps_if (pt_cmpR op_in_seq (pv 2) (pe_tup (pa_cons (pe_glob (v := .int 1) rfl C.k_LOAD.choose_spec ⟨_, rfl⟩) (pa_cons (pe_glob (v := .int 9) rfl C.k_FROM.choose_spec ⟨_, rfl⟩) pa_nil))) (by with_unfolding_all rfl))
        (pss_one (ps_ret (pv 1)))
        pss_nil)
      (pss_cons (ps_if (pt_cmpR op_eq (pv 2) (pe_glob (v := .int 3) rfl C.k_ADD.choose_spec ⟨_, rfl⟩) (nomark _))
        (pss_one (ps_ret (pe_op op_mod (pe_op op_add (pe_ix ix_tup (pv 0) (pe_glob (v := .int 0) rfl C.k_A.choose_spec ⟨_, rfl⟩) (fun _ _ => rfl)) (pv 1)) (pe_glob (v := .int 65536) rfl C.k_WORDS.choose_spec ⟨_, rfl⟩))))
        pss_nil)
      (pss_cons (ps_if (pt_cmpR op_eq (pv 2) (pe_glob (v := .int 4) rfl C.k_TAKE.choose_spec ⟨_, rfl⟩) (nomark _))
        (pss_one (ps_ret (pe_op op_mod (pe_op op_sub (pe_ix ix_tup (pv 0) (pe_glob (v := .int 0) rfl C.k_A.choose_spec ⟨_, rfl⟩) (fun _ _ => rfl)) (pv 1)) (pe_glob (v := .int 65536) rfl C.k_WORDS.choose_spec ⟨_, rfl⟩))))
        pss_nil)
      (pss_cons (ps_if (pt_cmpR op_eq (pv 2) (pe_glob (v := .int 5) rfl C.k_BOTH.choose_spec ⟨_, rfl⟩) (nomark _))
        (pss_one (ps_ret (pe_op op_and (pe_ix ix_tup (pv 0) (pe_glob (v := .int 0) rfl C.k_A.choose_spec ⟨_, rfl⟩) (fun _ _ => rfl)) (pv 1))))
        pss_nil)
      (pss_cons (ps_if (pt_cmpR op_eq (pv 2) (pe_glob (v := .int 12) rfl C.k_LINK.choose_spec ⟨_, rfl⟩) (nomark _))
        (pss_one (ps_ret (pe_op op_mod (pe_op op_add (pe_ix ix_tup (pv 0) (pe_glob (v := .int 2) rfl C.k_P.choose_spec ⟨_, rfl⟩) (fun _ _ => rfl)) pe_int) (pe_glob (v := .int 4096) rfl C.k_PLACES.choose_spec ⟨_, rfl⟩))))
        pss_nil)
      (pss_one (ps_ret (pe_call G_a_by_exchange (hr.mono (by decide)) rfl T_a_by_exchange.m T_a_by_exchange.F.kp T_a_by_exchange.b .nil pass0 (pa_cons (pv 0) pa_nil))))))))))), ?_⟩
    refine ⟨_, rfl, t, st, rfl, ht, hl, fun H1 s1 => ?_⟩
    have p16 : (0 : Int) < 65536 := by decide
    have p12 : (0 : Int) < 4096 := by decide
    refine ⟨_, rfl, rfl, _, rfl, itI (fun e => ?_) (fun e0 => ?_)⟩
    · refine ⟨_, rfl, t, st, rfl, s1 _ _ ht, hl, fun H2 s2 => ?_⟩
      have qq := q _ (s1.trans s2)
      rw [show stA st word = stNum st from if_pos e] at qq
      exact qq
    refine ⟨_, rfl, by show 2 ≤ sizeLine; omega, fun p hp => ?_⟩
    have y := Same.put (o := .tup [V.int 1, V.int 9]) hp
    have s2 := s1.trans y
    have ht2 := s2 _ _ ht
    refine ⟨p, [V.int 1, V.int 9], rfl, .inr (SqT.of upd_same), rfl, rfl, _, rfl, ?_⟩
    have ein := in2 (stOp st) 1 9
    rw [ein]
    have qq := q _ s2
    refine ite2 (fun h => ?_) (fun h => ?_)
    · rw [show stA st word = word from by unfold stA; rw [if_neg e0, if_pos (of_decide_eq_true h)]] at qq
      exact ⟨_, rfl, qq⟩
    have e1 : ¬ (stOp st = 1 ∨ stOp st = 9) := fun z => h (decide_eq_true z)
    refine ⟨_, rfl, rfl, _, rfl, itI (fun e => ?_) (fun e3 => ?_)⟩
    · rw [show stA st word = (st.getD 0 0 + word) % 65536 from by unfold stA; rw [if_neg e0, if_neg e1, if_pos e]] at qq
      exact ⟨_, rfl, t, _, _, _, rfl, rfl, SqT.of ht2, atI_getD (i := 0) (by omega), _, rfl, _, _, rfl, rfl, _, _, rfl, rfl, p16, qq⟩
    refine ⟨_, rfl, rfl, _, rfl, itI (fun e => ?_) (fun e4 => ?_)⟩
    · rw [show stA st word = (st.getD 0 0 - word) % 65536 from by unfold stA; rw [if_neg e0, if_neg e1, if_neg e3, if_pos e]] at qq
      exact ⟨_, rfl, t, _, _, _, rfl, rfl, SqT.of ht2, atI_getD (i := 0) (by omega), _, rfl, _, _, rfl, rfl, _, _, rfl, rfl, p16, qq⟩
    refine ⟨_, rfl, rfl, _, rfl, itI (fun e => ?_) (fun e5 => ?_)⟩
    · rw [show stA st word = Builtin.bitAnd (st.getD 0 0) word from by unfold stA; rw [if_neg e0, if_neg e1, if_neg e3, if_neg e4, if_pos e]] at qq
      exact ⟨_, rfl, t, _, _, _, rfl, rfl, SqT.of ht2, atI_getD (i := 0) (by omega), _, rfl, _, _, rfl, rfl, qq⟩
    refine ⟨_, rfl, rfl, _, rfl, itI (fun e => ?_) (fun e12 => ?_)⟩
    · rw [show stA st word = (st.getD 2 0 + 1) % 4096 from by unfold stA; rw [if_neg e0, if_neg e1, if_neg e3, if_neg e4, if_neg e5, if_pos e]] at qq
      exact ⟨_, rfl, t, _, _, _, rfl, rfl, SqT.of ht2, atI_getD (i := 2) (by omega), _, _, rfl, rfl, _, _, rfl, rfl, p12, qq⟩
    refine ⟨_, rfl, t, st, rfl, ht2, hl, fun H3 s3 => ?_⟩
    have q3 := q _ (s2.trans s3)
    rw [show stA st word = stAx st from by unfold stA; rw [if_neg e0, if_neg e1, if_neg e3, if_neg e4, if_neg e5, if_neg e12]] at q3
    exact q3
theorem sc_new_p : FnScope ["state", "op"] ["state"] (defScope s_new_p) := ⟨rfl, rfl, rfl, by decide +kernel, rfl, by decide +kernel, by decide +kernel⟩
theorem ok_new_p {f f1 f2 f4 : Addr} {fd d1 d2 d4 : FuncData} (F : Fun K "new_p" "new_p" s_new_p f fd) (C : Ct K mg) (T_op_of : Fn K mg "op_of" s_op_of ["state"] f1 d1) (T_number_of : Fn K mg "number_of" s_number_of ["state"] f2 d2) (T_leaps : Fn K mg "leaps" s_leaps ["state"] f4 d4) : FnOk P w K mg base CX0 3 f fd ["state"] (sp_st stP) := by
  have G_op_of := ok_op_of (P := P) (w := w) (base := base) T_op_of.F C
  have G_number_of := ok_number_of (P := P) (w := w) (base := base) T_number_of.F C
  have G_leaps := ok_leaps (P := P) (w := w) (base := base) T_leaps.F C T_op_of
  refine F.ok sc_new_p (fun vs H Q E h => ?_) (fun cdv A outer s H vs Q E hr h => ?_)
  · obtain ⟨t, st, rfl, _⟩ := h; rfl
  · obtain ⟨t, st, rfl, ht, hl, q⟩ := h
    refine ⟨_, (pss_cons (ps_set (i := 1) sc_new_p.nd rfl (Or.inl rfl) (pe_call G_op_of (hr.mono (by decide)) rfl T_op_of.m T_op_of.F.kp T_op_of.b .nil pass0 (pa_cons (pv 0) pa_nil)))
      (pss_cons (ps_if (pt_val (pe_call G_leaps (hr.mono (by decide)) rfl T_leaps.m T_leaps.F.kp T_leaps.b .nil pass0 (pa_cons (pv 0) pa_nil)))
        (pss_one (ps_ret (pe_call G_number_of (hr.mono (by decide)) rfl T_number_of.m T_number_of.F.kp T_number_of.b .nil pass0 (pa_cons (pv 0) pa_nil))))
        pss_nil)
      (pss_cons (ps_if (PW.pt (pw_and (pt_cmpR op_eq (pv 1) (pe_glob (v := .int 11) rfl C.k_MOVE.choose_spec ⟨_, rfl⟩) (nomark _)) (pw_and1 (pt_cmpR op_eq (pe_op op_mod (pe_call G_number_of (hr.mono (by decide)) rfl T_number_of.m T_number_of.F.kp T_number_of.b .nil pass0 (pa_cons (pv 0) pa_nil)) (pe_glob (v := .int 4) rfl C.k_MOVES.choose_spec ⟨_, rfl⟩)) pe_int (nomark _)))))
        (pss_one (ps_ret (pe_op op_mod (pe_ix ix_tup (pv 0) (pe_glob (v := .int 0) rfl C.k_A.choose_spec ⟨_, rfl⟩) (fun _ _ => rfl)) (pe_glob (v := .int 4096) rfl C.k_PLACES.choose_spec ⟨_, rfl⟩))))
        pss_nil)
      (pss_cons (ps_if (pt_cmpR op_eq (pv 1) (pe_glob (v := .int 15) rfl C.k_BACK.choose_spec ⟨_, rfl⟩) (nomark _))
        (pss_one (ps_ret (pe_ix ix_tup (pv 0) (pe_glob (v := .int 11) rfl C.k_SAVED_P.choose_spec ⟨_, rfl⟩) (fun _ _ => rfl))))
        pss_nil)
      (pss_one (ps_ret (pe_op op_mod (pe_op op_add (pe_ix ix_tup (pv 0) (pe_glob (v := .int 2) rfl C.k_P.choose_spec ⟨_, rfl⟩) (fun _ _ => rfl)) pe_int) (pe_glob (v := .int 4096) rfl C.k_PLACES.choose_spec ⟨_, rfl⟩)))))))), ?_⟩
    have p4 : (0 : Int) < 4 := by decide
    have p12 : (0 : Int) < 4096 := by decide
    refine ⟨_, rfl, t, st, rfl, ht, hl, fun H1 s1 => ?_⟩
    refine ⟨_, rfl, t, st, rfl, s1 _ _ ht, hl, fun H2 s2 => ⟨_, rfl, ite2 (fun hb => ?_) (fun hb => ?_)⟩⟩
    · refine ⟨_, rfl, t, st, rfl, (s1.trans s2) _ _ ht, hl, fun H3 s3 => ?_⟩
      have qq := q _ ((s1.trans s2).trans s3)
      rw [show stP st = stNum st from if_pos hb] at qq
      exact qq
    have s12 := s1.trans s2
    by_cases e11 : stOp st = 11
    · refine ⟨_, rfl, rfl, _, rfl, itP e11 ⟨_, rfl, t, st, rfl, s12 _ _ ht, hl, fun H3 s3 => ?_⟩⟩
      have qq := q _ (s12.trans s3)
      have ht3 := (s12.trans s3) _ _ ht
      refine ⟨_, _, rfl, rfl, p4, rfl, _, rfl, itI (fun e => ?_) (fun e => ?_)⟩
      · rw [show stP st = st.getD 0 0 % 4096 from by unfold stP; rw [if_neg hb, if_pos ⟨e11, e⟩]] at qq
        exact ⟨_, rfl, t, _, _, _, rfl, rfl, SqT.of ht3, atI_getD (i := 0) (by omega), _, _, rfl, rfl, p12, qq⟩
      · rw [show stP st = (st.getD 2 0 + 1) % 4096 from by unfold stP; rw [if_neg hb, if_neg fun z => e z.2, if_neg (by omega)]] at qq
        exact ⟨_, rfl, rfl, _, rfl, itN (by omega) ⟨_, rfl, t, _, _, _, rfl, rfl, SqT.of ht3, atI_getD (i := 2) (by omega), _, _, rfl, rfl, _, _, rfl, rfl, p12, qq⟩⟩
    · have qq := q _ s12
      refine ⟨_, rfl, rfl, _, rfl, itN e11 ⟨_, rfl, rfl, _, rfl, itI (fun e => ?_) (fun e => ?_)⟩⟩
      · rw [show stP st = st.getD 11 0 from by unfold stP; rw [if_neg hb, if_neg fun z => e11 z.1, if_pos e]] at qq
        exact ⟨_, rfl, t, _, _, _, rfl, rfl, SqT.of (s12 _ _ ht), atI_getD (i := 11) (by omega), qq⟩
      · rw [show stP st = (st.getD 2 0 + 1) % 4096 from by unfold stP; rw [if_neg hb, if_neg fun z => e11 z.1, if_neg e]] at qq
        exact ⟨_, rfl, t, _, _, _, rfl, rfl, SqT.of (s12 _ _ ht), atI_getD (i := 2) (by omega), _, _, rfl, rfl, _, _, rfl, rfl, p12, qq⟩
end
end K21

set_option Elab.async false
set_option linter.all false
set_option maxRecDepth 100000
set_option maxHeartbeats 4000000
namespace K21
open PySem L2
theorem iteNN {c A B : Prop} [Decidable c] (hc : ¬ c) (h : A) : if (!decide c) = true then A else B := by
  rw [decide_eq_false hc]
  exact iteT h
theorem GateAt.upd {H : Hp} {l : Addr} {xs : List V} {o : HO} {v : V} {p : Int × Int} (e : H l = some (.lst xs)) (h : GateAt H v p) : GateAt (L2.upd H l o) v p := by
  obtain ⟨q, a, b⟩ := h
  exact ⟨q, a, by rw [upd_ne (ne_of b e (by intro z; cases z))]; exact b⟩
theorem gS {H H' : Hp} (s : Same H H') {us : List V} {ps : List (Int × Int)} (h : Paired (GateAt H) us ps) : Paired (GateAt H') us ps := Paired.imp' (fun _ _ g => g.same s) h
theorem gU {H : Hp} {l : Addr} {xs : List V} {o : HO} (e : H l = some (.lst xs)) {us : List V} {ps : List (Int × Int)} (h : Paired (GateAt H) us ps) : Paired (GateAt (L2.upd H l o)) us ps := Paired.imp' (fun _ _ g => g.upd e) h
theorem pCat {α β : Type} {F : α → β → Prop} : ∀ {l1 m1 : List α} {l2 m2 : List β}, Paired F l1 l2 → Paired F m1 m2 → Paired F (l1 ++ m1) (l2 ++ m2)
  | _, _, _, _, .nil, h => h
  | _, _, _, _, .cons h t, g => .cons h (pCat t g)
def ownL : List (Int × Int) := [(8, 9), (9, 10), (10, 11), (11, 6), (12, 7), (13, 8)]
def widths15 : List Int := [16, 16, 12, 16, 1, 1, 12, 12, 12, 16, 16, 12, 3, 12, 1]
theorem own_facts : ∀ p ∈ ownL, 0 ≤ p.2 ∧ p.2 < 15 ∧ 0 ≤ widths15.getD p.2.toNat 0 ∧ widths15.getD p.2.toNat 0 ≤ 16 ∧ (0 : Int) < 1 * 2 ^ (widths15.getD p.2.toNat 0).toNat := by decide
def ocF (st : List Int) (p : Int × Int) : Int × Int := (p.2, st.getD 0 0 % (1 * 2 ^ (widths15.getD p.2.toNat 0).toNat))
def ocS (st : List Int) : List (Int × Int) := if stNum st % 16 = 5 then [(14, 1)] else (ownL.filter fun p => decide (p.1 = stNum st % 16)).map (ocF st)
theorem ocS_ok {st : List Int} : ∀ c ∈ ocS st, 0 ≤ c.1 ∧ c.1 < 15 := by
  intro c hc
  unfold ocS at hc
  split at hc
  · simp only [List.mem_singleton] at hc
    subst hc; exact ⟨by decide, by decide⟩
  · obtain ⟨p, hp, rfl⟩ := List.mem_map.mp hc
    have := own_facts p (List.mem_filter.mp hp).1
    exact ⟨this.1, this.2.1⟩
theorem ocS_len {st : List Int} : (ocS st).length ≤ 6 := by
  unfold ocS
  split
  · decide
  · rw [List.length_map]
    exact List.length_filter_le _ _
def sp_own : Sp := fun vs H Q _ => vs = [] ∧ ∀ (l : Addr) (H' : Hp) (us : List V), H l = none → Same H H' → H' l = some (.lst us) → Paired (GateAt H') us ownL → Q (.ref l) H'
def sp_chs : Sp := fun vs H Q _ => ∃ (t : Addr) (st : List Int), vs = [.ref t] ∧ H t = some (.tup (st.map V.int)) ∧ st.length = 15 ∧ ∀ (l : Addr) (H' : Hp) (us : List V), H l = none → Same H H' → H' l = some (.lst us) → Paired (GateAt H') us (ocS st) → Q (.ref l) H'
def rdS (st : List Int) (word : Int) : List Int := exS st ([(0, stA st word), (1, stX st), (2, stP st), (4, 0)] ++ (if stOp st = 14 then ocS st else []) ++ (if stOp st = 15 then [(5, 1)] else []))
def sp_rd : Sp := fun vs H Q _ => ∃ (t : Addr) (st : List Int) (word : Int), vs = [.ref t, .int word] ∧ H t = some (.tup (st.map V.int)) ∧ st.length = 15 ∧ ∀ (t' : Addr) (H' : Hp), H t' = none → Same H H' → H' t' = some (.tup ((rdS st word).map V.int)) → Q (.ref t') H'
def btS (st : List Int) (word : Int) : List Int := if st.getD 14 0 = 1 then st else if st.getD 4 0 = 0 then feS st word else if ¬ stCause st = 0 then rtS st (stCause st) else if st.getD 5 0 = 1 then beS (rdS st word) else rdS st word
def btW (st : List Int) : V := if st.getD 14 0 = 1 then .non else if st.getD 4 0 = 0 then .non else if ¬ stCause st = 0 then .non else stWritten st
def btT (st : List Int) : V := if st.getD 14 0 = 1 then .non else if st.getD 4 0 = 0 then .non else if ¬ stCause st = 0 then .non else stTold st
def sp_beat : Sp := fun vs H Q _ => ∃ (t : Addr) (st : List Int) (word : Int), vs = [.ref t, .int word] ∧ H t = some (.tup (st.map V.int)) ∧ st.length = 15 ∧
  ∀ (p t' : Addr) (H' : Hp), H p = none → Same H H' → H' p = some (.tup [.ref t', btW st, btT st]) → H' t' = some (.tup ((btS st word).map V.int)) → Q (.ref p) H'
section
variable {P : Program} {w : World} {K : PySem.W.Frag} {mg : Str → Option Value} {base : Heap}
theorem sc_parts_set_by_own : FnScope [] [] (defScope s_parts_set_by_own) := ⟨rfl, rfl, rfl, by decide +kernel, rfl, by decide +kernel, by decide +kernel⟩
theorem ok_parts_set_by_own {f : Addr} {fd : FuncData} (F : Fun K "parts_set_by_own" "parts_set_by_own" s_parts_set_by_own f fd) (C : Ct K mg) : FnOk P w K mg base CX0 1 f fd [] sp_own := by
  refine F.ok sc_parts_set_by_own (fun vs H Q E h => ?_) (fun cdv A outer s H vs Q E hr h => ?_)
  · obtain ⟨rfl, _⟩ := h; rfl
  · obtain ⟨rfl, q⟩ := h
    have hs : sizeLine = 16777216 := sizeLine_eq
    have two : 2 ≤ sizeLine := by omega
    refine ⟨_, (pss_one (ps_ret (pe_lst (pa_cons (pe_tup (pa_cons pe_int (pa_cons (pe_glob (v := .int 9) rfl C.k_SAVED_A.choose_spec ⟨_, rfl⟩) pa_nil))) (pa_cons (pe_tup (pa_cons pe_int (pa_cons (pe_glob (v := .int 10) rfl C.k_SAVED_X.choose_spec ⟨_, rfl⟩) pa_nil))) (pa_cons (pe_tup (pa_cons pe_int (pa_cons (pe_glob (v := .int 11) rfl C.k_SAVED_P.choose_spec ⟨_, rfl⟩) pa_nil))) (pa_cons (pe_tup (pa_cons pe_int (pa_cons (pe_glob (v := .int 6) rfl C.k_BEGIN.choose_spec ⟨_, rfl⟩) pa_nil))) (pa_cons (pe_tup (pa_cons pe_int (pa_cons (pe_glob (v := .int 7) rfl C.k_LENGTH.choose_spec ⟨_, rfl⟩) pa_nil))) (pa_cons (pe_tup (pa_cons pe_int (pa_cons (pe_glob (v := .int 8) rfl C.k_BELL.choose_spec ⟨_, rfl⟩) pa_nil))) pa_nil))))))))), ?_⟩
    refine ⟨two, fun p1 h1 => ?_⟩
    have y1 := Same.put (o := .tup [V.int 8, V.int 9]) h1
    refine ⟨two, fun p2 h2 => ?_⟩
    have y2 := Same.put (o := .tup [V.int 9, V.int 10]) h2
    refine ⟨two, fun p3 h3 => ?_⟩
    have y3 := Same.put (o := .tup [V.int 10, V.int 11]) h3
    refine ⟨two, fun p4 h4 => ?_⟩
    have y4 := Same.put (o := .tup [V.int 11, V.int 6]) h4
    refine ⟨two, fun p5 h5 => ?_⟩
    have y5 := Same.put (o := .tup [V.int 12, V.int 7]) h5
    refine ⟨two, fun p6 h6 => ?_⟩
    have y6 := Same.put (o := .tup [V.int 13, V.int 8]) h6
    refine ⟨by show 6 ≤ sizeLine; omega, fun l h7 => ?_⟩
    have y7 := Same.put (o := .lst [V.ref p1, V.ref p2, V.ref p3, V.ref p4, V.ref p5, V.ref p6]) h7
    have a67 := y6.trans y7
    have a57 := y5.trans a67
    have a47 := y4.trans a57
    have a37 := y3.trans a47
    have a27 := y2.trans a37
    have a17 := y1.trans a27
    exact q l _ _ ((y1.trans (y2.trans (y3.trans (y4.trans (y5.trans y6))))).free h7) a17 upd_same
      (.cons ⟨p1, rfl, a27 _ _ upd_same⟩ (.cons ⟨p2, rfl, a37 _ _ upd_same⟩ (.cons ⟨p3, rfl, a47 _ _ upd_same⟩ (.cons ⟨p4, rfl, a57 _ _ upd_same⟩ (.cons ⟨p5, rfl, a67 _ _ upd_same⟩ (.cons ⟨p6, rfl, y7 _ _ upd_same⟩ .nil))))))
theorem sc_own_changes : FnScope ["state", "kind"] ["state"] (defScope s_own_changes) := ⟨rfl, rfl, rfl, by decide +kernel, rfl, by decide +kernel, by decide +kernel⟩
theorem ok_own_changes {f f2 f4 : Addr} {fd d2 d4 : FuncData} (F : Fun K "own_changes" "own_changes" s_own_changes f fd) (C : Ct K mg) (T_number_of : Fn K mg "number_of" s_number_of ["state"] f2 d2) (T_parts_set_by_own : Fn K mg "parts_set_by_own" s_parts_set_by_own [] f4 d4) : FnOk P w K mg base CX0 2 f fd ["state"] sp_chs := by
  have G_number_of := ok_number_of (P := P) (w := w) (base := base) T_number_of.F C
  have G_parts_set_by_own := ok_parts_set_by_own (P := P) (w := w) (base := base) T_parts_set_by_own.F C
  refine F.ok sc_own_changes (fun vs H Q E h => ?_) (fun cdv A outer s H vs Q E hr h => ?_)
  · obtain ⟨t, st, rfl, _⟩ := h; rfl
  · obtain ⟨t, st, rfl, ht, hl, q⟩ := h
    have hs : sizeLine = 16777216 := sizeLine_eq
    have p16 : (0 : Int) < 16 := by decide
    refine ⟨_, (pss_cons (ps_set (i := 1) sc_own_changes.nd rfl (Or.inr rfl) (pe_op op_mod (pe_call G_number_of (hr.mono (by decide)) rfl T_number_of.m T_number_of.F.kp T_number_of.b .nil pass0 (pa_cons (pv 0) pa_nil)) (pe_glob (v := .int 16) rfl C.k_OWNS.choose_spec ⟨_, rfl⟩)))
      (pss_cons (ps_if (pt_cmpR op_eq (pv 1) (pe_glob (v := .int 5) rfl C.k_OWN_HALT.choose_spec ⟨_, rfl⟩) (nomark _))
        (pss_one (ps_ret (pe_lst (pa_cons (pe_tup (pa_cons (pe_glob (v := .int 14) rfl C.k_HALTED.choose_spec ⟨_, rfl⟩) (pa_cons pe_int pa_nil))) pa_nil))))
        pss_nil)
      (pss_one (ps_ret (pe_compIf rfl (blk_of (sc0 := defScope s_own_changes) (N0 := ["state", "kind"]) (N' := ["own", "part", "kind", "state"]) (own := 2) (fv := [1, 0]) (by decide +kernel) rfl rfl) (pi_list (pe_call0 G_parts_set_by_own (hr.mono (by decide)) rfl T_parts_set_by_own.m T_parts_set_by_own.F.kp T_parts_set_by_own.b .nil pass0)) (fun _ _ _ _ => (pg_tupK (K := K) (n := 2) rfl (pgs_cons (pg_name (i := 0) (by show List.Nodup (["own", "part", "kind", "state"] : List Str); decide +kernel) rfl (Or.inl rfl)) (pgs_cons (pg_name (i := 1) (by show List.Nodup (["own", "part", "kind", "state"] : List Str); decide +kernel) rfl (Or.inl rfl)) pgs_nil)))) (fun _ _ _ _ => (pt_cmpR op_eq (pv 0) (pv 2) (nomark _))) (fun _ _ _ _ => (pe_tup (pa_cons (pv 1) (pa_cons (pe_op op_mod (pe_ix (ix_tupK (K := K)) (pv 3) (pe_glob (v := .int 0) rfl C.k_A.choose_spec ⟨_, rfl⟩) (fun _ _ => rfl)) (pe_op op_shl pe_int (pe_ix (ix_tupK (K := K)) (pe_glob (v := .ref C.k_WIDTHS.choose) rfl C.k_WIDTHS.choose_spec.1 rfl) (pv 1) (fun _ _ => rfl)))) pa_nil))))))))), ?_⟩
    refine ⟨_, rfl, t, st, rfl, ht, hl, fun H1 s1 => ⟨_, _, rfl, rfl, p16, ?_⟩⟩
    refine ⟨_, rfl, rfl, _, rfl, itI (fun e => ?_) (fun e => ?_)⟩
    · refine ⟨by show 2 ≤ sizeLine; omega, fun p hp => ?_⟩
      have y1 := Same.put (o := .tup [V.int 14, V.int 1]) hp
      refine ⟨by show 1 ≤ sizeLine; omega, fun l hll => ?_⟩
      have y2 := Same.put (o := .lst [V.ref p]) hll
      refine q l _ _ ((s1.trans y1).free hll) (s1.trans (y1.trans y2)) upd_same ?_
      rw [show ocS st = [(14, 1)] from if_pos e]
      exact .cons ⟨p, rfl, y2 _ _ upd_same⟩ .nil
    have eo : ocS st = (ownL.filter fun p => decide (p.1 = stNum st % 16)).map (ocF st) := if_neg e
    refine ⟨rfl, fun l H2 us hln s2 el hP => ⟨l, rfl, ⟨_, SqL.of el⟩, ?_⟩⟩
    have s12 := s1.trans s2
    refine compIf_tup (K := K) (a := l) (xs := us) (fvals := [some (.int (stNum st % 16)), some (.ref t)])
      (fun acc i H3 => H2 acc = none ∧ Same H2 H3 ∧ ∃ vs, H3 acc = some (.lst vs) ∧ Paired (GateAt H3) vs (((ownL.take i).filter fun p => decide (p.1 = stNum st % 16)).map (ocF st))) ?_ ?_ ?_ ?_ ?_
    · rintro acc i H3 ⟨_, s3, _⟩
      exact SqL.of (s3 _ _ el)
    · intro acc hacc
      exact ⟨hacc, Same.put hacc, [], upd_same, .nil⟩
    · rintro acc i x H3 hx ⟨_, s3, _⟩
      obtain ⟨c, _, qa, rfl, hqa⟩ := paired_get hP hx
      exact ⟨qa, _, _, rfl, s3 _ _ hqa⟩
    · rintro acc i Tq x1 x2 H3 m W hx hT ⟨hacc, s3, vs, ev, hV⟩ cont
      obtain ⟨c, hc, qa, eq, hqa⟩ := paired_get hP hx
      cases eq
      have h3 := s3 _ _ hqa
      rw [h3] at hT
      cases hT
      obtain ⟨b0, b1, w0, w1, wp⟩ := own_facts c (List.mem_of_getElem? hc)
      have hlen : vs.length ≤ 6 := by
        rw [hV.length, List.length_map]
        refine Nat.le_trans (List.length_filter_le _ _) ?_
        rw [List.length_take]
        exact Nat.min_le_right _ _
      refine ⟨_, rfl, _, rfl, rfl, _, rfl, itI (fun e' => ?_) (fun e' => ?_)⟩
      · have ht3 := s3 _ _ (s12 _ _ ht)
        refine ⟨_, rfl, _, rfl, t, _, _, _, rfl, rfl, SqT.of ht3, atI_getD (i := 0) (by omega), _, rfl, C.k_WIDTHS.choose, _, _, _, rfl, rfl, C.k_WIDTHS.choose_spec.2 _, atI_getI (ns := widths15) b0 b1, _, _, rfl, rfl, cpow_of w0 (by omega) (by decide) (by decide), _, _, rfl, rfl, wp, by show 2 ≤ sizeLine; omega, fun pt hpt => ?_⟩
        have y := Same.put (o := .tup [V.int (ocF st c).1, V.int (ocF st c).2]) hpt
        refine ⟨vs, y _ _ ev, by omega, cont _ ⟨hacc, Kl.same (s3.trans y) hacc Kl.one, vs ++ [V.ref pt], upd_same, ?_⟩⟩
        rw [take_succ_filter _ _ _ _ hc, if_pos (decide_eq_true e'), List.map_append]
        exact gU (y _ _ ev) (pCat (gS y hV) (.cons ⟨pt, rfl, upd_same⟩ .nil))
      · refine cont _ ⟨hacc, s3, vs, ev, ?_⟩
        rw [take_succ_filter _ _ _ _ hc, if_neg (fun z => e' (of_decide_eq_true z)), List.append_nil]
        exact hV
    · rintro acc H3 hacc ⟨_, s3, vs, ev, hV⟩
      refine q acc H3 vs (s12.free hacc) (s12.trans s3) ev ?_
      rw [eo]
      rw [List.take_of_length_le (by rw [hP.length]; exact Nat.le_refl _)] at hV
      exact hV
theorem sc_row_done : FnScope ["state", "word", "changes"] ["state", "word"] (defScope s_row_done) := ⟨rfl, rfl, rfl, by decide +kernel, rfl, by decide +kernel, by decide +kernel⟩
theorem ok_row_done {f f1 f2 f4 f5 f6 f7 f8 f9 f10 f11 f12 : Addr} {fd d1 d2 d4 d5 d6 d7 d8 d9 d10 d11 d12 : FuncData} (F : Fun K "row_done" "row_done" s_row_done f fd) (T : Bt mg) (C : Ct K mg) (T_op_of : Fn K mg "op_of" s_op_of ["state"] f1 d1) (T_number_of : Fn K mg "number_of" s_number_of ["state"] f2 d2) (T_parts_read_by_own : Fn K mg "parts_read_by_own" s_parts_read_by_own [] f4 d4) (T_parts_set_by_own : Fn K mg "parts_set_by_own" s_parts_set_by_own [] f5 d5)
    (T_exchanged : Fn K mg "exchanged" s_exchanged ["state", "changes"] f6 d6) (T_a_by_exchange : Fn K mg "a_by_exchange" s_a_by_exchange ["state"] f7 d7) (T_new_a : Fn K mg "new_a" s_new_a ["state", "word"] f8 d8) (T_new_x : Fn K mg "new_x" s_new_x ["state"] f9 d9) (T_leaps : Fn K mg "leaps" s_leaps ["state"] f10 d10) (T_new_p : Fn K mg "new_p" s_new_p ["state"] f11 d11) (T_own_changes : Fn K mg "own_changes" s_own_changes ["state"] f12 d12) :
    FnOk P w K mg base CX0 4 f fd ["state", "word"] sp_rd := by
  have G_op_of := ok_op_of (P := P) (w := w) (base := base) T_op_of.F C
  have G_exchanged := ok_exchanged (P := P) (w := w) (base := base) T_exchanged.F T
  have G_new_a := ok_new_a (P := P) (w := w) (base := base) T_new_a.F T C T_op_of T_number_of T_parts_read_by_own T_a_by_exchange
  have G_new_x := ok_new_x (P := P) (w := w) (base := base) T_new_x.F C T_op_of T_number_of
  have G_new_p := ok_new_p (P := P) (w := w) (base := base) T_new_p.F C T_op_of T_number_of T_leaps
  have G_own_changes := ok_own_changes (P := P) (w := w) (base := base) T_own_changes.F C T_number_of T_parts_set_by_own
  refine F.ok sc_row_done (fun vs H Q E h => ?_) (fun cdv A outer s H vs Q E hr h => ?_)
  · obtain ⟨t, st, word, rfl, _⟩ := h; rfl
  · obtain ⟨t, st, word, rfl, ht, hl, q⟩ := h
    have hs : sizeLine = 16777216 := sizeLine_eq
    have two : 2 ≤ sizeLine := by omega
    refine ⟨_, (pss_cons (ps_set (i := 2) sc_row_done.nd rfl (Or.inl rfl) (pe_lst (pa_cons (pe_tup (pa_cons (pe_glob (v := .int 0) rfl C.k_A.choose_spec ⟨_, rfl⟩) (pa_cons (pe_call G_new_a (hr.mono (by decide)) rfl T_new_a.m T_new_a.F.kp T_new_a.b .nil pass0 (pa_cons (pv 0) (pa_cons (pv 1) pa_nil))) pa_nil))) (pa_cons (pe_tup (pa_cons (pe_glob (v := .int 1) rfl C.k_X.choose_spec ⟨_, rfl⟩) (pa_cons (pe_call G_new_x (hr.mono (by decide)) rfl T_new_x.m T_new_x.F.kp T_new_x.b .nil pass0 (pa_cons (pv 0) pa_nil)) pa_nil))) (pa_cons (pe_tup (pa_cons (pe_glob (v := .int 2) rfl C.k_P.choose_spec ⟨_, rfl⟩) (pa_cons (pe_call G_new_p (hr.mono (by decide)) rfl T_new_p.m T_new_p.F.kp T_new_p.b .nil pass0 (pa_cons (pv 0) pa_nil)) pa_nil))) (pa_cons (pe_tup (pa_cons (pe_glob (v := .int 4) rfl C.k_FETCHED.choose_spec ⟨_, rfl⟩) (pa_cons pe_int pa_nil))) pa_nil))))))
      (pss_cons (ps_if (pt_cmpR op_eq (pe_call G_op_of (hr.mono (by decide)) rfl T_op_of.m T_op_of.F.kp T_op_of.b .nil pass0 (pa_cons (pv 0) pa_nil)) (pe_glob (v := .int 14) rfl C.k_OWN.choose_spec ⟨_, rfl⟩) (nomark _))
        (pss_one (ps_expr (pe_bm PySem.F.plainAttrs_list PySem.F.slot_list_extend PySem.F.type_list_extend mt_extend (pv 2) (pa_cons (pe_call G_own_changes (hr.mono (by decide)) rfl T_own_changes.m T_own_changes.F.kp T_own_changes.b .nil pass0 (pa_cons (pv 0) pa_nil)) pa_nil))))
        pss_nil)
      (pss_cons (ps_if (pt_cmpR op_eq (pe_call G_op_of (hr.mono (by decide)) rfl T_op_of.m T_op_of.F.kp T_op_of.b .nil pass0 (pa_cons (pv 0) pa_nil)) (pe_glob (v := .int 15) rfl C.k_BACK.choose_spec ⟨_, rfl⟩) (nomark _))
        (pss_one (ps_expr (pe_bm PySem.F.plainAttrs_list PySem.F.slot_list_append PySem.F.type_list_append mt_append (pv 2) (pa_cons (pe_tup (pa_cons (pe_glob (v := .int 5) rfl C.k_MODE.choose_spec ⟨_, rfl⟩) (pa_cons pe_int pa_nil))) pa_nil))))
        pss_nil)
      (pss_one (ps_ret (pe_call G_exchanged (hr.mono (by decide)) rfl T_exchanged.m T_exchanged.F.kp T_exchanged.b .nil pass0 (pa_cons (pv 0) (pa_cons (pv 2) pa_nil)))))))), ?_⟩
    refine ⟨_, rfl, _, rfl, t, st, word, rfl, ht, hl, fun H1 s1 => ⟨two, fun p1 h1 => ?_⟩⟩
    have y1 := s1.trans (Same.put (o := .tup [V.int 0, V.int (stA st word)]) h1)
    refine ⟨_, rfl, t, st, rfl, y1 _ _ ht, hl, fun H2 s2 => ⟨two, fun p2 h2 => ?_⟩⟩
    have z2 := s2.trans (Same.put (o := .tup [V.int 1, V.int (stX st)]) h2)
    have y2 := y1.trans z2
    refine ⟨_, rfl, t, st, rfl, y2 _ _ ht, hl, fun H3 s3 => ⟨two, fun p3 h3 => ?_⟩⟩
    have z3 := s3.trans (Same.put (o := .tup [V.int 2, V.int (stP st)]) h3)
    have y3 := y2.trans z3
    refine ⟨two, fun p4 h4 => ?_⟩
    have z4 := Same.put (o := .tup [V.int 4, V.int 0]) h4
    refine ⟨by show 4 ≤ sizeLine; omega, fun l hll => ?_⟩
    have z5 := Same.put (o := .lst [V.ref p1, V.ref p2, V.ref p3, V.ref p4]) hll
    have hHl : H l = none := (y3.trans z4).free hll
    have y5 := y3.trans (z4.trans z5)
    have hP : Paired (GateAt (upd (upd (upd H3 p3 (.tup [V.int 2, V.int (stP st)])) p4 (.tup [V.int 4, V.int 0])) l (.lst [V.ref p1, V.ref p2, V.ref p3, V.ref p4]))) [V.ref p1, V.ref p2, V.ref p3, V.ref p4] [(0, stA st word), (1, stX st), (2, stP st), (4, 0)] :=
      .cons ⟨p1, rfl, (z2.trans (z3.trans (z4.trans z5))) _ _ upd_same⟩ (.cons ⟨p2, rfl, (z3.trans (z4.trans z5)) _ _ upd_same⟩ (.cons ⟨p3, rfl, (z4.trans z5) _ _ upd_same⟩ (.cons ⟨p4, rfl, z5 _ _ upd_same⟩ .nil)))
    have el : (upd (upd (upd H3 p3 (.tup [V.int 2, V.int (stP st)])) p4 (.tup [V.int 4, V.int 0])) l (.lst [V.ref p1, V.ref p2, V.ref p3, V.ref p4])) l = some (.lst [V.ref p1, V.ref p2, V.ref p3, V.ref p4]) := upd_same
    generalize (upd (upd (upd H3 p3 (.tup [V.int 2, V.int (stP st)])) p4 (.tup [V.int 4, V.int 0])) l (.lst [V.ref p1, V.ref p2, V.ref p3, V.ref p4])) = H5 at hP el y5 z5 ⊢
    have four : ∀ c ∈ [(0, stA st word), (1, stX st), (2, stP st), (4, (0 : Int))], (0 : Int) ≤ c.1 ∧ c.1 < 15 := by
      intro c hc
      simp only [List.mem_cons, List.not_mem_nil, or_false] at hc
      rcases hc with rfl | rfl | rfl | rfl <;> simp
    refine ⟨_, rfl, t, st, rfl, y5 _ _ ht, hl, fun H6 s6 => ?_⟩
    have y6 := y5.trans s6
    by_cases e14 : stOp st = 14
    · refine ⟨rfl, _, rfl, itP e14 ?_⟩
      refine ⟨_, rfl, .inl ⟨rfl, _, SqL.of (s6 _ _ el)⟩, _, rfl, t, st, rfl, y6 _ _ ht, hl, fun l2 H7 us hl2 s7 el2 hP2 => ?_⟩
      have lu := hP2.length
      have lo := ocS_len (st := st)
      have el7 := s7 _ _ (s6 _ _ el)
      refine ⟨l, l2, _, us, rfl, rfl, el7, el2, by show 4 + us.length ≤ sizeLine; omega, ?_⟩
      have y7 : Same H (upd H7 l (.lst ([V.ref p1, V.ref p2, V.ref p3, V.ref p4] ++ us))) := Kl.same (y6.trans s7) hHl Kl.one
      have hP7 : Paired (GateAt (upd H7 l (.lst ([V.ref p1, V.ref p2, V.ref p3, V.ref p4] ++ us)))) ([V.ref p1, V.ref p2, V.ref p3, V.ref p4] ++ us) ([(0, stA st word), (1, stX st), (2, stP st), (4, 0)] ++ ocS st) :=
        gU el7 (pCat (gS s7 (gS s6 hP)) hP2)
      refine ⟨_, rfl, t, st, rfl, y7 _ _ ht, hl, fun H8 s8 => ⟨rfl, _, rfl, itN (by omega) ?_⟩⟩
      refine ⟨_, rfl, _, rfl, t, l, st, _, _, rfl, (y7.trans s8) _ _ ht, hl, s8 _ _ upd_same, gS s8 hP7, fun c hc => ?_, fun t' H9 ht' s9 e9 => ?_⟩
      · rcases List.mem_append.mp hc with hc | hc
        · exact four c hc
        · exact ocS_ok c hc
      · refine q t' H9 ((y7.trans s8).free ht') ((y7.trans s8).trans s9) ?_
        rw [show rdS st word = exS st ([(0, stA st word), (1, stX st), (2, stP st), (4, 0)] ++ ocS st) from by unfold rdS; rw [if_pos e14, if_neg (by omega), List.append_nil]]
        exact e9
    · refine ⟨rfl, _, rfl, itN e14 ?_⟩
      refine ⟨_, rfl, t, st, rfl, y6 _ _ ht, hl, fun H7 s7 => ?_⟩
      have y7 := y6.trans s7
      have el7 := s7 _ _ (s6 _ _ el)
      by_cases e15 : stOp st = 15
      · refine ⟨rfl, _, rfl, itP e15 ?_⟩
        refine ⟨_, rfl, .inl ⟨rfl, _, SqL.of el7⟩, two, fun p5 h5 => ?_⟩
        have z8 := Same.put (o := .tup [V.int 5, V.int 1]) h5
        have el8 := z8 _ _ el7
        refine ⟨l, _, _, rfl, rfl, el8, by show 4 < sizeLine; omega, ?_⟩
        have y8 := Kl.same (y7.trans z8) hHl (Kl.one (o := .lst ([V.ref p1, V.ref p2, V.ref p3, V.ref p4] ++ [V.ref p5])))
        refine ⟨_, rfl, _, rfl, t, l, st, _, [(0, stA st word), (1, stX st), (2, stP st), (4, 0)] ++ [(5, 1)], rfl, y8 _ _ ht, hl, upd_same, gU el8 (pCat (gS z8 (gS s7 (gS s6 hP))) (.cons ⟨p5, rfl, upd_same⟩ .nil)), fun c hc => ?_, fun t' H9 ht' s9 e9 => ?_⟩
        · rcases List.mem_append.mp hc with hc | hc
          · exact four c hc
          · simp only [List.mem_singleton] at hc
            subst hc; exact ⟨by decide, by decide⟩
        · refine q t' H9 (y8.free ht') (y8.trans s9) ?_
          rw [show rdS st word = exS st ([(0, stA st word), (1, stX st), (2, stP st), (4, 0)] ++ [(5, 1)]) from by unfold rdS; rw [if_neg e14, if_pos e15, List.append_nil]]
          exact e9
      · refine ⟨rfl, _, rfl, itN e15 ?_⟩
        refine ⟨_, rfl, _, rfl, t, l, st, _, _, rfl, y7 _ _ ht, hl, el7, gS s7 (gS s6 hP), four, fun t' H9 ht' s9 e9 => ?_⟩
        refine q t' H9 (y7.free ht') (y7.trans s9) ?_
        rw [show rdS st word = exS st [(0, stA st word), (1, stX st), (2, stP st), (4, 0)] from by unfold rdS; rw [if_neg e14, if_neg e15, List.append_nil, List.append_nil]]
        exact e9
theorem sc_beat_of : FnScope ["state", "word", "cause", "after"] ["state", "word"] (defScope s_beat_of) := ⟨rfl, rfl, rfl, by decide +kernel, rfl, by decide +kernel, by decide +kernel⟩
theorem ok_beat_of {f f0 f1 f2 f3 f4 f5 f6 f7 f8 f9 f10 f11 f12 f13 f14 f15 f16 f17 f18 f19 f20 f21 : Addr} {fd d0 d1 d2 d3 d4 d5 d6 d7 d8 d9 d10 d11 d12 d13 d14 d15 d16 d17 d18 d19 d20 d21 : FuncData} (F : Fun K "beat_of" "beat_of" s_beat_of f fd) (T : Bt mg) (C : Ct K mg)
    (T_op_of : Fn K mg "op_of" s_op_of ["state"] f1 d1) (T_number_of : Fn K mg "number_of" s_number_of ["state"] f2 d2) (T_reaching_ops : Fn K mg "reaching_ops" s_reaching_ops [] f3 d3) (T_parts_read_by_own : Fn K mg "parts_read_by_own" s_parts_read_by_own [] f4 d4) (T_parts_set_by_own : Fn K mg "parts_set_by_own" s_parts_set_by_own [] f5 d5)
    (T_place_within : Fn K mg "place_within" s_place_within ["state"] f0 d0) (T_is_barred : Fn K mg "is_barred" s_is_barred ["state"] f13 d13)
    (T_exchanged : Fn K mg "exchanged" s_exchanged ["state", "changes"] f6 d6) (T_trapped : Fn K mg "trapped" s_trapped ["state", "cause", "place"] f14 d14) (T_fetch : Fn K mg "fetch" s_fetch ["state", "word"] f15 d15) (T_cause_of : Fn K mg "cause_of" s_cause_of ["state"] f16 d16) (T_row_trapped : Fn K mg "row_trapped" s_row_trapped ["state", "cause"] f17 d17)
    (T_a_by_exchange : Fn K mg "a_by_exchange" s_a_by_exchange ["state"] f7 d7) (T_new_a : Fn K mg "new_a" s_new_a ["state", "word"] f8 d8) (T_new_x : Fn K mg "new_x" s_new_x ["state"] f9 d9) (T_leaps : Fn K mg "leaps" s_leaps ["state"] f10 d10) (T_new_p : Fn K mg "new_p" s_new_p ["state"] f11 d11) (T_own_changes : Fn K mg "own_changes" s_own_changes ["state"] f12 d12)
    (T_row_done : Fn K mg "row_done" s_row_done ["state", "word"] f18 d18) (T_bell_counted : Fn K mg "bell_counted" s_bell_counted ["state"] f19 d19) (T_written : Fn K mg "written" s_written ["state"] f20 d20) (T_told_word : Fn K mg "told_word" s_told_word ["state"] f21 d21) :
    FnOk P w K mg base CX0 5 f fd ["state", "word"] sp_beat := by
  have G_fetch := ok_fetch (P := P) (w := w) (base := base) T_fetch.F T C T_op_of T_number_of T_place_within T_is_barred T_exchanged T_trapped
  have G_cause_of := ok_cause_of (P := P) (w := w) (base := base) T_cause_of.F C T_op_of T_number_of T_place_within T_is_barred T_reaching_ops
  have G_row_trapped := ok_row_trapped (P := P) (w := w) (base := base) T_row_trapped.F T C T_number_of T_exchanged T_trapped
  have G_row_done := ok_row_done (P := P) (w := w) (base := base) T_row_done.F T C T_op_of T_number_of T_parts_read_by_own T_parts_set_by_own T_exchanged T_a_by_exchange T_new_a T_new_x T_leaps T_new_p T_own_changes
  have G_bell_counted := ok_bell_counted (P := P) (w := w) (base := base) T_bell_counted.F T C T_exchanged T_trapped
  have G_written := ok_written (P := P) (w := w) (base := base) T_written.F C T_op_of
  have G_told_word := ok_told_word (P := P) (w := w) (base := base) T_told_word.F C T_op_of T_number_of
  refine F.ok sc_beat_of (fun vs H Q E h => ?_) (fun cdv A outer s H vs Q E hr h => ?_)
  · obtain ⟨t, st, word, rfl, _⟩ := h; rfl
  · obtain ⟨t, st, word, rfl, ht, hl, q⟩ := h
    have hs : sizeLine = 16777216 := sizeLine_eq
    have three : 3 ≤ sizeLine := by omega
    refine ⟨_, (pss_cons (ps_if (pt_cmpR op_eq (pe_ix ix_tup (pv 0) (pe_glob (v := .int 14) rfl C.k_HALTED.choose_spec ⟨_, rfl⟩) (fun _ _ => rfl)) pe_int (nomark _))
        (pss_one (ps_ret (pe_tup (pa_cons (pv 0) (pa_cons pe_non (pa_cons pe_non pa_nil))))))
        pss_nil)
      (pss_cons (ps_if (pt_cmpR op_eq (pe_ix ix_tup (pv 0) (pe_glob (v := .int 4) rfl C.k_FETCHED.choose_spec ⟨_, rfl⟩) (fun _ _ => rfl)) pe_int (nomark _))
        (pss_one (ps_ret (pe_tup (pa_cons (pe_call G_fetch (hr.mono (by decide)) rfl T_fetch.m T_fetch.F.kp T_fetch.b .nil pass0 (pa_cons (pv 0) (pa_cons (pv 1) pa_nil))) (pa_cons pe_non (pa_cons pe_non pa_nil))))))
        pss_nil)
      (pss_cons (ps_set (i := 2) sc_beat_of.nd rfl (Or.inl rfl) (pe_call G_cause_of (hr.mono (by decide)) rfl T_cause_of.m T_cause_of.F.kp T_cause_of.b .nil pass0 (pa_cons (pv 0) pa_nil)))
      (pss_cons (ps_if (pt_cmpR op_ne (pv 2) pe_int (nomark _))
        (pss_one (ps_ret (pe_tup (pa_cons (pe_call G_row_trapped (hr.mono (by decide)) rfl T_row_trapped.m T_row_trapped.F.kp T_row_trapped.b .nil pass0 (pa_cons (pv 0) (pa_cons (pv 2) pa_nil))) (pa_cons pe_non (pa_cons pe_non pa_nil))))))
        pss_nil)
      (pss_cons (ps_set (i := 3) sc_beat_of.nd rfl (Or.inl rfl) (pe_call G_row_done (hr.mono (by decide)) rfl T_row_done.m T_row_done.F.kp T_row_done.b .nil pass0 (pa_cons (pv 0) (pa_cons (pv 1) pa_nil))))
      (pss_cons (ps_if (pt_cmpR op_eq (pe_ix ix_tup (pv 0) (pe_glob (v := .int 5) rfl C.k_MODE.choose_spec ⟨_, rfl⟩) (fun _ _ => rfl)) pe_int (nomark _))
        (pss_one (ps_set (i := 3) sc_beat_of.nd rfl (Or.inl rfl) (pe_call G_bell_counted (hr.mono (by decide)) rfl T_bell_counted.m T_bell_counted.F.kp T_bell_counted.b .nil pass0 (pa_cons (pv 3) pa_nil))))
        pss_nil)
      (pss_one (ps_ret (pe_tup (pa_cons (pv 3) (pa_cons (pe_call G_written (hr.mono (by decide)) rfl T_written.m T_written.F.kp T_written.b .nil pass0 (pa_cons (pv 0) pa_nil)) (pa_cons (pe_call G_told_word (hr.mono (by decide)) rfl T_told_word.m T_told_word.F.kp T_told_word.b .nil pass0 (pa_cons (pv 0) pa_nil)) pa_nil)))))))))))), ?_⟩
    refine ⟨_, rfl, t, _, _, _, rfl, rfl, SqT.of ht, atI_getD (i := 14) (by omega), rfl, _, rfl, itI (fun e => ?_) (fun eh => ?_)⟩
    · refine ⟨_, rfl, three, fun p hp => q p t _ hp (Same.put hp) ?_ ?_⟩
      · rw [show btW st = .non from if_pos e, show btT st = .non from if_pos e]; exact upd_same
      · rw [show btS st word = st from if_pos e]; exact Same.put hp _ _ ht
    refine ⟨_, rfl, t, _, _, _, rfl, rfl, SqT.of ht, atI_getD (i := 4) (by omega), rfl, _, rfl, itI (fun e => ?_) (fun ef => ?_)⟩
    · refine ⟨_, rfl, _, rfl, t, st, word, rfl, ht, hl, fun t' H1 ht' s1 e1 => ⟨three, fun p hp => ?_⟩⟩
      refine q p t' _ (s1.free hp) (s1.trans (Same.put hp)) ?_ ?_
      · rw [show btW st = .non from by unfold btW; rw [if_neg eh, if_pos e], show btT st = .non from by unfold btT; rw [if_neg eh, if_pos e]]; exact upd_same
      · rw [show btS st word = feS st word from by unfold btS; rw [if_neg eh, if_pos e]]; exact Same.put hp _ _ e1
    refine ⟨_, rfl, t, st, rfl, ht, hl, fun H1 s1 => ?_⟩
    have ht1 := s1 _ _ ht
    by_cases ec : stCause st = 0
    · refine ⟨_, rfl, rfl, _, rfl, iteNS (congrArg V.int ec) ?_⟩
      have eW : btW st = stWritten st := by unfold btW; rw [if_neg eh, if_neg ef, if_neg (fun z => z ec)]
      have eT : btT st = stTold st := by unfold btT; rw [if_neg eh, if_neg ef, if_neg (fun z => z ec)]
      refine ⟨_, rfl, _, rfl, t, st, word, rfl, ht1, hl, fun t2 H2 ht2 s2 e2 => ?_⟩
      have s12 := s1.trans s2
      have l2 : (rdS st word).length = 15 := by unfold rdS; rw [exS_len]; exact hl
      have fin : ∀ (t3 : Addr) (H3 : Hp), Same H H3 → H3 t3 = some (.tup ((btS st word).map V.int)) → ∀ (H4 : Hp), Same H3 H4 → ∀ (H5 : Hp), Same H4 H5 → ∀ p, H5 p = none → Q (.ref p) (upd H5 p (.tup [V.ref t3, stWritten st, stTold st])) := fun t3 H3 a3 e3 H4 a4 H5 a5 p hp => by
        refine q p t3 _ ((a3.trans (a4.trans a5)).free hp) ((a3.trans (a4.trans a5)).trans (Same.put hp)) ?_ ?_
        · rw [eW, eT]; exact upd_same
        · exact Same.put hp _ _ ((a4.trans a5) _ _ e3)
      refine ⟨_, rfl, t, _, _, _, rfl, rfl, SqT.of (s2 _ _ ht1), atI_getD (i := 5) (by omega), rfl, _, rfl, itI (fun em => ?_) (fun em => ?_)⟩
      · refine ⟨_, rfl, t2, _, rfl, e2, l2, fun t3 H3 s3 e3 => ?_⟩
        have a3 := s12.trans s3
        rw [show beS (rdS st word) = btS st word from by unfold btS; rw [if_neg eh, if_neg ef, if_neg (fun z => z ec), if_pos em]] at e3
        exact ⟨_, rfl, _, rfl, t, st, rfl, a3 _ _ ht, hl, fun H4 s4 => ⟨_, rfl, t, st, rfl, (a3.trans s4) _ _ ht, hl, fun H5 s5 => ⟨three, fun p hp => fin t3 H3 a3 e3 H4 s4 H5 s5 p hp⟩⟩⟩
      · rw [show rdS st word = btS st word from by unfold btS; rw [if_neg eh, if_neg ef, if_neg (fun z => z ec), if_neg em]] at e2
        exact ⟨_, rfl, _, rfl, t, st, rfl, s12 _ _ ht, hl, fun H4 s4 => ⟨_, rfl, t, st, rfl, (s12.trans s4) _ _ ht, hl, fun H5 s5 => ⟨three, fun p hp => fin t2 H2 s12 e2 H4 s4 H5 s5 p hp⟩⟩⟩
    · refine ⟨_, rfl, rfl, _, rfl, iteNN (fun z => ec (V.int.inj z)) ?_⟩
      refine ⟨_, rfl, _, rfl, t, st, stCause st, rfl, ht1, hl, fun t' H2 ht' s2 e2 => ⟨three, fun p hp => ?_⟩⟩
      have s12 := s1.trans s2
      refine q p t' _ (s12.free hp) (s12.trans (Same.put hp)) ?_ ?_
      · rw [show btW st = .non from by unfold btW; rw [if_neg eh, if_neg ef, if_pos ec], show btT st = .non from by unfold btT; rw [if_neg eh, if_neg ef, if_pos ec]]; exact upd_same
      · rw [show btS st word = rtS st (stCause st) from by unfold btS; rw [if_neg eh, if_neg ef, if_pos ec]]; exact Same.put hp _ _ e2
end
/-! ### what stands at a place behind exchanges -/
def exV (chs : List (Int × Int)) (k : Nat) (d : Int) : Int := chs.foldl (fun v c => if c.1.toNat = k then c.2 else v) d
theorem exS_get : ∀ (chs : List (Int × Int)) (st : List Int) (k : Nat), st.length = 15 → (∀ c ∈ chs, 0 ≤ c.1 ∧ c.1 < 15) → (exS st chs).getD k 0 = exV chs k (st.getD k 0)
  | [], st, k, _, _ => rfl
  | c :: r, st, k, hl, h => by
    have h1 := h c List.mem_cons_self
    have e := exS_get r (st.set c.1.toNat c.2) k (by rw [List.length_set]; exact hl) (fun d hd => h d (List.mem_cons_of_mem _ hd))
    rw [getD_set (by omega)] at e
    exact e
theorem trS_get {st : List Int} (hl : st.length = 15) (c p : Int) (k : Nat) : (trS st c p).getD k 0 = exV [(9, st.getD 0 0), (10, st.getD 1 0), (11, p % 4096), (12, c), (5, 0), (2, 0), (4, 0)] k (st.getD k 0) := exS_get _ _ _ hl (by simp)
theorem trS_len {st : List Int} (hl : st.length = 15) (c p : Int) : (trS st c p).length = 15 := by unfold trS; rw [exS_len]; exact hl
end K21

set_option Elab.async false
set_option linter.all false
set_option maxRecDepth 100000
set_option maxHeartbeats 4000000
namespace K21
open PySem L2
def names15 : List Str := ["a", "x", "p", "i", "f", "m", "b", "l", "t", "sa", "sx", "sp", "c", "n", "h"]
def kv (st : List Int) : List (Key × V) := (names15.zip st).map fun p => (Sum.inr p.1, V.int p.2)
theorem body_names : ∃ es p1 p2, defBody s_law_names = [.Return (some (.List es p1)) p2] ∧ litsV es = some (names15.map V.str) := ⟨_, _, _, rfl, by decide +kernel⟩
theorem names_apart : ∀ i : Nat, i < 15 → ∀ j : Nat, j < i → names15[j]? ≠ names15[i]? := by decide +kernel
theorem kv_get {st : List Int} (h : st.length = 15) {i : Nat} (hi : i < 15) : ∃ nm, names15[i]? = some nm ∧ (kv st)[i]? = some (Sum.inr nm, V.int (st.getD i 0)) := by
  have h1 : i < names15.length := hi
  refine ⟨names15[i], List.getElem?_eq_getElem h1, ?_⟩
  unfold kv
  have hz : (names15.zip st)[i]? = some (names15[i], st.getD i 0) := by
    rw [List.getElem?_zip_eq_some]
    exact ⟨List.getElem?_eq_getElem h1, by rw [List.getD_eq_getElem?_getD, List.getElem?_eq_getElem (by omega)]; rfl⟩
  rw [List.getElem?_map, hz]; rfl
theorem kv_len {st : List Int} (h : st.length = 15) : (kv st).length = 15 := by
  unfold kv
  rw [List.length_map, List.length_zip, h]; rfl
theorem kv_ne {st : List Int} (h : st.length = 15) {i j : Nat} (hi : i < 15) (hj : j < i) {nm : Str} (hn : names15[i]? = some nm) {p : Key × V} (hp : (kv st)[j]? = some p) : p.1 ≠ Sum.inr nm := by
  obtain ⟨nj, h1, h2⟩ := kv_get h (show j < 15 by omega)
  rw [h2] at hp
  cases hp
  intro z
  have : nj = nm := Sum.inr.inj z
  exact names_apart i hi j hj (by rw [h1, hn, this])
theorem valV_none {kvs : List (Key × V)} {k : Key} (h : ∀ p ∈ kvs, p.1 ≠ k) : valV kvs k = none := by
  unfold valV
  rw [List.find?_eq_none.mpr fun p hp => by simpa using h p hp]; rfl
theorem valV_at : ∀ {kvs : List (Key × V)} {j : Nat} {k : Key} {v : V}, kvs[j]? = some (k, v) → (∀ i < j, ∀ p, kvs[i]? = some p → p.1 ≠ k) → valV kvs k = some v
  | [], _, _, _, h, _ => by simp at h
  | q :: r, 0, k, v, h, _ => by
    have e : q = (k, v) := Option.some.inj h
    subst e
    exact valV_pos rfl
  | q :: r, j + 1, k, v, h, hd => by
    rw [valV_neg (hd 0 (by omega) q rfl)]
    exact valV_at (j := j) (by simpa using h) fun i hi p hp => hd (i + 1) (by omega) p (by simpa using hp)
theorem dget {H : Hp} {d : Addr} {st : List Int} (h : st.length = 15) (e : H d = some (.dK (kv st))) (j : Nat) (hj : j < 15) (nm : Str) (hn : names15[j]? = some nm) : DGet H d (.str nm) (some (.int (st.getD j 0))) := by
  obtain ⟨n', h1, h2⟩ := kv_get h hj
  rw [hn] at h1
  cases h1
  have hv := valV_at h2 fun i hi p hp => kv_ne h hj hi hn hp
  rw [← hv]
  exact DGet.k (k := Sum.inr nm) e
def sp_names : Sp := fun vs H Q _ => vs = [] ∧ ∀ (l : Addr), H l = none → Q (.ref l) (upd H l (.lst (names15.map V.str)))
def sp_read : Sp := fun vs H Q _ => ∃ (t : Addr) (st : List Int), vs = [.ref t] ∧ H t = some (.tup (st.map V.int)) ∧ st.length = 15 ∧ ∀ (d : Addr) (H' : Hp), H d = none → Same H H' → H' d = some (.dK (kv st)) → Q (.ref d) H'
def sp_wants : Sp := fun vs H Q _ => ∃ (d : Addr) (st : List Int), vs = [.ref d] ∧ H d = some (.dK (kv st)) ∧ st.length = 15 ∧ Q (.int (stPlace st)) H
section
variable {P : Program} {w : World} {K : PySem.W.Frag} {mg : Str → Option Value} {base : Heap}
theorem sc_law_names : FnScope [] [] (defScope s_law_names) := ⟨rfl, rfl, rfl, by decide +kernel, rfl, by decide +kernel, by decide +kernel⟩
theorem ok_law_names {f : Addr} {fd : FuncData} (F : Fun K "_law_names" "_law_names" s_law_names f fd) : FnOk P w K mg base CX0 1 f fd [] sp_names := by
  refine F.ok sc_law_names (fun vs H Q E h => ?_) (fun cdv A outer s H vs Q E hr h => ?_)
  · obtain ⟨rfl, _⟩ := h; rfl
  · obtain ⟨rfl, q⟩ := h
    have hs : sizeLine = 16777216 := sizeLine_eq
    obtain ⟨es, p1, p2, hb, hl⟩ := body_names
    rw [hb]
    refine ⟨_, pss_one (ps_ret (pe_lst (pa_lits hl))), ?_⟩
    have l15 : (names15.map V.str).length ≤ sizeLine := by rw [List.length_map]; show 15 ≤ sizeLine; omega
    exact ⟨l15, fun l hl => q l hl⟩
theorem sc_law_read : FnScope ["_law_state", "_law_found", "_law_name", "_law_number"] ["_law_state"] (defScope s_law_read) := ⟨rfl, rfl, rfl, by decide +kernel, rfl, by decide +kernel, by decide +kernel⟩
theorem ok_law_read {f f1 : Addr} {fd d1 : FuncData} (F : Fun K "_law_read" "_law_read" s_law_read f fd) (T : Bt mg) (T_law_names : Fn K mg "_law_names" s_law_names [] f1 d1) : FnOk P w K mg base CX0 2 f fd ["_law_state"] sp_read := by
  have G_law_names := ok_law_names (P := P) (w := w) (mg := mg) (base := base) T_law_names.F
  refine F.ok sc_law_read (fun vs H Q E h => ?_) (fun cdv A outer s H vs Q E hr h => ?_)
  · obtain ⟨t, st, rfl, _⟩ := h; rfl
  · obtain ⟨t, st, rfl, ht, hl, q⟩ := h
    have hs : sizeLine = 16777216 := sizeLine_eq
    refine ⟨_, (pss_cons (ps_set (i := 1) sc_law_read.nd rfl (Or.inl rfl) pe_dnewK)
      (pss_cons (ps_for PassesOwn.never rfl (pi_zipT (K := K) rfl T.b_zip (pa_cons (pe_call0 G_law_names (hr.mono (by decide)) rfl T_law_names.m T_law_names.F.kp T_law_names.b .nil pass0) (pa_cons (pv 0) pa_nil))) (pg_tup rfl (pgs_cons (pg_name (i := 2) sc_law_read.nd rfl (Or.inl rfl)) (pgs_cons (pg_name (i := 3) sc_law_read.nd rfl (Or.inl rfl)) pgs_nil)))
        (pss_one (ps_dput (hu_of hr) (pv 1) (pv 2) (pv 3) rfl)))
      (pss_one (ps_ret (pv 1))))), ?_⟩
    intro d hd
    have y0 := Same.put (o := .dK []) hd
    refine ⟨rfl, fun nl hnl => ?_⟩
    have y1 := Same.put (o := .lst (names15.map V.str)) hnl
    have y01 := y0.trans y1
    have enl : upd (upd H d (.dK [])) nl (.lst (names15.map V.str)) nl = some (.lst (names15.map V.str)) := upd_same
    have ed : upd (upd H d (.dK [])) nl (.lst (names15.map V.str)) d = some (.dK []) := y1 _ _ upd_same
    have nd : nl ≠ d := (ne_of_none upd_same hnl).symm
    generalize upd (upd H d (.dK [])) nl (.lst (names15.map V.str)) = H1 at y1 y01 enl ed ⊢
    refine ⟨_, rfl, nl, t, rfl, ⟨_, SqL.of enl⟩, ⟨_, SqT.of (y01 _ _ ht)⟩, for_zipT (K := K) (a := nl) (b := t) (xs := names15.map V.str) (ys := st.map V.int) (fun i σ H2 => ∃ v2 v3 : Option V, σ = [some (.ref t), some (.ref d), v2, v3] ∧ Same H H2 ∧ H2 nl = some (.lst (names15.map V.str)) ∧ H2 d = some (.dK ((kv st).take i)))
      ⟨none, none, rfl, y01, enl, ed⟩ (fun i σ H2 ⟨_, _, _, s2, e2, _⟩ => ⟨SqL.of e2, SqT.of (s2 _ _ ht)⟩) (by rw [List.length_map, List.length_map, hl]; rfl) ?_ ?_⟩
    · rintro i x y σ H2 Tt hx hy ⟨v2, v3, rfl, s2, en2, ed2⟩ hT
      have hi : i < 15 := by
        have := (List.getElem?_eq_some_iff.mp hy).1
        rw [List.length_map] at this; omega
      obtain ⟨nm, hn, hk⟩ := kv_get hl hi
      obtain rfl : x = V.str nm := by
        rw [List.getElem?_map, hn] at hx
        exact (Option.some.inj hx).symm
      obtain rfl : y = V.int (st.getD i 0) := by
        rw [List.getElem?_map, List.getElem?_eq_getElem (by omega)] at hy
        rw [← Option.some.inj hy, List.getD_eq_getElem?_getD, List.getElem?_eq_getElem (by omega)]; rfl
      have sT := Same.put (o := .tup [V.str nm, V.int (st.getD i 0)]) hT
      refine ⟨Tt, _, rfl, SqT.of upd_same, rfl, _, _, rfl, _, _, rfl, rfl, ?_⟩
      have lk : ((kv st).take i).length < sizeLine := by rw [List.length_take, kv_len hl]; omega
      refine ⟨_, rfl, _, rfl, _, rfl, d, _, rfl, DPut.k (k := Sum.inr nm) (sT _ _ ed2) lk, ?_⟩
      have hv : valV ((kv st).take i) (Sum.inr nm) = none := valV_none fun p hp => by
        obtain ⟨j, hj⟩ := List.getElem?_of_mem hp
        have hji : j < i := by
          have := (List.getElem?_eq_some_iff.mp hj).1
          rw [List.length_take] at this; omega
        rw [List.getElem?_take_of_lt hji] at hj
        exact kv_ne hl hi hji hn hj
      rw [putK_new _ hv]
      have e1 : (kv st).take i ++ [(Sum.inr nm, V.int (st.getD i 0))] = (kv st).take (i + 1) := by rw [List.take_add_one, hk]; rfl
      rw [e1]
      refine ⟨_, _, rfl, fun b o e => ?_, ?_, upd_same⟩
      · rw [upd_ne (ne_of_none e hd)]; exact sT _ _ (s2 _ _ e)
      · rw [upd_ne nd]; exact sT _ _ en2
    · rintro σ H2 ⟨v2, v3, rfl, s2, en2, ed2⟩
      rw [List.length_map, List.take_of_length_le (by rw [kv_len hl]; exact Nat.le_refl _)] at ed2
      exact ⟨_, rfl, q d H2 hd s2 ed2⟩
theorem sc_law_wants : FnScope ["_law_s"] ["_law_s"] (defScope s_law_wants) := ⟨rfl, rfl, rfl, by decide +kernel, rfl, by decide +kernel, by decide +kernel⟩
theorem ok_law_wants {f : Addr} {fd : FuncData} (F : Fun K "_law_wants" "_law_wants" s_law_wants f fd) : FnOk P w K mg base CX0 1 f fd ["_law_s"] sp_wants := by
  refine F.ok sc_law_wants (fun vs H Q E h => ?_) (fun cdv A outer s H vs Q E hr h => ?_)
  · obtain ⟨d, st, rfl, _⟩ := h; rfl
  · obtain ⟨d, st, rfl, ed, hl, q⟩ := h
    have gf := dget hl ed 4 (by decide) "f" (by decide +kernel)
    have gp := dget hl ed 2 (by decide) "p" (by decide +kernel)
    have gi := dget hl ed 3 (by decide) "i" (by decide +kernel)
    have gx := dget hl ed 1 (by decide) "x" (by decide +kernel)
    unfold stPlace stOp stNum at q
    refine ⟨_, (pss_cons (ps_if (pt_cmpR op_eq (pe_dget (hu_of hr) (pv 0) pe_str (fun _ _ => rfl)) pe_int (nomark _))
        (pss_one (ps_ret (pe_dget (hu_of hr) (pv 0) pe_str (fun _ _ => rfl))))
        pss_nil)
      (pss_cons (ps_if (PW.pt (pw_or (pt_cmpR op_eq (pe_op op_fdiv (pe_dget (hu_of hr) (pv 0) pe_str (fun _ _ => rfl)) pe_int) pe_int (nomark _)) (pw_or1 (pt_cmpR op_eq (pe_op op_fdiv (pe_dget (hu_of hr) (pv 0) pe_str (fun _ _ => rfl)) pe_int) pe_int (nomark _)))))
        (pss_one (ps_ret (pe_op op_mod (pe_op op_add (pe_dget (hu_of hr) (pv 0) pe_str (fun _ _ => rfl)) (pe_op op_mod (pe_dget (hu_of hr) (pv 0) pe_str (fun _ _ => rfl)) pe_int)) pe_int)))
        pss_nil)
      (pss_one (ps_ret (pe_op op_mod (pe_dget (hu_of hr) (pv 0) pe_str (fun _ _ => rfl)) pe_int))))), ?_⟩
    refine ⟨_, rfl, d, _, rfl, gf, rfl, _, rfl, ite2 (fun h => ?_) (fun h => ?_)⟩
    · have e : st.getD 4 0 = 0 := by simpa using h
      rw [if_pos e] at q
      exact ⟨_, rfl, d, _, rfl, gp, q⟩
    have e : ¬ st.getD 4 0 = 0 := by simpa using h
    rw [if_neg e] at q
    have last : st.getD 3 0 / 4096 = 9 ∨ st.getD 3 0 / 4096 = 10 → Q (.int ((st.getD 1 0 + st.getD 3 0 % 4096) % 65536)) H := fun z => by rw [if_pos z] at q; exact q
    refine ⟨_, rfl, d, _, rfl, gi, _, _, rfl, rfl, ⟨by decide, by decide⟩, rfl, _, rfl, ite2 (fun h9 => ?_) (fun h9 => ?_)⟩
    · refine iteT ?_
      have e9 : st.getD 3 0 / 4096 = 9 := by simpa using h9
      exact ⟨_, rfl, d, _, rfl, gx, _, rfl, d, _, rfl, gi, _, _, rfl, rfl, (by show (0 : Int) < 4096; decide), _, _, rfl, rfl, _, _, rfl, rfl, (by show (0 : Int) < 65536; decide), last (.inl e9)⟩
    have e9 : ¬ st.getD 3 0 / 4096 = 9 := by simpa using h9
    refine ⟨_, rfl, d, _, rfl, gi, _, _, rfl, rfl, ⟨by decide, by decide⟩, rfl, _, rfl, ite2 (fun h10 => ?_) (fun h10 => ?_)⟩
    · have e10 : st.getD 3 0 / 4096 = 10 := by simpa using h10
      exact ⟨_, rfl, d, _, rfl, gx, _, rfl, d, _, rfl, gi, _, _, rfl, rfl, (by show (0 : Int) < 4096; decide), _, _, rfl, rfl, _, _, rfl, rfl, (by show (0 : Int) < 65536; decide), last (.inr e10)⟩
    have e10 : ¬ st.getD 3 0 / 4096 = 10 := by simpa using h10
    rw [if_neg fun z => z.elim e9 e10] at q
    exact ⟨_, rfl, d, _, rfl, gi, _, _, rfl, rfl, (by show (0 : Int) < 4096; decide), q⟩
end
end K21

set_option Elab.async false
set_option linter.all false
set_option maxRecDepth 100000
set_option maxHeartbeats 4000000
namespace K21
open PySem L2
/-! ### states as dicts, by names -/
theorem kv_put {st : List Int} (h : st.length = 15) {j : Nat} (hj : j < 15) {nm : Str} (hn : names15[j]? = some nm) (v : Int) : putK (kv st) (Sum.inr nm) (V.int v) = kv (st.set j v) := by
  have hany : ((kv st).any fun kv => decide (kv.1 = Sum.inr nm)) = true := by
    obtain ⟨n', h1, h2⟩ := kv_get h hj
    rw [hn] at h1
    cases h1
    exact List.any_eq_true.mpr ⟨_, List.mem_of_getElem? h2, decide_eq_true rfl⟩
  have hl' : (st.set j v).length = 15 := by rw [List.length_set]; exact h
  unfold putK
  rw [if_pos hany]
  refine List.ext_getElem? fun i => ?_
  by_cases hi : i < 15
  · obtain ⟨n1, a1, a2⟩ := kv_get h hi
    obtain ⟨n2, b1, b2⟩ := kv_get hl' hi
    rw [a1] at b1
    cases b1
    rw [List.getElem?_map, a2, b2, getD_set (by omega)]
    by_cases e : j = i
    · subst e
      rw [hn] at a1
      cases a1
      simp
    · have hne : n1 ≠ nm := fun z => by
        subst z
        rcases Nat.lt_or_gt_of_ne e with g | g
        · exact names_apart i hi j g (by rw [hn, a1])
        · exact names_apart j hj i g (by rw [hn, a1])
      have hne' : ¬ ((Sum.inr n1 : Key) = Sum.inr nm) := fun z => hne (Sum.inr.inj z)
      rw [if_neg e]
      show some (if (Sum.inr n1 : Key) = Sum.inr nm then _ else _) = _
      rw [if_neg hne']
  · rw [List.getElem?_eq_none (by rw [List.length_map, kv_len h]; omega), List.getElem?_eq_none (by rw [kv_len hl']; omega)]
theorem dput {H : Hp} {d : Addr} {st : List Int} (h : st.length = 15) (e : H d = some (.dK (kv st))) (j : Nat) (hj : j < 15) (nm : Str) (hn : names15[j]? = some nm) (v : Int) : DPut H d (.str nm) (.int v) (upd H d (.dK (kv (st.set j v)))) := by
  have hs : sizeLine = 16777216 := sizeLine_eq
  have := DPut.k (k := Sum.inr nm) (v := V.int v) e (by rw [kv_len h]; omega)
  rw [kv_put h hj hn] at this
  exact this
theorem Kl.rf {l : Addr} {H : Hp} : Kl l H H := fun _ _ e _ => e
theorem Kl.put {l : Addr} {H H' : Hp} {o : HO} (k : Kl l H H') : Kl l H (upd H' l o) := fun b o' e n => by rw [upd_ne n]; exact k b o' e n
theorem Kl.tr {l : Addr} {H H1 H2 : Hp} (a : Kl l H H1) (b : Kl l H1 H2) : Kl l H H2 := fun x o e n => b x o (a x o e n) n
theorem Kl.ofSame {l : Addr} {H H' : Hp} (s : Same H H') : Kl l H H' := fun b o e _ => s b o e
theorem ls {r : List Int} {j : Nat} {v : Int} (h : r.length = 15) : (r.set j v).length = 15 := by rw [List.length_set]; exact h
def sp_told : Sp := fun vs H Q _ => ∃ (d : Addr) (st : List Int), vs = [.ref d] ∧ H d = some (.dK (kv st)) ∧ st.length = 15 ∧ ∀ (t : Addr) (H' : Hp), H t = none → Same H H' → H' t = some (.tup (st.map V.int)) → Q (.ref t) H'
def sp_ltr : Sp := fun vs H Q _ => ∃ (d : Addr) (st : List Int) (cause place : Int), vs = [.ref d, .int cause, .int place] ∧ H d = some (.dK (kv st)) ∧ st.length = 15 ∧ ∀ H', Kl d H H' → H' d = some (.dK (kv (trS st cause place))) → Q .non H'
def loS (st : List Int) (k : Int) : List Int := if k < 5 then st.set 0 (st.getD (9 + k).toNat 0) else if k = 5 then st.set 14 1 else if k = 8 then st.set 9 (st.getD 0 0) else if k = 9 then st.set 10 (st.getD 0 0) else if 10 ≤ k ∧ k ≤ 13 then st.set (([11, 6, 7, 8] : List Nat).getD (k - 10).toNat 0) (st.getD 0 0 % 4096) else st
def lmS (st : List Int) (k : Int) : List Int := if k = 0 then st.set 1 (st.getD 0 0) else if k = 1 then st.set 0 (st.getD 1 0) else if k = 2 then st.set 0 (st.getD 0 0 / 2) else st.set 2 (st.getD 0 0 % 4096)
def sp_dk (lo hi : Int) (g : List Int → Int → List Int) : Sp := fun vs H Q _ => ∃ (d : Addr) (st : List Int) (k : Int), vs = [.ref d, .int k] ∧ H d = some (.dK (kv st)) ∧ st.length = 15 ∧ lo ≤ k ∧ k < hi ∧ ∀ H', Kl d H H' → H' d = some (.dK (kv (g st k))) → Q .non H'
theorem at_read {k : Int} (h0 : 0 ≤ k) (h1 : k < 5) : ∃ nm, atI [V.str "sa", V.str "sx", V.str "sp", V.str "c", V.str "n"] k = some (V.str nm) ∧ names15[(9 + k).toNat]? = some nm := by
  have : k = 0 ∨ k = 1 ∨ k = 2 ∨ k = 3 ∨ k = 4 := by omega
  rcases this with rfl | rfl | rfl | rfl | rfl <;> exact ⟨_, rfl, by decide +kernel⟩
theorem at_set {k : Int} (h0 : 10 ≤ k) (h1 : k ≤ 13) : ∃ nm, atI [V.str "sp", V.str "b", V.str "l", V.str "t"] (k - 10) = some (V.str nm) ∧ names15[([11, 6, 7, 8] : List Nat).getD (k - 10).toNat 0]? = some nm ∧ ([11, 6, 7, 8] : List Nat).getD (k - 10).toNat 0 < 15 := by
  have : k = 10 ∨ k = 11 ∨ k = 12 ∨ k = 13 := by omega
  rcases this with rfl | rfl | rfl | rfl <;> exact ⟨_, rfl, by decide +kernel, by decide⟩
section
variable {P : Program} {w : World} {K : PySem.W.Frag} {mg : Str → Option Value} {base : Heap}
theorem sc_law_told_of : FnScope ["_law_s"] ["_law_s"] (defScope s_law_told_of) := ⟨rfl, rfl, rfl, by decide +kernel, rfl, by decide +kernel, by decide +kernel⟩
theorem ok_law_told_of {f f1 : Addr} {fd d1 : FuncData} (F : Fun K "_law_told_of" "_law_told_of" s_law_told_of f fd) (T : Bt mg) (T_law_names : Fn K mg "_law_names" s_law_names [] f1 d1) : FnOk P w K mg base CX0 2 f fd ["_law_s"] sp_told := by
  have G_law_names := ok_law_names (P := P) (w := w) (mg := mg) (base := base) T_law_names.F
  refine F.ok sc_law_told_of (fun vs H Q E h => ?_) (fun cdv A outer s H vs Q E hr h => ?_)
  · obtain ⟨d, st, rfl, _⟩ := h; rfl
  · obtain ⟨d, st, rfl, ed, hl, q⟩ := h
    have hs : sizeLine = 16777216 := sizeLine_eq
    refine ⟨_, (pss_one (ps_ret (pe_callTy call_tuple_of rfl T.b_tuple (by decide +kernel) (pa_cons (pe_comp rfl (blk_of (sc0 := defScope s_law_told_of) (N0 := ["_law_s"]) (N' := ["_law_name", "_law_s"]) (own := 1) (fv := [0]) (by decide +kernel) rfl rfl) (pi_list (pe_call0 G_law_names (hr.mono (by decide)) rfl T_law_names.m T_law_names.F.kp T_law_names.b .nil pass0)) (fun _ _ _ _ => (pg_name (i := 0) (by show List.Nodup (["_law_name", "_law_s"] : List Str); decide +kernel) rfl (Or.inl rfl))) (fun _ _ _ _ => (pe_dget (hu_of hr) (pv 1) (pv 0) (fun _ _ => rfl)))) pa_nil)))), ?_⟩
    refine ⟨rfl, fun nl hnl => ?_⟩
    have y1 := Same.put (o := .lst (names15.map V.str)) hnl
    have enl : upd H nl (.lst (names15.map V.str)) nl = some (.lst (names15.map V.str)) := upd_same
    generalize upd H nl (.lst (names15.map V.str)) = H1 at y1 enl ⊢
    have ed1 := y1 _ _ ed
    refine ⟨nl, rfl, ⟨_, SqL.of enl⟩, comp_inv (K := K) (a := nl) (xs := names15.map V.str) (fvals := [some (.ref d)]) (fun acc i H2 => H1 acc = none ∧ Same H1 H2 ∧ H2 acc = some (.lst ((st.take i).map V.int))) ?_ ?_ ?_ ?_⟩
    · rintro acc i H2 ⟨_, s2, _⟩
      exact SqL.of (s2 _ _ enl)
    · intro acc hacc
      exact ⟨hacc, Same.put hacc, upd_same⟩
    · rintro acc i x H2 R hx ⟨hacc, s2, e2⟩ hR
      have hi : i < 15 := by
        have := (List.getElem?_eq_some_iff.mp hx).1
        rw [List.length_map] at this; exact this
      obtain ⟨nm, hn, hk⟩ := kv_get hl hi
      obtain rfl : x = V.str nm := by
        rw [List.getElem?_map, hn] at hx
        exact (Option.some.inj hx).symm
      refine ⟨_, rfl, _, rfl, d, _, rfl, dget hl (s2 _ _ ed1) i hi nm hn, hR _ _ ⟨_, e2, ?_, hacc, Kl.same s2 hacc Kl.one, ?_⟩⟩
      · rw [List.length_map, List.length_take]; omega
      · rw [upd_same, snoc_int, List.take_add_one, List.getElem?_eq_getElem (by omega : i < st.length), List.getD_eq_getElem?_getD, List.getElem?_eq_getElem (by omega : i < st.length)]
        rfl
    · rintro acc H2 hacc ⟨_, s2, e2⟩
      rw [List.length_map, List.take_of_length_le (by rw [hl]; exact Nat.le_refl _)] at e2
      exact ⟨acc, _, rfl, .inl ⟨SqL.of e2, fun t ht => q t _ ((y1.trans s2).free ht) ((y1.trans s2).trans (Same.put ht)) upd_same⟩⟩
theorem sc_law_trapped : FnScope ["_law_s", "_law_cause", "_law_place"] ["_law_s", "_law_cause", "_law_place"] (defScope s_law_trapped) := ⟨rfl, rfl, rfl, by decide +kernel, rfl, by decide +kernel, by decide +kernel⟩
theorem ok_law_trapped {f : Addr} {fd : FuncData} (F : Fun K "_law_trapped" "_law_trapped" s_law_trapped f fd) : FnOk P w K mg base CX0 1 f fd ["_law_s", "_law_cause", "_law_place"] sp_ltr := by
  refine F.ok sc_law_trapped (fun vs H Q E h => ?_) (fun cdv A outer s H vs Q E hr h => ?_)
  · obtain ⟨d, st, cause, place, rfl, _⟩ := h; rfl
  · obtain ⟨d, st, cause, place, rfl, ed, hl, q⟩ := h
    have p12 : (0 : Int) < 4096 := by decide
    refine ⟨_, (pss_cons (ps_dput (hu_of hr) (pv 0) pe_str (pe_dget (hu_of hr) (pv 0) pe_str (fun _ _ => rfl)) rfl)
      (pss_cons (ps_dput (hu_of hr) (pv 0) pe_str (pe_dget (hu_of hr) (pv 0) pe_str (fun _ _ => rfl)) rfl)
      (pss_cons (ps_dput (hu_of hr) (pv 0) pe_str (pe_op op_mod (pv 2) pe_int) rfl)
      (pss_cons (ps_dput (hu_of hr) (pv 0) pe_str (pv 1) rfl)
      (pss_cons (ps_dput (hu_of hr) (pv 0) pe_str pe_int rfl)
      (pss_cons (ps_dput (hu_of hr) (pv 0) pe_str pe_int rfl)
      (pss_one (ps_dput (hu_of hr) (pv 0) pe_str pe_int rfl)))))))), ?_⟩
    refine ⟨_, rfl, d, _, rfl, dget hl ed 0 (by decide) "a" (by decide +kernel), _, rfl, d, _, rfl, dput hl ed 9 (by decide) "sa" (by decide +kernel) _, ?_⟩
    have l1 := ls (j := 9) (v := st.getD 0 0) hl
    refine ⟨_, rfl, d, _, rfl, dget l1 upd_same 1 (by decide) "x" (by decide +kernel), _, rfl, d, _, rfl, dput l1 upd_same 10 (by decide) "sx" (by decide +kernel) _, ?_⟩
    rw [getD_set (by omega), if_neg (by decide)]
    have l2 := ls (j := 10) (v := st.getD 1 0) l1
    refine ⟨_, rfl, _, _, rfl, rfl, p12, _, rfl, d, _, rfl, dput l2 upd_same 11 (by decide) "sp" (by decide +kernel) _, ?_⟩
    have l3 := ls (j := 11) (v := place % 4096) l2
    refine ⟨_, rfl, _, rfl, d, _, rfl, dput l3 upd_same 12 (by decide) "c" (by decide +kernel) _, ?_⟩
    have l4 := ls (j := 12) (v := cause) l3
    refine ⟨_, rfl, d, _, rfl, dput l4 upd_same 5 (by decide) "m" (by decide +kernel) _, ?_⟩
    have l5 := ls (j := 5) (v := 0) l4
    refine ⟨_, rfl, d, _, rfl, dput l5 upd_same 2 (by decide) "p" (by decide +kernel) _, ?_⟩
    have l6 := ls (j := 2) (v := 0) l5
    refine ⟨_, rfl, d, _, rfl, dput l6 upd_same 4 (by decide) "f" (by decide +kernel) _, ?_⟩
    refine q _ ?_ upd_same
    exact Kl.put (Kl.put (Kl.put (Kl.put (Kl.put (Kl.put (Kl.put Kl.rf))))))
theorem sc_law_own : FnScope ["_law_s", "_law_which"] ["_law_s", "_law_which"] (defScope s_law_own) := ⟨rfl, rfl, rfl, by decide +kernel, rfl, by decide +kernel, by decide +kernel⟩
theorem ok_law_own {f : Addr} {fd : FuncData} (F : Fun K "_law_own" "_law_own" s_law_own f fd) : FnOk P w K mg base CX0 1 f fd ["_law_s", "_law_which"] (sp_dk 0 16 loS) := by
  refine F.ok sc_law_own (fun vs H Q E h => ?_) (fun cdv A outer s H vs Q E hr h => ?_)
  · obtain ⟨d, st, k, rfl, _⟩ := h; rfl
  · obtain ⟨d, st, k, rfl, ed, hl, h0, h16, q⟩ := h
    have hs : sizeLine = 16777216 := sizeLine_eq
    have p12 : (0 : Int) < 4096 := by decide
    refine ⟨_, (pss_cons (ps_if (pt_cmpR op_lt (pv 1) pe_int (nomark _))
        (pss_one (ps_dput (hu_of hr) (pv 0) pe_str (pe_dget (hu_of hr) (pv 0) (pe_ix ix_list (pe_lst (pa_cons pe_str (pa_cons pe_str (pa_cons pe_str (pa_cons pe_str (pa_cons pe_str pa_nil)))))) (pv 1) (fun _ _ => rfl)) (fun _ _ => rfl)) rfl))
        pss_nil)
      (pss_cons (ps_if (pt_cmpR op_eq (pv 1) pe_int (nomark _))
        (pss_one (ps_dput (hu_of hr) (pv 0) pe_str pe_int rfl))
        pss_nil)
      (pss_cons (ps_if (pt_cmpR op_eq (pv 1) pe_int (nomark _))
        (pss_one (ps_dput (hu_of hr) (pv 0) pe_str (pe_dget (hu_of hr) (pv 0) pe_str (fun _ _ => rfl)) rfl))
        pss_nil)
      (pss_cons (ps_if (pt_cmpR op_eq (pv 1) pe_int (nomark _))
        (pss_one (ps_dput (hu_of hr) (pv 0) pe_str (pe_dget (hu_of hr) (pv 0) pe_str (fun _ _ => rfl)) rfl))
        pss_nil)
      (pss_one (ps_if (pt_chain op_le op_le pe_int (pv 1) pe_int)
        (pss_one (ps_dput (hu_of hr) (pv 0) (pe_ix ix_list (pe_lst (pa_cons pe_str (pa_cons pe_str (pa_cons pe_str (pa_cons pe_str pa_nil))))) (pe_op op_sub (pv 1) pe_int) (fun _ _ => rfl)) (pe_op op_mod (pe_dget (hu_of hr) (pv 0) pe_str (fun _ _ => rfl)) pe_int) rfl))
        pss_nil)))))), ?_⟩
    by_cases c5 : k < 5
    · refine ⟨_, rfl, _, _, rfl, rfl, _, rfl, itDP c5 ?_⟩
      obtain ⟨nm, e1, e2⟩ := at_read h0 c5
      refine ⟨_, rfl, by show 5 ≤ sizeLine; omega, fun l hll => ?_⟩
      have y := Same.put (o := .lst [V.str "sa", V.str "sx", V.str "sp", V.str "c", V.str "n"]) hll
      have ed1 := y _ _ ed
      refine ⟨_, rfl, l, [V.str "sa", V.str "sx", V.str "sp", V.str "c", V.str "n"], _, _, rfl, rfl, SqL.of upd_same, e1, d, _, rfl, dget hl ed1 (9 + k).toNat (by omega) nm e2, _, rfl, d, _, rfl, dput hl ed1 0 (by decide) "a" (by decide +kernel) _, ?_⟩
      refine ⟨_, rfl, rfl, _, rfl, itN (by omega) ⟨_, rfl, rfl, _, rfl, itN (by omega) ⟨_, rfl, rfl, _, rfl, itN (by omega) ⟨_, rfl, _, _, rfl, rfl, _, rfl, itDN (by omega) ⟨_, rfl, iteF ?_⟩⟩⟩⟩⟩
      refine q _ ((Kl.ofSame y).put) ?_
      rw [show loS st k = st.set 0 (st.getD (9 + k).toNat 0) from if_pos c5]
      exact upd_same
    refine ⟨_, rfl, _, _, rfl, rfl, _, rfl, itDN c5 ?_⟩
    by_cases e5 : k = 5
    · refine ⟨_, rfl, rfl, _, rfl, itP e5 ⟨_, rfl, d, _, rfl, dput hl ed 14 (by decide) "h" (by decide +kernel) _, ?_⟩⟩
      refine ⟨_, rfl, rfl, _, rfl, itN (by omega) ⟨_, rfl, rfl, _, rfl, itN (by omega) ⟨_, rfl, _, _, rfl, rfl, _, rfl, itDN (by omega) ⟨_, rfl, iteF ?_⟩⟩⟩⟩
      refine q _ (Kl.put Kl.rf) ?_
      rw [show loS st k = st.set 14 1 from by unfold loS; rw [if_neg c5, if_pos e5]]
      exact upd_same
    refine ⟨_, rfl, rfl, _, rfl, itN e5 ?_⟩
    by_cases e8 : k = 8
    · refine ⟨_, rfl, rfl, _, rfl, itP e8 ⟨_, rfl, d, _, rfl, dget hl ed 0 (by decide) "a" (by decide +kernel), _, rfl, d, _, rfl, dput hl ed 9 (by decide) "sa" (by decide +kernel) _, ?_⟩⟩
      refine ⟨_, rfl, rfl, _, rfl, itN (by omega) ⟨_, rfl, _, _, rfl, rfl, _, rfl, itDN (by omega) ⟨_, rfl, iteF ?_⟩⟩⟩
      refine q _ (Kl.put Kl.rf) ?_
      rw [show loS st k = st.set 9 (st.getD 0 0) from by unfold loS; rw [if_neg c5, if_neg e5, if_pos e8]]
      exact upd_same
    refine ⟨_, rfl, rfl, _, rfl, itN e8 ?_⟩
    by_cases e9 : k = 9
    · refine ⟨_, rfl, rfl, _, rfl, itP e9 ⟨_, rfl, d, _, rfl, dget hl ed 0 (by decide) "a" (by decide +kernel), _, rfl, d, _, rfl, dput hl ed 10 (by decide) "sx" (by decide +kernel) _, ?_⟩⟩
      refine ⟨_, rfl, _, _, rfl, rfl, _, rfl, itDN (by omega) ⟨_, rfl, iteF ?_⟩⟩
      refine q _ (Kl.put Kl.rf) ?_
      rw [show loS st k = st.set 10 (st.getD 0 0) from by unfold loS; rw [if_neg c5, if_neg e5, if_neg e8, if_pos e9]]
      exact upd_same
    refine ⟨_, rfl, rfl, _, rfl, itN e9 ?_⟩
    by_cases e10 : 10 ≤ k
    · by_cases e13 : k ≤ 13
      · refine ⟨_, rfl, _, _, rfl, rfl, _, rfl, itDP e10 ⟨_, _, rfl, rfl, _, rfl, itDP e13 ?_⟩⟩
        obtain ⟨nm, e1, e2, e3⟩ := at_set e10 e13
        refine ⟨_, rfl, d, _, rfl, dget hl ed 0 (by decide) "a" (by decide +kernel), _, _, rfl, rfl, p12, _, rfl, by show 4 ≤ sizeLine; omega, fun l hll => ?_⟩
        have y := Same.put (o := .lst [V.str "sp", V.str "b", V.str "l", V.str "t"]) hll
        have ed1 := y _ _ ed
        refine ⟨_, rfl, _, _, rfl, rfl, l, [V.str "sp", V.str "b", V.str "l", V.str "t"], _, _, rfl, rfl, SqL.of upd_same, e1, d, _, rfl, dput hl ed1 _ e3 nm e2 _, ?_⟩
        refine q _ ((Kl.ofSame y).put) ?_
        rw [show loS st k = st.set (([11, 6, 7, 8] : List Nat).getD (k - 10).toNat 0) (st.getD 0 0 % 4096) from by unfold loS; rw [if_neg c5, if_neg e5, if_neg e8, if_neg e9, if_pos ⟨e10, e13⟩]]
        exact upd_same
      · refine ⟨_, rfl, _, _, rfl, rfl, _, rfl, itDP e10 ⟨_, _, rfl, rfl, _, rfl, itDN e13 ?_⟩⟩
        refine q _ Kl.rf ?_
        rw [show loS st k = st from by unfold loS; rw [if_neg c5, if_neg e5, if_neg e8, if_neg e9, if_neg fun z => e13 z.2]]
        exact ed
    · refine ⟨_, rfl, _, _, rfl, rfl, _, rfl, itDN e10 ⟨_, rfl, iteF ?_⟩⟩
      refine q _ Kl.rf ?_
      rw [show loS st k = st from by unfold loS; rw [if_neg c5, if_neg e5, if_neg e8, if_neg e9, if_neg fun z => e10 z.1]]
      exact ed
theorem sc_law_moved : FnScope ["_law_s", "_law_which"] ["_law_s", "_law_which"] (defScope s_law_moved) := ⟨rfl, rfl, rfl, by decide +kernel, rfl, by decide +kernel, by decide +kernel⟩
theorem ok_law_moved {f : Addr} {fd : FuncData} (F : Fun K "_law_moved" "_law_moved" s_law_moved f fd) : FnOk P w K mg base CX0 1 f fd ["_law_s", "_law_which"] (sp_dk 0 4 lmS) := by
  refine F.ok sc_law_moved (fun vs H Q E h => ?_) (fun cdv A outer s H vs Q E hr h => ?_)
  · obtain ⟨d, st, k, rfl, _⟩ := h; rfl
  · obtain ⟨d, st, k, rfl, ed, hl, h0, h4, q⟩ := h
    have p12 : (0 : Int) < 4096 := by decide
    refine ⟨_, (pss_cons (ps_if (pt_cmpR op_eq (pv 1) pe_int (nomark _))
        (pss_one (ps_dput (hu_of hr) (pv 0) pe_str (pe_dget (hu_of hr) (pv 0) pe_str (fun _ _ => rfl)) rfl))
        pss_nil)
      (pss_cons (ps_if (pt_cmpR op_eq (pv 1) pe_int (nomark _))
        (pss_one (ps_dput (hu_of hr) (pv 0) pe_str (pe_dget (hu_of hr) (pv 0) pe_str (fun _ _ => rfl)) rfl))
        pss_nil)
      (pss_cons (ps_if (pt_cmpR op_eq (pv 1) pe_int (nomark _))
        (pss_one (ps_dput (hu_of hr) (pv 0) pe_str (pe_op op_fdiv (pe_dget (hu_of hr) (pv 0) pe_str (fun _ _ => rfl)) pe_int) rfl))
        pss_nil)
      (pss_one (ps_if (pt_cmpR op_eq (pv 1) pe_int (nomark _))
        (pss_one (ps_dput (hu_of hr) (pv 0) pe_str (pe_op op_mod (pe_dget (hu_of hr) (pv 0) pe_str (fun _ _ => rfl)) pe_int) rfl))
        pss_nil))))), ?_⟩
    have ga := dget hl ed 0 (by decide) "a" (by decide +kernel)
    by_cases e0 : k = 0
    · refine ⟨_, rfl, rfl, _, rfl, itP e0 ⟨_, rfl, d, _, rfl, ga, _, rfl, d, _, rfl, dput hl ed 1 (by decide) "x" (by decide +kernel) _, ?_⟩⟩
      refine ⟨_, rfl, rfl, _, rfl, itN (by omega) ⟨_, rfl, rfl, _, rfl, itN (by omega) ⟨_, rfl, rfl, _, rfl, itN (by omega) ?_⟩⟩⟩
      refine q _ (Kl.put Kl.rf) ?_
      rw [show lmS st k = st.set 1 (st.getD 0 0) from if_pos e0]
      exact upd_same
    refine ⟨_, rfl, rfl, _, rfl, itN e0 ?_⟩
    by_cases e1 : k = 1
    · refine ⟨_, rfl, rfl, _, rfl, itP e1 ⟨_, rfl, d, _, rfl, dget hl ed 1 (by decide) "x" (by decide +kernel), _, rfl, d, _, rfl, dput hl ed 0 (by decide) "a" (by decide +kernel) _, ?_⟩⟩
      refine ⟨_, rfl, rfl, _, rfl, itN (by omega) ⟨_, rfl, rfl, _, rfl, itN (by omega) ?_⟩⟩
      refine q _ (Kl.put Kl.rf) ?_
      rw [show lmS st k = st.set 0 (st.getD 1 0) from by unfold lmS; rw [if_neg e0, if_pos e1]]
      exact upd_same
    refine ⟨_, rfl, rfl, _, rfl, itN e1 ?_⟩
    by_cases e2 : k = 2
    · refine ⟨_, rfl, rfl, _, rfl, itP e2 ⟨_, rfl, d, _, rfl, ga, _, _, rfl, rfl, ⟨by decide, by decide⟩, _, rfl, d, _, rfl, dput hl ed 0 (by decide) "a" (by decide +kernel) _, ?_⟩⟩
      refine ⟨_, rfl, rfl, _, rfl, itN (by omega) ?_⟩
      refine q _ (Kl.put Kl.rf) ?_
      rw [show lmS st k = st.set 0 (st.getD 0 0 / 2) from by unfold lmS; rw [if_neg e0, if_neg e1, if_pos e2]]
      exact upd_same
    refine ⟨_, rfl, rfl, _, rfl, itN e2 ⟨_, rfl, rfl, _, rfl, itP (by omega) ⟨_, rfl, d, _, rfl, ga, _, _, rfl, rfl, p12, _, rfl, d, _, rfl, dput hl ed 2 (by decide) "p" (by decide +kernel) _, ?_⟩⟩⟩
    refine q _ (Kl.put Kl.rf) ?_
    rw [show lmS st k = st.set 2 (st.getD 0 0 % 4096) from by unfold lmS; rw [if_neg e0, if_neg e1, if_neg e2]]
    exact upd_same
end
end K21

set_option Elab.async false
set_option linter.all false
set_option maxRecDepth 100000
set_option maxHeartbeats 4000000
namespace K21
open PySem L2
def andP (a w : Int) (k : Nat) : Bool := decide (Builtin.bitAnd (a / 2 ^ (0 + (k : Int)).toNat) 1 = 1) && decide (Builtin.bitAnd (w / 2 ^ (0 + (k : Int)).toNat) 1 = 1)
def andL (a w : Int) (n : Nat) : List Int := ((List.range n).filter (andP a w)).map fun (k : Nat) => (1 : Int) * 2 ^ (0 + (k : Int)).toNat
theorem andL_succ (a w : Int) (n : Nat) : andL a w (n + 1) = andL a w n ++ (if andP a w n = true then [1 * 2 ^ (0 + (n : Int)).toNat] else []) := by
  unfold andL
  rw [List.range_succ, List.filter_append, List.map_append]
  cases h : andP a w n <;> simp [h]
theorem andL_len (a w : Int) (n : Nat) : (andL a w n).length ≤ n := by
  unfold andL
  rw [List.length_map]
  refine Nat.le_trans (List.length_filter_le _ _) ?_
  rw [List.length_range]; exact Nat.le_refl _
def lr12 (op num word : Int) (st : List Int) : List Int := st
def lr11 (op num word : Int) (st : List Int) : List Int := lr12 op num word (if op = 15 then (((st.set 0 (st.getD 9 0)).set 1 (st.getD 10 0)).set 2 (st.getD 11 0)).set 5 1 else st)
def lr10 (op num word : Int) (st : List Int) : List Int := lr11 op num word (if op = 14 then loS st (num % 16) else st)
def lr9 (op num word : Int) (st : List Int) : List Int := lr10 op num word (if op = 12 then (st.set 0 (st.getD 2 0)).set 2 num else st)
def lr8 (op num word : Int) (st : List Int) : List Int := lr9 op num word (if op = 11 then lmS st (num % 4) else st)
def lr7 (op num word : Int) (st : List Int) : List Int := lr8 op num word (if op = 6 ∨ (op = 7 ∧ st.getD 0 0 = 0) ∨ (op = 8 ∧ 32767 < st.getD 0 0) then st.set 2 num else st)
def lr6 (op num word : Int) (st : List Int) : List Int := lr7 op num word (if op = 5 then st.set 0 (andL (st.getD 0 0) word 16).sum else st)
def lr5 (op num word : Int) (st : List Int) : List Int := lr6 op num word (if op = 4 then st.set 0 ((st.getD 0 0 + 65536 - word) % 65536) else st)
def lr4 (op num word : Int) (st : List Int) : List Int := lr5 op num word (if op = 3 then st.set 0 ((st.getD 0 0 + word) % 65536) else st)
def lr3 (op num word : Int) (st : List Int) : List Int := lr4 op num word (if op = 1 ∨ op = 9 then st.set 0 word else st)
def lr2 (op num word : Int) (st : List Int) : List Int := lr3 op num word (if op = 0 then st.set 0 num else st)
def lr1 (op num word : Int) (st : List Int) : List Int := lr2 op num word (st.set 2 ((st.getD 2 0 + 1) % 4096))
def lr0 (op num word : Int) (st : List Int) : List Int := lr1 op num word (st.set 4 0)
def sp_row : Sp := fun vs H Q _ => ∃ (d : Addr) (st : List Int) (op num word : Int), vs = [.ref d, .int op, .int num, .int word] ∧ H d = some (.dK (kv st)) ∧ st.length = 15 ∧ ∀ H', Kl d H H' → H' d = some (.dK (kv (lr0 op num word st))) → Q .non H'
section
variable {P : Program} {w : World} {K : PySem.W.Frag} {mg : Str → Option Value} {base : Heap}
theorem sc_law_row : FnScope ["_law_s", "_law_op", "_law_number", "_law_word"] ["_law_s", "_law_op", "_law_number", "_law_word"] (defScope s_law_row) := ⟨rfl, rfl, rfl, by decide +kernel, rfl, by decide +kernel, by decide +kernel⟩
theorem rb_11 {f fo fm : Addr} {eo em : FuncData} (T : Bt mg) (T_law_own : Fn K mg "_law_own" s_law_own ["_law_s", "_law_which"] fo eo) (T_law_moved : Fn K mg "_law_moved" s_law_moved ["_law_s", "_law_which"] fm em) {cdv : Value} {A : Around} {outer : List Env} {s : Shared} {H : Hp} {E : XK} (hr : Room 1 (A.deeper (PyProof.Rows.envOfC "_law_row" (defScope s_law_row) s.heap.objs.size f cdv))) :
    ∃ u, PSs (cxOf CX0 P w K mg base ["_law_s", "_law_op", "_law_number", "_law_word"] "_law_row" (defScope s_law_row) f cdv A outer s H E).nox ((defBody s_law_row).drop 11) u ∧
      ∀ (D : Ends) (d : Addr) (op num word : Int) (st : List Int) (H1 : Hp), H1 d = some (.dK (kv st)) → st.length = 15 →
        (∀ H', Kl d H1 H' → H' d = some (.dK (kv (lr11 op num word st))) → D.nx [some (.ref d), some (.int op), some (.int num), some (.int word)] H') → u D [some (.ref d), some (.int op), some (.int num), some (.int word)] H1 := by
  have G_law_own := ok_law_own (P := P) (w := w) (mg := mg) (base := base) T_law_own.F
  have G_law_moved := ok_law_moved (P := P) (w := w) (mg := mg) (base := base) T_law_moved.F
  refine ⟨_, (pss_one (ps_if (pt_cmpR op_eq (pv 1) pe_int (nomark _))
        (pss_cons (ps_dput (hu_of hr) (pv 0) pe_str (pe_dget (hu_of hr) (pv 0) pe_str (fun _ _ => rfl)) rfl)
        (pss_cons (ps_dput (hu_of hr) (pv 0) pe_str (pe_dget (hu_of hr) (pv 0) pe_str (fun _ _ => rfl)) rfl)
        (pss_cons (ps_dput (hu_of hr) (pv 0) pe_str (pe_dget (hu_of hr) (pv 0) pe_str (fun _ _ => rfl)) rfl)
        (pss_one (ps_dput (hu_of hr) (pv 0) pe_str pe_int rfl)))))
        pss_nil)), ?_⟩
  intro D d op num word st H1 ed hl q
  have hs : sizeLine = 16777216 := sizeLine_eq
  have p4 : (0 : Int) < 4 := by decide
  have p12 : (0 : Int) < 4096 := by decide
  have pn16 : (0 : Int) < 16 := by decide
  have p16 : (0 : Int) < 65536 := by decide
  have ga := dget hl ed 0 (by decide) "a" (by decide +kernel)
  unfold lr11 lr12 at q
  refine ⟨_, rfl, rfl, _, rfl, itI (fun h => ?_) (fun h => ?_)⟩
  · rw [if_pos h] at q
    refine ⟨_, rfl, d, _, rfl, dget hl ed 9 (by decide) "sa" (by decide +kernel), _, rfl, d, _, rfl, dput hl ed 0 (by decide) "a" (by decide +kernel) _, ?_⟩
    have l1 := ls (j := 0) (v := st.getD 9 0) hl
    refine ⟨_, rfl, d, _, rfl, dget l1 upd_same 10 (by decide) "sx" (by decide +kernel), _, rfl, d, _, rfl, dput l1 upd_same 1 (by decide) "x" (by decide +kernel) _, ?_⟩
    rw [getD_set (by omega), if_neg (by decide)]
    have l2 := ls (j := 1) (v := st.getD 10 0) l1
    refine ⟨_, rfl, d, _, rfl, dget l2 upd_same 11 (by decide) "sp" (by decide +kernel), _, rfl, d, _, rfl, dput l2 upd_same 2 (by decide) "p" (by decide +kernel) _, ?_⟩
    rw [getD_set (by omega), if_neg (by decide), getD_set (by omega), if_neg (by decide)]
    have l3 := ls (j := 2) (v := st.getD 11 0) l2
    refine ⟨_, rfl, d, _, rfl, dput l3 upd_same 5 (by decide) "m" (by decide +kernel) _, ?_⟩
    exact q _ (Kl.put (Kl.put (Kl.put (Kl.put Kl.rf)))) upd_same
  · rw [if_neg h] at q
    exact q _ Kl.rf ed
theorem rb_10 {f fo fm : Addr} {eo em : FuncData} (T : Bt mg) (T_law_own : Fn K mg "_law_own" s_law_own ["_law_s", "_law_which"] fo eo) (T_law_moved : Fn K mg "_law_moved" s_law_moved ["_law_s", "_law_which"] fm em) {cdv : Value} {A : Around} {outer : List Env} {s : Shared} {H : Hp} {E : XK} (hr : Room 1 (A.deeper (PyProof.Rows.envOfC "_law_row" (defScope s_law_row) s.heap.objs.size f cdv))) :
    ∃ u, PSs (cxOf CX0 P w K mg base ["_law_s", "_law_op", "_law_number", "_law_word"] "_law_row" (defScope s_law_row) f cdv A outer s H E).nox ((defBody s_law_row).drop 10) u ∧
      ∀ (D : Ends) (d : Addr) (op num word : Int) (st : List Int) (H1 : Hp), H1 d = some (.dK (kv st)) → st.length = 15 →
        (∀ H', Kl d H1 H' → H' d = some (.dK (kv (lr10 op num word st))) → D.nx [some (.ref d), some (.int op), some (.int num), some (.int word)] H') → u D [some (.ref d), some (.int op), some (.int num), some (.int word)] H1 := by
  have G_law_own := ok_law_own (P := P) (w := w) (mg := mg) (base := base) T_law_own.F
  have G_law_moved := ok_law_moved (P := P) (w := w) (mg := mg) (base := base) T_law_moved.F
  obtain ⟨uN, hN, qN⟩ := rb_11 (P := P) (w := w) (base := base) (f := f) (cdv := cdv) (A := A) (outer := outer) (s := s) (H := H) (E := E) T T_law_own T_law_moved hr
  refine ⟨_, (pss_cons (ps_if (pt_cmpR op_eq (pv 1) pe_int (nomark _))
        (pss_one (ps_expr (pe_call G_law_own (hr.mono (by decide)) rfl T_law_own.m T_law_own.F.kp T_law_own.b .nil pass0 (pa_cons (pv 0) (pa_cons (pe_op op_mod (pv 2) pe_int) pa_nil)))))
        pss_nil)
      hN), ?_⟩
  intro D d op num word st H1 ed hl q
  have hs : sizeLine = 16777216 := sizeLine_eq
  have p4 : (0 : Int) < 4 := by decide
  have p12 : (0 : Int) < 4096 := by decide
  have pn16 : (0 : Int) < 16 := by decide
  have p16 : (0 : Int) < 65536 := by decide
  have ga := dget hl ed 0 (by decide) "a" (by decide +kernel)
  unfold lr10 at q
  refine ⟨_, rfl, rfl, _, rfl, itI (fun h => ?_) (fun h => ?_)⟩
  · rw [if_pos h] at q
    refine ⟨_, rfl, _, rfl, _, _, rfl, rfl, pn16, d, st, _, rfl, ed, hl, Int.emod_nonneg _ (by decide), Int.emod_lt_of_pos _ pn16, fun H2 k2 e2 => ?_⟩
    exact qN D d op num word _ _ e2 (by unfold loS; (repeat' split) <;> first | exact ls hl | exact hl) fun H' k1 e1 => q H' (k2.tr k1) e1
  · rw [if_neg h] at q
    exact qN D d op num word st H1 ed hl q
theorem rb_9 {f fo fm : Addr} {eo em : FuncData} (T : Bt mg) (T_law_own : Fn K mg "_law_own" s_law_own ["_law_s", "_law_which"] fo eo) (T_law_moved : Fn K mg "_law_moved" s_law_moved ["_law_s", "_law_which"] fm em) {cdv : Value} {A : Around} {outer : List Env} {s : Shared} {H : Hp} {E : XK} (hr : Room 1 (A.deeper (PyProof.Rows.envOfC "_law_row" (defScope s_law_row) s.heap.objs.size f cdv))) :
    ∃ u, PSs (cxOf CX0 P w K mg base ["_law_s", "_law_op", "_law_number", "_law_word"] "_law_row" (defScope s_law_row) f cdv A outer s H E).nox ((defBody s_law_row).drop 9) u ∧
      ∀ (D : Ends) (d : Addr) (op num word : Int) (st : List Int) (H1 : Hp), H1 d = some (.dK (kv st)) → st.length = 15 →
        (∀ H', Kl d H1 H' → H' d = some (.dK (kv (lr9 op num word st))) → D.nx [some (.ref d), some (.int op), some (.int num), some (.int word)] H') → u D [some (.ref d), some (.int op), some (.int num), some (.int word)] H1 := by
  have G_law_own := ok_law_own (P := P) (w := w) (mg := mg) (base := base) T_law_own.F
  have G_law_moved := ok_law_moved (P := P) (w := w) (mg := mg) (base := base) T_law_moved.F
  obtain ⟨uN, hN, qN⟩ := rb_10 (P := P) (w := w) (base := base) (f := f) (cdv := cdv) (A := A) (outer := outer) (s := s) (H := H) (E := E) T T_law_own T_law_moved hr
  refine ⟨_, (pss_cons (ps_if (pt_cmpR op_eq (pv 1) pe_int (nomark _))
        (pss_cons (ps_dput (hu_of hr) (pv 0) pe_str (pe_dget (hu_of hr) (pv 0) pe_str (fun _ _ => rfl)) rfl)
        (pss_one (ps_dput (hu_of hr) (pv 0) pe_str (pv 2) rfl)))
        pss_nil)
      hN), ?_⟩
  intro D d op num word st H1 ed hl q
  have hs : sizeLine = 16777216 := sizeLine_eq
  have p4 : (0 : Int) < 4 := by decide
  have p12 : (0 : Int) < 4096 := by decide
  have pn16 : (0 : Int) < 16 := by decide
  have p16 : (0 : Int) < 65536 := by decide
  have ga := dget hl ed 0 (by decide) "a" (by decide +kernel)
  unfold lr9 at q
  refine ⟨_, rfl, rfl, _, rfl, itI (fun h => ?_) (fun h => ?_)⟩
  · rw [if_pos h] at q
    refine ⟨_, rfl, d, _, rfl, dget hl ed 2 (by decide) "p" (by decide +kernel), _, rfl, d, _, rfl, dput hl ed 0 (by decide) "a" (by decide +kernel) _, ?_⟩
    have l1 := ls (j := 0) (v := st.getD 2 0) hl
    refine ⟨_, rfl, _, rfl, d, _, rfl, dput l1 upd_same 2 (by decide) "p" (by decide +kernel) _, ?_⟩
    exact qN D d op num word _ _ upd_same (ls l1) fun H' k1 e1 => q H' ((Kl.put (Kl.put Kl.rf)).tr k1) e1
  · rw [if_neg h] at q
    exact qN D d op num word st H1 ed hl q
theorem rb_8 {f fo fm : Addr} {eo em : FuncData} (T : Bt mg) (T_law_own : Fn K mg "_law_own" s_law_own ["_law_s", "_law_which"] fo eo) (T_law_moved : Fn K mg "_law_moved" s_law_moved ["_law_s", "_law_which"] fm em) {cdv : Value} {A : Around} {outer : List Env} {s : Shared} {H : Hp} {E : XK} (hr : Room 1 (A.deeper (PyProof.Rows.envOfC "_law_row" (defScope s_law_row) s.heap.objs.size f cdv))) :
    ∃ u, PSs (cxOf CX0 P w K mg base ["_law_s", "_law_op", "_law_number", "_law_word"] "_law_row" (defScope s_law_row) f cdv A outer s H E).nox ((defBody s_law_row).drop 8) u ∧
      ∀ (D : Ends) (d : Addr) (op num word : Int) (st : List Int) (H1 : Hp), H1 d = some (.dK (kv st)) → st.length = 15 →
        (∀ H', Kl d H1 H' → H' d = some (.dK (kv (lr8 op num word st))) → D.nx [some (.ref d), some (.int op), some (.int num), some (.int word)] H') → u D [some (.ref d), some (.int op), some (.int num), some (.int word)] H1 := by
  have G_law_own := ok_law_own (P := P) (w := w) (mg := mg) (base := base) T_law_own.F
  have G_law_moved := ok_law_moved (P := P) (w := w) (mg := mg) (base := base) T_law_moved.F
  obtain ⟨uN, hN, qN⟩ := rb_9 (P := P) (w := w) (base := base) (f := f) (cdv := cdv) (A := A) (outer := outer) (s := s) (H := H) (E := E) T T_law_own T_law_moved hr
  refine ⟨_, (pss_cons (ps_if (pt_cmpR op_eq (pv 1) pe_int (nomark _))
        (pss_one (ps_expr (pe_call G_law_moved (hr.mono (by decide)) rfl T_law_moved.m T_law_moved.F.kp T_law_moved.b .nil pass0 (pa_cons (pv 0) (pa_cons (pe_op op_mod (pv 2) pe_int) pa_nil)))))
        pss_nil)
      hN), ?_⟩
  intro D d op num word st H1 ed hl q
  have hs : sizeLine = 16777216 := sizeLine_eq
  have p4 : (0 : Int) < 4 := by decide
  have p12 : (0 : Int) < 4096 := by decide
  have pn16 : (0 : Int) < 16 := by decide
  have p16 : (0 : Int) < 65536 := by decide
  have ga := dget hl ed 0 (by decide) "a" (by decide +kernel)
  unfold lr8 at q
  refine ⟨_, rfl, rfl, _, rfl, itI (fun h => ?_) (fun h => ?_)⟩
  · rw [if_pos h] at q
    refine ⟨_, rfl, _, rfl, _, _, rfl, rfl, p4, d, st, _, rfl, ed, hl, Int.emod_nonneg _ (by decide), Int.emod_lt_of_pos _ p4, fun H2 k2 e2 => ?_⟩
    exact qN D d op num word _ _ e2 (by unfold lmS; (repeat' split) <;> exact ls hl) fun H' k1 e1 => q H' (k2.tr k1) e1
  · rw [if_neg h] at q
    exact qN D d op num word st H1 ed hl q
theorem rb_7 {f fo fm : Addr} {eo em : FuncData} (T : Bt mg) (T_law_own : Fn K mg "_law_own" s_law_own ["_law_s", "_law_which"] fo eo) (T_law_moved : Fn K mg "_law_moved" s_law_moved ["_law_s", "_law_which"] fm em) {cdv : Value} {A : Around} {outer : List Env} {s : Shared} {H : Hp} {E : XK} (hr : Room 1 (A.deeper (PyProof.Rows.envOfC "_law_row" (defScope s_law_row) s.heap.objs.size f cdv))) :
    ∃ u, PSs (cxOf CX0 P w K mg base ["_law_s", "_law_op", "_law_number", "_law_word"] "_law_row" (defScope s_law_row) f cdv A outer s H E).nox ((defBody s_law_row).drop 7) u ∧
      ∀ (D : Ends) (d : Addr) (op num word : Int) (st : List Int) (H1 : Hp), H1 d = some (.dK (kv st)) → st.length = 15 →
        (∀ H', Kl d H1 H' → H' d = some (.dK (kv (lr7 op num word st))) → D.nx [some (.ref d), some (.int op), some (.int num), some (.int word)] H') → u D [some (.ref d), some (.int op), some (.int num), some (.int word)] H1 := by
  have G_law_own := ok_law_own (P := P) (w := w) (mg := mg) (base := base) T_law_own.F
  have G_law_moved := ok_law_moved (P := P) (w := w) (mg := mg) (base := base) T_law_moved.F
  obtain ⟨uN, hN, qN⟩ := rb_8 (P := P) (w := w) (base := base) (f := f) (cdv := cdv) (A := A) (outer := outer) (s := s) (H := H) (E := E) T T_law_own T_law_moved hr
  refine ⟨_, (pss_cons (ps_if (PW.pt (pw_or (pt_cmpR op_eq (pv 1) pe_int (nomark _)) (pw_or (PW.pt (pw_and (pt_cmpR op_eq (pv 1) pe_int (nomark _)) (pw_and1 (pt_cmpR op_eq (pe_dget (hu_of hr) (pv 0) pe_str (fun _ _ => rfl)) pe_int (nomark _))))) (pw_or1 (PW.pt (pw_and (pt_cmpR op_eq (pv 1) pe_int (nomark _)) (pw_and1 (pt_cmpR op_gt (pe_dget (hu_of hr) (pv 0) pe_str (fun _ _ => rfl)) pe_int (nomark _)))))))))
        (pss_one (ps_dput (hu_of hr) (pv 0) pe_str (pv 2) rfl))
        pss_nil)
      hN), ?_⟩
  intro D d op num word st H1 ed hl q
  have hs : sizeLine = 16777216 := sizeLine_eq
  have p4 : (0 : Int) < 4 := by decide
  have p12 : (0 : Int) < 4096 := by decide
  have pn16 : (0 : Int) < 16 := by decide
  have p16 : (0 : Int) < 65536 := by decide
  have ga := dget hl ed 0 (by decide) "a" (by decide +kernel)
  unfold lr7 at q
  have yes : (op = 6 ∨ (op = 7 ∧ st.getD 0 0 = 0) ∨ (op = 8 ∧ 32767 < st.getD 0 0)) → ∀ H2, H2 = upd H1 d (.dK (kv (st.set 2 num))) → uN D [some (.ref d), some (.int op), some (.int num), some (.int word)] H2 := fun h H2 e2 => by
    rw [if_pos h] at q
    subst e2
    exact qN D d op num word _ _ upd_same (ls hl) fun H' k1 e1 => q H' (Kl.one.tr k1) e1
  have no : ¬ (op = 6 ∨ (op = 7 ∧ st.getD 0 0 = 0) ∨ (op = 8 ∧ 32767 < st.getD 0 0)) → uN D [some (.ref d), some (.int op), some (.int num), some (.int word)] H1 := fun h => by
    rw [if_neg h] at q
    exact qN D d op num word st H1 ed hl q
  refine ⟨_, rfl, rfl, _, rfl, itI (fun h => ?_) (fun h6 => ?_)⟩
  · exact iteT ⟨_, rfl, _, rfl, d, _, rfl, dput hl ed 2 (by decide) "p" (by decide +kernel) _, yes (.inl h) _ rfl⟩
  refine ⟨_, rfl, rfl, _, rfl, itI (fun h7 => ?_) (fun h7 => ?_)⟩
  · refine ⟨_, rfl, d, _, rfl, ga, rfl, _, rfl, itI (fun h => ?_) (fun h => ?_)⟩
    · exact iteT ⟨_, rfl, _, rfl, d, _, rfl, dput hl ed 2 (by decide) "p" (by decide +kernel) _, yes (.inr (.inl ⟨h7, h⟩)) _ rfl⟩
    · refine ⟨_, rfl, rfl, _, rfl, itN (by omega) (iteF (no (by omega)))⟩
  · refine iteF ⟨_, rfl, rfl, _, rfl, itI (fun h8 => ?_) (fun h8 => iteF (no (by omega)))⟩
    refine ⟨_, rfl, d, _, rfl, ga, _, _, rfl, rfl, _, rfl, ite2 (fun h => ?_) (fun h => ?_)⟩
    · exact ⟨_, rfl, _, rfl, d, _, rfl, dput hl ed 2 (by decide) "p" (by decide +kernel) _, yes (.inr (.inr ⟨h8, of_decide_eq_true h⟩)) _ rfl⟩
    · have hn : ¬ 32767 < st.getD 0 0 := fun y => h (decide_eq_true y)
      exact no (by omega)
theorem rb_6 {f fo fm : Addr} {eo em : FuncData} (T : Bt mg) (T_law_own : Fn K mg "_law_own" s_law_own ["_law_s", "_law_which"] fo eo) (T_law_moved : Fn K mg "_law_moved" s_law_moved ["_law_s", "_law_which"] fm em) {cdv : Value} {A : Around} {outer : List Env} {s : Shared} {H : Hp} {E : XK} (hr : Room 1 (A.deeper (PyProof.Rows.envOfC "_law_row" (defScope s_law_row) s.heap.objs.size f cdv))) :
    ∃ u, PSs (cxOf CX0 P w K mg base ["_law_s", "_law_op", "_law_number", "_law_word"] "_law_row" (defScope s_law_row) f cdv A outer s H E).nox ((defBody s_law_row).drop 6) u ∧
      ∀ (D : Ends) (d : Addr) (op num word : Int) (st : List Int) (H1 : Hp), H1 d = some (.dK (kv st)) → st.length = 15 →
        (∀ H', Kl d H1 H' → H' d = some (.dK (kv (lr6 op num word st))) → D.nx [some (.ref d), some (.int op), some (.int num), some (.int word)] H') → u D [some (.ref d), some (.int op), some (.int num), some (.int word)] H1 := by
  have G_law_own := ok_law_own (P := P) (w := w) (mg := mg) (base := base) T_law_own.F
  have G_law_moved := ok_law_moved (P := P) (w := w) (mg := mg) (base := base) T_law_moved.F
  obtain ⟨uN, hN, qN⟩ := rb_7 (P := P) (w := w) (base := base) (f := f) (cdv := cdv) (A := A) (outer := outer) (s := s) (H := H) (E := E) T T_law_own T_law_moved hr
  refine ⟨_, (pss_cons (ps_if (pt_cmpR op_eq (pv 1) pe_int (nomark _))
        (pss_one (ps_dput (hu_of hr) (pv 0) pe_str (pe_callB (call_sumI (K := K) rfl) rfl T.b_sum (by decide +kernel) (pa_cons (pe_compIf rfl (blk_of (sc0 := defScope s_law_row) (N0 := ["_law_s", "_law_op", "_law_number", "_law_word"]) (N' := ["_law_k", "_law_word", "_law_s"]) (own := 1) (fv := [3, 0]) (by decide +kernel) rfl rfl) (pi_range1 rfl T.b_range (pa_cons pe_int pa_nil)) (fun _ _ _ _ => (pg_name (i := 0) (by show List.Nodup (["_law_k", "_law_word", "_law_s"] : List Str); decide +kernel) rfl (Or.inl rfl))) (fun _ _ _ _ => (PW.pt (pw_and (pt_cmpR op_eq (pe_op op_and (pe_op op_shr (pe_dget (hu_of hr) (pv 2) pe_str (fun _ _ => rfl)) (pv 0)) pe_int) pe_int (nomark _)) (pw_and1 (pt_cmpR op_eq (pe_op op_and (pe_op op_shr (pv 1) (pv 0)) pe_int) pe_int (nomark _)))))) (fun _ _ _ _ => (pe_op op_shl pe_int (pv 0)))) pa_nil)) rfl))
        pss_nil)
      hN), ?_⟩
  intro D d op num word st H1 ed hl q
  have hs : sizeLine = 16777216 := sizeLine_eq
  have p4 : (0 : Int) < 4 := by decide
  have p12 : (0 : Int) < 4096 := by decide
  have pn16 : (0 : Int) < 16 := by decide
  have p16 : (0 : Int) < 65536 := by decide
  have ga := dget hl ed 0 (by decide) "a" (by decide +kernel)
  unfold lr6 at q
  refine ⟨_, rfl, rfl, _, rfl, itI (fun h => ?_) (fun h => ?_)⟩
  · rw [if_pos h] at q
    refine ⟨16, rfl, by decide, by decide, compIf_rng (lo := 0) (n := 16) (fvals := [some (.int word), some (.ref d)]) (fun acc i H2 => H1 acc = none ∧ Same H1 H2 ∧ H2 acc = some (.lst ((andL (st.getD 0 0) word i).map V.int))) ?_ ?_ ?_⟩
    · intro acc hacc
      exact ⟨hacc, Same.put hacc, upd_same⟩
    · rintro acc i H2 m W hi ⟨hacc, s2, e2⟩ cont
      have gi := dget hl (s2 _ _ ed) 0 (by decide) "a" (by decide +kernel)
      have hlen := andL_len (st.getD 0 0) word i
      have no : andP (st.getD 0 0) word i = false → ∃ m', m' < m ∧ W m' H2 := fun hf => cont _ ⟨hacc, s2, by rw [andL_succ, hf, if_neg (by decide), List.append_nil]; exact e2⟩
      refine ⟨_, rfl, d, _, rfl, gi, _, rfl, _, _, rfl, rfl, (by show (0 : Int) ≤ 0 + (i : Int); omega), _, _, rfl, rfl, rfl, _, rfl, itI (fun b1 => ?_) (fun b1 => iteF (no (by unfold andP; rw [decide_eq_false b1, Bool.false_and])))⟩
      refine ⟨_, rfl, _, rfl, _, _, rfl, rfl, (by show (0 : Int) ≤ 0 + (i : Int); omega), _, _, rfl, rfl, rfl, _, rfl, itI (fun b2 => ?_) (fun b2 => no (by unfold andP; rw [decide_eq_false b2, Bool.and_false]))⟩
      have ht : andP (st.getD 0 0) word i = true := by unfold andP; rw [decide_eq_true b1, decide_eq_true b2]; rfl
      refine ⟨_, rfl, _, _, rfl, rfl, cpow_of (by omega) (by omega) (by decide) (by decide), _, e2, by rw [List.length_map]; omega, cont _ ⟨hacc, Kl.same s2 hacc Kl.one, ?_⟩⟩
      rw [upd_same, andL_succ, ht, if_pos rfl, snoc_int]
    · rintro acc H2 hacc ⟨_, s2, e2⟩
      refine ⟨acc, _, rfl, SqL.of e2, _, rfl, d, _, rfl, dput hl (s2 _ _ ed) 0 (by decide) "a" (by decide +kernel) _, ?_⟩
      exact qN D d op num word _ _ upd_same (ls hl) fun H' k1 e1 => q H' (((Kl.ofSame s2).put).tr k1) e1
  · rw [if_neg h] at q
    exact qN D d op num word st H1 ed hl q
theorem rb_5 {f fo fm : Addr} {eo em : FuncData} (T : Bt mg) (T_law_own : Fn K mg "_law_own" s_law_own ["_law_s", "_law_which"] fo eo) (T_law_moved : Fn K mg "_law_moved" s_law_moved ["_law_s", "_law_which"] fm em) {cdv : Value} {A : Around} {outer : List Env} {s : Shared} {H : Hp} {E : XK} (hr : Room 1 (A.deeper (PyProof.Rows.envOfC "_law_row" (defScope s_law_row) s.heap.objs.size f cdv))) :
    ∃ u, PSs (cxOf CX0 P w K mg base ["_law_s", "_law_op", "_law_number", "_law_word"] "_law_row" (defScope s_law_row) f cdv A outer s H E).nox ((defBody s_law_row).drop 5) u ∧
      ∀ (D : Ends) (d : Addr) (op num word : Int) (st : List Int) (H1 : Hp), H1 d = some (.dK (kv st)) → st.length = 15 →
        (∀ H', Kl d H1 H' → H' d = some (.dK (kv (lr5 op num word st))) → D.nx [some (.ref d), some (.int op), some (.int num), some (.int word)] H') → u D [some (.ref d), some (.int op), some (.int num), some (.int word)] H1 := by
  have G_law_own := ok_law_own (P := P) (w := w) (mg := mg) (base := base) T_law_own.F
  have G_law_moved := ok_law_moved (P := P) (w := w) (mg := mg) (base := base) T_law_moved.F
  obtain ⟨uN, hN, qN⟩ := rb_6 (P := P) (w := w) (base := base) (f := f) (cdv := cdv) (A := A) (outer := outer) (s := s) (H := H) (E := E) T T_law_own T_law_moved hr
  refine ⟨_, (pss_cons (ps_if (pt_cmpR op_eq (pv 1) pe_int (nomark _))
        (pss_one (ps_dput (hu_of hr) (pv 0) pe_str (pe_op op_mod (pe_op op_sub (pe_op op_add (pe_dget (hu_of hr) (pv 0) pe_str (fun _ _ => rfl)) pe_int) (pv 3)) pe_int) rfl))
        pss_nil)
      hN), ?_⟩
  intro D d op num word st H1 ed hl q
  have hs : sizeLine = 16777216 := sizeLine_eq
  have p4 : (0 : Int) < 4 := by decide
  have p12 : (0 : Int) < 4096 := by decide
  have pn16 : (0 : Int) < 16 := by decide
  have p16 : (0 : Int) < 65536 := by decide
  have ga := dget hl ed 0 (by decide) "a" (by decide +kernel)
  unfold lr5 at q
  refine ⟨_, rfl, rfl, _, rfl, itI (fun h => ?_) (fun h => ?_)⟩
  · rw [if_pos h] at q
    refine ⟨_, rfl, d, _, rfl, ga, _, _, rfl, rfl, _, rfl, _, _, rfl, rfl, _, _, rfl, rfl, p16, _, rfl, d, _, rfl, dput hl ed 0 (by decide) "a" (by decide +kernel) _, ?_⟩
    exact qN D d op num word _ _ upd_same (ls hl) fun H' k1 e1 => q H' (Kl.one.tr k1) e1
  · rw [if_neg h] at q
    exact qN D d op num word st H1 ed hl q
theorem rb_4 {f fo fm : Addr} {eo em : FuncData} (T : Bt mg) (T_law_own : Fn K mg "_law_own" s_law_own ["_law_s", "_law_which"] fo eo) (T_law_moved : Fn K mg "_law_moved" s_law_moved ["_law_s", "_law_which"] fm em) {cdv : Value} {A : Around} {outer : List Env} {s : Shared} {H : Hp} {E : XK} (hr : Room 1 (A.deeper (PyProof.Rows.envOfC "_law_row" (defScope s_law_row) s.heap.objs.size f cdv))) :
    ∃ u, PSs (cxOf CX0 P w K mg base ["_law_s", "_law_op", "_law_number", "_law_word"] "_law_row" (defScope s_law_row) f cdv A outer s H E).nox ((defBody s_law_row).drop 4) u ∧
      ∀ (D : Ends) (d : Addr) (op num word : Int) (st : List Int) (H1 : Hp), H1 d = some (.dK (kv st)) → st.length = 15 →
        (∀ H', Kl d H1 H' → H' d = some (.dK (kv (lr4 op num word st))) → D.nx [some (.ref d), some (.int op), some (.int num), some (.int word)] H') → u D [some (.ref d), some (.int op), some (.int num), some (.int word)] H1 := by
  have G_law_own := ok_law_own (P := P) (w := w) (mg := mg) (base := base) T_law_own.F
  have G_law_moved := ok_law_moved (P := P) (w := w) (mg := mg) (base := base) T_law_moved.F
  obtain ⟨uN, hN, qN⟩ := rb_5 (P := P) (w := w) (base := base) (f := f) (cdv := cdv) (A := A) (outer := outer) (s := s) (H := H) (E := E) T T_law_own T_law_moved hr
  refine ⟨_, (pss_cons (ps_if (pt_cmpR op_eq (pv 1) pe_int (nomark _))
        (pss_one (ps_dput (hu_of hr) (pv 0) pe_str (pe_op op_mod (pe_op op_add (pe_dget (hu_of hr) (pv 0) pe_str (fun _ _ => rfl)) (pv 3)) pe_int) rfl))
        pss_nil)
      hN), ?_⟩
  intro D d op num word st H1 ed hl q
  have hs : sizeLine = 16777216 := sizeLine_eq
  have p4 : (0 : Int) < 4 := by decide
  have p12 : (0 : Int) < 4096 := by decide
  have pn16 : (0 : Int) < 16 := by decide
  have p16 : (0 : Int) < 65536 := by decide
  have ga := dget hl ed 0 (by decide) "a" (by decide +kernel)
  unfold lr4 at q
  refine ⟨_, rfl, rfl, _, rfl, itI (fun h => ?_) (fun h => ?_)⟩
  · rw [if_pos h] at q
    refine ⟨_, rfl, d, _, rfl, ga, _, rfl, _, _, rfl, rfl, _, _, rfl, rfl, p16, _, rfl, d, _, rfl, dput hl ed 0 (by decide) "a" (by decide +kernel) _, ?_⟩
    exact qN D d op num word _ _ upd_same (ls hl) fun H' k1 e1 => q H' (Kl.one.tr k1) e1
  · rw [if_neg h] at q
    exact qN D d op num word st H1 ed hl q
theorem rb_3 {f fo fm : Addr} {eo em : FuncData} (T : Bt mg) (T_law_own : Fn K mg "_law_own" s_law_own ["_law_s", "_law_which"] fo eo) (T_law_moved : Fn K mg "_law_moved" s_law_moved ["_law_s", "_law_which"] fm em) {cdv : Value} {A : Around} {outer : List Env} {s : Shared} {H : Hp} {E : XK} (hr : Room 1 (A.deeper (PyProof.Rows.envOfC "_law_row" (defScope s_law_row) s.heap.objs.size f cdv))) :
    ∃ u, PSs (cxOf CX0 P w K mg base ["_law_s", "_law_op", "_law_number", "_law_word"] "_law_row" (defScope s_law_row) f cdv A outer s H E).nox ((defBody s_law_row).drop 3) u ∧
      ∀ (D : Ends) (d : Addr) (op num word : Int) (st : List Int) (H1 : Hp), H1 d = some (.dK (kv st)) → st.length = 15 →
        (∀ H', Kl d H1 H' → H' d = some (.dK (kv (lr3 op num word st))) → D.nx [some (.ref d), some (.int op), some (.int num), some (.int word)] H') → u D [some (.ref d), some (.int op), some (.int num), some (.int word)] H1 := by
  have G_law_own := ok_law_own (P := P) (w := w) (mg := mg) (base := base) T_law_own.F
  have G_law_moved := ok_law_moved (P := P) (w := w) (mg := mg) (base := base) T_law_moved.F
  obtain ⟨uN, hN, qN⟩ := rb_4 (P := P) (w := w) (base := base) (f := f) (cdv := cdv) (A := A) (outer := outer) (s := s) (H := H) (E := E) T T_law_own T_law_moved hr
  refine ⟨_, (pss_cons (ps_if (PW.pt (pw_or (pt_cmpR op_eq (pv 1) pe_int (nomark _)) (pw_or1 (pt_cmpR op_eq (pv 1) pe_int (nomark _)))))
        (pss_one (ps_dput (hu_of hr) (pv 0) pe_str (pv 3) rfl))
        pss_nil)
      hN), ?_⟩
  intro D d op num word st H1 ed hl q
  have hs : sizeLine = 16777216 := sizeLine_eq
  have p4 : (0 : Int) < 4 := by decide
  have p12 : (0 : Int) < 4096 := by decide
  have pn16 : (0 : Int) < 16 := by decide
  have p16 : (0 : Int) < 65536 := by decide
  have ga := dget hl ed 0 (by decide) "a" (by decide +kernel)
  unfold lr3 at q
  have yes : (op = 1 ∨ op = 9) → ∀ H2, H2 = upd H1 d (.dK (kv (st.set 0 word))) → uN D [some (.ref d), some (.int op), some (.int num), some (.int word)] H2 := fun h H2 e2 => by
    rw [if_pos h] at q
    subst e2
    exact qN D d op num word _ _ upd_same (ls hl) fun H' k1 e1 => q H' (Kl.one.tr k1) e1
  refine ⟨_, rfl, rfl, _, rfl, itI (fun h => ?_) (fun h1 => ?_)⟩
  · exact iteT ⟨_, rfl, _, rfl, d, _, rfl, dput hl ed 0 (by decide) "a" (by decide +kernel) _, yes (.inl h) _ rfl⟩
  refine ⟨_, rfl, rfl, _, rfl, itI (fun h => ?_) (fun h9 => ?_)⟩
  · exact ⟨_, rfl, _, rfl, d, _, rfl, dput hl ed 0 (by decide) "a" (by decide +kernel) _, yes (.inr h) _ rfl⟩
  · rw [if_neg (by omega)] at q
    exact qN D d op num word st H1 ed hl q
theorem rb_2 {f fo fm : Addr} {eo em : FuncData} (T : Bt mg) (T_law_own : Fn K mg "_law_own" s_law_own ["_law_s", "_law_which"] fo eo) (T_law_moved : Fn K mg "_law_moved" s_law_moved ["_law_s", "_law_which"] fm em) {cdv : Value} {A : Around} {outer : List Env} {s : Shared} {H : Hp} {E : XK} (hr : Room 1 (A.deeper (PyProof.Rows.envOfC "_law_row" (defScope s_law_row) s.heap.objs.size f cdv))) :
    ∃ u, PSs (cxOf CX0 P w K mg base ["_law_s", "_law_op", "_law_number", "_law_word"] "_law_row" (defScope s_law_row) f cdv A outer s H E).nox ((defBody s_law_row).drop 2) u ∧
      ∀ (D : Ends) (d : Addr) (op num word : Int) (st : List Int) (H1 : Hp), H1 d = some (.dK (kv st)) → st.length = 15 →
        (∀ H', Kl d H1 H' → H' d = some (.dK (kv (lr2 op num word st))) → D.nx [some (.ref d), some (.int op), some (.int num), some (.int word)] H') → u D [some (.ref d), some (.int op), some (.int num), some (.int word)] H1 := by
  have G_law_own := ok_law_own (P := P) (w := w) (mg := mg) (base := base) T_law_own.F
  have G_law_moved := ok_law_moved (P := P) (w := w) (mg := mg) (base := base) T_law_moved.F
  obtain ⟨uN, hN, qN⟩ := rb_3 (P := P) (w := w) (base := base) (f := f) (cdv := cdv) (A := A) (outer := outer) (s := s) (H := H) (E := E) T T_law_own T_law_moved hr
  refine ⟨_, (pss_cons (ps_if (pt_cmpR op_eq (pv 1) pe_int (nomark _))
        (pss_one (ps_dput (hu_of hr) (pv 0) pe_str (pv 2) rfl))
        pss_nil)
      hN), ?_⟩
  intro D d op num word st H1 ed hl q
  have hs : sizeLine = 16777216 := sizeLine_eq
  have p4 : (0 : Int) < 4 := by decide
  have p12 : (0 : Int) < 4096 := by decide
  have pn16 : (0 : Int) < 16 := by decide
  have p16 : (0 : Int) < 65536 := by decide
  have ga := dget hl ed 0 (by decide) "a" (by decide +kernel)
  unfold lr2 at q
  refine ⟨_, rfl, rfl, _, rfl, itI (fun h => ?_) (fun h => ?_)⟩
  · rw [if_pos h] at q
    refine ⟨_, rfl, _, rfl, d, _, rfl, dput hl ed 0 (by decide) "a" (by decide +kernel) _, ?_⟩
    exact qN D d op num word _ _ upd_same (ls hl) fun H' k1 e1 => q H' (Kl.one.tr k1) e1
  · rw [if_neg h] at q
    exact qN D d op num word st H1 ed hl q
theorem rb_1 {f fo fm : Addr} {eo em : FuncData} (T : Bt mg) (T_law_own : Fn K mg "_law_own" s_law_own ["_law_s", "_law_which"] fo eo) (T_law_moved : Fn K mg "_law_moved" s_law_moved ["_law_s", "_law_which"] fm em) {cdv : Value} {A : Around} {outer : List Env} {s : Shared} {H : Hp} {E : XK} (hr : Room 1 (A.deeper (PyProof.Rows.envOfC "_law_row" (defScope s_law_row) s.heap.objs.size f cdv))) :
    ∃ u, PSs (cxOf CX0 P w K mg base ["_law_s", "_law_op", "_law_number", "_law_word"] "_law_row" (defScope s_law_row) f cdv A outer s H E).nox ((defBody s_law_row).drop 1) u ∧
      ∀ (D : Ends) (d : Addr) (op num word : Int) (st : List Int) (H1 : Hp), H1 d = some (.dK (kv st)) → st.length = 15 →
        (∀ H', Kl d H1 H' → H' d = some (.dK (kv (lr1 op num word st))) → D.nx [some (.ref d), some (.int op), some (.int num), some (.int word)] H') → u D [some (.ref d), some (.int op), some (.int num), some (.int word)] H1 := by
  have G_law_own := ok_law_own (P := P) (w := w) (mg := mg) (base := base) T_law_own.F
  have G_law_moved := ok_law_moved (P := P) (w := w) (mg := mg) (base := base) T_law_moved.F
  obtain ⟨uN, hN, qN⟩ := rb_2 (P := P) (w := w) (base := base) (f := f) (cdv := cdv) (A := A) (outer := outer) (s := s) (H := H) (E := E) T T_law_own T_law_moved hr
  refine ⟨_, (pss_cons (ps_dput (hu_of hr) (pv 0) pe_str (pe_op op_mod (pe_op op_add (pe_dget (hu_of hr) (pv 0) pe_str (fun _ _ => rfl)) pe_int) pe_int) rfl)
      hN), ?_⟩
  intro D d op num word st H1 ed hl q
  have hs : sizeLine = 16777216 := sizeLine_eq
  have p4 : (0 : Int) < 4 := by decide
  have p12 : (0 : Int) < 4096 := by decide
  have pn16 : (0 : Int) < 16 := by decide
  have p16 : (0 : Int) < 65536 := by decide
  have ga := dget hl ed 0 (by decide) "a" (by decide +kernel)
  unfold lr1 at q
  refine ⟨_, rfl, d, _, rfl, dget hl ed 2 (by decide) "p" (by decide +kernel), _, _, rfl, rfl, _, _, rfl, rfl, p12, _, rfl, d, _, rfl, dput hl ed 2 (by decide) "p" (by decide +kernel) _, ?_⟩
  exact qN D d op num word _ _ upd_same (ls hl) fun H' k1 e1 => q H' (Kl.one.tr k1) e1
theorem rb_0 {f fo fm : Addr} {eo em : FuncData} (T : Bt mg) (T_law_own : Fn K mg "_law_own" s_law_own ["_law_s", "_law_which"] fo eo) (T_law_moved : Fn K mg "_law_moved" s_law_moved ["_law_s", "_law_which"] fm em) {cdv : Value} {A : Around} {outer : List Env} {s : Shared} {H : Hp} {E : XK} (hr : Room 1 (A.deeper (PyProof.Rows.envOfC "_law_row" (defScope s_law_row) s.heap.objs.size f cdv))) :
    ∃ u, PSs (cxOf CX0 P w K mg base ["_law_s", "_law_op", "_law_number", "_law_word"] "_law_row" (defScope s_law_row) f cdv A outer s H E).nox ((defBody s_law_row).drop 0) u ∧
      ∀ (D : Ends) (d : Addr) (op num word : Int) (st : List Int) (H1 : Hp), H1 d = some (.dK (kv st)) → st.length = 15 →
        (∀ H', Kl d H1 H' → H' d = some (.dK (kv (lr0 op num word st))) → D.nx [some (.ref d), some (.int op), some (.int num), some (.int word)] H') → u D [some (.ref d), some (.int op), some (.int num), some (.int word)] H1 := by
  have G_law_own := ok_law_own (P := P) (w := w) (mg := mg) (base := base) T_law_own.F
  have G_law_moved := ok_law_moved (P := P) (w := w) (mg := mg) (base := base) T_law_moved.F
  obtain ⟨uN, hN, qN⟩ := rb_1 (P := P) (w := w) (base := base) (f := f) (cdv := cdv) (A := A) (outer := outer) (s := s) (H := H) (E := E) T T_law_own T_law_moved hr
  refine ⟨_, (pss_cons (ps_dput (hu_of hr) (pv 0) pe_str pe_int rfl)
      hN), ?_⟩
  intro D d op num word st H1 ed hl q
  have hs : sizeLine = 16777216 := sizeLine_eq
  have p4 : (0 : Int) < 4 := by decide
  have p12 : (0 : Int) < 4096 := by decide
  have pn16 : (0 : Int) < 16 := by decide
  have p16 : (0 : Int) < 65536 := by decide
  have ga := dget hl ed 0 (by decide) "a" (by decide +kernel)
  unfold lr0 at q
  refine ⟨_, rfl, d, _, rfl, dput hl ed 4 (by decide) "f" (by decide +kernel) _, ?_⟩
  exact qN D d op num word _ _ upd_same (ls hl) fun H' k1 e1 => q H' (Kl.one.tr k1) e1
theorem ok_law_row {f fo fm : Addr} {fd eo em : FuncData} (F : Fun K "_law_row" "_law_row" s_law_row f fd) (T : Bt mg) (T_law_own : Fn K mg "_law_own" s_law_own ["_law_s", "_law_which"] fo eo) (T_law_moved : Fn K mg "_law_moved" s_law_moved ["_law_s", "_law_which"] fm em) : FnOk P w K mg base CX0 2 f fd ["_law_s", "_law_op", "_law_number", "_law_word"] sp_row := by
  refine F.ok sc_law_row (fun vs H Q E h => ?_) (fun cdv A outer s H vs Q E hr h => ?_)
  · obtain ⟨d, st, op, num, word, rfl, _⟩ := h; rfl
  · obtain ⟨d, st, op, num, word, rfl, ed, hl, q⟩ := h
    obtain ⟨u, hu, qu⟩ := rb_0 (P := P) (w := w) (base := base) (f := f) (cdv := cdv) (A := A) (outer := outer) (s := s) (H := H) (E := E) T T_law_own T_law_moved hr
    exact ⟨u, hu, qu _ d op num word st H ed hl q⟩
end
end K21

set_option Elab.async false
set_option linter.all false
set_option maxRecDepth 100000
set_option maxHeartbeats 4000000
namespace K21
open PySem L2
theorem bits_sum (x : Nat) (p : Nat → Bool) (hp : ∀ k, p k = x.testBit k) : ∀ n : Nat, (((List.range n).filter p).map fun (k : Nat) => (1 : Int) * 2 ^ (0 + (k : Int)).toNat).sum = ((x % 2 ^ n : Nat) : Int)
  | 0 => by simp [Nat.mod_one]
  | n + 1 => by
    rw [List.range_succ, List.filter_append, List.map_append, List.sum_append, bits_sum x p hp n, Nat.mod_pow_succ]
    have ht := hp n
    rw [Nat.testBit_eq_decide_div_mod_eq] at ht
    have e0 : (0 + (n : Int)).toNat = n := by omega
    cases h : p n with
    | false =>
      rw [h] at ht
      have := of_decide_eq_false ht.symm
      have e : x / 2 ^ n % 2 = 0 := by omega
      rw [e]
      simp [h]
    | true =>
      rw [h] at ht
      have e := of_decide_eq_true ht.symm
      rw [e]
      simp [h, e0]
theorem bit1 (n k : Nat) : Builtin.bitAnd ((n : Int) / 2 ^ (0 + (k : Int)).toNat) 1 = ((n / 2 ^ k % 2 : Nat) : Int) := by
  have e0 : (0 + (k : Int)).toNat = k := by omega
  rw [e0]
  have e1 : ((n : Int) / 2 ^ k) = ((n / 2 ^ k : Nat) : Int) := by
    rw [Int.natCast_ediv, Int.natCast_pow]; rfl
  rw [e1]
  unfold Builtin.bitAnd
  rw [decide_eq_true (Int.natCast_nonneg _)]
  show ((((n / 2 ^ k : Nat) : Int).toNat &&& (1 : Int).toNat : Nat) : Int) = _
  rw [Int.toNat_natCast, show (1 : Int).toNat = 1 from rfl, Nat.and_one_is_mod]
theorem and_sum {a w : Int} (ha : 0 ≤ a ∧ a < 65536) (hw : 0 ≤ w ∧ w < 65536) : (andL a w 16).sum = Builtin.bitAnd a w := by
  obtain ⟨n, rfl⟩ := Int.eq_ofNat_of_zero_le ha.1
  obtain ⟨m, rfl⟩ := Int.eq_ofNat_of_zero_le hw.1
  have hp : ∀ k, andP (n : Int) (m : Int) k = (n &&& m).testBit k := fun k => by
    unfold andP
    rw [bit1, bit1, Nat.testBit_and, Nat.testBit_eq_decide_div_mod_eq, Nat.testBit_eq_decide_div_mod_eq]
    congr 1
    · exact decide_eq_decide.mpr (by omega)
    · exact decide_eq_decide.mpr (by omega)
  have h := bits_sum (n &&& m) _ hp 16
  unfold andL
  rw [h]
  have hn : n < 2 ^ 16 := by omega
  have hb : n &&& m < 2 ^ 16 := Nat.lt_of_le_of_lt Nat.and_le_left hn
  rw [Nat.mod_eq_of_lt hb]
  unfold Builtin.bitAnd
  rw [decide_eq_true (Int.natCast_nonneg _), decide_eq_true (Int.natCast_nonneg _)]
  show ((n &&& m : Nat) : Int) = (((n : Int).toNat &&& (m : Int).toNat : Nat) : Int)
  rw [Int.toNat_natCast, Int.toNat_natCast]
theorem row_eq {st : List Int} {word : Int} (R : Rg sizes15 st) (hw : 0 ≤ word ∧ word < 65536) : lr0 (stOp st) (stNum st) word st = rdS st word := by
  have hl : st.length = 15 := R.len
  have b3 := R.bd 3 65536 rfl
  have b0 := R.bd 0 65536 rfl
  obtain ⟨op, hop⟩ : ∃ op, stOp st = op := ⟨_, rfl⟩
  obtain ⟨num, hnum⟩ : ∃ n, stNum st = n := ⟨_, rfl⟩
  have ho : 0 ≤ op ∧ op ≤ 15 := by rw [← hop]; unfold stOp; omega
  have hn : 0 ≤ num := by rw [← hnum]; unfold stNum; omega
  have hand := and_sum b0 hw
  unfold rdS stA stX stP stLeaps stAx ocS
  rw [hop, hnum]
  clear hop hnum R b3
  match st, hl with
  | [a, x, p, i, f, m, b, l, t, sa, sx, sp, c, n, h], _ =>
    have b0' : 0 ≤ a ∧ a < 65536 := b0
    have hand' : (andL a word 16).sum = Builtin.bitAnd a word := hand
    have hc : op = 0 ∨ op = 1 ∨ op = 2 ∨ op = 3 ∨ op = 4 ∨ op = 5 ∨ op = 6 ∨ op = 7 ∨ op = 8 ∨ op = 9 ∨ op = 10 ∨ op = 11 ∨ op = 12 ∨ op = 13 ∨ op = 14 ∨ op = 15 := by omega
    rcases hc with rfl | rfl | rfl | rfl | rfl | rfl | rfl | rfl | rfl | rfl | rfl | rfl | rfl | rfl | rfl | rfl
    case inr.inr.inr.inr.inr.inr.inr.inl =>
      by_cases e : a = 0 <;> simp [lr0, lr1, lr2, lr3, lr4, lr5, lr6, lr7, lr8, lr9, lr10, lr11, lr12, exS, e]
    case inr.inr.inr.inr.inr.inr.inr.inr.inl =>
      by_cases e : 32767 < a
      · have e' : 32768 ≤ a := by omega
        simp [lr0, lr1, lr2, lr3, lr4, lr5, lr6, lr7, lr8, lr9, lr10, lr11, lr12, exS, e, e']
      · have e' : ¬ 32768 ≤ a := by omega
        simp [lr0, lr1, lr2, lr3, lr4, lr5, lr6, lr7, lr8, lr9, lr10, lr11, lr12, exS, e, e']
    case inr.inr.inr.inr.inr.inr.inr.inr.inr.inr.inr.inl =>
      have hk : num % 4 = 0 ∨ num % 4 = 1 ∨ num % 4 = 2 ∨ num % 4 = 3 := by omega
      rcases hk with e | e | e | e <;> simp [lr0, lr1, lr2, lr3, lr4, lr5, lr6, lr7, lr8, lr9, lr10, lr11, lr12, lmS, exS, e]
    case inr.inr.inr.inr.inr.inr.inr.inr.inr.inr.inr.inr.inr.inr.inl =>
      have w16 : a % 65536 = a := by omega
      have hk : num % 16 = 0 ∨ num % 16 = 1 ∨ num % 16 = 2 ∨ num % 16 = 3 ∨ num % 16 = 4 ∨ num % 16 = 5 ∨ num % 16 = 6 ∨ num % 16 = 7 ∨ num % 16 = 8 ∨ num % 16 = 9 ∨ num % 16 = 10 ∨ num % 16 = 11 ∨ num % 16 = 12 ∨ num % 16 = 13 ∨ num % 16 = 14 ∨ num % 16 = 15 := by omega
      rcases hk with e | e | e | e | e | e | e | e | e | e | e | e | e | e | e | e <;> simp [lr0, lr1, lr2, lr3, lr4, lr5, lr6, lr7, lr8, lr9, lr10, lr11, lr12, loS, exS, e, ownL, ocF, widths15, w16]
    case inr.inr.inr.inr.inr.inl =>
      simp [lr0, lr1, lr2, lr3, lr4, lr5, lr6, lr7, lr8, lr9, lr10, lr11, lr12, exS, hand']
    case inr.inr.inr.inr.inl =>
      have e : (a + 65536 - word) % 65536 = (a - word) % 65536 := by omega
      simp [lr0, lr1, lr2, lr3, lr4, lr5, lr6, lr7, lr8, lr9, lr10, lr11, lr12, exS, e]
    all_goals simp [lr0, lr1, lr2, lr3, lr4, lr5, lr6, lr7, lr8, lr9, lr10, lr11, lr12, exS]
end K21

set_option Elab.async false
set_option linter.all false
set_option maxRecDepth 100000
set_option maxHeartbeats 4000000
namespace K21
open PySem L2
theorem cause_bd (st : List Int) : stCause st = 0 ∨ stCause st = 1 ∨ stCause st = 2 ∨ stCause st = 3 := by
  unfold stCause
  split
  · exact .inr (.inl rfl)
  · split
    · exact .inr (.inr (.inl rfl))
    · split
      · exact .inr (.inr (.inr rfl))
      · exact .inl rfl
theorem cause_0 {st : List Int} (hm : st.getD 5 0 = 1) (hc : stCause st = 0) : stOp st ≠ 14 ∧ stOp st ≠ 15 ∧ ((stOp st = 2 ∨ stOp st = 10) → stBarred st = false) := by
  unfold stCause at hc
  split at hc
  · cases hc
  · rename_i h1
    split at hc
    · cases hc
    · rename_i h2
      refine ⟨fun z => h2 ⟨.inl z, hm⟩, fun z => h2 ⟨.inr z, hm⟩, fun z => ?_⟩
      cases hb : stBarred st with
      | false => rfl
      | true => exact absurd ⟨by omega, hb⟩ h1
theorem wr_at (st : List Int) : atI [V.non, V.int (st.getD 0 0)] (if decide (stOp st = 2 ∨ stOp st = 10) = true then 1 else 0) = some (stWritten st) := by
  unfold stWritten
  by_cases h : stOp st = 2 ∨ stOp st = 10
  · rw [if_pos (decide_eq_true h), if_pos h]; rfl
  · rw [if_neg (fun z => h (of_decide_eq_true z)), if_neg h]; rfl
theorem te_at (st : List Int) : atI [V.non, V.int (st.getD 0 0)] (if decide (stOp st = 14 ∧ stNum st % 16 = 6) = true then 1 else 0) = some (stTold st) := by
  unfold stTold
  by_cases h : stOp st = 14 ∧ stNum st % 16 = 6
  · rw [if_pos (decide_eq_true h), if_pos h]; rfl
  · rw [if_neg (fun z => h (of_decide_eq_true z)), if_neg h]; rfl
def sp_lbeat : Sp := fun vs H Q _ => ∃ (t : Addr) (st : List Int) (word : Int), vs = [.ref t, .int word] ∧ H t = some (.tup (st.map V.int)) ∧ Rg sizes15 st ∧ 0 ≤ word ∧ word < 65536 ∧
  ∀ (p t' : Addr) (H' : Hp), H p = none → Same H H' → H' p = some (.tup [.ref t', btW st, btT st]) → H' t' = some (.tup ((btS st word).map V.int)) → Q (.ref p) H'
section
variable {P : Program} {w : World} {K : PySem.W.Frag} {mg : Str → Option Value} {base : Heap}
theorem sc_law_beat : FnScope ["_law_state", "_law_word", "_law_s", "_law_barred", "_law_op", "_law_number", "_law_write", "_law_tell", "_law_was_task"] ["_law_state", "_law_word"] (defScope s_law_beat) := ⟨rfl, rfl, rfl, by decide +kernel, rfl, by decide +kernel, by decide +kernel⟩
theorem lb_9 {f x1 x2 x3 x4 x5 x6 : Addr} {e1 e2 e3 e4 e5 e6 : FuncData} (T : Bt mg) (T_law_names : Fn K mg "_law_names" s_law_names [] x1 e1) (T_law_told_of : Fn K mg "_law_told_of" s_law_told_of ["_law_s"] x2 e2) (T_law_trapped : Fn K mg "_law_trapped" s_law_trapped ["_law_s", "_law_cause", "_law_place"] x3 e3) (T_law_own : Fn K mg "_law_own" s_law_own ["_law_s", "_law_which"] x4 e4) (T_law_moved : Fn K mg "_law_moved" s_law_moved ["_law_s", "_law_which"] x5 e5) (T_law_row : Fn K mg "_law_row" s_law_row ["_law_s", "_law_op", "_law_number", "_law_word"] x6 e6)
    {cdv : Value} {A : Around} {outer : List Env} {s : Shared} {H : Hp} {E : XK} (hr : Room 2 (A.deeper (PyProof.Rows.envOfC "_law_beat" (defScope s_law_beat) s.heap.objs.size f cdv))) :
    ∃ u, PSs (cxOf CX0 P w K mg base ["_law_state", "_law_word", "_law_s", "_law_barred", "_law_op", "_law_number", "_law_write", "_law_tell", "_law_was_task"] "_law_beat" (defScope s_law_beat) f cdv A outer s H E).nox ((defBody s_law_beat).drop 9) u ∧
      ∀ (D : Ends) (t d : Addr) (word : Int) (st : List Int) (b : V) (H1 : Hp) (v6 v7 v8 : Option V), (∀ (p t' : Addr) (H' : Hp), H p = none → Same H H' → H' p = some (.tup [.ref t', btW st, btT st]) → H' t' = some (.tup ((btS st word).map V.int)) → D.rt (.ref p) H') →
        Same H H1 → H d = none → H1 d = some (.dK (kv st)) → Rg sizes15 st → 0 ≤ word ∧ word < 65536 → ¬ st.getD 14 0 = 1 → ¬ st.getD 4 0 = 0 → stCause st = 0 →
        u D [some (.ref t), some (.int word), some (.ref d), some b, some (.int (stOp st)), some (.int (stNum st)), v6, v7, v8] H1 := by
  have G_law_told_of := ok_law_told_of (P := P) (w := w) (base := base) T_law_told_of.F T T_law_names
  have G_law_trapped := ok_law_trapped (P := P) (w := w) (mg := mg) (base := base) T_law_trapped.F
  have G_law_row := ok_law_row (P := P) (w := w) (base := base) T_law_row.F T T_law_own T_law_moved
  refine ⟨_, (pss_cons (ps_set (i := 6) sc_law_beat.nd rfl (Or.inl rfl) (pe_ix ix_list (pe_lst (pa_cons pe_non (pa_cons (pe_dget (hu_of hr) (pv 2) pe_str (fun _ _ => rfl)) pa_nil))) (pe_callTy call_int1 rfl T.b_int (by decide +kernel) (pa_cons (pe_det (pe_or (pe_cmpR op_eq (pv 4) pe_int (nomark _)) (pe_one (pe_cmpR op_eq (pv 4) pe_int (nomark _))))) pa_nil)) (fun _ _ => rfl)))
      (pss_cons (ps_set (i := 7) sc_law_beat.nd rfl (Or.inl rfl) (pe_ix ix_list (pe_lst (pa_cons pe_non (pa_cons (pe_dget (hu_of hr) (pv 2) pe_str (fun _ _ => rfl)) pa_nil))) (pe_callTy call_int1 rfl T.b_int (by decide +kernel) (pa_cons (pe_det (pe_and (pe_cmpR op_eq (pv 4) pe_int (nomark _)) (pe_one (pe_cmpR op_eq (pe_op op_mod (pv 5) pe_int) pe_int (nomark _))))) pa_nil)) (fun _ _ => rfl)))
      (pss_cons (ps_set (i := 8) sc_law_beat.nd rfl (Or.inl rfl) (pe_cmpR op_eq (pe_dget (hu_of hr) (pv 2) pe_str (fun _ _ => rfl)) pe_int (nomark _)))
      (pss_cons (ps_expr (pe_call G_law_row (hr.mono (by decide)) rfl T_law_row.m T_law_row.F.kp T_law_row.b .nil pass0 (pa_cons (pv 2) (pa_cons (pv 4) (pa_cons (pv 5) (pa_cons (pv 1) pa_nil))))))
      (pss_cons (ps_if (PW.pt (pw_and (pt_val (pv 8)) (pw_and1 (pt_cmpR op_gt (pe_dget (hu_of hr) (pv 2) pe_str (fun _ _ => rfl)) pe_int (nomark _)))))
        (pss_cons (ps_dput (hu_of hr) (pv 2) pe_str (pe_op op_sub (pe_dget (hu_of hr) (pv 2) pe_str (fun _ _ => rfl)) pe_int) rfl)
        (pss_one (ps_if (pt_cmpR op_eq (pe_dget (hu_of hr) (pv 2) pe_str (fun _ _ => rfl)) pe_int (nomark _))
          (pss_one (ps_expr (pe_call G_law_trapped (hr.mono (by decide)) rfl T_law_trapped.m T_law_trapped.F.kp T_law_trapped.b .nil pass0 (pa_cons (pv 2) (pa_cons pe_int (pa_cons (pe_dget (hu_of hr) (pv 2) pe_str (fun _ _ => rfl)) pa_nil))))))
          pss_nil)))
        pss_nil)
      (pss_one (ps_ret (pe_tup (pa_cons (pe_call G_law_told_of (hr.mono (by decide)) rfl T_law_told_of.m T_law_told_of.F.kp T_law_told_of.b .nil pass0 (pa_cons (pv 2) pa_nil)) (pa_cons (pv 6) (pa_cons (pv 7) pa_nil))))))))))), ?_⟩
  intro D t d word st b H1 v6 v7 v8 q s1 Hd ed R hw eh ef ec
  have hs : sizeLine = 16777216 := sizeLine_eq
  have pn16 : (0 : Int) < 16 := by decide
  have hl : st.length = 15 := R.len
  have eW : btW st = stWritten st := by unfold btW; rw [if_neg eh, if_neg ef, if_neg (fun z => z ec)]
  have eT : btT st = stTold st := by unfold btT; rw [if_neg eh, if_neg ef, if_neg (fun z => z ec)]
  -- what is written
  refine ⟨_, rfl, d, _, rfl, dget hl ed 0 (by decide) "a" (by decide +kernel), by show 2 ≤ sizeLine; omega, fun l1 hl1 => ?_⟩
  have y1 := Same.put (o := .lst [V.non, V.int (st.getD 0 0)]) hl1
  refine ⟨.bl (decide (stOp st = 2 ∨ stOp st = 10)), ?_, .inr ⟨_, rfl, l1, [V.non, V.int (st.getD 0 0)], _, _, rfl, rfl, SqL.of upd_same, wr_at st, ?_⟩⟩
  · refine ⟨_, rfl, rfl, _, rfl, itI (fun h => ?_) (fun h => ?_)⟩
    · exact ⟨by rw [decide_eq_true (Or.inl h)], rfl⟩
    · refine ⟨_, rfl, rfl, ?_, rfl⟩
      rw [dec_i]
      exact congrArg V.bl (decide_eq_decide.mpr ⟨fun z => .inr z, fun z => z.resolve_left h⟩)
  have ed1 := y1 _ _ ed
  have s2 := s1.trans y1
  generalize upd H1 l1 (.lst [V.non, V.int (st.getD 0 0)]) = H2 at y1 ed1 s2 ⊢
  -- what is told
  refine ⟨_, rfl, d, _, rfl, dget hl ed1 0 (by decide) "a" (by decide +kernel), by show 2 ≤ sizeLine; omega, fun l2 hl2 => ?_⟩
  have y2 := Same.put (o := .lst [V.non, V.int (st.getD 0 0)]) hl2
  refine ⟨.bl (decide (stOp st = 14 ∧ stNum st % 16 = 6)), ?_, .inr ⟨_, rfl, l2, [V.non, V.int (st.getD 0 0)], _, _, rfl, rfl, SqL.of upd_same, te_at st, ?_⟩⟩
  · refine ⟨_, rfl, rfl, _, rfl, itI (fun h => ?_) (fun h => ?_)⟩
    · refine ⟨_, rfl, _, _, rfl, rfl, pn16, rfl, ?_, rfl⟩
      rw [dec_i]
      exact congrArg V.bl (decide_eq_decide.mpr ⟨fun z => ⟨h, z⟩, fun z => z.2⟩)
    · exact ⟨by rw [decide_eq_false (fun z => h z.1)], rfl⟩
  have ed2 := y2 _ _ ed1
  have s3 := s2.trans y2
  generalize upd H2 l2 (.lst [V.non, V.int (st.getD 0 0)]) = H3 at y2 ed2 s3 ⊢
  refine ⟨_, rfl, d, _, rfl, dget hl ed2 5 (by decide) "m" (by decide +kernel), rfl, ?_⟩
  refine ⟨_, rfl, _, rfl, _, rfl, _, rfl, d, st, _, _, _, rfl, ed2, hl, fun H4 k4 e4 => ?_⟩
  rw [row_eq R hw] at e4
  have s4 : Same H H4 := Kl.same s3 Hd k4
  obtain ⟨r, hrr⟩ : ∃ r, rdS st word = r := ⟨_, rfl⟩
  have lr : r.length = 15 := by rw [← hrr]; unfold rdS; rw [exS_len]; exact hl
  rw [hrr] at e4
  have fin : ∀ (r' : List Int) (H5 : Hp), r' = btS st word → r'.length = 15 → Same H H5 → H5 d = some (.dK (kv r')) → ∃ (d' : Addr) (st' : List Int), [V.ref d] = [.ref d'] ∧ H5 d' = some (.dK (kv st')) ∧ st'.length = 15 ∧ ∀ (t' : Addr) (H' : Hp), H5 t' = none → Same H5 H' → H' t' = some (.tup (st'.map V.int)) →
      (3 ≤ sizeLine ∧ ∀ p, H' p = none → D.rt (.ref p) (upd H' p (.tup [V.ref t', stWritten st, stTold st]))) := fun r' H5 er lr' s5 e5 => by
    refine ⟨d, r', rfl, e5, lr', fun t' H' ht' s' e' => ⟨by omega, fun p hp => q p t' _ ((s5.trans s').free hp) ((s5.trans s').trans (Same.put hp)) ?_ ?_⟩⟩
    · rw [eW, eT]; exact upd_same
    · rw [← er]; exact Same.put hp _ _ e'
  have eb : btS st word = if st.getD 5 0 = 1 then beS r else r := by
    unfold btS
    rw [if_neg eh, if_neg ef, if_neg (fun z => z ec), hrr]
  by_cases em : st.getD 5 0 = 1
  · rw [if_pos em] at eb
    obtain ⟨n14, n15, _⟩ := cause_0 em ec
    have g := fun k => exS_get [(0, stA st word), (1, stX st), (2, stP st), (4, 0)] st k hl (by simp)
    have er : exS st [(0, stA st word), (1, stX st), (2, stP st), (4, 0)] = r := by
      rw [← hrr]; unfold rdS; rw [if_neg n14, if_neg n15, List.append_nil, List.append_nil]
    rw [er] at g
    have g8 : r.getD 8 0 = st.getD 8 0 := g 8
    have b8 := R.bd 8 4096 rfl
    refine ⟨_, rfl, _, rfl, itP em ?_⟩
    refine ⟨_, rfl, d, _, rfl, dget lr e4 8 (by decide) "t" (by decide +kernel), _, _, rfl, rfl, _, rfl, ite2 (fun h => ?_) (fun h => ?_)⟩
    · have h8 : 0 < r.getD 8 0 := of_decide_eq_true h
      refine ⟨_, rfl, d, _, rfl, dget lr e4 8 (by decide) "t" (by decide +kernel), _, _, rfl, rfl, _, rfl, d, _, rfl, dput lr e4 8 (by decide) "t" (by decide +kernel) _, ?_⟩
      have s5 : Same H (upd H4 d (.dK (kv (r.set 8 (r.getD 8 0 - 1))))) := Kl.same s4 Hd Kl.one
      have e5 : upd H4 d (.dK (kv (r.set 8 (r.getD 8 0 - 1)))) d = some (.dK (kv (r.set 8 (r.getD 8 0 - 1)))) := upd_same
      obtain ⟨r2, hr2⟩ : ∃ r2, r.set 8 (r.getD 8 0 - 1) = r2 := ⟨_, rfl⟩
      have l2 : r2.length = 15 := by rw [← hr2, List.length_set]; exact lr
      rw [hr2] at s5 e5
      rw [hr2]
      generalize upd H4 d (.dK (kv r2)) = H5 at s5 e5 ⊢
      have ex : exS r [(8, r.getD 8 0 - 1)] = r2 := hr2
      have eb2 : btS st word = if r2.getD 8 0 = 0 then trS r2 4 (r2.getD 2 0) else r2 := by
        rw [eb]; unfold beS; rw [if_neg (by omega), ex]
      refine ⟨_, rfl, d, _, rfl, dget l2 e5 8 (by decide) "t" (by decide +kernel), rfl, _, rfl, itI (fun h0 => ?_) (fun h0 => ?_)⟩
      · rw [if_pos h0] at eb2
        refine ⟨_, rfl, _, rfl, d, _, rfl, dget l2 e5 2 (by decide) "p" (by decide +kernel), d, r2, 4, _, rfl, e5, l2, fun H6 k6 e6 => ?_⟩
        obtain ⟨d', st', a1, a2, a3, a4⟩ := fin _ H6 eb2.symm (trS_len l2 _ _) (Kl.same s5 Hd k6) e6
        exact ⟨_, rfl, d', st', a1, a2, a3, fun t' H' b1 b2 b3 => ⟨_, rfl, _, rfl, a4 t' H' b1 b2 b3⟩⟩
      · rw [if_neg h0] at eb2
        obtain ⟨d', st', a1, a2, a3, a4⟩ := fin _ H5 eb2.symm l2 s5 e5
        exact ⟨_, rfl, d', st', a1, a2, a3, fun t' H' b1 b2 b3 => ⟨_, rfl, _, rfl, a4 t' H' b1 b2 b3⟩⟩
    · have h8 : ¬ 0 < r.getD 8 0 := fun z => h (decide_eq_true z)
      have eb2 : btS st word = r := by rw [eb]; unfold beS; rw [if_pos (by omega)]
      obtain ⟨d', st', a1, a2, a3, a4⟩ := fin _ H4 eb2.symm lr s4 e4
      exact ⟨_, rfl, d', st', a1, a2, a3, fun t' H' b1 b2 b3 => ⟨_, rfl, _, rfl, a4 t' H' b1 b2 b3⟩⟩
  · rw [if_neg em] at eb
    refine ⟨_, rfl, _, rfl, itN em ?_⟩
    obtain ⟨d', st', a1, a2, a3, a4⟩ := fin _ H4 eb.symm lr s4 e4
    exact ⟨_, rfl, d', st', a1, a2, a3, fun t' H' b1 b2 b3 => ⟨_, rfl, _, rfl, a4 t' H' b1 b2 b3⟩⟩
theorem lb_8 {f x1 x2 x3 x4 x5 x6 : Addr} {e1 e2 e3 e4 e5 e6 : FuncData} (T : Bt mg) (T_law_names : Fn K mg "_law_names" s_law_names [] x1 e1) (T_law_told_of : Fn K mg "_law_told_of" s_law_told_of ["_law_s"] x2 e2) (T_law_trapped : Fn K mg "_law_trapped" s_law_trapped ["_law_s", "_law_cause", "_law_place"] x3 e3) (T_law_own : Fn K mg "_law_own" s_law_own ["_law_s", "_law_which"] x4 e4) (T_law_moved : Fn K mg "_law_moved" s_law_moved ["_law_s", "_law_which"] x5 e5) (T_law_row : Fn K mg "_law_row" s_law_row ["_law_s", "_law_op", "_law_number", "_law_word"] x6 e6)
    {cdv : Value} {A : Around} {outer : List Env} {s : Shared} {H : Hp} {E : XK} (hr : Room 2 (A.deeper (PyProof.Rows.envOfC "_law_beat" (defScope s_law_beat) s.heap.objs.size f cdv))) :
    ∃ u, PSs (cxOf CX0 P w K mg base ["_law_state", "_law_word", "_law_s", "_law_barred", "_law_op", "_law_number", "_law_write", "_law_tell", "_law_was_task"] "_law_beat" (defScope s_law_beat) f cdv A outer s H E).nox ((defBody s_law_beat).drop 8) u ∧
      ∀ (D : Ends) (t d : Addr) (word : Int) (st : List Int) (b : V) (H1 : Hp) (v6 v7 v8 : Option V), (∀ (p t' : Addr) (H' : Hp), H p = none → Same H H' → H' p = some (.tup [.ref t', btW st, btT st]) → H' t' = some (.tup ((btS st word).map V.int)) → D.rt (.ref p) H') →
        Same H H1 → H d = none → H1 d = some (.dK (kv st)) → Rg sizes15 st → 0 ≤ word ∧ word < 65536 → ¬ st.getD 14 0 = 1 → ¬ st.getD 4 0 = 0 → ¬ ((stOp st = 1 ∨ stOp st = 2 ∨ stOp st = 3 ∨ stOp st = 4 ∨ stOp st = 5 ∨ stOp st = 9 ∨ stOp st = 10) ∧ stBarred st = true) → ¬ ((stOp st = 14 ∨ stOp st = 15) ∧ st.getD 5 0 = 1) →
        u D [some (.ref t), some (.int word), some (.ref d), some b, some (.int (stOp st)), some (.int (stNum st)), v6, v7, v8] H1 := by
  have G_law_told_of := ok_law_told_of (P := P) (w := w) (base := base) T_law_told_of.F T T_law_names
  have G_law_trapped := ok_law_trapped (P := P) (w := w) (mg := mg) (base := base) T_law_trapped.F
  obtain ⟨uN, hN, qN⟩ := lb_9 (P := P) (w := w) (base := base) (f := f) (cdv := cdv) (A := A) (outer := outer) (s := s) (H := H) (E := E) T T_law_names T_law_told_of T_law_trapped T_law_own T_law_moved T_law_row hr
  refine ⟨_, (pss_cons (ps_if (pt_cmpR op_eq (pv 4) pe_int (nomark _))
        (pss_cons (ps_dput (hu_of hr) (pv 2) pe_str (pv 5) rfl)
        (pss_cons (ps_expr (pe_call G_law_trapped (hr.mono (by decide)) rfl T_law_trapped.m T_law_trapped.F.kp T_law_trapped.b .nil pass0 (pa_cons (pv 2) (pa_cons pe_int (pa_cons (pe_op op_add (pe_dget (hu_of hr) (pv 2) pe_str (fun _ _ => rfl)) pe_int) pa_nil)))))
        (pss_one (ps_ret (pe_tup (pa_cons (pe_call G_law_told_of (hr.mono (by decide)) rfl T_law_told_of.m T_law_told_of.F.kp T_law_told_of.b .nil pass0 (pa_cons (pv 2) pa_nil)) (pa_cons pe_non (pa_cons pe_non pa_nil))))))))
        pss_nil)
      hN), ?_⟩
  intro D t d word st b H1 v6 v7 v8 q s1 Hd ed R hw eh ef n1 n2
  have hs : sizeLine = 16777216 := sizeLine_eq
  have hl : st.length = 15 := R.len
  have b3 := R.bd 3 65536 rfl
  have o15 : 0 ≤ stOp st ∧ stOp st ≤ 15 := by unfold stOp; omega
  have fin : ∀ (r' : List Int) (H5 : Hp), btW st = .non → btT st = .non → r' = btS st word → r'.length = 15 → Same H H5 → H5 d = some (.dK (kv r')) → ∃ (d' : Addr) (st' : List Int), [V.ref d] = [.ref d'] ∧ H5 d' = some (.dK (kv st')) ∧ st'.length = 15 ∧ ∀ (t' : Addr) (H' : Hp), H5 t' = none → Same H5 H' → H' t' = some (.tup (st'.map V.int)) →
      (3 ≤ sizeLine ∧ ∀ p, H' p = none → D.rt (.ref p) (upd H' p (.tup [V.ref t', V.non, V.non]))) := fun r' H5 eW eT er lr' s5 e5 => by
    refine ⟨d, r', rfl, e5, lr', fun t' H' ht' s' e' => ⟨by omega, fun p hp => q p t' _ ((s5.trans s').free hp) ((s5.trans s').trans (Same.put hp)) ?_ ?_⟩⟩
    · rw [eW, eT]; exact upd_same
    · rw [← er]; exact Same.put hp _ _ e'
  refine ⟨_, rfl, rfl, _, rfl, itI (fun h => ?_) (fun h => ?_)⟩
  · have ec : stCause st = 3 := by unfold stCause; rw [if_neg n1, if_neg n2, if_pos h]
    have nc : ¬ stCause st = 0 := by rw [ec]; decide
    refine ⟨_, rfl, _, rfl, d, _, rfl, dput hl ed 13 (by decide) "n" (by decide +kernel) _, ?_⟩
    have s2 : Same H (upd H1 d (.dK (kv (st.set 13 (stNum st))))) := Kl.same s1 Hd Kl.one
    have l2 := ls (j := 13) (v := stNum st) hl
    refine ⟨_, rfl, _, rfl, d, _, rfl, dget l2 upd_same 2 (by decide) "p" (by decide +kernel), _, _, rfl, rfl, d, _, 3, _, rfl, upd_same, l2, fun H6 k6 e6 => ?_⟩
    rw [getD_set (by omega), if_neg (by decide)] at e6
    obtain ⟨d', st', a1, a2, a3, a4⟩ := fin _ H6 (by unfold btW; rw [if_neg eh, if_neg ef, if_pos nc]) (by unfold btT; rw [if_neg eh, if_neg ef, if_pos nc]) (by unfold btS; rw [if_neg eh, if_neg ef, if_pos nc, ec]; rfl) (trS_len l2 _ _) (Kl.same s2 Hd k6) e6
    exact ⟨_, rfl, d', st', a1, a2, a3, fun t' H' b1 b2 b3 => a4 t' H' b1 b2 b3⟩
  · exact qN D t d word st b H1 v6 v7 v8 q s1 Hd ed R hw eh ef (by unfold stCause; rw [if_neg n1, if_neg n2, if_neg h])
theorem lb_7 {f x1 x2 x3 x4 x5 x6 : Addr} {e1 e2 e3 e4 e5 e6 : FuncData} (T : Bt mg) (T_law_names : Fn K mg "_law_names" s_law_names [] x1 e1) (T_law_told_of : Fn K mg "_law_told_of" s_law_told_of ["_law_s"] x2 e2) (T_law_trapped : Fn K mg "_law_trapped" s_law_trapped ["_law_s", "_law_cause", "_law_place"] x3 e3) (T_law_own : Fn K mg "_law_own" s_law_own ["_law_s", "_law_which"] x4 e4) (T_law_moved : Fn K mg "_law_moved" s_law_moved ["_law_s", "_law_which"] x5 e5) (T_law_row : Fn K mg "_law_row" s_law_row ["_law_s", "_law_op", "_law_number", "_law_word"] x6 e6)
    {cdv : Value} {A : Around} {outer : List Env} {s : Shared} {H : Hp} {E : XK} (hr : Room 2 (A.deeper (PyProof.Rows.envOfC "_law_beat" (defScope s_law_beat) s.heap.objs.size f cdv))) :
    ∃ u, PSs (cxOf CX0 P w K mg base ["_law_state", "_law_word", "_law_s", "_law_barred", "_law_op", "_law_number", "_law_write", "_law_tell", "_law_was_task"] "_law_beat" (defScope s_law_beat) f cdv A outer s H E).nox ((defBody s_law_beat).drop 7) u ∧
      ∀ (D : Ends) (t d : Addr) (word : Int) (st : List Int) (b : V) (H1 : Hp) (v6 v7 v8 : Option V), (∀ (p t' : Addr) (H' : Hp), H p = none → Same H H' → H' p = some (.tup [.ref t', btW st, btT st]) → H' t' = some (.tup ((btS st word).map V.int)) → D.rt (.ref p) H') →
        Same H H1 → H d = none → H1 d = some (.dK (kv st)) → Rg sizes15 st → 0 ≤ word ∧ word < 65536 → ¬ st.getD 14 0 = 1 → ¬ st.getD 4 0 = 0 → ¬ ((stOp st = 1 ∨ stOp st = 2 ∨ stOp st = 3 ∨ stOp st = 4 ∨ stOp st = 5 ∨ stOp st = 9 ∨ stOp st = 10) ∧ stBarred st = true) →
        u D [some (.ref t), some (.int word), some (.ref d), some b, some (.int (stOp st)), some (.int (stNum st)), v6, v7, v8] H1 := by
  have G_law_told_of := ok_law_told_of (P := P) (w := w) (base := base) T_law_told_of.F T T_law_names
  have G_law_trapped := ok_law_trapped (P := P) (w := w) (mg := mg) (base := base) T_law_trapped.F
  obtain ⟨uN, hN, qN⟩ := lb_8 (P := P) (w := w) (base := base) (f := f) (cdv := cdv) (A := A) (outer := outer) (s := s) (H := H) (E := E) T T_law_names T_law_told_of T_law_trapped T_law_own T_law_moved T_law_row hr
  refine ⟨_, (pss_cons (ps_if (PW.pt (pw_and (pt_cmpR op_ge (pv 4) pe_int (nomark _)) (pw_and1 (pt_cmpR op_eq (pe_dget (hu_of hr) (pv 2) pe_str (fun _ _ => rfl)) pe_int (nomark _)))))
        (pss_cons (ps_expr (pe_call G_law_trapped (hr.mono (by decide)) rfl T_law_trapped.m T_law_trapped.F.kp T_law_trapped.b .nil pass0 (pa_cons (pv 2) (pa_cons pe_int (pa_cons (pe_dget (hu_of hr) (pv 2) pe_str (fun _ _ => rfl)) pa_nil)))))
        (pss_one (ps_ret (pe_tup (pa_cons (pe_call G_law_told_of (hr.mono (by decide)) rfl T_law_told_of.m T_law_told_of.F.kp T_law_told_of.b .nil pass0 (pa_cons (pv 2) pa_nil)) (pa_cons pe_non (pa_cons pe_non pa_nil)))))))
        pss_nil)
      hN), ?_⟩
  intro D t d word st b H1 v6 v7 v8 q s1 Hd ed R hw eh ef n1
  have hs : sizeLine = 16777216 := sizeLine_eq
  have hl : st.length = 15 := R.len
  have b3 := R.bd 3 65536 rfl
  have o15 : 0 ≤ stOp st ∧ stOp st ≤ 15 := by unfold stOp; omega
  have fin : ∀ (r' : List Int) (H5 : Hp), btW st = .non → btT st = .non → r' = btS st word → r'.length = 15 → Same H H5 → H5 d = some (.dK (kv r')) → ∃ (d' : Addr) (st' : List Int), [V.ref d] = [.ref d'] ∧ H5 d' = some (.dK (kv st')) ∧ st'.length = 15 ∧ ∀ (t' : Addr) (H' : Hp), H5 t' = none → Same H5 H' → H' t' = some (.tup (st'.map V.int)) →
      (3 ≤ sizeLine ∧ ∀ p, H' p = none → D.rt (.ref p) (upd H' p (.tup [V.ref t', V.non, V.non]))) := fun r' H5 eW eT er lr' s5 e5 => by
    refine ⟨d, r', rfl, e5, lr', fun t' H' ht' s' e' => ⟨by omega, fun p hp => q p t' _ ((s5.trans s').free hp) ((s5.trans s').trans (Same.put hp)) ?_ ?_⟩⟩
    · rw [eW, eT]; exact upd_same
    · rw [← er]; exact Same.put hp _ _ e'
  refine ⟨_, rfl, _, _, rfl, rfl, _, rfl, ite2 (fun h => ?_) (fun h => ?_)⟩
  · have h14 : 14 ≤ stOp st := of_decide_eq_true h
    have ho : stOp st = 14 ∨ stOp st = 15 := by omega
    refine ⟨_, rfl, d, _, rfl, dget hl ed 5 (by decide) "m" (by decide +kernel), rfl, _, rfl, itI (fun em => ?_) (fun em => ?_)⟩
    · have ec : stCause st = 2 := by unfold stCause; rw [if_neg n1, if_pos ⟨ho, em⟩]
      have nc : ¬ stCause st = 0 := by rw [ec]; decide
      refine ⟨_, rfl, _, rfl, d, _, rfl, dget hl ed 2 (by decide) "p" (by decide +kernel), d, _, 2, _, rfl, ed, hl, fun H6 k6 e6 => ?_⟩
      obtain ⟨d', st', a1, a2, a3, a4⟩ := fin _ H6 (by unfold btW; rw [if_neg eh, if_neg ef, if_pos nc]) (by unfold btT; rw [if_neg eh, if_neg ef, if_pos nc]) (by unfold btS; rw [if_neg eh, if_neg ef, if_pos nc, ec]; rfl) (trS_len hl _ _) (Kl.same s1 Hd k6) e6
      exact ⟨_, rfl, d', st', a1, a2, a3, fun t' H' b1 b2 b3 => a4 t' H' b1 b2 b3⟩
    · exact qN D t d word st b H1 v6 v7 v8 q s1 Hd ed R hw eh ef n1 (fun z => em z.2)
  · have h14 : ¬ 14 ≤ stOp st := fun z => h (decide_eq_true z)
    exact qN D t d word st b H1 v6 v7 v8 q s1 Hd ed R hw eh ef n1 (by omega)
theorem lb_6 {f x1 x2 x3 x4 x5 x6 : Addr} {e1 e2 e3 e4 e5 e6 : FuncData} (T : Bt mg) (T_law_names : Fn K mg "_law_names" s_law_names [] x1 e1) (T_law_told_of : Fn K mg "_law_told_of" s_law_told_of ["_law_s"] x2 e2) (T_law_trapped : Fn K mg "_law_trapped" s_law_trapped ["_law_s", "_law_cause", "_law_place"] x3 e3) (T_law_own : Fn K mg "_law_own" s_law_own ["_law_s", "_law_which"] x4 e4) (T_law_moved : Fn K mg "_law_moved" s_law_moved ["_law_s", "_law_which"] x5 e5) (T_law_row : Fn K mg "_law_row" s_law_row ["_law_s", "_law_op", "_law_number", "_law_word"] x6 e6)
    {cdv : Value} {A : Around} {outer : List Env} {s : Shared} {H : Hp} {E : XK} (hr : Room 2 (A.deeper (PyProof.Rows.envOfC "_law_beat" (defScope s_law_beat) s.heap.objs.size f cdv))) :
    ∃ u, PSs (cxOf CX0 P w K mg base ["_law_state", "_law_word", "_law_s", "_law_barred", "_law_op", "_law_number", "_law_write", "_law_tell", "_law_was_task"] "_law_beat" (defScope s_law_beat) f cdv A outer s H E).nox ((defBody s_law_beat).drop 6) u ∧
      ∀ (D : Ends) (t d : Addr) (word : Int) (st : List Int) (b : V) (H1 : Hp) (v6 v7 v8 : Option V), (∀ (p t' : Addr) (H' : Hp), H p = none → Same H H' → H' p = some (.tup [.ref t', btW st, btT st]) → H' t' = some (.tup ((btS st word).map V.int)) → D.rt (.ref p) H') →
        Same H H1 → H d = none → H1 d = some (.dK (kv st)) → Rg sizes15 st → 0 ≤ word ∧ word < 65536 → ¬ st.getD 14 0 = 1 → b = .bl (stBarred st) → ¬ (st.getD 4 0 = 0 ∧ stBarred st = false) →
        u D [some (.ref t), some (.int word), some (.ref d), some b, some (.int (stOp st)), some (.int (stNum st)), v6, v7, v8] H1 := by
  have G_law_told_of := ok_law_told_of (P := P) (w := w) (base := base) T_law_told_of.F T T_law_names
  have G_law_trapped := ok_law_trapped (P := P) (w := w) (mg := mg) (base := base) T_law_trapped.F
  obtain ⟨uN, hN, qN⟩ := lb_7 (P := P) (w := w) (base := base) (f := f) (cdv := cdv) (A := A) (outer := outer) (s := s) (H := H) (E := E) T T_law_names T_law_told_of T_law_trapped T_law_own T_law_moved T_law_row hr
  refine ⟨_, (pss_cons (ps_if (PW.pt (pw_and (pt_val (pv 3)) (pw_and1 (PW.pt (pw_or (pt_cmpR op_eq (pe_dget (hu_of hr) (pv 2) pe_str (fun _ _ => rfl)) pe_int (nomark _)) (pw_or1 (pt_cmpR op_in_seq (pv 4) (pe_lst (pa_cons pe_int (pa_cons pe_int (pa_cons pe_int (pa_cons pe_int (pa_cons pe_int (pa_cons pe_int (pa_cons pe_int pa_nil)))))))) (by with_unfolding_all rfl))))))))
        (pss_cons (ps_expr (pe_call G_law_trapped (hr.mono (by decide)) rfl T_law_trapped.m T_law_trapped.F.kp T_law_trapped.b .nil pass0 (pa_cons (pv 2) (pa_cons pe_int (pa_cons (pe_dget (hu_of hr) (pv 2) pe_str (fun _ _ => rfl)) pa_nil)))))
        (pss_one (ps_ret (pe_tup (pa_cons (pe_call G_law_told_of (hr.mono (by decide)) rfl T_law_told_of.m T_law_told_of.F.kp T_law_told_of.b .nil pass0 (pa_cons (pv 2) pa_nil)) (pa_cons pe_non (pa_cons pe_non pa_nil)))))))
        pss_nil)
      hN), ?_⟩
  intro D t d word st b H1 v6 v7 v8 q s1 Hd ed R hw eh hb nf
  have hs : sizeLine = 16777216 := sizeLine_eq
  have hl : st.length = 15 := R.len
  have b3 := R.bd 3 65536 rfl
  have o15 : 0 ≤ stOp st ∧ stOp st ≤ 15 := by unfold stOp; omega
  have fin : ∀ (r' : List Int) (H5 : Hp), btW st = .non → btT st = .non → r' = btS st word → r'.length = 15 → Same H H5 → H5 d = some (.dK (kv r')) → ∃ (d' : Addr) (st' : List Int), [V.ref d] = [.ref d'] ∧ H5 d' = some (.dK (kv st')) ∧ st'.length = 15 ∧ ∀ (t' : Addr) (H' : Hp), H5 t' = none → Same H5 H' → H' t' = some (.tup (st'.map V.int)) →
      (3 ≤ sizeLine ∧ ∀ p, H' p = none → D.rt (.ref p) (upd H' p (.tup [V.ref t', V.non, V.non]))) := fun r' H5 eW eT er lr' s5 e5 => by
    refine ⟨d, r', rfl, e5, lr', fun t' H' ht' s' e' => ⟨by omega, fun p hp => q p t' _ ((s5.trans s').free hp) ((s5.trans s').trans (Same.put hp)) ?_ ?_⟩⟩
    · rw [eW, eT]; exact upd_same
    · rw [← er]; exact Same.put hp _ _ e'
  subst hb
  refine ⟨_, rfl, _, rfl, ite2 (fun hB => ?_) (fun hB => ?_)⟩
  · have eb1 : ∀ (ec : st.getD 4 0 = 0 ∨ stCause st = 1), btS st word = trS st 1 (st.getD 2 0) ∧ btW st = .non ∧ btT st = .non := fun ec => by
      by_cases ef : st.getD 4 0 = 0
      · unfold btS btW btT feS
        rw [if_neg eh, if_neg eh, if_neg eh, if_pos ef, if_pos ef, if_pos ef, if_pos hB]
        exact ⟨rfl, rfl, rfl⟩
      · have ec := ec.resolve_left ef
        have nc : ¬ stCause st = 0 := by rw [ec]; decide
        unfold btS btW btT
        rw [if_neg eh, if_neg eh, if_neg eh, if_neg ef, if_neg ef, if_neg ef, if_pos nc, if_pos nc, if_pos nc, ec]
        exact ⟨rfl, rfl, rfl⟩
    refine ⟨_, rfl, d, _, rfl, dget hl ed 4 (by decide) "f" (by decide +kernel), rfl, _, rfl, itI (fun ef => ?_) (fun ef => ?_)⟩
    · refine iteT ⟨_, rfl, _, rfl, d, _, rfl, dget hl ed 2 (by decide) "p" (by decide +kernel), d, _, 1, _, rfl, ed, hl, fun H6 k6 e6 => ?_⟩
      obtain ⟨z1, z2, z3⟩ := eb1 (.inl ef)
      obtain ⟨d', st', a1, a2, a3, a4⟩ := fin _ H6 z2 z3 z1.symm (trS_len hl _ _) (Kl.same s1 Hd k6) e6
      exact ⟨_, rfl, d', st', a1, a2, a3, fun t' H' b1 b2 b3 => a4 t' H' b1 b2 b3⟩
    · refine ⟨_, rfl, by show 7 ≤ sizeLine; omega, fun l hll => ?_⟩
      have y := Same.put (o := .lst [V.int 1, V.int 2, V.int 3, V.int 4, V.int 5, V.int 9, V.int 10]) hll
      refine ⟨l, [V.int 1, V.int 2, V.int 3, V.int 4, V.int 5, V.int 9, V.int 10], rfl, .inl (SqL.of upd_same), rfl, rfl, _, rfl, ?_⟩
      have ein := in7 (stOp st)
      rw [ein]
      have s2 := s1.trans y
      have ed2 := y _ _ ed
      generalize upd H1 l (.lst [V.int 1, V.int 2, V.int 3, V.int 4, V.int 5, V.int 9, V.int 10]) = H2 at s2 ed2 ⊢
      refine ite2 (fun h => ?_) (fun h => ?_)
      · have ec : stCause st = 1 := if_pos ⟨of_decide_eq_true h, hB⟩
        refine ⟨_, rfl, _, rfl, d, _, rfl, dget hl ed2 2 (by decide) "p" (by decide +kernel), d, _, 1, _, rfl, ed2, hl, fun H6 k6 e6 => ?_⟩
        obtain ⟨z1, z2, z3⟩ := eb1 (.inr ec)
        obtain ⟨d', st', a1, a2, a3, a4⟩ := fin _ H6 z2 z3 z1.symm (trS_len hl _ _) (Kl.same s2 Hd k6) e6
        exact ⟨_, rfl, d', st', a1, a2, a3, fun t' H' b1 b2 b3 => a4 t' H' b1 b2 b3⟩
      · exact qN D t d word st _ H2 v6 v7 v8 q s2 Hd ed2 R hw eh ef (fun z => h (decide_eq_true z.1))
  · exact qN D t d word st _ H1 v6 v7 v8 q s1 Hd ed R hw eh (fun z => nf ⟨z, Bool.eq_false_iff.mpr hB⟩) (fun z => hB z.2)
theorem ok_law_beat {f x1 x2 x3 x4 x5 x6 x7 x8 : Addr} {fd e1 e2 e3 e4 e5 e6 e7 e8 : FuncData} (F : Fun K "_law_beat" "_law_beat" s_law_beat f fd) (T : Bt mg) (T_law_names : Fn K mg "_law_names" s_law_names [] x1 e1) (T_law_told_of : Fn K mg "_law_told_of" s_law_told_of ["_law_s"] x2 e2) (T_law_trapped : Fn K mg "_law_trapped" s_law_trapped ["_law_s", "_law_cause", "_law_place"] x3 e3) (T_law_own : Fn K mg "_law_own" s_law_own ["_law_s", "_law_which"] x4 e4) (T_law_moved : Fn K mg "_law_moved" s_law_moved ["_law_s", "_law_which"] x5 e5) (T_law_row : Fn K mg "_law_row" s_law_row ["_law_s", "_law_op", "_law_number", "_law_word"] x6 e6)
    (T_law_read : Fn K mg "_law_read" s_law_read ["_law_state"] x7 e7) (T_law_wants : Fn K mg "_law_wants" s_law_wants ["_law_s"] x8 e8) : FnOk P w K mg base CX0 3 f fd ["_law_state", "_law_word"] sp_lbeat := by
  have G_law_told_of := ok_law_told_of (P := P) (w := w) (base := base) T_law_told_of.F T T_law_names
  have G_law_read := ok_law_read (P := P) (w := w) (base := base) T_law_read.F T T_law_names
  have G_law_wants := ok_law_wants (P := P) (w := w) (mg := mg) (base := base) T_law_wants.F
  refine F.ok sc_law_beat (fun vs H Q E h => ?_) (fun cdv A outer s H vs Q E hr h => ?_)
  · obtain ⟨t, st, word, rfl, _⟩ := h; rfl
  · obtain ⟨t, st, word, rfl, ht, R, hw0, hw1, q⟩ := h
    have hs : sizeLine = 16777216 := sizeLine_eq
    have hl : st.length = 15 := R.len
    have p12 : (0 : Int) < 4096 := by decide
    obtain ⟨uN, hN, qN⟩ := lb_6 (P := P) (w := w) (base := base) (f := f) (cdv := cdv) (A := A) (outer := outer) (s := s) (H := H) (E := E) T T_law_names T_law_told_of T_law_trapped T_law_own T_law_moved T_law_row hr
    refine ⟨_, (pss_cons (ps_set (i := 2) sc_law_beat.nd rfl (Or.inl rfl) (pe_call G_law_read (hr.mono (by decide)) rfl T_law_read.m T_law_read.F.kp T_law_read.b .nil pass0 (pa_cons (pv 0) pa_nil)))
      (pss_cons (ps_if (pt_cmpR op_eq (pe_dget (hu_of hr) (pv 2) pe_str (fun _ _ => rfl)) pe_int (nomark _))
        (pss_one (ps_ret (pe_tup (pa_cons (pv 0) (pa_cons pe_non (pa_cons pe_non pa_nil))))))
        pss_nil)
      (pss_cons (ps_set (i := 3) sc_law_beat.nd rfl (Or.inl rfl) (pe_det (pe_and (pe_cmpR op_eq (pe_dget (hu_of hr) (pv 2) pe_str (fun _ _ => rfl)) pe_int (nomark _)) (pe_one (pe_cmpR op_ge (pe_call G_law_wants (hr.mono (by decide)) rfl T_law_wants.m T_law_wants.F.kp T_law_wants.b .nil pass0 (pa_cons (pv 2) pa_nil)) (pe_dget (hu_of hr) (pv 2) pe_str (fun _ _ => rfl)) (nomark _))))))
      (pss_cons (ps_set (i := 4) sc_law_beat.nd rfl (Or.inl rfl) (pe_op op_fdiv (pe_dget (hu_of hr) (pv 2) pe_str (fun _ _ => rfl)) pe_int))
      (pss_cons (ps_set (i := 5) sc_law_beat.nd rfl (Or.inl rfl) (pe_op op_mod (pe_dget (hu_of hr) (pv 2) pe_str (fun _ _ => rfl)) pe_int))
      (pss_cons (ps_if (PW.pt (pw_and (pt_cmpR op_eq (pe_dget (hu_of hr) (pv 2) pe_str (fun _ _ => rfl)) pe_int (nomark _)) (pw_and1 (pt_not (pt_val (pv 3))))))
        (pss_cons (ps_dput (hu_of hr) (pv 2) pe_str (pv 1) rfl)
        (pss_cons (ps_dput (hu_of hr) (pv 2) pe_str pe_int rfl)
        (pss_one (ps_ret (pe_tup (pa_cons (pe_call G_law_told_of (hr.mono (by decide)) rfl T_law_told_of.m T_law_told_of.F.kp T_law_told_of.b .nil pass0 (pa_cons (pv 2) pa_nil)) (pa_cons pe_non (pa_cons pe_non pa_nil))))))))
        pss_nil)
      hN)))))), ?_⟩
    refine ⟨_, rfl, t, st, rfl, ht, hl, fun d H1 hd s1 ed => ?_⟩
    have gi := dget hl ed 3 (by decide) "i" (by decide +kernel)
    refine ⟨_, rfl, d, _, rfl, dget hl ed 14 (by decide) "h" (by decide +kernel), rfl, _, rfl, itI (fun e => ?_) (fun eh => ?_)⟩
    · refine ⟨_, rfl, by show 3 ≤ sizeLine; omega, fun p hp => q p t _ (s1.free hp) (s1.trans (Same.put hp)) ?_ ?_⟩
      · rw [show btW st = .non from if_pos e, show btT st = .non from if_pos e]; exact upd_same
      · rw [show btS st word = st from if_pos e]; exact Same.put hp _ _ (s1 _ _ ht)
    refine ⟨.bl (stBarred st), ?_, ?_⟩
    · refine ⟨_, rfl, d, _, rfl, dget hl ed 5 (by decide) "m" (by decide +kernel), rfl, _, rfl, itI (fun em => ?_) (fun em => ?_)⟩
      · refine ⟨_, rfl, d, st, rfl, ed, hl, _, rfl, d, _, rfl, dget hl ed 7 (by decide) "l" (by decide +kernel), _, _, rfl, rfl, ?_, rfl⟩
        unfold stBarred
        rw [decide_eq_true em, Bool.true_and]
      · refine ⟨?_, rfl⟩
        unfold stBarred
        rw [decide_eq_false em, Bool.false_and]
    refine ⟨_, rfl, d, _, rfl, gi, _, _, rfl, rfl, ⟨by decide, by decide⟩, ?_⟩
    refine ⟨_, rfl, d, _, rfl, gi, _, _, rfl, rfl, p12, ?_⟩
    refine ⟨_, rfl, d, _, rfl, dget hl ed 4 (by decide) "f" (by decide +kernel), rfl, _, rfl, itI (fun ef => ?_) (fun ef => ?_)⟩
    · cases hb : stBarred st with
      | false =>
        refine ⟨_, rfl, _, rfl, iteT ?_⟩
        refine ⟨_, rfl, _, rfl, d, _, rfl, dput hl ed 3 (by decide) "i" (by decide +kernel) _, ?_⟩
        have l1 := ls (j := 3) (v := word) hl
        refine ⟨_, rfl, d, _, rfl, dput l1 upd_same 4 (by decide) "f" (by decide +kernel) _, ?_⟩
        have l2 := ls (j := 4) (v := 1) l1
        have s2 : Same H (upd (upd H1 d (.dK (kv (st.set 3 word)))) d (.dK (kv ((st.set 3 word).set 4 1)))) := Kl.same s1 hd (Kl.put Kl.one)
        refine ⟨_, rfl, d, _, rfl, upd_same, l2, fun t' H' ht' s' e' => ⟨by show 3 ≤ sizeLine; omega, fun p hp => q p t' _ ((s2.trans s').free hp) ((s2.trans s').trans (Same.put hp)) ?_ ?_⟩⟩
        · rw [show btW st = .non from by unfold btW; rw [if_neg eh, if_pos ef], show btT st = .non from by unfold btT; rw [if_neg eh, if_pos ef]]; exact upd_same
        · rw [show btS st word = (st.set 3 word).set 4 1 from by unfold btS feS; rw [if_neg eh, if_pos ef, hb, if_neg (by decide)]; rfl]; exact Same.put hp _ _ e'
      | true =>
        refine ⟨_, rfl, _, rfl, iteF ?_⟩
        exact qN _ t d word st _ H1 _ _ _ q s1 hd ed R ⟨hw0, hw1⟩ eh (by rw [hb]) (fun z => by rw [hb] at z; cases z.2)
    · exact qN _ t d word st _ H1 _ _ _ q s1 hd ed R ⟨hw0, hw1⟩ eh rfl (fun z => ef z.1)
end
end K21

set_option Elab.async false
set_option linter.all false
set_option maxRecDepth 100000
set_option maxHeartbeats 4000000
namespace K21
open PySem L2
/-! ### a beat keeps every part in its width -/
theorem Rg.set15 {st : List Int} {i : Nat} {v s : Int} (R : Rg sizes15 st) (hs : sizes15[i]? = some s) (hv : 0 ≤ v ∧ v < s) : Rg sizes15 (st.set i v) := by
  have hi : i < st.length := by rw [R.len]; exact (List.getElem?_eq_some_iff.mp hs).1
  refine ⟨by rw [List.length_set]; exact R.len, fun j s' e => ?_⟩
  rw [getD_set hi]
  split
  · rename_i h; subst h; rw [hs] at e; cases e; exact hv
  · exact R.bd j s' e
def InW (c : Int × Int) : Prop := ∃ s, sizes15[c.1.toNat]? = some s ∧ 0 ≤ c.2 ∧ c.2 < s
theorem Rg.ex : ∀ {chs : List (Int × Int)} {st : List Int}, Rg sizes15 st → (∀ c ∈ chs, InW c) → Rg sizes15 (exS st chs)
  | [], st, R, _ => R
  | c :: r, st, R, h => by
    obtain ⟨s, e, b⟩ := h c List.mem_cons_self
    show Rg sizes15 (exS (st.set c.1.toNat c.2) r)
    exact Rg.ex (R.set15 e b) fun c' hc' => h c' (List.mem_cons_of_mem _ hc')
theorem inW_nil : ∀ c ∈ ([] : List (Int × Int)), InW c := fun c h => by cases h
theorem inW_cons {c : Int × Int} {r : List (Int × Int)} (h : InW c) (t : ∀ c ∈ r, InW c) : ∀ c' ∈ c :: r, InW c' := fun c' hc => by
  rcases List.mem_cons.mp hc with rfl | e
  · exact h
  · exact t c' e
theorem inW_app {l r : List (Int × Int)} (h : ∀ c ∈ l, InW c) (t : ∀ c ∈ r, InW c) : ∀ c' ∈ l ++ r, InW c' := fun c' hc => (List.mem_append.mp hc).elim (h c') (t c')
theorem Rg.tr {st : List Int} {cause : Int} (place : Int) (R : Rg sizes15 st) (hc : 0 ≤ cause ∧ cause < 8) : Rg sizes15 (trS st cause place) := by
  unfold trS
  refine R.ex (inW_cons ⟨65536, rfl, R.bd 0 65536 rfl⟩ (inW_cons ⟨65536, rfl, R.bd 1 65536 rfl⟩ (inW_cons ⟨4096, rfl, Int.emod_nonneg _ (by decide), Int.emod_lt_of_pos _ (by decide)⟩ (inW_cons ⟨8, rfl, hc⟩ (inW_cons ⟨2, rfl, by decide⟩ (inW_cons ⟨4096, rfl, by decide⟩ (inW_cons ⟨2, rfl, by decide⟩ inW_nil)))))))
theorem num_bd (st : List Int) : 0 ≤ stNum st ∧ stNum st < 4096 := by unfold stNum; exact ⟨Int.emod_nonneg _ (by decide), Int.emod_lt_of_pos _ (by decide)⟩
theorem Rg.fe {st : List Int} {word : Int} (R : Rg sizes15 st) (hw : 0 ≤ word ∧ word < 65536) : Rg sizes15 (feS st word) := by
  unfold feS
  split
  · exact R.tr _ (by decide)
  · exact R.ex (inW_cons ⟨65536, rfl, hw⟩ (inW_cons ⟨2, rfl, by decide⟩ inW_nil))
theorem cause_b8 (st : List Int) : 0 ≤ stCause st ∧ stCause st < 8 := by unfold stCause; (repeat' split) <;> decide
theorem Rg.rt {st : List Int} {cause : Int} (R : Rg sizes15 st) (hc : 0 ≤ cause ∧ cause < 8) : Rg sizes15 (rtS st cause) := by
  unfold rtS
  split
  · exact (R.ex (inW_cons ⟨4096, rfl, num_bd st⟩ inW_nil)).tr _ (by decide)
  · exact R.tr _ hc
theorem Rg.be {st : List Int} (R : Rg sizes15 st) : Rg sizes15 (beS st) := by
  have b := R.bd 8 4096 rfl
  unfold beS
  split
  · exact R
  · rename_i h
    have R2 : Rg sizes15 (exS st [(8, st.getD 8 0 - 1)]) := R.ex (inW_cons ⟨4096, rfl, by show 0 ≤ st.getD 8 0 - 1; omega, by show st.getD 8 0 - 1 < 4096; omega⟩ inW_nil)
    split
    · exact R2.tr _ (by decide)
    · exact R2
theorem and_bd {a w : Int} (ha : 0 ≤ a ∧ a < 65536) (hw : 0 ≤ w ∧ w < 65536) : 0 ≤ Builtin.bitAnd a w ∧ Builtin.bitAnd a w < 65536 := by
  obtain ⟨n, rfl⟩ := Int.eq_ofNat_of_zero_le ha.1
  obtain ⟨m, rfl⟩ := Int.eq_ofNat_of_zero_le hw.1
  have hb : n &&& m ≤ n := Nat.and_le_left
  unfold Builtin.bitAnd
  rw [decide_eq_true (Int.natCast_nonneg _), decide_eq_true (Int.natCast_nonneg _)]
  show 0 ≤ (((n : Int).toNat &&& (m : Int).toNat : Nat) : Int) ∧ (((n : Int).toNat &&& (m : Int).toNat : Nat) : Int) < 65536
  rw [Int.toNat_natCast, Int.toNat_natCast]
  omega
theorem ax_bd {st : List Int} (R : Rg sizes15 st) : 0 ≤ stAx st ∧ stAx st < 65536 := by
  have b0 := R.bd 0 65536 rfl
  have b1 := R.bd 1 65536 rfl
  have b9 := R.bd 9 65536 rfl
  have b10 := R.bd 10 65536 rfl
  have b11 := R.bd 11 4096 rfl
  have b12 := R.bd 12 8 rfl
  have b13 := R.bd 13 4096 rfl
  unfold stAx
  split
  · exact b1
  split
  · omega
  split
  · rename_i h
    have hk := h.2
    have hk0 : 0 ≤ stNum st % 16 := Int.emod_nonneg _ (by decide)
    obtain ⟨k, e⟩ : ∃ k, stNum st % 16 = k := ⟨_, rfl⟩
    rw [e] at hk hk0 ⊢
    have : k = 0 ∨ k = 1 ∨ k = 2 ∨ k = 3 ∨ k = 4 := by omega
    rcases this with rfl | rfl | rfl | rfl | rfl
    · exact b9
    · exact b10
    · show 0 ≤ st.getD 11 0 ∧ st.getD 11 0 < 65536; omega
    · show 0 ≤ st.getD 12 0 ∧ st.getD 12 0 < 65536; omega
    · show 0 ≤ st.getD 13 0 ∧ st.getD 13 0 < 65536; omega
  split
  · exact b9
  · exact b0
theorem a_bd {st : List Int} {word : Int} (R : Rg sizes15 st) (hw : 0 ≤ word ∧ word < 65536) : 0 ≤ stA st word ∧ stA st word < 65536 := by
  have hn := num_bd st
  unfold stA
  split
  · omega
  split
  · exact hw
  split
  · exact ⟨Int.emod_nonneg _ (by decide), Int.emod_lt_of_pos _ (by decide)⟩
  split
  · exact ⟨Int.emod_nonneg _ (by decide), Int.emod_lt_of_pos _ (by decide)⟩
  split
  · exact and_bd (R.bd 0 65536 rfl) hw
  split
  · have h1 : 0 ≤ (st.getD 2 0 + 1) % 4096 := Int.emod_nonneg _ (by decide)
    have h2 : (st.getD 2 0 + 1) % 4096 < 4096 := Int.emod_lt_of_pos _ (by decide)
    omega
  · exact ax_bd R
theorem x_bd {st : List Int} (R : Rg sizes15 st) : 0 ≤ stX st ∧ stX st < 65536 := by
  unfold stX
  split
  · exact R.bd 0 65536 rfl
  split
  · exact R.bd 10 65536 rfl
  · exact R.bd 1 65536 rfl
theorem p_bd {st : List Int} (R : Rg sizes15 st) : 0 ≤ stP st ∧ stP st < 4096 := by
  unfold stP
  split
  · exact num_bd st
  split
  · exact ⟨Int.emod_nonneg _ (by decide), Int.emod_lt_of_pos _ (by decide)⟩
  split
  · exact R.bd 11 4096 rfl
  · exact ⟨Int.emod_nonneg _ (by decide), Int.emod_lt_of_pos _ (by decide)⟩
theorem oc_bd (st : List Int) : ∀ c ∈ ocS st, InW c := by
  unfold ocS
  split
  · exact inW_cons ⟨2, rfl, by decide⟩ inW_nil
  · intro c hc
    obtain ⟨p, hp, rfl⟩ := List.mem_map.mp hc
    have hm := (List.mem_filter.mp hp).1
    have key : ∀ s : Int, 0 < s → 0 ≤ st.getD 0 0 % s ∧ st.getD 0 0 % s < s := fun s hs => ⟨Int.emod_nonneg _ (by omega), Int.emod_lt_of_pos _ hs⟩
    unfold ownL at hm
    simp only [List.mem_cons, List.not_mem_nil, or_false] at hm
    rcases hm with rfl | rfl | rfl | rfl | rfl | rfl
    · exact ⟨65536, rfl, key 65536 (by decide)⟩
    · exact ⟨65536, rfl, key 65536 (by decide)⟩
    · exact ⟨4096, rfl, key 4096 (by decide)⟩
    · exact ⟨4096, rfl, key 4096 (by decide)⟩
    · exact ⟨4096, rfl, key 4096 (by decide)⟩
    · exact ⟨4096, rfl, key 4096 (by decide)⟩
theorem Rg.rd {st : List Int} {word : Int} (R : Rg sizes15 st) (hw : 0 ≤ word ∧ word < 65536) : Rg sizes15 (rdS st word) := by
  unfold rdS
  refine R.ex (inW_app (inW_app (inW_cons ⟨65536, rfl, a_bd R hw⟩ (inW_cons ⟨65536, rfl, x_bd R⟩ (inW_cons ⟨4096, rfl, p_bd R⟩ (inW_cons ⟨2, rfl, by decide⟩ inW_nil)))) ?_) ?_)
  · split
    · exact oc_bd st
    · exact inW_nil
  · split
    · exact inW_cons ⟨2, rfl, by decide⟩ inW_nil
    · exact inW_nil
theorem Rg.bt {st : List Int} {word : Int} (R : Rg sizes15 st) (hw : 0 ≤ word ∧ word < 65536) : Rg sizes15 (btS st word) := by
  unfold btS
  split
  · exact R
  split
  · exact R.fe hw
  split
  · exact R.rt (cause_b8 st)
  split
  · exact (R.rd hw).be
  · exact R.rd hw
theorem btW_bd {st : List Int} (R : Rg sizes15 st) : btW st = .non ∨ ∃ i : Int, btW st = .int i ∧ 0 ≤ i ∧ i < 65536 := by
  unfold btW stWritten
  (repeat' split) <;> first | exact .inl rfl | exact .inr ⟨_, rfl, R.bd 0 65536 rfl⟩
theorem btT_in (st : List Int) : btT st = .non ∨ ∃ i : Int, btT st = .int i := by
  unfold btT stTold
  (repeat' split) <;> first | exact .inl rfl | exact .inr ⟨_, rfl⟩
/-! ### a memory -/
def AllM (kvs : List (Key × V)) : Prop := ∀ p ∈ kvs, ∃ (k v : Int), p = (.inl k, .int v) ∧ 0 ≤ v ∧ v < 65536
def wv (kvs : List (Key × V)) (k : Int) : Int := match valV kvs (.inl k) with
  | some (.int i) => i
  | _ => 0
theorem valV_mem {kvs : List (Key × V)} {k : Key} {v : V} (h : valV kvs k = some v) : (k, v) ∈ kvs := by
  induction kvs with
  | nil => cases h
  | cons p r ih =>
    by_cases e : p.1 = k
    · rw [valV_pos e] at h
      cases h
      rw [← e]; exact List.mem_cons_self
    · rw [valV_neg e] at h
      exact List.mem_cons_of_mem _ (ih h)
theorem AllM.get {kvs : List (Key × V)} (A : AllM kvs) (k : Int) : (valV kvs (.inl k)).getD (V.int 0) = .int (wv kvs k) ∧ 0 ≤ wv kvs k ∧ wv kvs k < 65536 := by
  unfold wv
  cases h : valV kvs (.inl k) with
  | none => exact ⟨rfl, by decide, by decide⟩
  | some v =>
    obtain ⟨k', v', e, b⟩ := A _ (valV_mem h)
    cases e
    exact ⟨rfl, b⟩
theorem AllM.put {kvs : List (Key × V)} (A : AllM kvs) (k v : Int) (hv : 0 ≤ v ∧ v < 65536) : AllM (putK kvs (.inl k) (.int v)) := by
  intro p hp
  unfold putK at hp
  split at hp
  · obtain ⟨q, hq, e⟩ := List.mem_map.mp hp
    obtain ⟨k', v', rfl, b⟩ := A q hq
    split at e
    · exact ⟨k', v, e.symm, hv⟩
    · exact ⟨k', v', e.symm, b⟩
  · rcases List.mem_append.mp hp with h | h
    · exact A p h
    · exact ⟨k, v, List.mem_singleton.mp h, hv⟩
theorem AllM.nil : AllM [] := fun p h => by cases h
theorem AllM.ints {kvs : List (Key × V)} (A : AllM kvs) : ∃ ps : List (Key × Int), kvs = ps.map fun p => (p.1, V.int p.2) := by
  induction kvs with
  | nil => exact ⟨[], rfl⟩
  | cons p r ih =>
    obtain ⟨k, v, e, _⟩ := A p List.mem_cons_self
    obtain ⟨ps, h⟩ := ih fun q hq => A q (List.mem_cons_of_mem _ hq)
    exact ⟨(.inl k, v) :: ps, by rw [e, h]; rfl⟩
/-- those that are not 0 -/
def clean (kvs : List (Key × V)) : List (Key × V) := kvs.foldl (fun acc p => if p.2 = .int 0 then acc else putK acc p.1 p.2) []
theorem clean_step {kvs : List (Key × V)} {i : Nat} {p : Key × V} (h : kvs[i]? = some p) : clean (kvs.take (i + 1)) = if p.2 = .int 0 then clean (kvs.take i) else putK (clean (kvs.take i)) p.1 p.2 := by
  unfold clean
  rw [List.take_add_one, h, List.foldl_append]
  rfl
theorem clean_len (kvs : List (Key × V)) : ∀ i, (clean (kvs.take i)).length ≤ i
  | 0 => by rw [List.take_zero]; exact Nat.le_refl _
  | i + 1 => by
    cases h : kvs[i]? with
    | none => rw [List.take_of_length_le (by rw [List.getElem?_eq_none_iff] at h; omega), ← List.take_of_length_le (i := i) (l := kvs) (by rw [List.getElem?_eq_none_iff] at h; exact h)]; have := clean_len kvs i; omega
    | some p =>
      rw [clean_step h]
      have := clean_len kvs i
      split
      · omega
      · have := length_putK (clean (kvs.take i)) p.1 p.2; omega
theorem clean_all {kvs : List (Key × V)} (A : AllM kvs) : AllM (clean kvs) := by
  have key : ∀ i, AllM (clean (kvs.take i)) := fun i => by
    induction i with
    | zero => rw [List.take_zero]; exact AllM.nil
    | succ i ih =>
      cases h : kvs[i]? with
      | none => rw [List.take_of_length_le (by rw [List.getElem?_eq_none_iff] at h; omega), ← List.take_of_length_le (i := i) (l := kvs) (by rw [List.getElem?_eq_none_iff] at h; exact h)]; exact ih
      | some p =>
        rw [clean_step h]
        obtain ⟨k, v, rfl, b⟩ := A _ (List.mem_of_getElem? h)
        split
        · exact ih
        · exact ih.put k v b
  have := key kvs.length
  rwa [List.take_of_length_le (Nat.le_refl _)] at this
theorem putK_nodup {kvs : List (Key × V)} (h : (kvs.map (·.1)).Nodup) (k : Key) (v : V) : ((putK kvs k v).map (·.1)).Nodup := by
  unfold putK
  split
  · rw [List.map_map]
    have e : ((fun p : Key × V => p.1) ∘ fun kv : Key × V => if kv.1 = k then (kv.1, v) else kv) = fun p => p.1 := by
      funext p
      show (if p.1 = k then (p.1, v) else p).1 = p.1
      split <;> rfl
    rw [e]; exact h
  · rename_i hn
    rw [List.map_append, List.nodup_append]
    refine ⟨h, List.nodup_cons.mpr ⟨List.not_mem_nil, List.nodup_nil⟩, fun a ha b hb e => ?_⟩
    have hb' : b = k := List.mem_singleton.mp hb
    obtain ⟨p, hp, ep⟩ := List.mem_map.mp ha
    exact hn (List.any_eq_true.mpr ⟨p, hp, decide_eq_true (ep.trans (e.trans hb'))⟩)
theorem valV_ix {kvs : List (Key × V)} (h : (kvs.map (·.1)).Nodup) : ∀ {i : Nat} {k : Key} {v : V}, kvs[i]? = some (k, v) → valV kvs k = some v := by
  induction kvs with
  | nil => intro i k v e; simp at e
  | cons p r ih =>
    intro i k v e
    rw [List.map_cons, List.nodup_cons] at h
    cases i with
    | zero => cases e; exact valV_pos rfl
    | succ i =>
      have e' : r[i]? = some (k, v) := e
      rw [valV_neg (fun z => h.1 (by rw [z]; exact List.mem_map_of_mem (f := (·.1)) (List.mem_of_getElem? e')))]
      exact ih h.2 e'
/-! ### a run, purely -/
structure RS where
  st : List Int
  kv : List (Key × V)
  told : List Int
  trs : List (List Int × Int)
def putW (kvs : List (Key × V)) (k : Int) : V → List (Key × V)
  | .int i => putK kvs (.inl k) (.int i)
  | _ => kvs
def tellW (told : List Int) : V → List Int
  | .int i => told ++ [i]
  | _ => told
def stepR (r : RS) : RS := ⟨btS r.st (wv r.kv (stAsked r.st)), putW r.kv (stAsked r.st) (btW r.st), tellW r.told (btT r.st), r.trs ++ [(r.st, wv r.kv (stAsked r.st))]⟩
def runR (r : RS) : Nat → RS
  | 0 => r
  | i + 1 => stepR (runR r i)
structure RS.Ok (r : RS) (i : Nat) : Prop where
  rg : Rg sizes15 r.st
  al : AllM r.kv
  nd : (r.kv.map (·.1)).Nodup
  kl : r.kv.length ≤ 300 + i
  tl : r.told.length ≤ i
  sl : r.trs.length = i
  td : ∀ p ∈ r.trs, p.1.length = 15
theorem RS.Ok.step {r : RS} {i : Nat} (h : r.Ok i) : (stepR r).Ok (i + 1) := by
  have hw := (h.al.get (stAsked r.st)).2
  refine ⟨h.rg.bt hw, ?_, ?_, ?_, ?_, ?_, ?_⟩
  · show AllM (putW r.kv (stAsked r.st) (btW r.st))
    rcases btW_bd h.rg with e | ⟨v, e, b⟩
    · rw [e]; exact h.al
    · rw [e]; exact h.al.put _ v b
  · show ((putW r.kv (stAsked r.st) (btW r.st)).map (·.1)).Nodup
    rcases btW_bd h.rg with e | ⟨v, e, b⟩
    · rw [e]; exact h.nd
    · rw [e]; exact putK_nodup h.nd _ _
  · show (putW r.kv (stAsked r.st) (btW r.st)).length ≤ 300 + (i + 1)
    have := h.kl
    rcases btW_bd h.rg with e | ⟨v, e, b⟩
    · rw [e]; show r.kv.length ≤ _; omega
    · rw [e]
      have := length_putK r.kv (.inl (stAsked r.st)) (.int v)
      show (putK r.kv (.inl (stAsked r.st)) (.int v)).length ≤ _
      omega
  · show (tellW r.told (btT r.st)).length ≤ i + 1
    have := h.tl
    rcases btT_in r.st with e | ⟨v, e⟩
    · rw [e]; show r.told.length ≤ _; omega
    · rw [e]; show (r.told ++ [v]).length ≤ _; rw [List.length_append]; show _ + 1 ≤ _; omega
  · show (r.trs ++ [_]).length = i + 1
    rw [List.length_append, h.sl]; rfl
  · intro p hp
    rcases List.mem_append.mp hp with z | z
    · exact h.td p z
    · rw [List.mem_singleton.mp z]; exact h.rg.len
def goesM (r : RS) (beats : Int) (i : Nat) : Prop := (i : Int) < beats ∧ (runR r i).st.getD 5 0 = 1
structure EndsM (r : RS) (beats : Int) (j : Nat) : Prop where
  go : ∀ i, i < j → goesM r beats i
  no : ¬ goesM r beats j
theorem run_ok {r : RS} (h : r.Ok 0) : ∀ i, (runR r i).Ok i
  | 0 => h
  | i + 1 => (run_ok h i).step
/-- all stays but these three -/
def K3 (d l1 l2 : Addr) (H H' : Hp) : Prop := ∀ b o, H b = some o → b ≠ d → b ≠ l1 → b ≠ l2 → H' b = some o
theorem K3.of {d l1 l2 : Addr} {H H' : Hp} (s : Same H H') : K3 d l1 l2 H H' := fun _ _ e _ _ _ => s _ _ e
theorem K3.trans {d l1 l2 : Addr} {H H1 H2 : Hp} (a : K3 d l1 l2 H H1) (b : K3 d l1 l2 H1 H2) : K3 d l1 l2 H H2 := fun x o e n1 n2 n3 => b x o (a x o e n1 n2 n3) n1 n2 n3
def TrAt (H : Hp) (v : V) (p : List Int × Int) : Prop := ∃ q t : Addr, v = .ref q ∧ H q = some (.tup [.ref t, .int p.2]) ∧ H t = some (.tup (p.1.map V.int))
theorem TrAt.k3 {d l1 l2 : Addr} {H H' : Hp} {ks : List (Key × V)} {xs ys : List V} (k : K3 d l1 l2 H H') (ed : H d = some (.dK ks)) (e1 : H l1 = some (.lst xs)) (e2 : H l2 = some (.lst ys)) {v : V} {p : List Int × Int} (h : TrAt H v p) : TrAt H' v p := by
  obtain ⟨q, t, e, eq, et⟩ := h
  refine ⟨q, t, e, k _ _ eq (ne_of eq ed (by intro z; cases z)) (ne_of eq e1 (by intro z; cases z)) (ne_of eq e2 (by intro z; cases z)), k _ _ et (ne_of et ed (by intro z; cases z)) (ne_of et e1 (by intro z; cases z)) (ne_of et e2 (by intro z; cases z))⟩
theorem TrAt.same {H H' : Hp} (s : Same H H') {v : V} {p : List Int × Int} (h : TrAt H v p) : TrAt H' v p := by
  obtain ⟨q, t, e, eq, et⟩ := h
  exact ⟨q, t, e, s _ _ eq, s _ _ et⟩
structure Ok13 (st r : List Int) : Prop where
  len : r.length = 15
  e6 : r.getD 6 0 = st.getD 6 0
  e7 : r.getD 7 0 = st.getD 7 0
  e14 : r.getD 14 0 = 0
  tr : r.getD 5 0 = 0 → r.getD 2 0 = 0 ∧ r.getD 4 0 = 0 ∧ 1 ≤ r.getD 12 0 ∧ r.getD 12 0 ≤ 4
theorem ok_tr {st : List Int} (hl : st.length = 15) (hh : st.getD 14 0 = 0) (c p : Int) (h1 : 1 ≤ c) (h4 : c ≤ 4) : Ok13 st (trS st c p) := by
  have g := fun k => trS_get hl c p k
  refine ⟨trS_len hl c p, g 6, g 7, (g 14).trans hh, fun _ => ⟨g 2, g 4, ?_⟩⟩
  have e : (trS st c p).getD 12 0 = c := g 12
  rw [e]
  exact ⟨h1, h4⟩
theorem Ok13.after {st r r' : List Int} (h : Ok13 r r') (e6 : r.getD 6 0 = st.getD 6 0) (e7 : r.getD 7 0 = st.getD 7 0) : Ok13 st r' := ⟨h.len, h.e6.trans e6, h.e7.trans e7, h.e14, h.tr⟩
theorem btS_ok13 {st : List Int} {w : Int} (hl : st.length = 15) (hm : st.getD 5 0 = 1) (hh : st.getD 14 0 = 0) : Ok13 st (btS st w) := by
  unfold btS
  rw [if_neg (by omega)]
  split
  · unfold feS
    split
    · exact ok_tr hl hh _ _ (by decide) (by decide)
    · have g := fun k => exS_get [(3, w), (4, 1)] st k hl (by simp)
      refine ⟨by rw [exS_len]; exact hl, g 6, g 7, (g 14).trans hh, fun z => ?_⟩
      have e5 : (exS st [(3, w), (4, 1)]).getD 5 0 = st.getD 5 0 := g 5
      omega
  · split
    · rename_i hf hc
      have hb := cause_bd st
      unfold rtS
      split
      · have g := fun k => exS_get [(13, stNum st)] st k hl (by simp)
        exact (ok_tr (st := exS st [(13, stNum st)]) (by rw [exS_len]; exact hl) ((g 14).trans hh) _ _ (by decide) (by decide)).after (g 6) (g 7)
      · exact ok_tr hl hh _ _ (by omega) (by omega)
    · rename_i hf hc
      have hc' : stCause st = 0 := Decidable.not_not.mp hc
      obtain ⟨n14, n15, _⟩ := cause_0 hm hc'
      try rw [if_pos hm]
      obtain ⟨r, hr⟩ : ∃ r, rdS st w = r := ⟨_, rfl⟩
      have er : exS st [(0, stA st w), (1, stX st), (2, stP st), (4, 0)] = r := by
        rw [← hr]; unfold rdS; rw [if_neg n14, if_neg n15, List.append_nil, List.append_nil]
      have g := fun k => exS_get [(0, stA st w), (1, stX st), (2, stP st), (4, 0)] st k hl (by simp)
      rw [er] at g
      rw [hr]
      have l1 : r.length = 15 := by rw [← er, exS_len]; exact hl
      have g5 : r.getD 5 0 = st.getD 5 0 := g 5
      have g6 : r.getD 6 0 = st.getD 6 0 := g 6
      have g7 : r.getD 7 0 = st.getD 7 0 := g 7
      have g14 : r.getD 14 0 = st.getD 14 0 := g 14
      unfold beS
      split
      · exact ⟨l1, g6, g7, by omega, fun z => by omega⟩
      · obtain ⟨r2, hr2⟩ : ∃ r2, exS r [(8, r.getD 8 0 - 1)] = r2 := ⟨_, rfl⟩
        have k := fun k => exS_get [(8, r.getD 8 0 - 1)] r k l1 (by simp)
        rw [hr2] at k
        have l2 : r2.length = 15 := by rw [← hr2, exS_len]; exact l1
        have k5 : r2.getD 5 0 = r.getD 5 0 := k 5
        have k6 : r2.getD 6 0 = r.getD 6 0 := k 6
        have k7 : r2.getD 7 0 = r.getD 7 0 := k 7
        have k14 : r2.getD 14 0 = r.getD 14 0 := k 14
        rw [hr2]
        split
        · exact (ok_tr l2 (by omega) _ _ (by decide) (by decide)).after (by omega) (by omega)
        · exact ⟨l2, by omega, by omega, by omega, fun z => by omega⟩
theorem K3.kl {d l1 l2 : Addr} {H H1 H2 : Hp} (k : Kl d H H1) (n1 : H l1 = none) (n2 : H l2 = none) (k3 : K3 d l1 l2 H1 H2) : Kl d H H2 := fun b o e n => k3 b o (k b o e n) n (ne_of_none e n1) (ne_of_none e n2)
/-! ### a program by itself -/
def endS (st : List Int) : Str := if st.getD 5 0 = 1 then "going" else if st.getD 12 0 ≠ 3 ∨ 3 < st.getD 13 0 then "fault" else if st.getD 13 0 = 0 then "ended" else "going"
def callA (st left : List Int) : Int := if st.getD 13 0 = 3 then left.headD 65535 else st.getD 0 0
def callSt (st left : List Int) : List Int := exS st [(0, callA st left), (2, st.getD 11 0), (5, 1)]
def callTold (st told : List Int) : List Int := if st.getD 13 0 = 1 then told ++ [st.getD 0 0] else told
def callLeft (st left : List Int) : List Int := if st.getD 13 0 = 3 then left.tail else left
abbrev Tr1 := List (List Int × Int)
structure LS where
  st : List Int
  kv : List (Key × V)
  told : List Int
  left : List Int
  old : List Tr1
  cur : Tr1
  en : Str
def heardL (st : List Int) (kv : List (Key × V)) (told left : List Int) (old : List Tr1) (cur : Tr1) : LS :=
  if endS st = "going" then ⟨callSt st left, kv, callTold st told, callLeft st left, old ++ [cur], [], "going"⟩ else ⟨st, kv, told, left, old ++ [cur], [], endS st⟩
def stepL (s : LS) : LS :=
  if (btS s.st (wv s.kv (stAsked s.st))).getD 5 0 = 1 then ⟨btS s.st (wv s.kv (stAsked s.st)), putW s.kv (stAsked s.st) (btW s.st), s.told, s.left, s.old, s.cur ++ [(s.st, wv s.kv (stAsked s.st))], s.en⟩
  else heardL (btS s.st (wv s.kv (stAsked s.st))) (putW s.kv (stAsked s.st) (btW s.st)) s.told s.left s.old (s.cur ++ [(s.st, wv s.kv (stAsked s.st))])
def nextL (s : LS) : LS := if s.en = "going" then stepL s else s
def runL (s : LS) : Nat → LS
  | 0 => s
  | n + 1 => nextL (runL s n)
theorem runL_add (s : LS) (i : Nat) : ∀ j, runL s (i + j) = runL (runL s i) j
  | 0 => rfl
  | j + 1 => by show nextL (runL s (i + j)) = nextL _; rw [runL_add s i j]
theorem runL_end {s : LS} {i : Nat} (h : (runL s i).en ≠ "going") : ∀ j, runL s (i + j) = runL s i
  | 0 => rfl
  | j + 1 => by
    show nextL (runL s (i + j)) = _
    rw [runL_end h j]; unfold nextL; rw [if_neg h]
/-- all traces that have something -/
def allT (s : LS) : List Tr1 := s.old ++ (if s.cur = [] then [] else [s.cur])
structure LS.Ok (s : LS) (i : Nat) : Prop where
  rg : Rg sizes15 s.st
  al : AllM s.kv
  nd : (s.kv.map (·.1)).Nodup
  kl : s.kv.length ≤ 100 + i
  tl : s.told.length ≤ i
  lf : ∀ x ∈ s.left, 0 ≤ x ∧ x < 65536
  ll : s.left.length ≤ 9
  ol : s.old.length ≤ i
  ne : ∀ t ∈ s.old, t ≠ []
  cl : s.cur.length ≤ i
  ml : ∀ t ∈ s.old, t.length ≤ i
  go : s.en = "going" → s.st.getD 5 0 = 1 ∧ s.st.getD 6 0 = 0 ∧ s.st.getD 14 0 = 0
theorem callA_bd {st left : List Int} (R : Rg sizes15 st) (h : ∀ x ∈ left, 0 ≤ x ∧ x < 65536) : 0 ≤ callA st left ∧ callA st left < 65536 := by
  unfold callA
  split
  · cases left with
    | nil => decide
    | cons x r => exact h x List.mem_cons_self
  · exact R.bd 0 65536 rfl
theorem Rg.call {st left : List Int} (R : Rg sizes15 st) (h : ∀ x ∈ left, 0 ≤ x ∧ x < 65536) : Rg sizes15 (callSt st left) :=
  R.ex (inW_cons ⟨65536, rfl, callA_bd R h⟩ (inW_cons ⟨4096, rfl, R.bd 11 4096 rfl⟩ (inW_cons ⟨2, rfl, by decide⟩ inW_nil)))
theorem call_get {st left : List Int} (hl : st.length = 15) : (callSt st left).getD 5 0 = 1 ∧ (callSt st left).getD 6 0 = st.getD 6 0 ∧ (callSt st left).getD 14 0 = st.getD 14 0 := by
  have g := fun k => exS_get [(0, callA st left), (2, st.getD 11 0), (5, 1)] st k hl (by simp)
  exact ⟨g 5, g 6, g 14⟩
theorem LS.Ok.step {s : LS} {i : Nat} (h : s.Ok i) (hg : s.en = "going") : (stepL s).Ok (i + 1) := by
  have hw := (h.al.get (stAsked s.st)).2
  obtain ⟨m1, b0, h0⟩ := h.go hg
  have l15 : s.st.length = 15 := h.rg.len
  have o13 := btS_ok13 (w := wv s.kv (stAsked s.st)) l15 m1 h0
  have R1 := h.rg.bt hw
  have a1 : AllM (putW s.kv (stAsked s.st) (btW s.st)) := by
    rcases btW_bd h.rg with e | ⟨v, e, b⟩
    · rw [e]; exact h.al
    · rw [e]; exact h.al.put _ _ b
  have n1 : ((putW s.kv (stAsked s.st) (btW s.st)).map (·.1)).Nodup := by
    rcases btW_bd h.rg with e | ⟨v, e, b⟩
    · rw [e]; exact h.nd
    · rw [e]; exact putK_nodup h.nd _ _
  have k1 : (putW s.kv (stAsked s.st) (btW s.st)).length ≤ 100 + (i + 1) := by
    have := h.kl
    rcases btW_bd h.rg with e | ⟨v, e, b⟩
    · rw [e]; show s.kv.length ≤ _; omega
    · rw [e]
      have := length_putK s.kv (.inl (stAsked s.st)) (.int v)
      show (putK s.kv (.inl (stAsked s.st)) (.int v)).length ≤ _
      omega
  have e6 := o13.e6
  have e14 := o13.e14
  have tl := h.tl
  have ll := h.ll
  have ol := h.ol
  have cl := h.cl
  unfold stepL
  generalize btS s.st (wv s.kv (stAsked s.st)) = st1 at *
  generalize putW s.kv (stAsked s.st) (btW s.st) = kv1 at *
  have c1 : (s.cur ++ [(s.st, wv s.kv (stAsked s.st))]).length ≤ i + 1 := by rw [List.length_append]; show _ + 1 ≤ _; omega
  have c0 : s.cur ++ [(s.st, wv s.kv (stAsked s.st))] ≠ [] := by simp
  generalize s.cur ++ [(s.st, wv s.kv (stAsked s.st))] = cur1 at *
  have ne1 : ∀ t ∈ s.old ++ [cur1], t ≠ [] := fun t ht => by
    rcases List.mem_append.mp ht with z | z
    · exact h.ne t z
    · rw [List.mem_singleton.mp z]; exact c0
  have ml1 : ∀ t ∈ s.old ++ [cur1], t.length ≤ i + 1 := fun t ht => by
    rcases List.mem_append.mp ht with z | z
    · have := h.ml t z; omega
    · rw [List.mem_singleton.mp z]; exact c1
  have ol1 : (s.old ++ [cur1]).length ≤ i + 1 := by rw [List.length_append]; show _ + 1 ≤ _; omega
  split
  · rename_i hm
    exact ⟨R1, a1, n1, k1, by show s.told.length ≤ _; omega, h.lf, ll, by show s.old.length ≤ _; omega, h.ne, c1, fun t ht => by have := h.ml t ht; omega, fun _ => ⟨hm, e6.trans b0, e14⟩⟩
  · rename_i hm
    unfold heardL
    split
    · have g := call_get (left := s.left) R1.len
      refine ⟨R1.call h.lf, a1, n1, k1, ?_, ?_, ?_, ol1, ne1, Nat.zero_le _, ml1, fun _ => ⟨g.1, (g.2.1.trans e6).trans b0, g.2.2.trans e14⟩⟩
      · show (callTold st1 s.told).length ≤ _
        unfold callTold
        split
        · rw [List.length_append]; show _ + 1 ≤ _; omega
        · omega
      · show ∀ x ∈ callLeft st1 s.left, _
        unfold callLeft
        split
        · exact fun x hx => h.lf x (List.mem_of_mem_tail hx)
        · exact h.lf
      · show (callLeft st1 s.left).length ≤ 9
        unfold callLeft
        split
        · rw [List.length_tail]; omega
        · omega
    · rename_i hne
      exact ⟨R1, a1, n1, k1, by show s.told.length ≤ _; omega, h.lf, ll, ol1, ne1, Nat.zero_le _, ml1, fun z => absurd z hne⟩
theorem LS.Ok.more {s : LS} {i : Nat} (h : s.Ok i) : s.Ok (i + 1) := ⟨h.rg, h.al, h.nd, by have := h.kl; omega, by have := h.tl; omega, h.lf, h.ll, by have := h.ol; omega, h.ne, by have := h.cl; omega, fun t ht => by have := h.ml t ht; omega, h.go⟩
theorem runL_ok {s : LS} (h : s.Ok 0) : ∀ i, (runL s i).Ok i
  | 0 => h
  | i + 1 => by
    show (nextL (runL s i)).Ok (i + 1)
    unfold nextL
    split
    · rename_i z; exact (runL_ok h i).step z
    · exact (runL_ok h i).more
theorem stretch_go {s : LS} (hc : s.cur = []) (hg : s.en = "going") : ∀ (k : Nat), (∀ i, i ≤ k → (runR ⟨s.st, s.kv, [], []⟩ i).st.getD 5 0 = 1) →
    runL s k = ⟨(runR ⟨s.st, s.kv, [], []⟩ k).st, (runR ⟨s.st, s.kv, [], []⟩ k).kv, s.told, s.left, s.old, (runR ⟨s.st, s.kv, [], []⟩ k).trs, "going"⟩
  | 0, _ => by
    obtain ⟨st, kv, told, left, old, cur, en⟩ := s
    cases hc; cases hg; rfl
  | k + 1, h => by
    have ih := stretch_go hc hg k fun i hi => h i (by omega)
    show nextL (runL s k) = _
    rw [ih]
    unfold nextL
    rw [if_pos rfl]
    unfold stepL
    exact (if_pos (h (k + 1) (Nat.le_refl _))).trans rfl
theorem stretch_stop {s : LS} (hc : s.cur = []) (hg : s.en = "going") {k : Nat} (h : ∀ i, i ≤ k → (runR ⟨s.st, s.kv, [], []⟩ i).st.getD 5 0 = 1) (hn : ¬ (runR ⟨s.st, s.kv, [], []⟩ (k + 1)).st.getD 5 0 = 1) :
    runL s (k + 1) = heardL (runR ⟨s.st, s.kv, [], []⟩ (k + 1)).st (runR ⟨s.st, s.kv, [], []⟩ (k + 1)).kv s.told s.left s.old (runR ⟨s.st, s.kv, [], []⟩ (k + 1)).trs := by
  show nextL (runL s k) = _
  rw [stretch_go hc hg k h]
  unfold nextL
  rw [if_pos rfl]
  unfold stepL
  exact (if_neg hn).trans rfl
def startSt (n : Int) : List Int := [0, 0, 0, 0, 0, 1, 0, n, 0, 0, 0, 0, 0, 0, 0]
def startL (words given : List Int) : LS := ⟨startSt words.length, enKV (words.map V.int), [], given, [], [], "going"⟩
theorem start_ex (n : Int) : exS (List.replicate 15 (0 : Int)) [(5, 1), (7, n)] = startSt n := rfl
theorem start_rg {n : Nat} (h : n ≤ 63) : Rg sizes15 (startSt n) := by
  refine ⟨rfl, fun j s e => ?_⟩
  match j, e with
  | 0, e | 1, e | 2, e | 3, e | 4, e | 6, e | 8, e | 9, e | 10, e | 11, e | 12, e | 13, e | 14, e => cases e; show (0 : Int) ≤ 0 ∧ (0 : Int) < _; exact ⟨by decide, by decide⟩
  | 5, e => cases e; show (0 : Int) ≤ 1 ∧ (1 : Int) < 2; exact ⟨by decide, by decide⟩
  | 7, e => cases e; show 0 ≤ (n : Int) ∧ (n : Int) < 4096; omega
  | j + 15, e => cases e
theorem start_all {words : List Int} (h : ∀ x ∈ words, 0 ≤ x ∧ x < 65536) : AllM (enKV (words.map V.int)) := by
  intro p hp
  obtain ⟨j, hj, e⟩ := List.getElem_of_mem hp
  have e1 : (enKV (words.map V.int))[j]? = some p := by rw [List.getElem?_eq_getElem hj, e]
  rw [enKV_get, List.getElem?_map] at e1
  cases hw : words[j]? with
  | none => rw [hw] at e1; cases e1
  | some x =>
    rw [hw] at e1
    cases e1
    exact ⟨(j : Int), x, rfl, h x (List.mem_of_getElem? hw)⟩
theorem start_ok {words given : List Int} (hl : words.length ≤ 63) (hw : ∀ x ∈ words, 0 ≤ x ∧ x < 65536) (hg : ∀ x ∈ given, 0 ≤ x ∧ x < 65536) (h9 : given.length ≤ 9) : (startL words given).Ok 0 :=
  ⟨start_rg hl, start_all hw, enKV_nodup _, by show (enKV _).length ≤ _; rw [enKV_len, List.length_map]; omega, Nat.le_refl _, hg, h9, Nat.le_refl _, fun t h => (by cases h), Nat.le_refl _, fun t h => (by cases h), fun _ => ⟨rfl, rfl, rfl⟩⟩
theorem en_put {xs : List V} {i : Nat} {x : V} (h : xs[i]? = some x) : putK (enKV (xs.take i)) (.inl (i : Int)) x = enKV (xs.take (i + 1)) := by
  have hi : i < xs.length := (List.getElem?_eq_some_iff.mp h).1
  unfold putK
  rw [if_neg]
  · rw [List.take_add_one, h]
    unfold enKV
    rw [List.zipIdx_append, List.map_append]
    have : (xs.take i).length = i := by rw [List.length_take]; omega
    show _ ++ [_] = _ ++ [_]
    rw [this, Nat.zero_add]
  · intro ha
    obtain ⟨q, hq, eq⟩ := List.any_eq_true.mp ha
    have eq' : q.1 = .inl (i : Int) := of_decide_eq_true eq
    obtain ⟨j, hj, e⟩ := List.getElem_of_mem hq
    have e1 : (enKV (xs.take i))[j]? = some q := by rw [List.getElem?_eq_getElem hj, e]
    rw [enKV_len, List.length_take] at hj
    rw [enKV_get] at e1
    cases hx : (xs.take i)[j]? with
    | none => rw [hx] at e1; cases e1
    | some y =>
      rw [hx] at e1
      cases e1
      have : (j : Int) = i := by injection eq'
      omega
end K21

set_option Elab.async false
set_option linter.all false
set_option maxRecDepth 100000
set_option maxHeartbeats 4000000
namespace K21
open PySem L2
theorem btW_form (st : List Int) : btW st = .non ∨ ∃ i : Int, btW st = .int i := by
  unfold btW stWritten
  (repeat' split) <;> first | exact .inl rfl | exact .inr ⟨_, rfl⟩
theorem btT_form (st : List Int) : btT st = .non ∨ ∃ i : Int, btT st = .int i := by
  unfold btT stTold
  (repeat' split) <;> first | exact .inl rfl | exact .inr ⟨_, rfl⟩
def sp_clean : Sp := fun vs H Q _ => ∃ (d : Addr) (kvs : List (Key × V)), vs = [.ref d] ∧ H d = some (.dK kvs) ∧ AllM kvs ∧ kvs.length ≤ 1000 ∧ ∀ (r : Addr) (H' : Hp), Same H H' → H r = none → H' r = some (.dK (clean kvs)) → Q (.ref r) H'
def sp_bin : Sp := fun vs H Q _ => ∃ (t d l1 l2 : Addr) (r : RS) (xs : List V) (i : Nat), vs = [.ref t, .ref d, .ref l1, .ref l2] ∧ H t = some (.tup (r.st.map V.int)) ∧ r.Ok i ∧ i ≤ 200 ∧ H d = some (.dK r.kv) ∧ H l1 = some (.lst (r.told.map V.int)) ∧ H l2 = some (.lst xs) ∧ l1 ≠ l2 ∧ xs.length = i ∧
  ∀ (t' q : Addr) (H' : Hp), K3 d l1 l2 H H' → H' t' = some (.tup ((stepR r).st.map V.int)) → H' d = some (.dK (stepR r).kv) → H' l1 = some (.lst ((stepR r).told.map V.int)) → H' l2 = some (.lst (xs ++ [.ref q])) → H' q = some (.tup [.ref t, .int (wv r.kv (stAsked r.st))]) → Q (.ref t') H'
theorem Kl.trans {l : Addr} {H H1 H2 : Hp} (a : Kl l H H1) (b : Kl l H1 H2) : Kl l H H2 := fun x o e n => b x o (a x o e n) n
theorem Kl.of {l : Addr} {H H' : Hp} (s : Same H H') : Kl l H H' := fun _ _ e _ => s _ _ e
section
variable {P : Program} {w : World} {K : PySem.W.Frag} {mg : Str → Option Value} {base : Heap}
theorem sc_without_noughts : FnScope ["memory", "words", "place", "word"] ["memory"] (defScope s_without_noughts) := ⟨rfl, rfl, rfl, by decide +kernel, rfl, by decide +kernel, by decide +kernel⟩
theorem ok_without_noughts {f : Addr} {fd : FuncData} (F : Fun K "without_noughts" "without_noughts" s_without_noughts f fd) (T : Bt mg) : FnOk P w K mg base CX0 1 f fd ["memory"] sp_clean := by
  refine F.ok sc_without_noughts (fun vs H Q E h => ?_) (fun cdv A outer s H vs Q E hr h => ?_)
  · obtain ⟨d, kvs, rfl, _⟩ := h; rfl
  · obtain ⟨d, kvs, rfl, ed, al, hl, q⟩ := h
    have hs : sizeLine = 16777216 := sizeLine_eq
    refine ⟨_, (pss_cons (ps_set (i := 1) sc_without_noughts.nd rfl (Or.inl rfl) pe_dnewK)
      (pss_cons (ps_frozen (ps_for PassesOwn.never rfl (pi_items (pv 0)) (pg_tup rfl (pgs_cons (pg_name (i := 2) sc_without_noughts.nd rfl (Or.inl rfl)) (pgs_cons (pg_name (i := 3) sc_without_noughts.nd rfl (Or.inl rfl)) pgs_nil)))
        (pss_one (ps_if (pt_cmpR op_ne (pv 3) pe_int (nomark _))
          (pss_one (ps_dput (hu_of hr) (pv 1) (pv 2) (pv 3) rfl))
          pss_nil))))
      (pss_one (ps_ret (pv 1))))), ?_⟩
    intro r hr0
    have y1 := Same.put (o := .dK []) hr0
    have er : upd H r (.dK []) r = some (.dK []) := upd_same
    generalize upd H r (.dK []) = H1 at y1 er ⊢
    have dr : d ≠ r := ne_of_none ed hr0
    have ed1 := y1 _ _ ed
    refine ⟨d, _, ed1, fun o => ?_⟩
    have kf : ∀ b u, H1 b = some u → b ≠ d → upd H1 d (.frz o (.dK kvs)) b = some u := fun b u e hb => by rw [upd_ne hb]; exact e
    have efz : upd H1 d (.frz o (.dK kvs)) d = some (.frz o (.dK kvs)) := upd_same
    generalize upd H1 d (.frz o (.dK kvs)) = Hf at kf efz ⊢
    refine ⟨_, rfl, d, o, _, rfl, efz, for_items (d := d) (o := o) (kvs := kvs) (fun i σ H2 => ∃ (v2 v3 : Option V), σ = [some (.ref d), some (.ref r), v2, v3] ∧ Kl r Hf H2 ∧ H2 r = some (.dK (clean (kvs.take i))))
      ⟨none, none, rfl, Kl.of (Same.refl _), by rw [List.take_zero]; exact kf _ _ er dr.symm⟩ ?_ ?_ ?_⟩
    · rintro i σ H2 _ ⟨v2, v3, rfl, k2, _⟩
      exact k2 _ _ efz dr
    · rintro i k v σ H2 Tt hkv ⟨v2, v3, rfl, k2, e2⟩ hT
      obtain ⟨kk, vv, e, _⟩ := al _ (List.mem_of_getElem? hkv)
      cases e
      have hi : i < kvs.length := (List.getElem?_eq_some_iff.mp hkv).1
      have yT := Same.put (o := .tup [kV (.inl kk), V.int vv]) hT
      refine ⟨Tt, _, rfl, SqT.of upd_same, rfl, _, _, rfl, _, _, rfl, rfl, ?_⟩
      generalize upd H2 Tt (.tup [kV (.inl kk), V.int vv]) = H3 at yT ⊢
      have e3 := yT _ _ e2
      have k3 := k2.trans (Kl.of yT)
      refine ⟨_, rfl, rfl, _, rfl, ite2 (fun h => ?_) (fun h => ?_)⟩
      · have hv : ¬ V.int vv = V.int 0 := of_decide_eq_false ((Bool.not_eq_true' _).mp h)
        refine ⟨_, rfl, _, rfl, _, rfl, r, _, rfl, DPut.k (k := .inl kk) e3 (by have := clean_len kvs i; omega), ?_⟩
        refine ⟨_, _, rfl, k3.trans Kl.one, ?_⟩
        rw [upd_same, clean_step hkv, if_neg hv]
      · have hv : V.int vv = V.int 0 := by
          rcases Decidable.em (V.int vv = V.int 0) with z | z
          · exact z
          · exact absurd (by rw [decide_eq_false z]; rfl) h
        refine ⟨_, _, rfl, k3, ?_⟩
        rw [clean_step hkv, if_pos hv]
        exact e3
    rintro σ H2 ⟨v2, v3, rfl, k2, e2⟩
    rw [List.take_of_length_le (Nat.le_refl _)] at e2
    refine ⟨k2 _ _ efz dr, ?_⟩
    have sT : Same H (thaw d kvs H2) := fun b u e => by
      unfold thaw
      by_cases hb : b = d
      · subst hb; rw [upd_same, ← e]; exact ed.symm
      · rw [upd_ne hb]
        exact k2 _ _ (kf _ _ (y1 _ _ e) hb) (ne_of_none e hr0)
    have eT : thaw d kvs H2 r = some (.dK (clean kvs)) := by unfold thaw; rw [upd_ne dr.symm]; exact e2
    exact ⟨_, rfl, q r _ sT hr0 eT⟩
theorem sc_beat_in : FnScope ["state", "memory", "told", "trace", "place", "word", "answer"] ["state", "memory", "told", "trace"] (defScope s_beat_in) := ⟨rfl, rfl, rfl, by decide +kernel, rfl, by decide +kernel, by decide +kernel⟩
theorem bin_B {f : Addr} (T : Bt mg) {cdv : Value} {A : Around} {outer : List Env} {s : Shared} {H : Hp} {E : XK} (hr : Room 6 (A.deeper (PyProof.Rows.envOfC "beat_in" (defScope s_beat_in) s.heap.objs.size f cdv))) :
    ∃ u, PSs (cxOf CX0 P w K mg base ["state", "memory", "told", "trace", "place", "word", "answer"] "beat_in" (defScope s_beat_in) f cdv A outer s H E).nox ((defBody s_beat_in).drop 5) u ∧
      ∀ (D : Ends) (v0 v1 v3 v4 v5 : Option V) (p1 t1 l1 : Addr) (x tv : V) (told : List Int) (H5 : Hp), H5 p1 = some (.tup [.ref t1, x, tv]) → (tv = .non ∨ ∃ i : Int, tv = .int i) → H5 l1 = some (.lst (told.map V.int)) → told.length ≤ 1000 → (∀ H6, Kl l1 H5 H6 → H6 l1 = some (.lst ((tellW told tv).map V.int)) → D.rt (.ref t1) H6) →
        u D [v0, v1, some (.ref l1), v3, v4, v5, some (.ref p1)] H5 := by
  refine ⟨_, (pss_cons (ps_if (pt_cmpR op_notN (pe_ix ix_tup (pv 6) pe_int (fun _ _ => rfl)) pe_non (nomark _))
        (pss_one (ps_expr (pe_bm PySem.F.plainAttrs_list PySem.F.slot_list_append PySem.F.type_list_append mt_append (pv 2) (pa_cons (pe_ix ix_tup (pv 6) pe_int (fun _ _ => rfl)) pa_nil))))
        pss_nil)
      (pss_one (ps_ret (pe_ix ix_tup (pv 6) pe_int (fun _ _ => rfl))))), ?_⟩
  intro D v0 v1 v3 v4 v5 p1 t1 l1 x tv told H5 ep htv e1 hl q
  have hs : sizeLine = 16777216 := sizeLine_eq
  rcases htv with rfl | ⟨i, rfl⟩
  · refine ⟨_, rfl, p1, _, _, _, rfl, rfl, SqT.of ep, rfl, rfl, _, rfl, ?_⟩
    rw [decide_eq_true rfl]
    exact iteF ⟨_, rfl, p1, _, _, _, rfl, rfl, SqT.of ep, rfl, q H5 (Kl.of (Same.refl _)) e1⟩
  · refine ⟨_, rfl, p1, _, _, _, rfl, rfl, SqT.of ep, rfl, rfl, _, rfl, ?_⟩
    rw [decide_eq_false (by intro z; cases z)]
    refine iteT ⟨_, rfl, .inl ⟨rfl, _, SqL.of e1⟩, _, rfl, p1, _, _, _, rfl, rfl, SqT.of ep, rfl, l1, _, _, rfl, rfl, e1, (by rw [List.length_map]; omega), ?_⟩
    refine ⟨_, rfl, p1, _, _, _, rfl, rfl, SqT.of (by rw [upd_ne (ne_of ep e1 (by intro z; cases z))]; exact ep), rfl, q _ Kl.one ?_⟩
    rw [upd_same]
    show some (HO.lst (told.map V.int ++ [V.int i])) = some (HO.lst ((told ++ [i]).map V.int))
    rw [List.map_append]; rfl
theorem ok_beat_in {x0 x1 x2 x3 x4 x5 x6 x7 x8 x9 x10 x11 x12 x13 x14 x15 x16 x17 x18 x19 x20 x21 x22 x23 x24 x25 x26 x27 x28 x29 x30 x31 x32 x33 x34 x35 x36 x37 x38 x39 x40 x41 x42 x43 x44 x45 f : Addr} {e0 e1 e2 e3 e4 e5 e6 e7 e8 e9 e10 e11 e12 e13 e14 e15 e16 e17 e18 e19 e20 e21 e22 e23 e24 e25 e26 e27 e28 e29 e30 e31 e32 e33 e34 e35 e36 e37 e38 e39 e40 e41 e42 e43 e44 e45 fd : FuncData} (F : Fun K "beat_in" "beat_in" s_beat_in f fd) (T : Bt mg) (C : Ct K mg)
    (T_op_of : Fn K mg "op_of" s_op_of ["state"] x0 e0) (T_number_of : Fn K mg "number_of" s_number_of ["state"] x1 e1) (T_reaching_ops : Fn K mg "reaching_ops" s_reaching_ops [] x2 e2) (T_parts_read_by_own : Fn K mg "parts_read_by_own" s_parts_read_by_own [] x3 e3) (T_parts_set_by_own : Fn K mg "parts_set_by_own" s_parts_set_by_own [] x4 e4) (T_place_within : Fn K mg "place_within" s_place_within ["state"] x5 e5) (T_asked : Fn K mg "asked" s_asked ["state"] x6 e6) (T_is_barred : Fn K mg "is_barred" s_is_barred ["state"] x7 e7) (T_exchanged : Fn K mg "exchanged" s_exchanged ["state", "changes"] x8 e8) (T_trapped : Fn K mg "trapped" s_trapped ["state", "cause", "place"] x9 e9) (T_fetch : Fn K mg "fetch" s_fetch ["state", "word"] x10 e10) (T_cause_of : Fn K mg "cause_of" s_cause_of ["state"] x11 e11) (T_row_trapped : Fn K mg "row_trapped" s_row_trapped ["state", "cause"] x12 e12) (T_a_by_exchange : Fn K mg "a_by_exchange" s_a_by_exchange ["state"] x13 e13) (T_new_a : Fn K mg "new_a" s_new_a ["state", "word"] x14 e14) (T_new_x : Fn K mg "new_x" s_new_x ["state"] x15 e15) (T_leaps : Fn K mg "leaps" s_leaps ["state"] x16 e16) (T_new_p : Fn K mg "new_p" s_new_p ["state"] x17 e17) (T_own_changes : Fn K mg "own_changes" s_own_changes ["state"] x18 e18) (T_row_done : Fn K mg "row_done" s_row_done ["state", "word"] x19 e19) (T_bell_counted : Fn K mg "bell_counted" s_bell_counted ["state"] x20 e20) (T_written : Fn K mg "written" s_written ["state"] x21 e21) (T_told_word : Fn K mg "told_word" s_told_word ["state"] x22 e22) (T_beat_of : Fn K mg "beat_of" s_beat_of ["state", "word"] x23 e23) (T_law_cell_at : Fn K mg "_law_cell_at" s_law_cell_at ["_law_script", "_law_k"] x24 e24) (T_law_mixed : Fn K mg "_law_mixed" s_law_mixed ["_law_number", "_law_k"] x25 e25) (T_law_names : Fn K mg "_law_names" s_law_names [] x26 e26) (T_law_read : Fn K mg "_law_read" s_law_read ["_law_state"] x27 e27) (T_law_told_of : Fn K mg "_law_told_of" s_law_told_of ["_law_s"] x28 e28) (T_law_wants : Fn K mg "_law_wants" s_law_wants ["_law_s"] x29 e29) (T_law_trapped : Fn K mg "_law_trapped" s_law_trapped ["_law_s", "_law_cause", "_law_place"] x30 e30) (T_law_own : Fn K mg "_law_own" s_law_own ["_law_s", "_law_which"] x31 e31) (T_law_moved : Fn K mg "_law_moved" s_law_moved ["_law_s", "_law_which"] x32 e32) (T_law_row : Fn K mg "_law_row" s_law_row ["_law_s", "_law_op", "_law_number", "_law_word"] x33 e33) (T_law_beat : Fn K mg "_law_beat" s_law_beat ["_law_state", "_law_word"] x34 e34) (T_without_noughts : Fn K mg "without_noughts" s_without_noughts ["memory"] x35 e35) (T_beat_in : Fn K mg "beat_in" s_beat_in ["state", "memory", "told", "trace"] x36 e36) (T_law_words_by : Fn K mg "_law_words_by" s_law_words_by ["_law_cells", "_law_number"] x37 e37) (T_first_state : Fn K mg "first_state" s_first_state [] x38 e38) (T_stretch : Fn K mg "stretch" s_stretch ["state", "memory", "beats"] x39 e39) (T_end_by : Fn K mg "end_by" s_end_by ["state"] x40 e40) (T_behind_call : Fn K mg "behind_call" s_behind_call ["state", "told", "left"] x41 e41) (T_lone : Fn K mg "lone" s_lone ["image", "given", "beats"] x42 e42) (T_law_heard : Fn K mg "_law_heard" s_law_heard ["_law_s", "_law_given", "_law_told"] x43 e43) (T_law_alone : Fn K mg "_law_alone" s_law_alone ["_law_image_here", "_law_given", "_law_beats"] x44 e44) (T_law_image : Fn K mg "_law_image" s_law_image ["_law_script"] x45 e45) : FnOk P w K mg base CX0 7 f fd ["state", "memory", "told", "trace"] sp_bin := by
  have G_asked := ok_asked (P := P) (w := w) (base := base) T_asked.F C T_op_of T_number_of T_place_within
  have G_beat_of := ok_beat_of (P := P) (w := w) (base := base) T_beat_of.F T C T_op_of T_number_of T_reaching_ops T_parts_read_by_own T_parts_set_by_own T_place_within T_is_barred T_exchanged T_trapped T_fetch T_cause_of T_row_trapped T_a_by_exchange T_new_a T_new_x T_leaps T_new_p T_own_changes T_row_done T_bell_counted T_written T_told_word
  refine F.ok sc_beat_in (fun vs H Q E h => ?_) (fun cdv A outer s H vs Q E hr h => ?_)
  · obtain ⟨t, d, l1, l2, r, xs, i, rfl, _⟩ := h; rfl
  · obtain ⟨t, d, l1, l2, r, xs, i, rfl, et, ok, hi, ed, e1, e2, n12, hx, q⟩ := h
    have hs : sizeLine = 16777216 := sizeLine_eq
    have hl : r.st.length = 15 := ok.rg.len
    have hg := ok.al.get (stAsked r.st)
    obtain ⟨uB, hB, kB⟩ := bin_B (P := P) (w := w) (base := base) (f := f) (cdv := cdv) (outer := outer) (H := H) (E := E) T hr
    refine ⟨_, (pss_cons (ps_set (i := 4) sc_beat_in.nd rfl (Or.inl rfl) (pe_call G_asked (hr.mono (by decide)) rfl T_asked.m T_asked.F.kp T_asked.b .nil pass0 (pa_cons (pv 0) pa_nil)))
      (pss_cons (ps_set (i := 5) sc_beat_in.nd rfl (Or.inl rfl) (pe_dget2 (hu_of hr) (pv 1) (pv 4) pe_int ⟨rfl, rfl, rfl, rfl⟩))
      (pss_cons (ps_expr (pe_bm PySem.F.plainAttrs_list PySem.F.slot_list_append PySem.F.type_list_append mt_append (pv 3) (pa_cons (pe_tup (pa_cons (pv 0) (pa_cons (pv 5) pa_nil))) pa_nil)))
      (pss_cons (ps_set (i := 6) sc_beat_in.nd rfl (Or.inl rfl) (pe_call G_beat_of (hr.mono (by decide)) rfl T_beat_of.m T_beat_of.F.kp T_beat_of.b .nil pass0 (pa_cons (pv 0) (pa_cons (pv 5) pa_nil))))
      (pss_cons (ps_if (pt_cmpR op_notN (pe_ix ix_tup (pv 6) pe_int (fun _ _ => rfl)) pe_non (nomark _))
        (pss_one (ps_dput (hu_of hr) (pv 1) (pv 4) (pe_ix ix_tup (pv 6) pe_int (fun _ _ => rfl)) rfl))
        pss_nil)
      hB))))), ?_⟩
    refine ⟨_, rfl, t, r.st, rfl, et, hl, fun H1 s1 => ?_⟩
    refine ⟨_, rfl, d, rfl, .inl ⟨_, .inl (s1 _ _ ed)⟩, _, rfl, _, DGet.k (k := .inl (stAsked r.st)) (s1 _ _ ed), ?_⟩
    rw [hg.1]
    obtain ⟨wd, hwd⟩ : ∃ z, wv r.kv (stAsked r.st) = z := ⟨_, rfl⟩
    rw [hwd] at hg ⊢
    have d1 : d ≠ l1 := ne_of ed e1 (by intro z; cases z)
    have d2 : d ≠ l2 := ne_of ed e2 (by intro z; cases z)
    have t1' : t ≠ l1 := ne_of et e1 (by intro z; cases z)
    have t2' : t ≠ l2 := ne_of et e2 (by intro z; cases z)
    have td : t ≠ d := ne_of et ed (by intro z; cases z)
    refine ⟨_, rfl, .inl ⟨rfl, _, SqL.of (s1 _ _ e2)⟩, _, rfl, _, rfl, (by show 2 ≤ sizeLine; omega), fun qa hqa => ?_⟩
    have y2 := Same.put (o := .tup [V.ref t, V.int wd]) hqa
    have eqa : upd H1 qa (.tup [V.ref t, V.int wd]) qa = some (.tup [V.ref t, V.int wd]) := upd_same
    generalize upd H1 qa (.tup [V.ref t, V.int wd]) = H2 at y2 eqa ⊢
    have s2 := s1.trans y2
    refine ⟨l2, _, _, rfl, rfl, s2 _ _ e2, (by omega), ?_⟩
    have k3 : K3 d l1 l2 H (upd H2 l2 (.lst (xs ++ [V.ref qa]))) := fun b o e b1 b2 b3 => by rw [upd_ne b3]; exact s2 _ _ e
    have e23 : upd H2 l2 (.lst (xs ++ [V.ref qa])) l2 = some (.lst (xs ++ [V.ref qa])) := upd_same
    have eq3 : upd H2 l2 (.lst (xs ++ [V.ref qa])) qa = some (.tup [V.ref t, V.int wd]) := by rw [upd_ne (ne_of eqa (s2 _ _ e2) (by intro z; cases z))]; exact eqa
    have ed3 : upd H2 l2 (.lst (xs ++ [V.ref qa])) d = some (.dK r.kv) := by rw [upd_ne d2]; exact s2 _ _ ed
    have e13 : upd H2 l2 (.lst (xs ++ [V.ref qa])) l1 = some (.lst (r.told.map V.int)) := by rw [upd_ne n12]; exact s2 _ _ e1
    have et3 : upd H2 l2 (.lst (xs ++ [V.ref qa])) t = some (.tup (r.st.map V.int)) := by rw [upd_ne t2']; exact s2 _ _ et
    generalize upd H2 l2 (.lst (xs ++ [V.ref qa])) = H3 at k3 e23 eq3 ed3 e13 et3 ⊢
    refine ⟨_, rfl, _, rfl, t, r.st, wd, rfl, et3, hl, fun p1 t1 H4 hp1 s4 ep1 et1 => ?_⟩
    have k4 := k3.trans (K3.of (d := d) (l1 := l1) (l2 := l2) s4)
    have hst : (stepR r).st = btS r.st wd := by show btS r.st (wv r.kv (stAsked r.st)) = _; rw [hwd]
    have ed4 := s4 _ _ ed3
    have e14 := s4 _ _ e13
    have e24 := s4 _ _ e23
    have eq4 := s4 _ _ eq3
    have t14 : p1 ≠ d := ne_of ep1 ed4 (by intro z; cases z)
    have fin : ∀ H5 : Hp, K3 d l1 l2 H H5 → H5 d = some (.dK (stepR r).kv) → H5 l1 = some (.lst (r.told.map V.int)) → H5 l2 = some (.lst (xs ++ [V.ref qa])) → H5 qa = some (.tup [V.ref t, V.int wd]) → H5 t1 = some (.tup ((stepR r).st.map V.int)) → ∀ H6, Kl l1 H5 H6 → H6 l1 = some (.lst ((tellW r.told (btT r.st)).map V.int)) → Q (.ref t1) H6 := fun H5 k5 a b c e g H6 kl b6 =>
      q t1 qa H6 (fun x o ex n1 n2 n3 => kl x o (k5 x o ex n1 n2 n3) n2) (kl _ _ g (ne_of g b (by intro z; cases z))) (kl _ _ a d1) b6 (kl _ _ c n12.symm) (by rw [hwd]; exact kl _ _ e (ne_of e b (by intro z; cases z)))
    have hkv : (stepR r).kv = putW r.kv (stAsked r.st) (btW r.st) := rfl
    have htl : r.told.length ≤ 1000 := by have := ok.tl; omega
    rcases btW_form r.st with e | ⟨j, e⟩
    · refine ⟨_, rfl, p1, _, _, _, rfl, rfl, SqT.of ep1, rfl, rfl, _, rfl, ?_⟩
      rw [e] at ep1 ⊢
      rw [decide_eq_true rfl]
      exact iteF (kB _ _ _ _ _ _ p1 t1 l1 _ _ r.told H4 ep1 (btT_form r.st) e14 htl (fin H4 k4 (by rw [hkv, e]; exact ed4) e14 e24 eq4 (by rw [hst]; exact et1)))
    · refine ⟨_, rfl, p1, _, _, _, rfl, rfl, SqT.of ep1, rfl, rfl, _, rfl, ?_⟩
      rw [e] at ep1 ⊢
      rw [decide_eq_false (by intro z; cases z)]
      refine iteT ⟨_, rfl, p1, _, _, _, rfl, rfl, SqT.of ep1, rfl, _, rfl, _, rfl, d, _, rfl, DPut.k (k := .inl (stAsked r.st)) ed4 (by have := ok.kl; omega), ?_⟩
      refine kB _ _ _ _ _ _ p1 t1 l1 _ _ r.told _ (by rw [upd_ne t14]; exact ep1) (btT_form r.st) (by rw [upd_ne d1.symm]; exact e14) htl (fin _ (fun b o eb b1 b2 b3 => by rw [upd_ne b1]; exact k4 b o eb b1 b2 b3) ?_ (by rw [upd_ne d1.symm]; exact e14) (by rw [upd_ne d2.symm]; exact e24) (by rw [upd_ne (ne_of eq4 ed4 (by intro z; cases z))]; exact eq4) (by rw [upd_ne (ne_of et1 ed4 (by intro z; cases z)), hst]; exact et1))
      rw [hkv, e]; exact upd_same
end
end K21

set_option Elab.async false
set_option linter.all false
set_option maxRecDepth 100000
set_option maxHeartbeats 4000000
namespace K21
open PySem L2
theorem tr_more {H : Hp} {xs : List V} {trs : List (List Int × Int)} (h : Paired (TrAt H) xs trs) {q t : Addr} {st : List Int} {wd : Int} (eq : H q = some (.tup [.ref t, .int wd])) (et : H t = some (.tup (st.map V.int))) : Paired (TrAt H) (xs ++ [.ref q]) (trs ++ [(st, wd)]) := by
  induction h with
  | nil => exact .cons ⟨q, t, rfl, eq, et⟩ .nil
  | cons a _ ih => exact .cons a ih
def sp_stretch : Sp := fun vs H Q _ => ∃ (t d : Addr) (st : List Int) (kvs : List (Key × V)) (beats : Int), vs = [.ref t, .ref d, .int beats] ∧ H t = some (.tup (st.map V.int)) ∧ RS.Ok ⟨st, kvs, [], []⟩ 0 ∧ H d = some (.dK kvs) ∧ beats ≤ 200 ∧
  ∀ (j : Nat) (p t1 l2 : Addr) (xs : List V) (H' : Hp), EndsM ⟨st, kvs, [], []⟩ beats j → Kl d H H' → H' p = some (.tup [.ref t1, .ref l2]) → H' t1 = some (.tup ((runR ⟨st, kvs, [], []⟩ j).st.map V.int)) → H' d = some (.dK (runR ⟨st, kvs, [], []⟩ j).kv) → H' l2 = some (.lst xs) → Paired (TrAt H') xs (runR ⟨st, kvs, [], []⟩ j).trs → H l2 = none → Q (.ref p) H'
def sp_endby : Sp := fun vs H Q _ => ∃ (t : Addr) (st : List Int), vs = [.ref t] ∧ H t = some (.tup (st.map V.int)) ∧ st.length = 15 ∧ Q (.str (endS st)) H
/-- all stays but these two -/
def K2 (l1 l2 : Addr) (H H' : Hp) : Prop := ∀ b o, H b = some o → b ≠ l1 → b ≠ l2 → H' b = some o
theorem K2.of {l1 l2 : Addr} {H H' : Hp} (s : Same H H') : K2 l1 l2 H H' := fun _ _ e _ _ => s _ _ e
theorem K2.trans {l1 l2 : Addr} {H H1 H2 : Hp} (a : K2 l1 l2 H H1) (b : K2 l1 l2 H1 H2) : K2 l1 l2 H H2 := fun x o e n1 n2 => b x o (a x o e n1 n2) n1 n2
theorem K2.l {l1 l2 : Addr} {H H' : Hp} (k : Kl l1 H H') : K2 l1 l2 H H' := fun x o e n1 _ => k x o e n1
theorem K2.r {l1 l2 : Addr} {H H' : Hp} (k : Kl l2 H H') : K2 l1 l2 H H' := fun x o e _ n2 => k x o e n2
def sp_behind : Sp := fun vs H Q _ => ∃ (t tl gl : Addr) (st told left : List Int), vs = [.ref t, .ref tl, .ref gl] ∧ H t = some (.tup (st.map V.int)) ∧ Rg sizes15 st ∧ H tl = some (.lst (told.map V.int)) ∧ H gl = some (.lst (left.map V.int)) ∧ tl ≠ gl ∧ told.length ≤ 1000 ∧ (∀ x ∈ left, 0 ≤ x ∧ x < 65536) ∧
  ∀ (t' : Addr) (H' : Hp), K2 tl gl H H' → H' t' = some (.tup ((callSt st left).map V.int)) → H' tl = some (.lst ((callTold st told).map V.int)) → H' gl = some (.lst ((callLeft st left).map V.int)) → Q (.ref t') H'
section
variable {P : Program} {w : World} {K : PySem.W.Frag} {mg : Str → Option Value} {base : Heap}
theorem sc_stretch : FnScope ["state", "memory", "beats", "told", "trace"] ["state", "memory", "beats"] (defScope s_stretch) := ⟨rfl, rfl, rfl, by decide +kernel, rfl, by decide +kernel, by decide +kernel⟩
theorem ok_stretch {x0 x1 x2 x3 x4 x5 x6 x7 x8 x9 x10 x11 x12 x13 x14 x15 x16 x17 x18 x19 x20 x21 x22 x23 x24 x25 x26 x27 x28 x29 x30 x31 x32 x33 x34 x35 x36 x37 x38 x39 x40 x41 x42 x43 x44 x45 f : Addr} {e0 e1 e2 e3 e4 e5 e6 e7 e8 e9 e10 e11 e12 e13 e14 e15 e16 e17 e18 e19 e20 e21 e22 e23 e24 e25 e26 e27 e28 e29 e30 e31 e32 e33 e34 e35 e36 e37 e38 e39 e40 e41 e42 e43 e44 e45 fd : FuncData} (F : Fun K "stretch" "stretch" s_stretch f fd) (T : Bt mg) (C : Ct K mg)
    (T_op_of : Fn K mg "op_of" s_op_of ["state"] x0 e0) (T_number_of : Fn K mg "number_of" s_number_of ["state"] x1 e1) (T_reaching_ops : Fn K mg "reaching_ops" s_reaching_ops [] x2 e2) (T_parts_read_by_own : Fn K mg "parts_read_by_own" s_parts_read_by_own [] x3 e3) (T_parts_set_by_own : Fn K mg "parts_set_by_own" s_parts_set_by_own [] x4 e4) (T_place_within : Fn K mg "place_within" s_place_within ["state"] x5 e5) (T_asked : Fn K mg "asked" s_asked ["state"] x6 e6) (T_is_barred : Fn K mg "is_barred" s_is_barred ["state"] x7 e7) (T_exchanged : Fn K mg "exchanged" s_exchanged ["state", "changes"] x8 e8) (T_trapped : Fn K mg "trapped" s_trapped ["state", "cause", "place"] x9 e9) (T_fetch : Fn K mg "fetch" s_fetch ["state", "word"] x10 e10) (T_cause_of : Fn K mg "cause_of" s_cause_of ["state"] x11 e11) (T_row_trapped : Fn K mg "row_trapped" s_row_trapped ["state", "cause"] x12 e12) (T_a_by_exchange : Fn K mg "a_by_exchange" s_a_by_exchange ["state"] x13 e13) (T_new_a : Fn K mg "new_a" s_new_a ["state", "word"] x14 e14) (T_new_x : Fn K mg "new_x" s_new_x ["state"] x15 e15) (T_leaps : Fn K mg "leaps" s_leaps ["state"] x16 e16) (T_new_p : Fn K mg "new_p" s_new_p ["state"] x17 e17) (T_own_changes : Fn K mg "own_changes" s_own_changes ["state"] x18 e18) (T_row_done : Fn K mg "row_done" s_row_done ["state", "word"] x19 e19) (T_bell_counted : Fn K mg "bell_counted" s_bell_counted ["state"] x20 e20) (T_written : Fn K mg "written" s_written ["state"] x21 e21) (T_told_word : Fn K mg "told_word" s_told_word ["state"] x22 e22) (T_beat_of : Fn K mg "beat_of" s_beat_of ["state", "word"] x23 e23) (T_law_cell_at : Fn K mg "_law_cell_at" s_law_cell_at ["_law_script", "_law_k"] x24 e24) (T_law_mixed : Fn K mg "_law_mixed" s_law_mixed ["_law_number", "_law_k"] x25 e25) (T_law_names : Fn K mg "_law_names" s_law_names [] x26 e26) (T_law_read : Fn K mg "_law_read" s_law_read ["_law_state"] x27 e27) (T_law_told_of : Fn K mg "_law_told_of" s_law_told_of ["_law_s"] x28 e28) (T_law_wants : Fn K mg "_law_wants" s_law_wants ["_law_s"] x29 e29) (T_law_trapped : Fn K mg "_law_trapped" s_law_trapped ["_law_s", "_law_cause", "_law_place"] x30 e30) (T_law_own : Fn K mg "_law_own" s_law_own ["_law_s", "_law_which"] x31 e31) (T_law_moved : Fn K mg "_law_moved" s_law_moved ["_law_s", "_law_which"] x32 e32) (T_law_row : Fn K mg "_law_row" s_law_row ["_law_s", "_law_op", "_law_number", "_law_word"] x33 e33) (T_law_beat : Fn K mg "_law_beat" s_law_beat ["_law_state", "_law_word"] x34 e34) (T_without_noughts : Fn K mg "without_noughts" s_without_noughts ["memory"] x35 e35) (T_beat_in : Fn K mg "beat_in" s_beat_in ["state", "memory", "told", "trace"] x36 e36) (T_law_words_by : Fn K mg "_law_words_by" s_law_words_by ["_law_cells", "_law_number"] x37 e37) (T_first_state : Fn K mg "first_state" s_first_state [] x38 e38) (T_stretch : Fn K mg "stretch" s_stretch ["state", "memory", "beats"] x39 e39) (T_end_by : Fn K mg "end_by" s_end_by ["state"] x40 e40) (T_behind_call : Fn K mg "behind_call" s_behind_call ["state", "told", "left"] x41 e41) (T_lone : Fn K mg "lone" s_lone ["image", "given", "beats"] x42 e42) (T_law_heard : Fn K mg "_law_heard" s_law_heard ["_law_s", "_law_given", "_law_told"] x43 e43) (T_law_alone : Fn K mg "_law_alone" s_law_alone ["_law_image_here", "_law_given", "_law_beats"] x44 e44) (T_law_image : Fn K mg "_law_image" s_law_image ["_law_script"] x45 e45) : FnOk P w K mg base CX0 8 f fd ["state", "memory", "beats"] sp_stretch := by
  have G_beat_in := ok_beat_in (P := P) (w := w) (base := base) T_beat_in.F T C T_op_of T_number_of T_reaching_ops T_parts_read_by_own T_parts_set_by_own T_place_within T_asked T_is_barred T_exchanged T_trapped T_fetch T_cause_of T_row_trapped T_a_by_exchange T_new_a T_new_x T_leaps T_new_p T_own_changes T_row_done T_bell_counted T_written T_told_word T_beat_of T_law_cell_at T_law_mixed T_law_names T_law_read T_law_told_of T_law_wants T_law_trapped T_law_own T_law_moved T_law_row T_law_beat T_without_noughts T_beat_in T_law_words_by T_first_state T_stretch T_end_by T_behind_call T_lone T_law_heard T_law_alone T_law_image
  refine F.ok sc_stretch (fun vs H Q E h => ?_) (fun cdv A outer s H vs Q E hr h => ?_)
  · obtain ⟨t, d, st, kvs, beats, rfl, _⟩ := h; rfl
  · obtain ⟨t, d, st, kvs, beats, rfl, et, ok0, ed, hb, q⟩ := h
    have hs : sizeLine = 16777216 := sizeLine_eq
    refine ⟨_, (pss_cons (ps_set (i := 3) sc_stretch.nd rfl (Or.inl rfl) (pe_lst pa_nil))
      (pss_cons (ps_set (i := 4) sc_stretch.nd rfl (Or.inl rfl) (pe_lst pa_nil))
      (pss_cons (ps_while PassesOwn.never (PW.pt (pw_and (pt_cmpR op_lt (pe_callB call_len_seq rfl T.b_len (by decide +kernel) (pa_cons (pv 4) pa_nil)) (pv 2) (nomark _)) (pw_and1 (pt_cmpR op_eq (pe_ix ix_tup (pv 0) (pe_glob (v := .int 5) rfl C.k_MODE.choose_spec ⟨_, rfl⟩) (fun _ _ => rfl)) pe_int (nomark _)))))
        (pss_one (ps_set (i := 0) sc_stretch.nd rfl (Or.inl rfl) (pe_call G_beat_in (hr.mono (by decide)) rfl T_beat_in.m T_beat_in.F.kp T_beat_in.b .nil pass0 (pa_cons (pv 0) (pa_cons (pv 1) (pa_cons (pv 3) (pa_cons (pv 4) pa_nil))))))))
      (pss_one (ps_ret (pe_tup (pa_cons (pv 0) (pa_cons (pv 4) pa_nil)))))))), ?_⟩
    refine ⟨Nat.zero_le _, fun l1 hl1 => ?_⟩
    have y2 := Same.put (o := .lst []) hl1
    have e1 : upd H l1 (.lst []) l1 = some (.lst []) := upd_same
    generalize upd H l1 (.lst []) = H2 at y2 e1 ⊢
    refine ⟨Nat.zero_le _, fun l2 hl2 => ?_⟩
    have y3 := Same.put (o := .lst []) hl2
    have e2 : upd H2 l2 (.lst []) l2 = some (.lst []) := upd_same
    generalize upd H2 l2 (.lst []) = H3 at y3 e2 ⊢
    have n12 : l1 ≠ l2 := ne_of_none e1 hl2
    have fd2 : H l2 = none := y2.free hl2
    obtain ⟨r0, hr0⟩ : ∃ z : RS, (⟨st, kvs, [], []⟩ : RS) = z := ⟨_, rfl⟩
    rw [hr0] at ok0 q
    refine ⟨fun m σ H4 => ∃ (i : Nat) (t : Addr) (xs : List V), σ = [some (.ref t), some (.ref d), some (.int beats), some (.ref l1), some (.ref l2)] ∧ m = beats.toNat - i ∧ (∀ i', i' < i → goesM r0 beats i') ∧ Kl d H H4 ∧ H4 t = some (.tup ((runR r0 i).st.map V.int)) ∧ H4 d = some (.dK (runR r0 i).kv) ∧ H4 l1 = some (.lst ((runR r0 i).told.map V.int)) ∧ H4 l2 = some (.lst xs) ∧ Paired (TrAt H4) xs (runR r0 i).trs,
      ⟨_, 0, t, [], rfl, rfl, fun i' h => by omega, Kl.of (y2.trans y3), ?_, ?_, ?_, e2, ?_⟩, ?_⟩
    · rw [← hr0]; exact (y2.trans y3) _ _ et
    · rw [← hr0]; exact (y2.trans y3) _ _ ed
    · rw [← hr0]; exact y3 _ _ e1
    · rw [← hr0]; exact .nil
    rintro m σ H4 ⟨i, t, xs, rfl, rfl, hgo, s4, et4, ed4, e14, e24, hx⟩
    have oki := run_ok ok0 i
    have lx : xs.length = i := by rw [hx.length]; exact oki.sl
    have l15 : (runR r0 i).st.length = 15 := oki.rg.len
    have stop : ¬ goesM r0 beats i → ∀ (p : Addr), H4 p = none → Q (.ref p) (upd H4 p (.tup [.ref t, .ref l2])) := fun hn p hp => by
      have sp := Same.put (o := .tup [V.ref t, V.ref l2]) hp
      exact q i p t l2 xs _ ⟨hgo, hn⟩ (s4.trans (Kl.of sp)) upd_same (sp _ _ et4) (sp _ _ ed4) (sp _ _ e24) (Paired.mapP hx fun _ _ z => z.same sp) fd2
    refine ⟨_, rfl, l2, _, rfl, .inl (SqL.of e24), _, rfl, _, _, rfl, rfl, _, rfl, ite2 (fun h => ?_) (fun h => ?_)⟩
    · have h1 : (i : Int) < beats := by have := of_decide_eq_true h; rw [← lx]; exact this
      refine ⟨_, rfl, t, _, _, _, rfl, rfl, SqT.of et4, atI_getD (i := 5) (by omega), rfl, _, rfl, ite2 (fun h' => ?_) (fun h' => ?_)⟩
      · have h2 : (runR r0 i).st.getD 5 0 = 1 := V.int.inj (of_decide_eq_true h')
        refine ⟨fun σ' H' => ∃ m', m' < beats.toNat - i ∧ ∃ (i : Nat) (t : Addr) (xs : List V), σ' = [some (.ref t), some (.ref d), some (.int beats), some (.ref l1), some (.ref l2)] ∧ m' = beats.toNat - i ∧ (∀ i', i' < i → goesM r0 beats i') ∧ Kl d H H' ∧ H' t = some (.tup ((runR r0 i).st.map V.int)) ∧ H' d = some (.dK (runR r0 i).kv) ∧ H' l1 = some (.lst ((runR r0 i).told.map V.int)) ∧ H' l2 = some (.lst xs) ∧ Paired (TrAt H') xs (runR r0 i).trs, fun _ _ z => z, ?_⟩
        refine ⟨_, rfl, _, rfl, _, rfl, _, rfl, t, d, l1, l2, runR r0 i, xs, i, rfl, et4, oki, by omega, ed4, e14, e24, n12, lx, fun t' qa H' k' et' ed' e1' e2' eqa => ?_⟩
        have et5 : H' t = some (.tup ((runR r0 i).st.map V.int)) := k' _ _ et4 (ne_of et4 ed4 (by intro z; cases z)) (ne_of et4 e14 (by intro z; cases z)) (ne_of et4 e24 (by intro z; cases z))
        refine ⟨beats.toNat - (i + 1), by omega, i + 1, t', xs ++ [.ref qa], rfl, rfl, fun i' hi' => ?_, K3.kl s4 hl1 fd2 k', et', ed', e1', e2', ?_⟩
        · by_cases z : i' < i
          · exact hgo i' z
          · rw [show i' = i by omega]; exact ⟨h1, h2⟩
        · exact tr_more (Paired.mapP hx fun _ _ z => z.k3 k' ed4 e14 e24) eqa et5
      · refine ⟨_, rfl, _, rfl, (by show 2 ≤ sizeLine; omega), fun p hp => stop (fun g => h' (decide_eq_true (congrArg V.int g.2))) p hp⟩
    · refine iteF ⟨_, rfl, _, rfl, (by show 2 ≤ sizeLine; omega), fun p hp => stop (fun g => h (decide_eq_true (by rw [lx]; exact g.1))) p hp⟩
theorem sc_end_by : FnScope ["state"] ["state"] (defScope s_end_by) := ⟨rfl, rfl, rfl, by decide +kernel, rfl, by decide +kernel, by decide +kernel⟩
theorem ok_end_by {f : Addr} {fd : FuncData} (F : Fun K "end_by" "end_by" s_end_by f fd) (C : Ct K mg) : FnOk P w K mg base CX0 1 f fd ["state"] sp_endby := by
  refine F.ok sc_end_by (fun vs H Q E h => ?_) (fun cdv A outer s H vs Q E hr h => ?_)
  · obtain ⟨t, st, rfl, _⟩ := h; rfl
  · obtain ⟨t, st, rfl, et, hl, q⟩ := h
    refine ⟨_, (pss_cons (ps_if (pt_cmpR op_eq (pe_ix ix_tup (pv 0) (pe_glob (v := .int 5) rfl C.k_MODE.choose_spec ⟨_, rfl⟩) (fun _ _ => rfl)) pe_int (nomark _))
        (pss_one (ps_ret pe_str))
        pss_nil)
      (pss_cons (ps_if (PW.pt (pw_or (pt_cmpR op_ne (pe_ix ix_tup (pv 0) (pe_glob (v := .int 12) rfl C.k_CAUSE.choose_spec ⟨_, rfl⟩) (fun _ _ => rfl)) (pe_glob (v := .int 3) rfl C.k_CALLED.choose_spec ⟨_, rfl⟩) (nomark _)) (pw_or1 (pt_cmpR op_gt (pe_ix ix_tup (pv 0) (pe_glob (v := .int 13) rfl C.k_NUMBER.choose_spec ⟨_, rfl⟩) (fun _ _ => rfl)) (pe_glob (v := .int 3) rfl C.k_ASK.choose_spec ⟨_, rfl⟩) (nomark _)))))
        (pss_one (ps_ret pe_str))
        pss_nil)
      (pss_cons (ps_if (pt_cmpR op_eq (pe_ix ix_tup (pv 0) (pe_glob (v := .int 13) rfl C.k_NUMBER.choose_spec ⟨_, rfl⟩) (fun _ _ => rfl)) (pe_glob (v := .int 0) rfl C.k_END.choose_spec ⟨_, rfl⟩) (nomark _))
        (pss_one (ps_ret pe_str))
        pss_nil)
      (pss_one (ps_ret pe_str))))), ?_⟩
    unfold endS at q
    refine ⟨_, rfl, t, _, _, _, rfl, rfl, SqT.of et, atI_getD (i := 5) (by omega), rfl, _, rfl, ite2 (fun h => ?_) (fun h => ?_)⟩
    · rw [if_pos (V.int.inj (of_decide_eq_true h))] at q
      exact q
    · rw [if_neg (fun z => h (decide_eq_true (congrArg V.int z)))] at q
      refine ⟨_, rfl, t, _, _, _, rfl, rfl, SqT.of et, atI_getD (i := 12) (by omega), rfl, _, rfl, ite2 (fun h1 => ?_) (fun h1 => ?_)⟩
      · have h1 : ¬ V.int (st.getD 12 0) = V.int 3 := of_decide_eq_false ((Bool.not_eq_true' _).mp h1)
        rw [if_pos (.inl fun z => h1 (congrArg V.int z))] at q
        exact iteT q
      · have e1 : st.getD 12 0 = 3 := by
          rcases Decidable.em (V.int (st.getD 12 0) = V.int 3) with z | z
          · exact V.int.inj z
          · exact absurd (by rw [decide_eq_false z]; rfl) h1
        refine ⟨_, rfl, t, _, _, _, rfl, rfl, SqT.of et, atI_getD (i := 13) (by omega), _, _, rfl, rfl, _, rfl, ite2 (fun h2 => ?_) (fun h2 => ?_)⟩
        · rw [if_pos (.inr (of_decide_eq_true h2))] at q
          exact q
        · rw [if_neg (fun z => z.elim (fun y => y e1) (fun y => h2 (decide_eq_true y)))] at q
          refine ⟨_, rfl, t, _, _, _, rfl, rfl, SqT.of et, atI_getD (i := 13) (by omega), rfl, _, rfl, ite2 (fun h3 => ?_) (fun h3 => ?_)⟩
          · rw [if_pos (V.int.inj (of_decide_eq_true h3))] at q
            exact q
          · rw [if_neg (fun z => h3 (decide_eq_true (congrArg V.int z)))] at q
            exact q
end
end K21

set_option Elab.async false
set_option linter.all false
set_option maxRecDepth 100000
set_option maxHeartbeats 4000000
namespace K21
open PySem L2
theorem itBF {b : Bool} {A B : Prop} (e : b = false) (h : B) : if b = true then A else B := by rw [e]; exact h
section
variable {P : Program} {w : World} {K : PySem.W.Frag} {mg : Str → Option Value} {base : Heap}
theorem sc_behind_call : FnScope ["state", "told", "left", "a"] ["state", "told", "left"] (defScope s_behind_call) := ⟨rfl, rfl, rfl, by decide +kernel, rfl, by decide +kernel, by decide +kernel⟩
theorem bh_B {f f1 : Addr} {d1 : FuncData} (T : Bt mg) (C : Ct K mg) (T_exchanged : Fn K mg "exchanged" s_exchanged ["state", "changes"] f1 d1) {cdv : Value} {A : Around} {outer : List Env} {s : Shared} {H : Hp} {E : XK} (hr : Room 2 (A.deeper (PyProof.Rows.envOfC "behind_call" (defScope s_behind_call) s.heap.objs.size f cdv))) :
    ∃ u, PSs (cxOf CX0 P w K mg base ["state", "told", "left", "a"] "behind_call" (defScope s_behind_call) f cdv A outer s H E).nox ((defBody s_behind_call).drop 3) u ∧
      ∀ (D : Ends) (v1 v2 : Option V) (t : Addr) (st : List Int) (a : Int) (H1 : Hp), H1 t = some (.tup (st.map V.int)) → st.length = 15 → (∀ (t' : Addr) (H' : Hp), Same H1 H' → H' t' = some (.tup ((exS st [(0, a), (2, st.getD 11 0), (5, 1)]).map V.int)) → D.rt (.ref t') H') →
        u D [some (.ref t), v1, v2, some (.int a)] H1 := by
  have G_exchanged := ok_exchanged (P := P) (w := w) (base := base) T_exchanged.F T
  refine ⟨_, (pss_one (ps_ret (pe_call G_exchanged (hr.mono (by decide)) rfl T_exchanged.m T_exchanged.F.kp T_exchanged.b .nil pass0 (pa_cons (pv 0) (pa_cons (pe_lst (pa_cons (pe_tup (pa_cons (pe_glob (v := .int 0) rfl C.k_A.choose_spec ⟨_, rfl⟩) (pa_cons (pv 3) pa_nil))) (pa_cons (pe_tup (pa_cons (pe_glob (v := .int 2) rfl C.k_P.choose_spec ⟨_, rfl⟩) (pa_cons (pe_ix ix_tup (pv 0) (pe_glob (v := .int 11) rfl C.k_SAVED_P.choose_spec ⟨_, rfl⟩) (fun _ _ => rfl)) pa_nil))) (pa_cons (pe_tup (pa_cons (pe_glob (v := .int 5) rfl C.k_MODE.choose_spec ⟨_, rfl⟩) (pa_cons pe_int pa_nil))) pa_nil)))) pa_nil))))), ?_⟩
  intro D v1 v2 t st a H1 et hl q
  have hs : sizeLine = 16777216 := sizeLine_eq
  have two : 2 ≤ sizeLine := by omega
  refine ⟨_, rfl, _, rfl, two, fun p1 h1 => ?_⟩
  have y1 := Same.put (o := .tup [V.int 0, V.int a]) h1
  refine ⟨_, rfl, t, _, _, _, rfl, rfl, SqT.of (y1 _ _ et), atI_getD (i := 11) (by omega), two, fun p2 h2 => ?_⟩
  have y2 := Same.put (o := .tup [V.int 2, V.int (st.getD 11 0)]) h2
  refine ⟨two, fun p3 h3 => ?_⟩
  have y3 := Same.put (o := .tup [V.int 5, V.int 1]) h3
  refine ⟨(by show 3 ≤ sizeLine; omega), fun l h4 => ?_⟩
  have y4 := Same.put (o := .lst [V.ref p1, V.ref p2, V.ref p3]) h4
  have a34 := y3.trans y4
  have a24 := y2.trans a34
  have a14 := y1.trans a24
  exact ⟨t, l, st, _, [(0, a), (2, st.getD 11 0), (5, 1)], rfl, a14 _ _ et, hl, upd_same, .cons ⟨p1, rfl, a24 _ _ upd_same⟩ (.cons ⟨p2, rfl, a34 _ _ upd_same⟩ (.cons ⟨p3, rfl, y4 _ _ upd_same⟩ .nil)), by simp, fun t' H' _ s' e' => q t' H' (a14.trans s') e'⟩
theorem ok_behind_call {f f1 : Addr} {fd d1 : FuncData} (F : Fun K "behind_call" "behind_call" s_behind_call f fd) (T : Bt mg) (C : Ct K mg) (T_exchanged : Fn K mg "exchanged" s_exchanged ["state", "changes"] f1 d1) : FnOk P w K mg base CX0 3 f fd ["state", "told", "left"] sp_behind := by
  refine F.ok sc_behind_call (fun vs H Q E h => ?_) (fun cdv A outer s H vs Q E hr h => ?_)
  · obtain ⟨t, tl, gl, st, told, left, rfl, _⟩ := h; rfl
  · obtain ⟨t, tl, gl, st, told, left, rfl, et, R, etl, egl, ng, ht, hlf, q⟩ := h
    have hs : sizeLine = 16777216 := sizeLine_eq
    have hl : st.length = 15 := R.len
    obtain ⟨uB, hB, kB⟩ := bh_B (P := P) (w := w) (base := base) (f := f) (cdv := cdv) (outer := outer) (H := H) (E := E) T C T_exchanged hr
    refine ⟨_, (pss_cons (ps_set (i := 3) sc_behind_call.nd rfl (Or.inl rfl) (pe_ix ix_tup (pv 0) (pe_glob (v := .int 0) rfl C.k_A.choose_spec ⟨_, rfl⟩) (fun _ _ => rfl)))
      (pss_cons (ps_if (pt_cmpR op_eq (pe_ix ix_tup (pv 0) (pe_glob (v := .int 13) rfl C.k_NUMBER.choose_spec ⟨_, rfl⟩) (fun _ _ => rfl)) (pe_glob (v := .int 1) rfl C.k_TELL.choose_spec ⟨_, rfl⟩) (nomark _))
        (pss_one (ps_expr (pe_bm PySem.F.plainAttrs_list PySem.F.slot_list_append PySem.F.type_list_append mt_append (pv 1) (pa_cons (pv 3) pa_nil))))
        pss_nil)
      (pss_cons (ps_if (pt_cmpR op_eq (pe_ix ix_tup (pv 0) (pe_glob (v := .int 13) rfl C.k_NUMBER.choose_spec ⟨_, rfl⟩) (fun _ _ => rfl)) (pe_glob (v := .int 3) rfl C.k_ASK.choose_spec ⟨_, rfl⟩) (nomark _))
        (pss_one (ps_set (i := 3) sc_behind_call.nd rfl (Or.inl rfl) (pe_ifExp (pt_cmpR op_gt (pe_callB call_len_seq rfl T.b_len (by decide +kernel) (pa_cons (pv 2) pa_nil)) pe_int (nomark _)) (pe_op op_mod (pe_bm PySem.F.plainAttrs_list PySem.F.slot_list_pop PySem.F.type_list_pop mt_popAt (pv 2) (pa_cons pe_int pa_nil)) (pe_glob (v := .int 65536) rfl C.k_WORDS.choose_spec ⟨_, rfl⟩)) (pe_glob (v := .int 65535) rfl C.k_NONE_LEFT.choose_spec ⟨_, rfl⟩))))
        pss_nil)
      hB))), ?_⟩
    refine ⟨_, rfl, t, _, _, _, rfl, rfl, SqT.of et, atI_getD (i := 0) (by omega), ?_⟩
    have tt : t ≠ tl := ne_of et etl (by intro z; cases z)
    have tg : t ≠ gl := ne_of et egl (by intro z; cases z)
    have fin : ∀ (H1 : Hp), K2 tl gl H H1 → H1 tl = some (.lst ((callTold st told).map V.int)) → H1 gl = some (.lst (left.map V.int)) → ∀ a : Int, a = callA st left → ¬ st.getD 13 0 = 3 → ∀ (t' : Addr) (H' : Hp), Same H1 H' → H' t' = some (.tup ((exS st [(0, a), (2, st.getD 11 0), (5, 1)]).map V.int)) → Q (.ref t') H' := fun H1 k1 e1 e2 a ea h3 t' H' s' e' => by
      subst ea
      refine q t' H' (k1.trans (K2.of s')) e' (s' _ _ e1) ?_
      unfold callLeft
      rw [if_neg h3]; exact s' _ _ e2
    have ask : ∀ (H1 : Hp), K2 tl gl H H1 → H1 t = some (.tup (st.map V.int)) → H1 tl = some (.lst ((callTold st told).map V.int)) → H1 gl = some (.lst (left.map V.int)) → st.getD 13 0 = 3 → ∀ (H2 : Hp) (a : Int), K2 tl gl H1 H2 → H2 tl = some (.lst ((callTold st told).map V.int)) → H2 gl = some (.lst (left.tail.map V.int)) → a = callA st left → ∀ (t' : Addr) (H' : Hp), Same H2 H' → H' t' = some (.tup ((exS st [(0, a), (2, st.getD 11 0), (5, 1)]).map V.int)) → Q (.ref t') H' := fun H1 k1 _ _ _ h3 H2 a k2 e1 e2 ea t' H' s' e' => by
      subst ea
      refine q t' H' ((k1.trans k2).trans (K2.of s')) e' (s' _ _ e1) ?_
      unfold callLeft
      rw [if_pos h3]; exact s' _ _ e2
    have rest : ∀ (H1 : Hp), K2 tl gl H H1 → H1 t = some (.tup (st.map V.int)) → H1 tl = some (.lst ((callTold st told).map V.int)) → H1 gl = some (.lst (left.map V.int)) → True := fun _ _ _ _ _ => trivial
    have hA3 : st.getD 13 0 = 3 → callA st left = left.headD 65535 := fun h => by unfold callA; rw [if_pos h]
    have hA0 : ¬ st.getD 13 0 = 3 → callA st left = st.getD 0 0 := fun h => by unfold callA; rw [if_neg h]
    have next : ∀ (H1 : Hp), K2 tl gl H H1 → H1 t = some (.tup (st.map V.int)) → H1 tl = some (.lst ((callTold st told).map V.int)) → H1 gl = some (.lst (left.map V.int)) → st.getD 13 0 = 3 → ∀ x r, left = x :: r → K2 tl gl H1 (upd H1 gl (.lst (r.map V.int))) ∧ upd H1 gl (.lst (r.map V.int)) tl = some (.lst ((callTold st told).map V.int)) ∧ upd H1 gl (.lst (r.map V.int)) gl = some (.lst (left.tail.map V.int)) ∧ upd H1 gl (.lst (r.map V.int)) t = some (.tup (st.map V.int)) := fun H1 k1 e0 e1 e2 h3 x r el => by
      subst el
      exact ⟨K2.r Kl.one, by rw [upd_ne ng]; exact e1, upd_same, by rw [upd_ne tg]; exact e0⟩
    refine ⟨_, rfl, t, _, _, _, rfl, rfl, SqT.of et, atI_getD (i := 13) (by omega), rfl, _, rfl, ite2 (fun h1 => ?_) (fun h1 => ?_)⟩
    · have h1 : st.getD 13 0 = 1 := V.int.inj (of_decide_eq_true h1)
      have hT : callTold st told = told ++ [st.getD 0 0] := by unfold callTold; rw [if_pos h1]
      refine ⟨_, rfl, .inl ⟨rfl, _, SqL.of etl⟩, _, rfl, tl, _, _, rfl, rfl, etl, (by rw [List.length_map]; omega), ?_⟩
      have et1 : upd H tl (.lst (told.map V.int ++ [V.int (st.getD 0 0)])) t = some (.tup (st.map V.int)) := by rw [upd_ne tt]; exact et
      have etl1 : upd H tl (.lst (told.map V.int ++ [V.int (st.getD 0 0)])) tl = some (.lst ((callTold st told).map V.int)) := by rw [upd_same, hT, List.map_append]; rfl
      have egl1 : upd H tl (.lst (told.map V.int ++ [V.int (st.getD 0 0)])) gl = some (.lst (left.map V.int)) := by rw [upd_ne ng.symm]; exact egl
      have k1 : K2 tl gl H (upd H tl (.lst (told.map V.int ++ [V.int (st.getD 0 0)]))) := K2.l Kl.one
      generalize upd H tl (.lst (told.map V.int ++ [V.int (st.getD 0 0)])) = H1 at et1 etl1 egl1 k1 ⊢
      have n3 : ¬ st.getD 13 0 = 3 := by omega
      refine ⟨_, rfl, t, _, _, _, rfl, rfl, SqT.of et1, atI_getD (i := 13) (by omega), rfl, _, rfl, itDN (fun z => n3 (V.int.inj z)) ?_⟩
      exact kB _ _ _ t st _ H1 et1 hl (fin H1 k1 etl1 egl1 _ (hA0 n3).symm n3)
    · have h1 : ¬ st.getD 13 0 = 1 := fun z => h1 (decide_eq_true (congrArg V.int z))
      have hT : callTold st told = told := by unfold callTold; rw [if_neg h1]
      have etl1 : H tl = some (.lst ((callTold st told).map V.int)) := by rw [hT]; exact etl
      refine ⟨_, rfl, t, _, _, _, rfl, rfl, SqT.of et, atI_getD (i := 13) (by omega), rfl, _, rfl, ite2 (fun h3 => ?_) (fun h3 => ?_)⟩
      · have h3 : st.getD 13 0 = 3 := V.int.inj (of_decide_eq_true h3)
        have kH : K2 tl gl H H := K2.of (Same.refl _)
        cases left with
        | nil =>
          refine ⟨_, rfl, gl, _, rfl, .inl (SqL.of egl), _, _, rfl, rfl, _, rfl, itBF rfl ?_⟩
          exact kB _ _ _ t st _ H et hl (ask H kH et etl1 egl h3 H _ kH etl1 egl (hA3 h3).symm)
        | cons x r =>
          obtain ⟨z1, z2, z3, z4⟩ := next H kH et etl1 egl h3 x r rfl
          have hx := hlf x List.mem_cons_self
          refine ⟨_, rfl, gl, _, rfl, .inl (SqL.of egl), _, _, rfl, rfl, _, rfl, itDP (by rw [List.length_map, List.length_cons]; omega) ?_⟩
          refine ⟨_, rfl, .inl ⟨rfl, _, SqL.of egl⟩, gl, _, 0, 0, V.int x, rfl, rfl, egl, by decide, by decide, (by unfold seqIndex?; simp), rfl, ?_⟩
          refine ⟨_, _, rfl, rfl, (by show (0 : Int) < 65536; decide), ?_⟩
          refine kB _ _ _ t st _ _ z4 hl (ask H kH et etl1 egl h3 _ _ z1 z2 z3 ?_)
          rw [hA3 h3]
          exact Int.emod_eq_of_lt hx.1 hx.2
      · have h3 : ¬ st.getD 13 0 = 3 := fun z => h3 (decide_eq_true (congrArg V.int z))
        exact kB _ _ _ t st _ H et hl (fin H (K2.of (Same.refl _)) etl1 egl _ (hA0 h3).symm h3)
end
end K21

set_option Elab.async false
set_option linter.all false
set_option maxRecDepth 100000
set_option maxHeartbeats 4000000
namespace K21
open PySem L2
def TraceAt (H : Hp) (v : V) (tr : Tr1) : Prop := ∃ (l : Addr) (xs : List V), v = .ref l ∧ H l = some (.lst xs) ∧ Paired (TrAt H) xs tr
theorem TrAt.keep {H H' : Hp} (k2 : ∀ q ts, H q = some (.tup ts) → H' q = some (.tup ts)) {v : V} {p : List Int × Int} (h : TrAt H v p) : TrAt H' v p := by
  obtain ⟨q, t, e, eq, et⟩ := h
  exact ⟨q, t, e, k2 _ _ eq, k2 _ _ et⟩
theorem TraceAt.keep {H H' : Hp} {v : V} {tr : Tr1} (h : TraceAt H v tr) (k1 : ∀ l, v = .ref l → ∀ o, H l = some o → H' l = some o) (k2 : ∀ q ts, H q = some (.tup ts) → H' q = some (.tup ts)) : TraceAt H' v tr := by
  obtain ⟨l, xs, e, el, hx⟩ := h
  exact ⟨l, xs, e, k1 l e _ el, Paired.mapP hx fun _ _ z => z.keep k2⟩
theorem paired_mem {α β : Type} {R R' : α → β → Prop} {xs : List α} {ys : List β} (h : Paired R xs ys) : (∀ x y, x ∈ xs → R x y → R' x y) → Paired R' xs ys := by
  induction h with
  | nil => exact fun _ => .nil
  | cons a _ ih => exact fun f => .cons (f _ _ List.mem_cons_self a) (ih fun x y hx => f x y (List.mem_cons_of_mem _ hx))
theorem trs_keep {H H' : Hp} {xs : List V} {trs : List Tr1} (h : Paired (TraceAt H) xs trs) (k1 : ∀ l, V.ref l ∈ xs → ∀ o, H l = some o → H' l = some o) (k2 : ∀ q ts, H q = some (.tup ts) → H' q = some (.tup ts)) : Paired (TraceAt H') xs trs :=
  paired_mem h fun x y hx z => z.keep (fun l e o eo => k1 l (e ▸ hx) o eo) k2
theorem trs_same {H H' : Hp} {xs : List V} {trs : List Tr1} (h : Paired (TraceAt H) xs trs) (s : Same H H') : Paired (TraceAt H') xs trs := trs_keep h (fun l _ o e => s _ _ e) fun _ _ e => s _ _ e
theorem paired_snoc {α β : Type} {R : α → β → Prop} {xs : List α} {ys : List β} {x : α} {y : β} (h : Paired R xs ys) (z : R x y) : Paired R (xs ++ [x]) (ys ++ [y]) := by
  induction h with
  | nil => exact .cons z .nil
  | cons a _ ih => exact .cons a ih
/-- the traces' lists are new, and no two the same -/
structure TrsNew (H : Hp) (no : List Addr) (xs : List V) : Prop where
  nd : xs.Nodup
  nw : ∀ v ∈ xs, ∃ l, v = .ref l ∧ H l = none ∧ l ∉ no
theorem TrsNew.nil {H : Hp} {no : List Addr} : TrsNew H no [] := ⟨List.nodup_nil, fun v h => by cases h⟩
theorem TrsNew.snoc {H : Hp} {no : List Addr} {xs : List V} {l : Addr} (h : TrsNew H no xs) (hl : H l = none) (hn : l ∉ no) (hx : V.ref l ∉ xs) : TrsNew H no (xs ++ [.ref l]) :=
  ⟨List.nodup_append.mpr ⟨h.nd, by simp, fun a ha b hb => by rw [List.mem_singleton.mp hb]; exact fun z => hx (z ▸ ha)⟩, fun v hv => (List.mem_append.mp hv).elim (h.nw v) fun z => ⟨l, List.mem_singleton.mp z, hl, hn⟩⟩
theorem TrsNew.ne {H : Hp} {no : List Addr} {xs : List V} (h : TrsNew H no xs) {l a : Addr} (hl : V.ref l ∈ xs) (ha : a ∈ no) : l ≠ a := fun z => by
  obtain ⟨l', e, _, hn⟩ := h.nw _ hl
  cases e
  exact hn (z ▸ ha)
theorem TrsNew.free {H : Hp} {no : List Addr} {xs : List V} (h : TrsNew H no xs) {l : Addr} (hl : V.ref l ∈ xs) : H l = none := by
  obtain ⟨l', e, h', _⟩ := h.nw _ hl
  cases e
  exact h'
def sp_lone : Sp := fun vs H Q _ => ∃ (im gv : Addr) (words given : List Int) (b : Nat), vs = [.ref im, .ref gv, .int (b : Int)] ∧ H im = some (.lst (words.map V.int)) ∧ H gv = some (.lst (given.map V.int)) ∧ words.length ≤ 63 ∧ (∀ x ∈ words, 0 ≤ x ∧ x < 65536) ∧ given.length ≤ 9 ∧ (∀ x ∈ given, 0 ≤ x ∧ x < 65536) ∧ b ≤ 120 ∧
  ∀ (p tl d2 trl : Addr) (xs : List V) (H' : Hp), Same H H' → H' p = some (.tup [.ref tl, .str (runL (startL words given) b).en, .ref d2, .ref trl]) → H' tl = some (.lst ((runL (startL words given) b).told.map V.int)) → H' d2 = some (.dK (clean (runL (startL words given) b).kv)) → H' trl = some (.lst xs) → Paired (TraceAt H') xs (allT (runL (startL words given) b)) →
    H tl = none → H d2 = none → H trl = none → tl ≠ trl → TrsNew H [tl, trl] xs → Q (.ref p) H'
/-- while it goes: behind i beats -/
structure LoneAt (H : Hp) (s0 : LS) (b : Nat) (tl gl d trl : Addr) (i : Nat) (t : Addr) (xs : List V) (H4 : Hp) : Prop where
  ib : i ≤ b
  sm : Same H H4
  et : H4 t = some (.tup ((runL s0 i).st.map V.int))
  cu : (runL s0 i).cur = [] ∨ i = b
  ed : H4 d = some (.dK (runL s0 i).kv)
  eg : H4 gl = some (.lst ((runL s0 i).left.map V.int))
  el : H4 tl = some (.lst ((runL s0 i).told.map V.int))
  er : H4 trl = some (.lst xs)
  px : Paired (TraceAt H4) xs (allT (runL s0 i))
  nw : TrsNew H [tl, gl, trl] xs
theorem LoneAt.fin {H : Hp} {s0 : LS} {b : Nat} {tl gl d trl : Addr} {i : Nat} {t : Addr} {xs : List V} {H4 : Hp} (h : LoneAt H s0 b tl gl d trl i t xs H4) (e : i = b ∨ (runL s0 i).en ≠ "going") : runL s0 i = runL s0 b := by
  rcases e with rfl | e
  · rfl
  · have := runL_end e (b - i)
    rw [← this]
    congr 1
    have := h.ib
    omega
/-- one turn of the loop: j more beats, told apart by the mode behind them -/
theorem lone_step {s0 : LS} {b i j : Nat} (ok : (runL s0 i).Ok i) (hg : (runL s0 i).en = "going") (hc : (runL s0 i).cur = []) (hlt : i < b) (hj : EndsM ⟨(runL s0 i).st, (runL s0 i).kv, [], []⟩ ((b : Int) - (i : Int)) j) :
    0 < j ∧ i + j ≤ b ∧ (((runR ⟨(runL s0 i).st, (runL s0 i).kv, [], []⟩ j).st.getD 5 0 = 1 ∧ i + j = b ∧ runL s0 (i + j) = ⟨(runR ⟨(runL s0 i).st, (runL s0 i).kv, [], []⟩ j).st, (runR ⟨(runL s0 i).st, (runL s0 i).kv, [], []⟩ j).kv, (runL s0 i).told, (runL s0 i).left, (runL s0 i).old, (runR ⟨(runL s0 i).st, (runL s0 i).kv, [], []⟩ j).trs, "going"⟩) ∨
      (¬ (runR ⟨(runL s0 i).st, (runL s0 i).kv, [], []⟩ j).st.getD 5 0 = 1 ∧ runL s0 (i + j) = heardL (runR ⟨(runL s0 i).st, (runL s0 i).kv, [], []⟩ j).st (runR ⟨(runL s0 i).st, (runL s0 i).kv, [], []⟩ j).kv (runL s0 i).told (runL s0 i).left (runL s0 i).old (runR ⟨(runL s0 i).st, (runL s0 i).kv, [], []⟩ j).trs)) := by
  have m0 := (ok.go hg).1
  have j0 : 0 < j := by
    rcases Nat.eq_zero_or_pos j with z | z
    · subst z
      exact absurd ⟨by show ((0 : Nat) : Int) < _; omega, m0⟩ hj.no
    · exact z
  obtain ⟨k, rfl⟩ : ∃ k, j = k + 1 := ⟨j - 1, by omega⟩
  have hk := (hj.go k (by omega)).1
  refine ⟨j0, by omega, ?_⟩
  rw [runL_add]
  by_cases hm : (runR ⟨(runL s0 i).st, (runL s0 i).kv, [], []⟩ (k + 1)).st.getD 5 0 = 1
  · refine .inl ⟨hm, ?_, stretch_go hc hg (k + 1) fun x hx => ?_⟩
    · have : ¬ (((k + 1 : Nat) : Int) < (b : Int) - (i : Int)) := fun z => hj.no ⟨z, hm⟩
      omega
    · rcases Nat.lt_or_ge x (k + 1) with z | z
      · exact (hj.go x z).2
      · rw [show x = k + 1 by omega]; exact hm
  · exact .inr ⟨hm, stretch_stop hc hg (fun x hx => (hj.go x (by omega)).2) hm⟩
theorem paired_of {α β : Type} {R : α → β → Prop} {xs : List α} {ys : List β} (h : Paired R xs ys) : ∀ {x : α}, x ∈ xs → ∃ y, y ∈ ys ∧ R x y := by
  induction h with
  | nil => intro x hx; cases hx
  | cons a _ ih =>
    intro x hx
    rcases List.mem_cons.mp hx with rfl | z
    · exact ⟨_, List.mem_cons_self, a⟩
    · obtain ⟨y, hy, r⟩ := ih z
      exact ⟨y, List.mem_cons_of_mem _ hy, r⟩
end K21

set_option Elab.async false
set_option linter.all false
set_option maxRecDepth 100000
set_option maxHeartbeats 4000000
namespace K21
open PySem L2
section
variable {P : Program} {w : World} {K : PySem.W.Frag} {mg : Str → Option Value} {base : Heap}
theorem sc_lone : FnScope ["image", "given", "beats", "state", "memory", "left", "told", "traces", "end", "answer"] ["image", "given", "beats"] (defScope s_lone) := ⟨rfl, rfl, rfl, by decide +kernel, rfl, by decide +kernel, by decide +kernel⟩
theorem lone_B {x0 x1 x2 x3 x4 x5 x6 x7 x8 x9 x10 x11 x12 x13 x14 x15 x16 x17 x18 x19 x20 x21 x22 x23 x24 x25 x26 x27 x28 x29 x30 x31 x32 x33 x34 x35 x36 x37 x38 x39 x40 x41 x42 x43 x44 x45 f : Addr} {e0 e1 e2 e3 e4 e5 e6 e7 e8 e9 e10 e11 e12 e13 e14 e15 e16 e17 e18 e19 e20 e21 e22 e23 e24 e25 e26 e27 e28 e29 e30 e31 e32 e33 e34 e35 e36 e37 e38 e39 e40 e41 e42 e43 e44 e45 : FuncData} (T : Bt mg) (C : Ct K mg)
    (T_op_of : Fn K mg "op_of" s_op_of ["state"] x0 e0) (T_number_of : Fn K mg "number_of" s_number_of ["state"] x1 e1) (T_reaching_ops : Fn K mg "reaching_ops" s_reaching_ops [] x2 e2) (T_parts_read_by_own : Fn K mg "parts_read_by_own" s_parts_read_by_own [] x3 e3) (T_parts_set_by_own : Fn K mg "parts_set_by_own" s_parts_set_by_own [] x4 e4) (T_place_within : Fn K mg "place_within" s_place_within ["state"] x5 e5) (T_asked : Fn K mg "asked" s_asked ["state"] x6 e6) (T_is_barred : Fn K mg "is_barred" s_is_barred ["state"] x7 e7) (T_exchanged : Fn K mg "exchanged" s_exchanged ["state", "changes"] x8 e8) (T_trapped : Fn K mg "trapped" s_trapped ["state", "cause", "place"] x9 e9) (T_fetch : Fn K mg "fetch" s_fetch ["state", "word"] x10 e10) (T_cause_of : Fn K mg "cause_of" s_cause_of ["state"] x11 e11) (T_row_trapped : Fn K mg "row_trapped" s_row_trapped ["state", "cause"] x12 e12) (T_a_by_exchange : Fn K mg "a_by_exchange" s_a_by_exchange ["state"] x13 e13) (T_new_a : Fn K mg "new_a" s_new_a ["state", "word"] x14 e14) (T_new_x : Fn K mg "new_x" s_new_x ["state"] x15 e15) (T_leaps : Fn K mg "leaps" s_leaps ["state"] x16 e16) (T_new_p : Fn K mg "new_p" s_new_p ["state"] x17 e17) (T_own_changes : Fn K mg "own_changes" s_own_changes ["state"] x18 e18) (T_row_done : Fn K mg "row_done" s_row_done ["state", "word"] x19 e19) (T_bell_counted : Fn K mg "bell_counted" s_bell_counted ["state"] x20 e20) (T_written : Fn K mg "written" s_written ["state"] x21 e21) (T_told_word : Fn K mg "told_word" s_told_word ["state"] x22 e22) (T_beat_of : Fn K mg "beat_of" s_beat_of ["state", "word"] x23 e23) (T_law_cell_at : Fn K mg "_law_cell_at" s_law_cell_at ["_law_script", "_law_k"] x24 e24) (T_law_mixed : Fn K mg "_law_mixed" s_law_mixed ["_law_number", "_law_k"] x25 e25) (T_law_names : Fn K mg "_law_names" s_law_names [] x26 e26) (T_law_read : Fn K mg "_law_read" s_law_read ["_law_state"] x27 e27) (T_law_told_of : Fn K mg "_law_told_of" s_law_told_of ["_law_s"] x28 e28) (T_law_wants : Fn K mg "_law_wants" s_law_wants ["_law_s"] x29 e29) (T_law_trapped : Fn K mg "_law_trapped" s_law_trapped ["_law_s", "_law_cause", "_law_place"] x30 e30) (T_law_own : Fn K mg "_law_own" s_law_own ["_law_s", "_law_which"] x31 e31) (T_law_moved : Fn K mg "_law_moved" s_law_moved ["_law_s", "_law_which"] x32 e32) (T_law_row : Fn K mg "_law_row" s_law_row ["_law_s", "_law_op", "_law_number", "_law_word"] x33 e33) (T_law_beat : Fn K mg "_law_beat" s_law_beat ["_law_state", "_law_word"] x34 e34) (T_without_noughts : Fn K mg "without_noughts" s_without_noughts ["memory"] x35 e35) (T_beat_in : Fn K mg "beat_in" s_beat_in ["state", "memory", "told", "trace"] x36 e36) (T_law_words_by : Fn K mg "_law_words_by" s_law_words_by ["_law_cells", "_law_number"] x37 e37) (T_first_state : Fn K mg "first_state" s_first_state [] x38 e38) (T_stretch : Fn K mg "stretch" s_stretch ["state", "memory", "beats"] x39 e39) (T_end_by : Fn K mg "end_by" s_end_by ["state"] x40 e40) (T_behind_call : Fn K mg "behind_call" s_behind_call ["state", "told", "left"] x41 e41) (T_lone : Fn K mg "lone" s_lone ["image", "given", "beats"] x42 e42) (T_law_heard : Fn K mg "_law_heard" s_law_heard ["_law_s", "_law_given", "_law_told"] x43 e43) (T_law_alone : Fn K mg "_law_alone" s_law_alone ["_law_image_here", "_law_given", "_law_beats"] x44 e44) (T_law_image : Fn K mg "_law_image" s_law_image ["_law_script"] x45 e45) {cdv : Value} {A : Around} {outer : List Env} {s : Shared} {H0 : Hp} {E : XK} (hr : Room 8 (A.deeper (PyProof.Rows.envOfC "lone" (defScope s_lone) s.heap.objs.size f cdv))) :
    ∃ u, PSs (cxOf CX0 P w K mg base ["image", "given", "beats", "state", "memory", "left", "told", "traces", "end", "answer"] "lone" (defScope s_lone) f cdv A outer s H0 E).nox ((defBody s_lone).drop 6) u ∧
      ∀ (D : Ends) (im gv t d gl tl trl : Addr) (v9 : Option V) (s0 : LS) (b : Nat) (H H1 : Hp), s0.Ok 0 → s0.en = "going" → s0.cur = [] → s0.old = [] → b ≤ 120 → LoneAt H s0 b tl gl d trl 0 t [] H1 → H d = none → H tl = none → H gl = none → H trl = none → tl ≠ gl → tl ≠ trl → gl ≠ trl →
        (∀ (p d2 : Addr) (xs : List V) (H' : Hp), Same H H' → H' p = some (.tup [.ref tl, .str (runL s0 b).en, .ref d2, .ref trl]) → H' tl = some (.lst ((runL s0 b).told.map V.int)) → H' d2 = some (.dK (clean (runL s0 b).kv)) → H' trl = some (.lst xs) → Paired (TraceAt H') xs (allT (runL s0 b)) → H d2 = none → TrsNew H [tl, gl, trl] xs → D.rt (.ref p) H') →
        u D [some (.ref im), some (.ref gv), some (.int (b : Int)), some (.ref t), some (.ref d), some (.ref gl), some (.ref tl), some (.ref trl), some (.str "going"), v9] H1 := by
  have G_stretch := ok_stretch (P := P) (w := w) (base := base) T_stretch.F T C T_op_of T_number_of T_reaching_ops T_parts_read_by_own T_parts_set_by_own T_place_within T_asked T_is_barred T_exchanged T_trapped T_fetch T_cause_of T_row_trapped T_a_by_exchange T_new_a T_new_x T_leaps T_new_p T_own_changes T_row_done T_bell_counted T_written T_told_word T_beat_of T_law_cell_at T_law_mixed T_law_names T_law_read T_law_told_of T_law_wants T_law_trapped T_law_own T_law_moved T_law_row T_law_beat T_without_noughts T_beat_in T_law_words_by T_first_state T_stretch T_end_by T_behind_call T_lone T_law_heard T_law_alone T_law_image
  have G_end_by := ok_end_by (P := P) (w := w) (base := base) T_end_by.F C
  have G_behind_call := ok_behind_call (P := P) (w := w) (base := base) T_behind_call.F T C T_exchanged
  have G_without_noughts := ok_without_noughts (P := P) (w := w) (base := base) T_without_noughts.F T
  refine ⟨_, (pss_cons (ps_while PassesOwn.never (PW.pt (pw_and (pt_cmpR op_gt (pv 2) pe_int (nomark _)) (pw_and1 (pt_cmpR op_eq (pv 8) pe_str (nomark _)))))
        (pss_cons (ps_set (i := 9) sc_lone.nd rfl (Or.inl rfl) (pe_call G_stretch (hr.mono (by decide)) rfl T_stretch.m T_stretch.F.kp T_stretch.b .nil pass0 (pa_cons (pv 3) (pa_cons (pv 4) (pa_cons (pv 2) pa_nil)))))
        (pss_cons (ps_set (i := 3) sc_lone.nd rfl (Or.inl rfl) (pe_ix ix_tup (pv 9) pe_int (fun _ _ => rfl)))
        (pss_cons (ps_expr (pe_bm PySem.F.plainAttrs_list PySem.F.slot_list_append PySem.F.type_list_append mt_append (pv 7) (pa_cons (pe_ix ix_tup (pv 9) pe_int (fun _ _ => rfl)) pa_nil)))
        (pss_cons (ps_set (i := 2) sc_lone.nd rfl (Or.inl rfl) (pe_op op_sub (pv 2) (pe_callB call_len_seq rfl T.b_len (by decide +kernel) (pa_cons (pe_ix ix_tup (pv 9) pe_int (fun _ _ => rfl)) pa_nil))))
        (pss_cons (ps_set (i := 8) sc_lone.nd rfl (Or.inl rfl) (pe_call G_end_by (hr.mono (by decide)) rfl T_end_by.m T_end_by.F.kp T_end_by.b .nil pass0 (pa_cons (pv 3) pa_nil)))
        (pss_one (ps_if (PW.pt (pw_and (pt_cmpR op_eq (pv 8) pe_str (nomark _)) (pw_and1 (pt_cmpR op_eq (pe_ix ix_tup (pv 3) (pe_glob (v := .int 5) rfl C.k_MODE.choose_spec ⟨_, rfl⟩) (fun _ _ => rfl)) pe_int (nomark _)))))
          (pss_one (ps_set (i := 3) sc_lone.nd rfl (Or.inl rfl) (pe_call G_behind_call (hr.mono (by decide)) rfl T_behind_call.m T_behind_call.F.kp T_behind_call.b .nil pass0 (pa_cons (pv 3) (pa_cons (pv 6) (pa_cons (pv 5) pa_nil))))))
          pss_nil))))))))
      (pss_one (ps_ret (pe_tup (pa_cons (pv 6) (pa_cons (pv 8) (pa_cons (pe_call G_without_noughts (hr.mono (by decide)) rfl T_without_noughts.m T_without_noughts.F.kp T_without_noughts.b .nil pass0 (pa_cons (pv 4) pa_nil)) (pa_cons (pv 7) pa_nil)))))))), ?_⟩
  intro D im gv t d gl tl trl v9 s0 b H H1 ok0 hg0 hc0 ho0 hb at0 fd ftl fgl ftrl ntg ntr ngr q
  have hs : sizeLine = 16777216 := sizeLine_eq
  refine ⟨fun m σ H4 => ∃ (i : Nat) (t : Addr) (xs : List V) (v9 : Option V), σ = [some (.ref im), some (.ref gv), some (.int ((b : Int) - (i : Int))), some (.ref t), some (.ref d), some (.ref gl), some (.ref tl), some (.ref trl), some (.str (runL s0 i).en), v9] ∧ m = b - i ∧ LoneAt H s0 b tl gl d trl i t xs H4,
    ⟨_, 0, t, [], v9, ?_, rfl, at0⟩, ?_⟩
  · have z1 : (b : Int) - ((0 : Nat) : Int) = b := by omega
    have z2 : (runL s0 0).en = "going" := hg0
    rw [z1, z2]
  rintro m σ H4 ⟨i, t, xs, v9, rfl, rfl, a4⟩
  have oki := runL_ok ok0 i
  have hib := a4.ib
  have stop : (i = b ∨ (runL s0 i).en ≠ "going") → ∀ (p rd : Addr) (H5 : Hp), Same H4 H5 → H4 rd = none → H5 rd = some (.dK (clean (runL s0 i).kv)) → H5 p = none → D.rt (.ref p) (upd H5 p (.tup [.ref tl, .str (runL s0 i).en, .ref rd, .ref trl])) := fun hn p rd H5 s5 hrd erd hp => by
    have sp := s5.trans (Same.put (o := .tup [V.ref tl, V.str (runL s0 i).en, V.ref rd, V.ref trl]) hp)
    have ef := a4.fin hn
    refine q p rd xs _ (a4.sm.trans sp) ?_ ?_ ?_ (sp _ _ a4.er) ?_ (a4.sm.free hrd) a4.nw
    · rw [← ef]; exact upd_same
    · rw [← ef]; exact sp _ _ a4.el
    · rw [← ef, upd_ne (ne_of_none erd hp)]; exact erd
    · rw [← ef]; exact trs_same a4.px sp
  have tail : (i = b ∨ (runL s0 i).en ≠ "going") → ∃ (vs : V), True := fun _ => ⟨.non, trivial⟩
  refine ⟨_, rfl, _, _, rfl, rfl, _, rfl, ite2 (fun h => ?_) (fun h => ?_)⟩
  · have h1 : (0 : Int) < (b : Int) - (i : Int) := of_decide_eq_true h
    refine ⟨_, rfl, rfl, _, rfl, ite2 (fun h' => ?_) (fun h' => ?_)⟩
    · have hg : (runL s0 i).en = "going" := V.str.inj (of_decide_eq_true h')
      have hc : (runL s0 i).cur = [] := a4.cu.elim id fun z => by omega
      have hlt : i < b := by omega
      refine ⟨fun σ' H' => ∃ m', m' < b - i ∧ ∃ (i : Nat) (t : Addr) (xs : List V) (v9 : Option V), σ' = [some (.ref im), some (.ref gv), some (.int ((b : Int) - (i : Int))), some (.ref t), some (.ref d), some (.ref gl), some (.ref tl), some (.ref trl), some (.str (runL s0 i).en), v9] ∧ m' = b - i ∧ LoneAt H s0 b tl gl d trl i t xs H', fun _ _ z => z, ?_⟩
      refine ⟨_, rfl, _, rfl, _, rfl, t, d, _, _, (b : Int) - (i : Int), rfl, a4.et, ⟨oki.rg, oki.al, oki.nd, by show (runL s0 i).kv.length ≤ 300 + 0; have := oki.kl; omega, Nat.le_refl _, rfl, fun p h => (by cases h)⟩, a4.ed, by omega, fun j p t1 l2 ys H5 hj k5 ep et1 ed5 el2 hy fl2 => ?_⟩
      obtain ⟨j0, hjb, hcase⟩ := lone_step oki hg hc hlt hj
      have okj := run_ok (r := ⟨(runL s0 i).st, (runL s0 i).kv, [], []⟩) ⟨oki.rg, oki.al, oki.nd, by show (runL s0 i).kv.length ≤ 300 + 0; have := oki.kl; omega, Nat.le_refl _, rfl, fun p h => (by cases h)⟩ j
      obtain ⟨rj, hrj⟩ : ∃ z, runR ⟨(runL s0 i).st, (runL s0 i).kv, [], []⟩ j = z := ⟨_, rfl⟩
      rw [hrj] at hcase okj et1 ed5 hy
      have ly : ys.length = j := by rw [hy.length]; exact okj.sl
      have l15 : rj.st.length = 15 := okj.rg.len
      have dtl : tl ≠ d := ne_of a4.el a4.ed (by intro z; cases z)
      have dgl : gl ≠ d := ne_of a4.eg a4.ed (by intro z; cases z)
      have dtr : trl ≠ d := ne_of a4.er a4.ed (by intro z; cases z)
      have etl5 := k5 _ _ a4.el dtl
      have egl5 := k5 _ _ a4.eg dgl
      have etr5 := k5 _ _ a4.er dtr
      have s5 : Same H H5 := Kl.same a4.sm fd k5
      have px5 : Paired (TraceAt H5) xs (allT (runL s0 i)) := trs_keep a4.px (fun l hl o eo => k5 _ _ eo fun z => by
          obtain ⟨y, _, l', xs', e1, e2, _⟩ := paired_of a4.px hl
          cases e1
          rw [z, a4.ed] at e2; cases e2) fun qq ts e => k5 _ _ e (ne_of e a4.ed (by intro z; cases z))
      have nl2 : V.ref l2 ∉ xs := fun z => by
        obtain ⟨y, _, l', xs', e1, e2, _⟩ := paired_of a4.px z
        cases e1
        rw [fl2] at e2; cases e2
      have l2t : l2 ≠ trl := fun z => by rw [z, a4.er] at fl2; cases fl2
      have l2tl : l2 ≠ tl := fun z => by rw [z, a4.el] at fl2; cases fl2
      have l2gl : l2 ≠ gl := fun z => by rw [z, a4.eg] at fl2; cases fl2
      refine ⟨_, rfl, p, _, _, _, rfl, rfl, SqT.of ep, rfl, ?_⟩
      refine ⟨_, rfl, .inl ⟨rfl, _, SqL.of etr5⟩, _, rfl, p, _, _, _, rfl, rfl, SqT.of ep, rfl, trl, _, _, rfl, rfl, etr5, ?_, ?_⟩
      · have := px5.length
        have hh : (allT (runL s0 i)).length ≤ 121 := by
          unfold allT
          have := oki.ol
          rw [List.length_append]
          have : (if (runL s0 i).cur = [] then [] else [(runL s0 i).cur]).length ≤ 1 := by split <;> simp
          omega
        omega
      have s6 : Same H (upd H5 trl (.lst (xs ++ [V.ref l2]))) := Kl.same s5 ftrl Kl.one
      have k6 : ∀ b o, H5 b = some o → b ≠ trl → upd H5 trl (.lst (xs ++ [V.ref l2])) b = some o := fun b o e n => by rw [upd_ne n]; exact e
      have etr6 : upd H5 trl (.lst (xs ++ [V.ref l2])) trl = some (.lst (xs ++ [V.ref l2])) := upd_same
      generalize upd H5 trl (.lst (xs ++ [V.ref l2])) = H6 at s6 k6 etr6 ⊢
      have tup6 : ∀ qq ts, H5 qq = some (.tup ts) → H6 qq = some (.tup ts) := fun qq ts e => k6 _ _ e (ne_of e etr5 (by intro z; cases z))
      have ep6 := tup6 _ _ ep
      have et6 := tup6 _ _ et1
      have el6 := k6 _ _ el2 l2t
      have ed6 := k6 _ _ ed5 dtr.symm
      have etl6 := k6 _ _ etl5 ntr
      have egl6 := k6 _ _ egl5 ngr
      have px6 : Paired (TraceAt H6) (xs ++ [V.ref l2]) (allT (runL s0 i) ++ [rj.trs]) := paired_snoc (trs_keep px5 (fun l hl o eo => k6 _ _ eo (a4.nw.ne hl (by simp))) tup6) ⟨l2, ys, rfl, el6, Paired.mapP hy fun _ _ z => z.keep tup6⟩
      have nw6 : TrsNew H [tl, gl, trl] (xs ++ [V.ref l2]) := a4.nw.snoc (a4.sm.free fl2) (by simp [l2t, l2tl, l2gl]) nl2
      have allI : allT (runL s0 i) = (runL s0 i).old := by unfold allT; rw [if_pos hc, List.append_nil]
      rw [allI] at px6
      refine ⟨_, rfl, _, rfl, p, _, _, _, rfl, rfl, SqT.of ep6, rfl, l2, _, rfl, .inl (SqL.of el6), _, _, rfl, rfl, ?_⟩
      refine ⟨_, rfl, t1, rj.st, rfl, et6, l15, ?_⟩
      have hbe : (b : Int) - (i : Int) - ((ys.length : Nat) : Int) = (b : Int) - ((i + j : Nat) : Int) := by rw [ly]; omega
      have cn0 : rj.trs ≠ [] := fun z => by have := okj.sl; rw [z] at this; simp at this; omega
      rcases hcase with ⟨hm, hij, hL⟩ | ⟨hm, hL⟩
      · have hE : endS rj.st = "going" := by unfold endS; rw [if_pos hm]
        refine ⟨_, rfl, rfl, _, rfl, itDP (congrArg V.str hE) ?_⟩
        refine ⟨_, rfl, t1, _, _, _, rfl, rfl, SqT.of et6, atI_getD (i := 5) (by omega), rfl, _, rfl, itDN (fun z => by have := V.int.inj z; omega) ?_⟩
        refine ⟨b - (i + j), by omega, i + j, t1, xs ++ [V.ref l2], some (.ref p), ?_, rfl, ⟨hjb, s6, ?_, .inr hij, ?_, ?_, ?_, etr6, ?_, nw6⟩⟩
        · rw [hL, ← hE]
          show [_, _, some (V.int ((b : Int) - (i : Int) - ((ys.length : Nat) : Int))), _, _, _, _, _, _, _] = _
          rw [hbe]
        · rw [hL]; exact et6
        · rw [hL]; exact ed6
        · rw [hL]; exact egl6
        · rw [hL]; exact etl6
        · rw [hL]; unfold allT; rw [if_neg cn0]; exact px6
      · have hm0 : rj.st.getD 5 0 = 0 := by have := okj.rg.bd 5 2 rfl; omega
        by_cases hE : endS rj.st = "going"
        · have hH : heardL rj.st rj.kv (runL s0 i).told (runL s0 i).left (runL s0 i).old rj.trs = ⟨callSt rj.st (runL s0 i).left, rj.kv, callTold rj.st (runL s0 i).told, callLeft rj.st (runL s0 i).left, (runL s0 i).old ++ [rj.trs], [], "going"⟩ := by unfold heardL; rw [if_pos hE]
          rw [hH] at hL
          refine ⟨_, rfl, rfl, _, rfl, itDP (congrArg V.str hE) ?_⟩
          refine ⟨_, rfl, t1, _, _, _, rfl, rfl, SqT.of et6, atI_getD (i := 5) (by omega), rfl, _, rfl, itDP (congrArg V.int hm0) ?_⟩
          refine ⟨_, rfl, _, rfl, _, rfl, t1, tl, gl, rj.st, (runL s0 i).told, (runL s0 i).left, rfl, et6, okj.rg, etl6, egl6, ntg, by have := oki.tl; omega, oki.lf, fun t' H7 k7 et7 etl7 egl7 => ?_⟩
          have tup7 : ∀ qq ts, H6 qq = some (.tup ts) → H7 qq = some (.tup ts) := fun qq ts e => k7 _ _ e (ne_of e etl6 (by intro z; cases z)) (ne_of e egl6 (by intro z; cases z))
          refine ⟨b - (i + j), by omega, i + j, t', xs ++ [V.ref l2], some (.ref p), ?_, rfl, ⟨hjb, fun x o e => k7 _ _ (s6 _ _ e) (ne_of_none e ftl) (ne_of_none e fgl), ?_, .inl (by rw [hL]), ?_, ?_, ?_, k7 _ _ etr6 ntr.symm ngr.symm, ?_, nw6⟩⟩
          · rw [hL]
            show [_, _, some (V.int ((b : Int) - (i : Int) - ((ys.length : Nat) : Int))), _, _, _, _, _, some (V.str (endS rj.st)), _] = _
            rw [hbe, hE]
          · rw [hL]; exact et7
          · rw [hL]; exact k7 _ _ ed6 dtl.symm dgl.symm
          · rw [hL]; exact egl7
          · rw [hL]; exact etl7
          · rw [hL]; unfold allT; rw [if_pos rfl, List.append_nil]
            exact trs_keep px6 (fun l hl o eo => k7 _ _ eo (nw6.ne hl (by simp)) (nw6.ne hl (by simp))) tup7
        · have hH : heardL rj.st rj.kv (runL s0 i).told (runL s0 i).left (runL s0 i).old rj.trs = ⟨rj.st, rj.kv, (runL s0 i).told, (runL s0 i).left, (runL s0 i).old ++ [rj.trs], [], endS rj.st⟩ := by unfold heardL; rw [if_neg hE]
          rw [hH] at hL
          refine ⟨_, rfl, rfl, _, rfl, itDN (fun z => hE (V.str.inj z)) ?_⟩
          refine iteF ⟨b - (i + j), by omega, i + j, t1, xs ++ [V.ref l2], some (.ref p), ?_, rfl, ⟨hjb, s6, ?_, .inl (by rw [hL]), ?_, ?_, ?_, etr6, ?_, nw6⟩⟩
          · rw [hL]
            show [_, _, some (V.int ((b : Int) - (i : Int) - ((ys.length : Nat) : Int))), _, _, _, _, _, some (V.str (endS rj.st)), _] = _
            rw [hbe]
          · rw [hL]; exact et6
          · rw [hL]; exact ed6
          · rw [hL]; exact egl6
          · rw [hL]; exact etl6
          · rw [hL]; unfold allT; rw [if_pos rfl, List.append_nil]; exact px6
    · have hne : (runL s0 i).en ≠ "going" := fun z => h' (decide_eq_true (congrArg V.str z))
      refine ⟨_, rfl, _, rfl, _, rfl, d, _, rfl, a4.ed, oki.al, by have := oki.kl; omega, fun rd H5 s5 hrd erd => ⟨_, rfl, (by show 4 ≤ sizeLine; omega), fun p hp => stop (.inr hne) p rd H5 s5 hrd erd hp⟩⟩
  · have hbi : i = b := by
      have : ¬ (0 : Int) < (b : Int) - (i : Int) := fun z => h (decide_eq_true z)
      omega
    refine iteF ⟨_, rfl, _, rfl, _, rfl, d, _, rfl, a4.ed, oki.al, by have := oki.kl; omega, fun rd H5 s5 hrd erd => ⟨_, rfl, (by show 4 ≤ sizeLine; omega), fun p hp => stop (.inl hbi) p rd H5 s5 hrd erd hp⟩⟩
end
end K21

set_option Elab.async false
set_option linter.all false
set_option maxRecDepth 100000
set_option maxHeartbeats 4000000
namespace K21
open PySem L2
section
variable {P : Program} {w : World} {K : PySem.W.Frag} {mg : Str → Option Value} {base : Heap}
theorem ok_lone {x0 x1 x2 x3 x4 x5 x6 x7 x8 x9 x10 x11 x12 x13 x14 x15 x16 x17 x18 x19 x20 x21 x22 x23 x24 x25 x26 x27 x28 x29 x30 x31 x32 x33 x34 x35 x36 x37 x38 x39 x40 x41 x42 x43 x44 x45 f : Addr} {e0 e1 e2 e3 e4 e5 e6 e7 e8 e9 e10 e11 e12 e13 e14 e15 e16 e17 e18 e19 e20 e21 e22 e23 e24 e25 e26 e27 e28 e29 e30 e31 e32 e33 e34 e35 e36 e37 e38 e39 e40 e41 e42 e43 e44 e45 fd : FuncData} (F : Fun K "lone" "lone" s_lone f fd) (T : Bt mg) (C : Ct K mg)
    (T_op_of : Fn K mg "op_of" s_op_of ["state"] x0 e0) (T_number_of : Fn K mg "number_of" s_number_of ["state"] x1 e1) (T_reaching_ops : Fn K mg "reaching_ops" s_reaching_ops [] x2 e2) (T_parts_read_by_own : Fn K mg "parts_read_by_own" s_parts_read_by_own [] x3 e3) (T_parts_set_by_own : Fn K mg "parts_set_by_own" s_parts_set_by_own [] x4 e4) (T_place_within : Fn K mg "place_within" s_place_within ["state"] x5 e5) (T_asked : Fn K mg "asked" s_asked ["state"] x6 e6) (T_is_barred : Fn K mg "is_barred" s_is_barred ["state"] x7 e7) (T_exchanged : Fn K mg "exchanged" s_exchanged ["state", "changes"] x8 e8) (T_trapped : Fn K mg "trapped" s_trapped ["state", "cause", "place"] x9 e9) (T_fetch : Fn K mg "fetch" s_fetch ["state", "word"] x10 e10) (T_cause_of : Fn K mg "cause_of" s_cause_of ["state"] x11 e11) (T_row_trapped : Fn K mg "row_trapped" s_row_trapped ["state", "cause"] x12 e12) (T_a_by_exchange : Fn K mg "a_by_exchange" s_a_by_exchange ["state"] x13 e13) (T_new_a : Fn K mg "new_a" s_new_a ["state", "word"] x14 e14) (T_new_x : Fn K mg "new_x" s_new_x ["state"] x15 e15) (T_leaps : Fn K mg "leaps" s_leaps ["state"] x16 e16) (T_new_p : Fn K mg "new_p" s_new_p ["state"] x17 e17) (T_own_changes : Fn K mg "own_changes" s_own_changes ["state"] x18 e18) (T_row_done : Fn K mg "row_done" s_row_done ["state", "word"] x19 e19) (T_bell_counted : Fn K mg "bell_counted" s_bell_counted ["state"] x20 e20) (T_written : Fn K mg "written" s_written ["state"] x21 e21) (T_told_word : Fn K mg "told_word" s_told_word ["state"] x22 e22) (T_beat_of : Fn K mg "beat_of" s_beat_of ["state", "word"] x23 e23) (T_law_cell_at : Fn K mg "_law_cell_at" s_law_cell_at ["_law_script", "_law_k"] x24 e24) (T_law_mixed : Fn K mg "_law_mixed" s_law_mixed ["_law_number", "_law_k"] x25 e25) (T_law_names : Fn K mg "_law_names" s_law_names [] x26 e26) (T_law_read : Fn K mg "_law_read" s_law_read ["_law_state"] x27 e27) (T_law_told_of : Fn K mg "_law_told_of" s_law_told_of ["_law_s"] x28 e28) (T_law_wants : Fn K mg "_law_wants" s_law_wants ["_law_s"] x29 e29) (T_law_trapped : Fn K mg "_law_trapped" s_law_trapped ["_law_s", "_law_cause", "_law_place"] x30 e30) (T_law_own : Fn K mg "_law_own" s_law_own ["_law_s", "_law_which"] x31 e31) (T_law_moved : Fn K mg "_law_moved" s_law_moved ["_law_s", "_law_which"] x32 e32) (T_law_row : Fn K mg "_law_row" s_law_row ["_law_s", "_law_op", "_law_number", "_law_word"] x33 e33) (T_law_beat : Fn K mg "_law_beat" s_law_beat ["_law_state", "_law_word"] x34 e34) (T_without_noughts : Fn K mg "without_noughts" s_without_noughts ["memory"] x35 e35) (T_beat_in : Fn K mg "beat_in" s_beat_in ["state", "memory", "told", "trace"] x36 e36) (T_law_words_by : Fn K mg "_law_words_by" s_law_words_by ["_law_cells", "_law_number"] x37 e37) (T_first_state : Fn K mg "first_state" s_first_state [] x38 e38) (T_stretch : Fn K mg "stretch" s_stretch ["state", "memory", "beats"] x39 e39) (T_end_by : Fn K mg "end_by" s_end_by ["state"] x40 e40) (T_behind_call : Fn K mg "behind_call" s_behind_call ["state", "told", "left"] x41 e41) (T_lone : Fn K mg "lone" s_lone ["image", "given", "beats"] x42 e42) (T_law_heard : Fn K mg "_law_heard" s_law_heard ["_law_s", "_law_given", "_law_told"] x43 e43) (T_law_alone : Fn K mg "_law_alone" s_law_alone ["_law_image_here", "_law_given", "_law_beats"] x44 e44) (T_law_image : Fn K mg "_law_image" s_law_image ["_law_script"] x45 e45) : FnOk P w K mg base CX0 9 f fd ["image", "given", "beats"] sp_lone := by
  have G_first_state := ok_first_state (P := P) (w := w) (base := base) T_first_state.F T C
  have G_exchanged := ok_exchanged (P := P) (w := w) (base := base) T_exchanged.F T
  refine F.ok (k := 8) sc_lone (fun vs H Q E h => ?_) (fun cdv A outer s H vs Q E hr h => ?_)
  · obtain ⟨im, gv, words, given, b, rfl, _⟩ := h; rfl
  · obtain ⟨im, gv, words, given, b, rfl, eim, egv, hwl, hw, hg9, hg, hb, q⟩ := h
    have hs : sizeLine = 16777216 := sizeLine_eq
    have two : 2 ≤ sizeLine := by omega
    obtain ⟨uB, hB, kB⟩ := lone_B (P := P) (w := w) (base := base) (f := f) (cdv := cdv) (outer := outer) (H0 := H) (E := E) T C T_op_of T_number_of T_reaching_ops T_parts_read_by_own T_parts_set_by_own T_place_within T_asked T_is_barred T_exchanged T_trapped T_fetch T_cause_of T_row_trapped T_a_by_exchange T_new_a T_new_x T_leaps T_new_p T_own_changes T_row_done T_bell_counted T_written T_told_word T_beat_of T_law_cell_at T_law_mixed T_law_names T_law_read T_law_told_of T_law_wants T_law_trapped T_law_own T_law_moved T_law_row T_law_beat T_without_noughts T_beat_in T_law_words_by T_first_state T_stretch T_end_by T_behind_call T_lone T_law_heard T_law_alone T_law_image hr
    refine ⟨_, (pss_cons (ps_set (i := 3) sc_lone.nd rfl (Or.inl rfl) (pe_call G_exchanged (hr.mono (by decide)) rfl T_exchanged.m T_exchanged.F.kp T_exchanged.b .nil pass0 (pa_cons (pe_call0 G_first_state (hr.mono (by decide)) rfl T_first_state.m T_first_state.F.kp T_first_state.b .nil pass0) (pa_cons (pe_lst (pa_cons (pe_tup (pa_cons (pe_glob (v := .int 5) rfl C.k_MODE.choose_spec ⟨_, rfl⟩) (pa_cons pe_int pa_nil))) (pa_cons (pe_tup (pa_cons (pe_glob (v := .int 7) rfl C.k_LENGTH.choose_spec ⟨_, rfl⟩) (pa_cons (pe_callB call_len_seq rfl T.b_len (by decide +kernel) (pa_cons (pv 0) pa_nil)) pa_nil))) pa_nil))) pa_nil))))
      (pss_cons (ps_set (i := 4) sc_lone.nd rfl (Or.inl rfl) (pe_denum rfl rfl T.b_dict rfl T.b_enumerate (pa_cons (pv 0) pa_nil)))
      (pss_cons (ps_set (i := 5) sc_lone.nd rfl (Or.inl rfl) (pe_callTy call_list_of rfl T.b_list (by decide +kernel) (pa_cons (pv 1) pa_nil)))
      (pss_cons (ps_set (i := 6) sc_lone.nd rfl (Or.inl rfl) (pe_lst pa_nil))
      (pss_cons (ps_set (i := 7) sc_lone.nd rfl (Or.inl rfl) (pe_lst pa_nil))
      (pss_cons (ps_set (i := 8) sc_lone.nd rfl (Or.inl rfl) pe_str)
      hB)))))), ?_⟩
    refine ⟨rfl, fun t0 H1 _ y1 et0 => ?_⟩
    refine ⟨two, fun p1 h1 => ?_⟩
    have z1 := Same.put (o := .tup [V.int 5, V.int 1]) h1
    have e1 : upd H1 p1 (.tup [V.int 5, V.int 1]) p1 = some (.tup [V.int 5, V.int 1]) := upd_same
    generalize upd H1 p1 (.tup [V.int 5, V.int 1]) = H2 at z1 e1 ⊢
    have eim2 := z1 _ _ (y1 _ _ eim)
    refine ⟨_, rfl, im, _, rfl, .inl (SqL.of eim2), two, fun p2 h2 => ?_⟩
    rw [List.length_map]
    have z2 := Same.put (o := .tup [V.int 7, V.int ((words.length : Nat) : Int)]) h2
    have e2 : upd H2 p2 (.tup [V.int 7, V.int ((words.length : Nat) : Int)]) p2 = some (.tup [V.int 7, V.int ((words.length : Nat) : Int)]) := upd_same
    generalize upd H2 p2 (.tup [V.int 7, V.int ((words.length : Nat) : Int)]) = H3 at z2 e2 ⊢
    refine ⟨two, fun l h3 => ?_⟩
    have z3 := Same.put (o := .lst [V.ref p1, V.ref p2]) h3
    have e3 : upd H3 l (.lst [V.ref p1, V.ref p2]) l = some (.lst [V.ref p1, V.ref p2]) := upd_same
    generalize upd H3 l (.lst [V.ref p1, V.ref p2]) = H4 at z3 e3 ⊢
    have z23 := z2.trans z3
    have z13 := z1.trans z23
    refine ⟨t0, l, _, _, [(5, 1), (7, ((words.length : Nat) : Int))], rfl, z13 _ _ et0, rfl, e3, .cons ⟨p1, rfl, z23 _ _ e1⟩ (.cons ⟨p2, rfl, z3 _ _ e2⟩ .nil), by simp, fun t H5 ht5 z5 et => ?_⟩
    rw [start_ex] at et
    have s5 : Same H H5 := (y1.trans z13).trans z5
    refine ⟨_, rfl, im, _, rfl, s5 _ _ eim, fun d hd => ?_⟩
    have y6 := Same.put (o := .dK (enKV (words.map V.int))) hd
    have ed : upd H5 d (.dK (enKV (words.map V.int))) d = some (.dK (enKV (words.map V.int))) := upd_same
    generalize upd H5 d (.dK (enKV (words.map V.int))) = H6 at y6 ed ⊢
    refine ⟨_, rfl, gv, _, rfl, .inl (SqL.of (y6 _ _ (s5 _ _ egv))), fun gl hgl => ?_⟩
    have y7 := Same.put (o := .lst (given.map V.int)) hgl
    have eg : upd H6 gl (.lst (given.map V.int)) gl = some (.lst (given.map V.int)) := upd_same
    generalize upd H6 gl (.lst (given.map V.int)) = H7 at y7 eg ⊢
    refine ⟨Nat.zero_le _, fun tl htl => ?_⟩
    have y8 := Same.put (o := .lst []) htl
    have el : upd H7 tl (.lst []) tl = some (.lst []) := upd_same
    generalize upd H7 tl (.lst []) = H8 at y8 el ⊢
    refine ⟨Nat.zero_le _, fun trl htr => ?_⟩
    have y9 := Same.put (o := .lst []) htr
    have er : upd H8 trl (.lst []) trl = some (.lst []) := upd_same
    generalize upd H8 trl (.lst []) = H9 at y9 er ⊢
    have s6 := s5.trans y6
    have s7 := s6.trans y7
    have s8 := s7.trans y8
    have s9 := s8.trans y9
    have n1 : tl ≠ gl := fun z => by rw [z, eg] at htl; cases htl
    have n2 : tl ≠ trl := fun z => by rw [← z, el] at htr; cases htr
    have n3 : gl ≠ trl := fun z => by rw [← z, y8 _ _ eg] at htr; cases htr
    refine kB _ im gv t d gl tl trl none (startL words given) b H H9 (start_ok hwl hw hg hg9) rfl rfl rfl hb ⟨Nat.zero_le _, s9, ?_, .inl rfl, ?_, ?_, ?_, er, .nil, TrsNew.nil⟩ (s5.free hd) (s7.free htl) (s6.free hgl) (s8.free htr) n1 n2 n3 ?_
    · exact (((y6.trans y7).trans y8).trans y9) _ _ et
    · exact ((y7.trans y8).trans y9) _ _ ed
    · exact (y8.trans y9) _ _ eg
    · exact y9 _ _ el
    · intro p d2 xs H' sm ep el' ed' er' px fd2 nw
      exact q p tl d2 trl xs H' sm ep el' ed' er' px (s7.free htl) fd2 (s8.free htr) n2 ⟨nw.nd, fun v hv => by
        obtain ⟨l, e, hl, hn⟩ := nw.nw v hv
        exact ⟨l, e, hl, fun z => hn (by simp at z ⊢; rcases z with z | z; exact .inl z; exact .inr (.inr z))⟩⟩
end
end K21

set_option Elab.async false
set_option linter.all false
set_option maxRecDepth 100000
set_option maxHeartbeats 4000000
namespace K21
open PySem L2
def hearSt (st left : List Int) : List Int := if endS st = "going" then callSt st left else st
def hearTold (st told : List Int) : List Int := if endS st = "going" then callTold st told else told
def hearLeft (st left : List Int) : List Int := if endS st = "going" then callLeft st left else left
theorem heard_eq (st : List Int) (kv : List (Key × V)) (told left : List Int) (old : List Tr1) (cur : Tr1) (hm : ¬ st.getD 5 0 = 1) : heardL st kv told left old cur = ⟨hearSt st left, kv, hearTold st told, hearLeft st left, old ++ [cur], [], endS st⟩ := by
  unfold heardL hearSt hearTold hearLeft
  split
  · rename_i h; rw [h]
  · rfl
def sp_heard : Sp := fun vs H Q _ => ∃ (d gl tl : Addr) (st told left : List Int), vs = [.ref d, .ref gl, .ref tl] ∧ H d = some (.dK (kv st)) ∧ st.length = 15 ∧ ¬ st.getD 5 0 = 1 ∧ H gl = some (.lst (left.map V.int)) ∧ H tl = some (.lst (told.map V.int)) ∧ gl ≠ tl ∧ told.length ≤ 1000 ∧
  ∀ H', K3 d gl tl H H' → H' d = some (.dK (kv (hearSt st left))) → H' gl = some (.lst ((hearLeft st left).map V.int)) → H' tl = some (.lst ((hearTold st told).map V.int)) → Q (.str (endS st)) H'
theorem set_self15 {st : List Int} (h : st.length = 15) : st.set 0 (st.getD 0 0) = st := by
  cases st with
  | nil => cases h
  | cons a r => rfl
section
variable {P : Program} {w : World} {K : PySem.W.Frag} {mg : Str → Option Value} {base : Heap}
theorem sc_law_heard : FnScope ["_law_s", "_law_given", "_law_told"] ["_law_s", "_law_given", "_law_told"] (defScope s_law_heard) := ⟨rfl, rfl, rfl, by decide +kernel, rfl, by decide +kernel, by decide +kernel⟩
theorem hd_B {f : Addr} {cdv : Value} {A : Around} {outer : List Env} {s : Shared} {H : Hp} {E : XK} (hr : Room 0 (A.deeper (PyProof.Rows.envOfC "_law_heard" (defScope s_law_heard) s.heap.objs.size f cdv))) :
    ∃ u, PSs (cxOf CX0 P w K mg base ["_law_s", "_law_given", "_law_told"] "_law_heard" (defScope s_law_heard) f cdv A outer s H E).nox ((defBody s_law_heard).drop 4) u ∧
      ∀ (D : Ends) (v1 v2 : Option V) (d : Addr) (st : List Int) (H1 : Hp), H1 d = some (.dK (kv st)) → st.length = 15 → (∀ H', Kl d H1 H' → H' d = some (.dK (kv ((st.set 2 (st.getD 11 0)).set 5 1))) → D.rt (.str "going") H') →
        u D [some (.ref d), v1, v2] H1 := by
  refine ⟨_, (pss_cons (ps_dput (hu_of hr) (pv 0) pe_str (pe_dget (hu_of hr) (pv 0) pe_str (fun _ _ => rfl)) rfl)
      (pss_cons (ps_dput (hu_of hr) (pv 0) pe_str pe_int rfl)
      (pss_one (ps_ret pe_str)))), ?_⟩
  intro D v1 v2 d st H1 ed hl q
  refine ⟨_, rfl, d, _, rfl, dget hl ed 11 (by decide) "sp" (by decide +kernel), _, rfl, d, _, rfl, dput hl ed 2 (by decide) "p" (by decide +kernel) _, ?_⟩
  have l1 := ls (j := 2) (v := st.getD 11 0) hl
  refine ⟨_, rfl, d, _, rfl, dput l1 upd_same 5 (by decide) "m" (by decide +kernel) _, ?_⟩
  exact q _ (Kl.put (Kl.put Kl.rf)) upd_same
theorem ok_law_heard {f : Addr} {fd : FuncData} (F : Fun K "_law_heard" "_law_heard" s_law_heard f fd) (T : Bt mg) : FnOk P w K mg base CX0 1 f fd ["_law_s", "_law_given", "_law_told"] sp_heard := by
  refine F.ok sc_law_heard (fun vs H Q E h => ?_) (fun cdv A outer s H vs Q E hr h => ?_)
  · obtain ⟨d, gl, tl, st, told, left, rfl, _⟩ := h; rfl
  · obtain ⟨d, gl, tl, st, told, left, rfl, ed, hl, hm, eg, et, ngt, h1000, q⟩ := h
    have hs : sizeLine = 16777216 := sizeLine_eq
    obtain ⟨uB, hB, kB⟩ := hd_B (P := P) (w := w) (mg := mg) (base := base) (f := f) (cdv := cdv) (outer := outer) (H := H) (E := E) hr
    refine ⟨_, (pss_cons (ps_if (PW.pt (pw_or (pt_cmpR op_ne (pe_dget (hu_of hr) (pv 0) pe_str (fun _ _ => rfl)) pe_int (nomark _)) (pw_or1 (pt_cmpR op_gt (pe_dget (hu_of hr) (pv 0) pe_str (fun _ _ => rfl)) pe_int (nomark _)))))
        (pss_one (ps_ret pe_str))
        pss_nil)
      (pss_cons (ps_if (pt_cmpR op_eq (pe_dget (hu_of hr) (pv 0) pe_str (fun _ _ => rfl)) pe_int (nomark _))
        (pss_one (ps_ret pe_str))
        pss_nil)
      (pss_cons (ps_if (pt_cmpR op_eq (pe_dget (hu_of hr) (pv 0) pe_str (fun _ _ => rfl)) pe_int (nomark _))
        (pss_one (ps_expr (pe_bm PySem.F.plainAttrs_list PySem.F.slot_list_append PySem.F.type_list_append mt_append (pv 2) (pa_cons (pe_dget (hu_of hr) (pv 0) pe_str (fun _ _ => rfl)) pa_nil))))
        pss_nil)
      (pss_cons (ps_if (pt_cmpR op_eq (pe_dget (hu_of hr) (pv 0) pe_str (fun _ _ => rfl)) pe_int (nomark _))
        (pss_cons (ps_dput (hu_of hr) (pv 0) pe_str pe_int rfl)
        (pss_one (ps_if (pt_cmpR op_gt (pe_callB call_len_seq rfl T.b_len (by decide +kernel) (pa_cons (pv 1) pa_nil)) pe_int (nomark _))
          (pss_one (ps_dput (hu_of hr) (pv 0) pe_str (pe_bm PySem.F.plainAttrs_list PySem.F.slot_list_pop PySem.F.type_list_pop mt_popAt (pv 1) (pa_cons pe_int pa_nil)) rfl))
          pss_nil)))
        pss_nil)
      hB)))), ?_⟩
    have gc := dget hl ed 12 (by decide) "c" (by decide +kernel)
    have gn := dget hl ed 13 (by decide) "n" (by decide +kernel)
    have ga := dget hl ed 0 (by decide) "a" (by decide +kernel)
    have dg : d ≠ gl := ne_of ed eg (by intro z; cases z)
    have dt : d ≠ tl := ne_of ed et (by intro z; cases z)
    have q0 : endS st ≠ "going" → Q (.str (endS st)) H := fun hE => by
      refine q H (K3.of (Same.refl _)) ?_ ?_ ?_
      · unfold hearSt; rw [if_neg hE]; exact ed
      · unfold hearLeft; rw [if_neg hE]; exact eg
      · unfold hearTold; rw [if_neg hE]; exact et
    have eE : endS st = if st.getD 12 0 ≠ 3 ∨ 3 < st.getD 13 0 then ("fault" : Str) else if st.getD 13 0 = 0 then ("ended" : Str) else ("going" : Str) := by unfold endS; rw [if_neg hm]
    have qF : (st.getD 12 0 ≠ 3 ∨ 3 < st.getD 13 0) → Q (.str "fault") H := fun h => by
      rw [if_pos h] at eE
      rw [← eE]; exact q0 (by rw [eE]; decide +kernel)
    refine ⟨_, rfl, d, _, rfl, gc, rfl, _, rfl, ite2 (fun h1 => ?_) (fun h1 => ?_)⟩
    · have h1 : ¬ V.int (st.getD 12 0) = V.int 3 := of_decide_eq_false ((Bool.not_eq_true' _).mp h1)
      exact iteT (qF (.inl fun z => h1 (congrArg V.int z)))
    have e12 : st.getD 12 0 = 3 := by
      rcases Decidable.em (V.int (st.getD 12 0) = V.int 3) with z | z
      · exact V.int.inj z
      · exact absurd (by rw [decide_eq_false z]; rfl) h1
    refine ⟨_, rfl, d, _, rfl, gn, _, _, rfl, rfl, _, rfl, ite2 (fun h2 => ?_) (fun h2 => ?_)⟩
    · exact qF (.inr (of_decide_eq_true h2))
    have e13 : ¬ 3 < st.getD 13 0 := fun z => h2 (decide_eq_true z)
    rw [if_neg (fun z => z.elim (fun y => y e12) e13)] at eE
    refine ⟨_, rfl, d, _, rfl, gn, rfl, _, rfl, ite2 (fun h3 => ?_) (fun h3 => ?_)⟩
    · rw [if_pos (V.int.inj (of_decide_eq_true h3))] at eE
      have := q0 (by rw [eE]; decide +kernel)
      rw [eE] at this
      exact this
    have e0 : ¬ st.getD 13 0 = 0 := fun z => h3 (decide_eq_true (congrArg V.int z))
    rw [if_neg e0] at eE
    have hS : hearSt st left = ((st.set 0 (callA st left)).set 2 (st.getD 11 0)).set 5 1 := by unfold hearSt; rw [if_pos eE]; rfl
    have hL : hearLeft st left = callLeft st left := by unfold hearLeft; rw [if_pos eE]
    have hT : hearTold st told = callTold st told := by unfold hearTold; rw [if_pos eE]
    rw [hS, hL, hT, eE] at q
    have fin : ∀ (H1 : Hp) (st1 : List Int), st1 = st.set 0 (callA st left) → K3 d gl tl H H1 → H1 gl = some (.lst ((callLeft st left).map V.int)) → H1 tl = some (.lst ((callTold st told).map V.int)) → ∀ H', Kl d H1 H' → H' d = some (.dK (kv ((st1.set 2 (st1.getD 11 0)).set 5 1))) → Q (.str "going") H' := fun H1 st1 e1 k1 g1 t1 H' k' ed' => by
      subst e1
      rw [getD_set (by omega), if_neg (by decide)] at ed'
      exact q H' (fun b o e n1 n2 n3 => k' b o (k1 b o e n1 n2 n3) n1) ed' (k' _ _ g1 dg.symm) (k' _ _ t1 dt.symm)
    refine ⟨_, rfl, d, _, rfl, gn, rfl, _, rfl, ite2 (fun h4 => ?_) (fun h4 => ?_)⟩
    · have h4 : st.getD 13 0 = 1 := V.int.inj (of_decide_eq_true h4)
      have n3 : ¬ st.getD 13 0 = 3 := by omega
      refine ⟨_, rfl, .inl ⟨rfl, _, SqL.of et⟩, _, rfl, d, _, rfl, ga, tl, _, _, rfl, rfl, et, (by rw [List.length_map]; omega), ?_⟩
      have ed1 : upd H tl (.lst (told.map V.int ++ [V.int (st.getD 0 0)])) d = some (.dK (kv st)) := by rw [upd_ne dt]; exact ed
      refine ⟨_, rfl, d, _, rfl, dget hl ed1 13 (by decide) "n" (by decide +kernel), rfl, _, rfl, itDN (fun z => n3 (V.int.inj z)) ?_⟩
      refine kB _ _ _ d st _ ed1 hl (fin _ st ?_ (fun b o e n1 n2 n3 => by rw [upd_ne n3]; exact e) ?_ ?_)
      · unfold callA; rw [if_neg n3, set_self15 hl]
      · rw [upd_ne ngt]; unfold callLeft; rw [if_neg n3]; exact eg
      · rw [upd_same]; unfold callTold; rw [if_pos h4, List.map_append]; rfl
    · have h4 : ¬ st.getD 13 0 = 1 := fun z => h4 (decide_eq_true (congrArg V.int z))
      have eT : callTold st told = told := by unfold callTold; rw [if_neg h4]
      refine ⟨_, rfl, d, _, rfl, gn, rfl, _, rfl, ite2 (fun h5 => ?_) (fun h5 => ?_)⟩
      · have h5 : st.getD 13 0 = 3 := V.int.inj (of_decide_eq_true h5)
        refine ⟨_, rfl, d, _, rfl, dput hl ed 0 (by decide) "a" (by decide +kernel) _, ?_⟩
        have l1 := ls (j := 0) (v := 65535) hl
        have eg1 : upd H d (.dK (kv (st.set 0 65535))) gl = some (.lst (left.map V.int)) := by rw [upd_ne dg.symm]; exact eg
        have et1 : upd H d (.dK (kv (st.set 0 65535))) tl = some (.lst (told.map V.int)) := by rw [upd_ne dt.symm]; exact et
        have ed1 : upd H d (.dK (kv (st.set 0 65535))) d = some (.dK (kv (st.set 0 65535))) := upd_same
        have k1 : K3 d gl tl H (upd H d (.dK (kv (st.set 0 65535)))) := fun b o e n1 n2 n3 => by rw [upd_ne n1]; exact e
        generalize upd H d (.dK (kv (st.set 0 65535))) = H1 at eg1 et1 ed1 k1 ⊢
        cases left with
        | nil =>
          refine ⟨_, rfl, gl, _, rfl, .inl (SqL.of eg1), _, _, rfl, rfl, _, rfl, itBF rfl ?_⟩
          refine kB _ _ _ d _ _ ed1 l1 (fin _ _ ?_ k1 ?_ ?_)
          · unfold callA; rw [if_pos h5]; rfl
          · unfold callLeft; rw [if_pos h5]; exact eg1
          · rw [eT]; exact et1
        | cons x r =>
          refine ⟨_, rfl, gl, _, rfl, .inl (SqL.of eg1), _, _, rfl, rfl, _, rfl, itDP (by rw [List.length_map, List.length_cons]; omega) ?_⟩
          refine ⟨_, rfl, .inl ⟨rfl, _, SqL.of eg1⟩, gl, _, 0, 0, V.int x, rfl, rfl, eg1, by decide, by decide, (by unfold seqIndex?; simp), rfl, ?_⟩
          have ed2 : upd H1 gl (.lst ((List.map V.int (x :: r)).eraseIdx 0)) d = some (.dK (kv (st.set 0 65535))) := by rw [upd_ne dg]; exact ed1
          refine ⟨_, rfl, d, _, rfl, dput l1 ed2 0 (by decide) "a" (by decide +kernel) _, ?_⟩
          have l2 := ls (j := 0) (v := x) l1
          refine kB _ _ _ d _ _ upd_same l2 (fin _ _ ?_ (fun b o e n1 n2 n3 => by rw [upd_ne n1, upd_ne n2]; exact k1 b o e n1 n2 n3) ?_ ?_)
          · unfold callA; rw [if_pos h5, List.set_set]; rfl
          · rw [upd_ne dg.symm, upd_same]; unfold callLeft; rw [if_pos h5]; rfl
          · rw [upd_ne dt.symm, upd_ne ngt.symm, eT]; exact et1
      · have h5 : ¬ st.getD 13 0 = 3 := fun z => h5 (decide_eq_true (congrArg V.int z))
        refine kB _ _ _ d st _ ed hl (fin _ st ?_ (K3.of (Same.refl _)) ?_ ?_)
        · unfold callA; rw [if_neg h5, set_self15 hl]
        · unfold callLeft; rw [if_neg h5]; exact eg
        · rw [eT]; exact et
end
end K21

set_option Elab.async false
set_option linter.all false
set_option maxRecDepth 100000
set_option maxHeartbeats 4000000
namespace K21
open PySem L2
/-! ### the law's own walk -/
def sp_alone : Sp := fun vs H Q _ => ∃ (im gv : Addr) (words given : List Int) (b : Nat), vs = [.ref im, .ref gv, .int (b : Int)] ∧ H im = some (.lst (words.map V.int)) ∧ H gv = some (.lst (given.map V.int)) ∧ words.length ≤ 63 ∧ (∀ x ∈ words, 0 ≤ x ∧ x < 65536) ∧ given.length ≤ 9 ∧ (∀ x ∈ given, 0 ≤ x ∧ x < 65536) ∧ b ≤ 120 ∧
  ∀ (p tl d2 trl : Addr) (xs : List V) (H' : Hp), Same H H' → H' p = some (.tup [.ref tl, .str (runL (startL words given) b).en, .ref d2, .ref trl]) → H' tl = some (.lst ((runL (startL words given) b).told.map V.int)) → H' d2 = some (.dK (runL (startL words given) b).kv) → H' trl = some (.lst xs) → Paired (TraceAt H') xs (allT (runL (startL words given) b)) → H d2 = none → Q (.ref p) H'
def fl : List V → List Tr1 → List V
  | x :: xs, t :: ts => if t = [] then fl xs ts else x :: fl xs ts
  | _, _ => []
theorem fl_snoc : ∀ {xs : List V} {ts : List Tr1} {x : V} {t : Tr1}, xs.length = ts.length → fl (xs ++ [x]) (ts ++ [t]) = fl xs ts ++ (if t = [] then [] else [x])
  | [], [], x, t, _ => by show (if t = [] then _ else _) = _; split <;> rfl
  | x0 :: xs, t0 :: ts, x, t, h => by
    have ih := fl_snoc (xs := xs) (ts := ts) (x := x) (t := t) (by simpa using h)
    show (if t0 = [] then fl (xs ++ [x]) (ts ++ [t]) else x0 :: fl (xs ++ [x]) (ts ++ [t])) = (if t0 = [] then fl xs ts else x0 :: fl xs ts) ++ _
    rw [ih]
    split <;> rfl
theorem fl_all : ∀ {xs : List V} {ts : List Tr1}, xs.length = ts.length → (∀ t ∈ ts, t ≠ []) → fl xs ts = xs
  | [], [], _, _ => rfl
  | x :: xs, t :: ts, h, hn => by
    show (if t = [] then _ else _) = _
    rw [if_neg (hn t List.mem_cons_self), fl_all (by simpa using h) fun z hz => hn z (List.mem_cons_of_mem _ hz)]
theorem fl_len : ∀ (xs : List V) (ts : List Tr1), (fl xs ts).length ≤ xs.length
  | x :: xs, t :: ts => by
    show (if t = [] then _ else _ : List V).length ≤ _
    have := fl_len xs ts
    split
    · rw [List.length_cons]; omega
    · rw [List.length_cons, List.length_cons]; omega
  | [], _ => Nat.le_refl _
  | _ :: _, [] => Nat.zero_le _
structure AloneAt (H : Hp) (s : LS) (gl tl d trl t c : Addr) (ys : List V) (H4 : Hp) : Prop where
  sm : Same H H4
  et : H4 t = some (.tup (s.st.map V.int))
  ed : H4 d = some (.dK s.kv)
  eg : H4 gl = some (.lst (s.left.map V.int))
  el : H4 tl = some (.lst (s.told.map V.int))
  er : H4 trl = some (.lst (ys ++ [.ref c]))
  po : Paired (TraceAt H4) ys s.old
  pc : TraceAt H4 (.ref c) s.cur
  nw : TrsNew H [tl, gl, trl] (ys ++ [.ref c])
theorem last_ix (ys : List V) (c : V) : atI (ys ++ [c]) (((ys ++ [c]).length : Nat) - 1 : Int) = some c := by
  rw [List.length_append]
  show atI _ (((ys.length + 1 : Nat) : Int) - 1) = _
  rw [show (((ys.length + 1 : Nat) : Int) - 1) = (ys.length : Int) by omega]
  exact atI_nat (by simp)
section
variable {P : Program} {w : World} {K : PySem.W.Frag} {mg : Str → Option Value} {base : Heap}
theorem sc_law_alone : FnScope ["_law_image_here", "_law_given", "_law_beats", "_law_memory", "_law_k", "_law_state", "_law_told", "_law_traces", "_law_end", "_law_turn", "_law_place", "_law_write", "_law_tell", "_law_s"] ["_law_image_here", "_law_given", "_law_beats"] (defScope s_law_alone) := ⟨rfl, rfl, rfl, by decide +kernel, rfl, by decide +kernel, by decide +kernel⟩
theorem alone_R {f : Addr} (T : Bt mg) {cdv : Value} {A : Around} {outer : List Env} {s : Shared} {H0 : Hp} {E : XK} (hr : Room 7 (A.deeper (PyProof.Rows.envOfC "_law_alone" (defScope s_law_alone) s.heap.objs.size f cdv))) :
    ∃ u, PSs (cxOf CX0 P w K mg base ["_law_image_here", "_law_given", "_law_beats", "_law_memory", "_law_k", "_law_state", "_law_told", "_law_traces", "_law_end", "_law_turn", "_law_place", "_law_write", "_law_tell", "_law_s"] "_law_alone" (defScope s_law_alone) f cdv A outer s H0 E).nox ((defBody s_law_alone).drop 8) u ∧
      ∀ (D : Ends) (v0 v1 v2 v4 v5 v9 v10 v11 v12 v13 : Option V) (d gl tl trl t c : Addr) (ys : List V) (L : LS) (i : Nat) (H H4 : Hp), L.Ok i → i ≤ 120 → AloneAt H L gl tl d trl t c ys H4 →
        (∀ (p r : Addr) (xs : List V) (H' : Hp), Same H4 H' → H' p = some (.tup [.ref tl, .str L.en, .ref d, .ref r]) → H' r = some (.lst xs) → Paired (TraceAt H') xs (allT L) → D.rt (.ref p) H') →
        u D [v0, v1, v2, some (.ref d), v4, v5, some (.ref tl), some (.ref trl), some (.str L.en), v9, v10, v11, v12, v13] H4 := by
  refine ⟨_, (pss_one (ps_ret (pe_tup (pa_cons (pv 6) (pa_cons (pv 8) (pa_cons (pv 3) (pa_cons (pe_compIf rfl (blk_of (sc0 := defScope s_law_alone) (N0 := ["_law_image_here", "_law_given", "_law_beats", "_law_memory", "_law_k", "_law_state", "_law_told", "_law_traces", "_law_end", "_law_turn", "_law_place", "_law_write", "_law_tell", "_law_s"]) (N' := ["_law_trace"]) (own := 1) (fv := []) (by decide +kernel) rfl rfl) (pi_list (pv 7)) (fun _ _ _ _ => (pg_name (i := 0) (by show List.Nodup (["_law_trace"] : List Str); decide +kernel) rfl (Or.inl rfl))) (fun _ _ _ _ => (pt_cmpR op_gt (pe_callB (call_lenK (K := K)) rfl T.b_len (by decide +kernel) (pa_cons (pv 0) pa_nil)) pe_int (nomark _))) (fun _ _ _ _ => (pv 0))) pa_nil))))))), ?_⟩
  intro D v0 v1 v2 v4 v5 v9 v10 v11 v12 v13 d gl tl trl t c ys L i H H4 ok hi a q
  have hs : sizeLine = 16777216 := sizeLine_eq
  obtain ⟨xs, hxs⟩ : ∃ z, ys ++ [V.ref c] = z := ⟨_, rfl⟩
  obtain ⟨ts, hts⟩ : ∃ z, L.old ++ [L.cur] = z := ⟨_, rfl⟩
  have px : Paired (TraceAt H4) xs ts := by rw [← hxs, ← hts]; exact paired_snoc a.po a.pc
  have lxt : xs.length = ts.length := px.length
  have ltl : ts.length ≤ 121 := by rw [← hts, List.length_append]; have := ok.ol; show _ + 1 ≤ _; omega
  have er := a.er
  rw [hxs] at er
  refine ⟨_, rfl, _, rfl, _, rfl, _, rfl, trl, rfl, ⟨_, SqL.of er⟩, compIf_lst (xs := xs) (fvals := []) (fun acc j H5 => H4 acc = none ∧ Same H4 H5 ∧ H5 acc = some (.lst (fl (xs.take j) (ts.take j)))) ?_ ?_ ?_ ?_⟩
  · rintro acc j H5 ⟨_, s5, _⟩
    exact SqL.of (s5 _ _ er)
  · intro acc hacc
    exact ⟨hacc, Same.put hacc, by rw [List.take_zero, List.take_zero]; exact upd_same⟩
  · rintro acc j x H5 m W hx ⟨hacc, s5, ea⟩ hW
    obtain ⟨tr, htr, l, zs, e1, el, pz⟩ := paired_get px hx
    subst e1
    have hj : j < xs.length := (List.getElem?_eq_some_iff.mp hx).1
    have lz : zs.length = tr.length := pz.length
    have hnext : fl (xs.take (j + 1)) (ts.take (j + 1)) = fl (xs.take j) (ts.take j) ++ (if tr = [] then [] else [V.ref l]) := by
      rw [List.take_add_one, List.take_add_one, hx, htr]
      exact fl_snoc (by rw [List.length_take, List.length_take]; omega)
    refine ⟨_, rfl, l, _, rfl, .inl (SqL.of (s5 _ _ el)), _, _, rfl, rfl, _, rfl, ite2 (fun h => ?_) (fun h => ?_)⟩
    · have h : (0 : Int) < ((zs.length : Nat) : Int) := of_decide_eq_true h
      have tn : tr ≠ [] := fun z => by rw [z] at lz; simp at lz; rw [lz] at h; simp at h
      refine ⟨_, rfl, _, ea, ?_, hW _ ⟨hacc, Kl.same s5 hacc Kl.one, ?_⟩⟩
      · have := fl_len (xs.take j) (ts.take j)
        rw [List.length_take] at this; omega
      · rw [upd_same, hnext, if_neg tn]
    · have h : ¬ (0 : Int) < ((zs.length : Nat) : Int) := fun z => h (decide_eq_true z)
      have tn : tr = [] := List.eq_nil_of_length_eq_zero (by omega)
      refine hW _ ⟨hacc, s5, ?_⟩
      rw [hnext, if_pos tn, List.append_nil]; exact ea
  · rintro acc H5 hacc ⟨_, s5, ea⟩
    rw [List.take_of_length_le (Nat.le_refl _), List.take_of_length_le (by omega)] at ea
    refine ⟨(by show 4 ≤ sizeLine; omega), fun p hp => ?_⟩
    have sp := s5.trans (Same.put (o := .tup [V.ref tl, V.str L.en, V.ref d, V.ref acc]) hp)
    refine q p acc (fl xs ts) _ sp upd_same (by rw [upd_ne (ne_of_none ea hp)]; exact ea) ?_
    have ly : ys.length = L.old.length := a.po.length
    rw [← hxs, ← hts, fl_snoc ly, fl_all ly ok.ne]
    unfold allT
    by_cases hc : L.cur = []
    · rw [if_pos hc, if_pos hc, List.append_nil, List.append_nil]; exact trs_same a.po sp
    · rw [if_neg hc, if_neg hc]; exact trs_same (paired_snoc a.po a.pc) sp
end
end K21

set_option Elab.async false
set_option linter.all false
set_option maxRecDepth 100000
set_option maxHeartbeats 4000000
namespace K21
open PySem L2
theorem asked_b0 {st : List Int} (h5 : st.getD 5 0 = 1) (h6 : st.getD 6 0 = 0) : stPlace st % 4096 = stAsked st := by
  unfold stAsked
  rw [if_neg (by omega), h6, Int.zero_add]
section
variable {P : Program} {w : World} {K : PySem.W.Frag} {mg : Str → Option Value} {base : Heap}
theorem alone_B {x0 x1 x2 x3 x4 x5 x6 x7 x8 x9 x10 x11 x12 x13 x14 x15 x16 x17 x18 x19 x20 x21 x22 x23 x24 x25 x26 x27 x28 x29 x30 x31 x32 x33 x34 x35 x36 x37 x38 x39 x40 x41 x42 x43 x44 x45 f : Addr} {e0 e1 e2 e3 e4 e5 e6 e7 e8 e9 e10 e11 e12 e13 e14 e15 e16 e17 e18 e19 e20 e21 e22 e23 e24 e25 e26 e27 e28 e29 e30 e31 e32 e33 e34 e35 e36 e37 e38 e39 e40 e41 e42 e43 e44 e45 : FuncData} (T : Bt mg) (C : Ct K mg)
    (T_op_of : Fn K mg "op_of" s_op_of ["state"] x0 e0) (T_number_of : Fn K mg "number_of" s_number_of ["state"] x1 e1) (T_reaching_ops : Fn K mg "reaching_ops" s_reaching_ops [] x2 e2) (T_parts_read_by_own : Fn K mg "parts_read_by_own" s_parts_read_by_own [] x3 e3) (T_parts_set_by_own : Fn K mg "parts_set_by_own" s_parts_set_by_own [] x4 e4) (T_place_within : Fn K mg "place_within" s_place_within ["state"] x5 e5) (T_asked : Fn K mg "asked" s_asked ["state"] x6 e6) (T_is_barred : Fn K mg "is_barred" s_is_barred ["state"] x7 e7) (T_exchanged : Fn K mg "exchanged" s_exchanged ["state", "changes"] x8 e8) (T_trapped : Fn K mg "trapped" s_trapped ["state", "cause", "place"] x9 e9) (T_fetch : Fn K mg "fetch" s_fetch ["state", "word"] x10 e10) (T_cause_of : Fn K mg "cause_of" s_cause_of ["state"] x11 e11) (T_row_trapped : Fn K mg "row_trapped" s_row_trapped ["state", "cause"] x12 e12) (T_a_by_exchange : Fn K mg "a_by_exchange" s_a_by_exchange ["state"] x13 e13) (T_new_a : Fn K mg "new_a" s_new_a ["state", "word"] x14 e14) (T_new_x : Fn K mg "new_x" s_new_x ["state"] x15 e15) (T_leaps : Fn K mg "leaps" s_leaps ["state"] x16 e16) (T_new_p : Fn K mg "new_p" s_new_p ["state"] x17 e17) (T_own_changes : Fn K mg "own_changes" s_own_changes ["state"] x18 e18) (T_row_done : Fn K mg "row_done" s_row_done ["state", "word"] x19 e19) (T_bell_counted : Fn K mg "bell_counted" s_bell_counted ["state"] x20 e20) (T_written : Fn K mg "written" s_written ["state"] x21 e21) (T_told_word : Fn K mg "told_word" s_told_word ["state"] x22 e22) (T_beat_of : Fn K mg "beat_of" s_beat_of ["state", "word"] x23 e23) (T_law_cell_at : Fn K mg "_law_cell_at" s_law_cell_at ["_law_script", "_law_k"] x24 e24) (T_law_mixed : Fn K mg "_law_mixed" s_law_mixed ["_law_number", "_law_k"] x25 e25) (T_law_names : Fn K mg "_law_names" s_law_names [] x26 e26) (T_law_read : Fn K mg "_law_read" s_law_read ["_law_state"] x27 e27) (T_law_told_of : Fn K mg "_law_told_of" s_law_told_of ["_law_s"] x28 e28) (T_law_wants : Fn K mg "_law_wants" s_law_wants ["_law_s"] x29 e29) (T_law_trapped : Fn K mg "_law_trapped" s_law_trapped ["_law_s", "_law_cause", "_law_place"] x30 e30) (T_law_own : Fn K mg "_law_own" s_law_own ["_law_s", "_law_which"] x31 e31) (T_law_moved : Fn K mg "_law_moved" s_law_moved ["_law_s", "_law_which"] x32 e32) (T_law_row : Fn K mg "_law_row" s_law_row ["_law_s", "_law_op", "_law_number", "_law_word"] x33 e33) (T_law_beat : Fn K mg "_law_beat" s_law_beat ["_law_state", "_law_word"] x34 e34) (T_without_noughts : Fn K mg "without_noughts" s_without_noughts ["memory"] x35 e35) (T_beat_in : Fn K mg "beat_in" s_beat_in ["state", "memory", "told", "trace"] x36 e36) (T_law_words_by : Fn K mg "_law_words_by" s_law_words_by ["_law_cells", "_law_number"] x37 e37) (T_first_state : Fn K mg "first_state" s_first_state [] x38 e38) (T_stretch : Fn K mg "stretch" s_stretch ["state", "memory", "beats"] x39 e39) (T_end_by : Fn K mg "end_by" s_end_by ["state"] x40 e40) (T_behind_call : Fn K mg "behind_call" s_behind_call ["state", "told", "left"] x41 e41) (T_lone : Fn K mg "lone" s_lone ["image", "given", "beats"] x42 e42) (T_law_heard : Fn K mg "_law_heard" s_law_heard ["_law_s", "_law_given", "_law_told"] x43 e43) (T_law_alone : Fn K mg "_law_alone" s_law_alone ["_law_image_here", "_law_given", "_law_beats"] x44 e44) (T_law_image : Fn K mg "_law_image" s_law_image ["_law_script"] x45 e45) {cdv : Value} {A : Around} {outer : List Env} {s : Shared} {H0 : Hp} {E : XK} (hr : Room 7 (A.deeper (PyProof.Rows.envOfC "_law_alone" (defScope s_law_alone) s.heap.objs.size f cdv))) :
    ∃ u, PSs (cxOf CX0 P w K mg base ["_law_image_here", "_law_given", "_law_beats", "_law_memory", "_law_k", "_law_state", "_law_told", "_law_traces", "_law_end", "_law_turn", "_law_place", "_law_write", "_law_tell", "_law_s"] "_law_alone" (defScope s_law_alone) f cdv A outer s H0 E).nox ((defBody s_law_alone).drop 7) u ∧
      ∀ (D : Ends) (v0 v4 v9 v10 v11 v12 v13 : Option V) (d gl tl trl t c : Addr) (s0 : LS) (b : Nat) (H H1 : Hp), s0.Ok 0 → s0.en = "going" → b ≤ 120 → AloneAt H s0 gl tl d trl t c [] H1 → H d = none → H tl = none → H gl = none → H trl = none → tl ≠ gl → tl ≠ trl → gl ≠ trl → 
        (∀ (p r : Addr) (xs : List V) (H' : Hp), Same H H' → H' p = some (.tup [.ref tl, .str (runL s0 b).en, .ref d, .ref r]) → H' tl = some (.lst ((runL s0 b).told.map V.int)) → H' d = some (.dK (runL s0 b).kv) → H' r = some (.lst xs) → Paired (TraceAt H') xs (allT (runL s0 b)) → D.rt (.ref p) H') →
        u D [v0, some (.ref gl), some (.int (b : Int)), some (.ref d), v4, some (.ref t), some (.ref tl), some (.ref trl), some (.str "going"), v9, v10, v11, v12, v13] H1 := by
  have G_law_read := ok_law_read (P := P) (w := w) (base := base) T_law_read.F T T_law_names
  have G_law_wants := ok_law_wants (P := P) (w := w) (mg := mg) (base := base) T_law_wants.F
  have G_law_beat := ok_law_beat (P := P) (w := w) (base := base) T_law_beat.F T T_law_names T_law_told_of T_law_trapped T_law_own T_law_moved T_law_row T_law_read T_law_wants
  have G_law_told_of := ok_law_told_of (P := P) (w := w) (base := base) T_law_told_of.F T T_law_names
  have G_law_heard := ok_law_heard (P := P) (w := w) (base := base) T_law_heard.F T
  obtain ⟨uR, hR, kR⟩ := alone_R (P := P) (w := w) (base := base) (f := f) (cdv := cdv) (outer := outer) (H0 := H0) (E := E) T hr
  refine ⟨_, (pss_cons (ps_for PassesOwn.never rfl (pi_range1 rfl T.b_range (pa_cons (pv 2) pa_nil)) (pg_name (i := 9) sc_law_alone.nd rfl (Or.inl rfl))
        (pss_one (ps_if (pt_cmpR op_eq (pv 8) pe_str (nomark _))
          (pss_cons (ps_set (i := 10) sc_law_alone.nd rfl (Or.inl rfl) (pe_op op_mod (pe_call G_law_wants (hr.mono (by decide)) rfl T_law_wants.m T_law_wants.F.kp T_law_wants.b .nil pass0 (pa_cons (pe_call G_law_read (hr.mono (by decide)) rfl T_law_read.m T_law_read.F.kp T_law_read.b .nil pass0 (pa_cons (pv 5) pa_nil)) pa_nil)) pe_int))
          (pss_cons (ps_expr (pe_bm PySem.F.plainAttrs_list PySem.F.slot_list_append PySem.F.type_list_append mt_append (pe_ix ix_list (pv 7) (pe_op op_sub (pe_callB call_len_seq rfl T.b_len (by decide +kernel) (pa_cons (pv 7) pa_nil)) pe_int) (fun _ _ => rfl)) (pa_cons (pe_tup (pa_cons (pv 5) (pa_cons (pe_dget2 (hu_of hr) (pv 3) (pv 10) pe_int ⟨rfl, rfl, rfl, rfl⟩) pa_nil))) pa_nil)))
          (pss_cons (ps_asg (pe_call G_law_beat (hr.mono (by decide)) rfl T_law_beat.m T_law_beat.F.kp T_law_beat.b .nil pass0 (pa_cons (pv 5) (pa_cons (pe_dget2 (hu_of hr) (pv 3) (pv 10) pe_int ⟨rfl, rfl, rfl, rfl⟩) pa_nil))) (pg_tup rfl (pgs_cons (pg_name (i := 5) sc_law_alone.nd rfl (Or.inl rfl)) (pgs_cons (pg_name (i := 11) sc_law_alone.nd rfl (Or.inl rfl)) (pgs_cons (pg_name (i := 12) sc_law_alone.nd rfl (Or.inl rfl)) pgs_nil)))))
          (pss_cons (ps_if (pt_cmpR op_notN (pv 11) pe_non (nomark _))
            (pss_one (ps_dput (hu_of hr) (pv 3) (pv 10) (pv 11) rfl))
            pss_nil)
          (pss_one (ps_if (pt_cmpR op_eq (pe_ix ix_tup (pv 5) pe_int (fun _ _ => rfl)) pe_int (nomark _))
            (pss_cons (ps_set (i := 13) sc_law_alone.nd rfl (Or.inl rfl) (pe_call G_law_read (hr.mono (by decide)) rfl T_law_read.m T_law_read.F.kp T_law_read.b .nil pass0 (pa_cons (pv 5) pa_nil)))
            (pss_cons (ps_set (i := 8) sc_law_alone.nd rfl (Or.inl rfl) (pe_call G_law_heard (hr.mono (by decide)) rfl T_law_heard.m T_law_heard.F.kp T_law_heard.b .nil pass0 (pa_cons (pv 13) (pa_cons (pv 1) (pa_cons (pv 6) pa_nil)))))
            (pss_cons (ps_set (i := 5) sc_law_alone.nd rfl (Or.inl rfl) (pe_call G_law_told_of (hr.mono (by decide)) rfl T_law_told_of.m T_law_told_of.F.kp T_law_told_of.b .nil pass0 (pa_cons (pv 13) pa_nil)))
            (pss_one (ps_expr (pe_bm PySem.F.plainAttrs_list PySem.F.slot_list_append PySem.F.type_list_append mt_append (pv 7) (pa_cons (pe_lst pa_nil) pa_nil)))))))
            pss_nil))))))
          pss_nil)))
      hR), ?_⟩
  intro D v0 v4 v9 v10 v11 v12 v13 d gl tl trl t c s0 b H H1 ok0 hg0 hb at0 fd ftl fgl ftrl ntg ntr ngr q
  have hs : sizeLine = 16777216 := sizeLine_eq
  have two : 2 ≤ sizeLine := by omega
  have nd1 : d ≠ tl := ne_of at0.ed at0.el (by intro z; cases z)
  have nd2 : d ≠ gl := ne_of at0.ed at0.eg (by intro z; cases z)
  have nd3 : d ≠ trl := ne_of at0.ed at0.er (by intro z; cases z)
  refine ⟨_, rfl, b, rfl, by omega, by omega, for_range (lo := 0) (n := b) (fun i σ H4 => ∃ (t c : Addr) (ys : List V) (v8 v9 v10 v11 v12 v13 : Option V), σ = [v0, some (.ref gl), some (.int (b : Int)), some (.ref d), v4, some (.ref t), some (.ref tl), some (.ref trl), v8, v9, v10, v11, v12, v13] ∧ v8 = some (.str (runL s0 i).en) ∧ AloneAt H (runL s0 i) gl tl d trl t c ys H4)
    ⟨t, c, [], some (V.str "going"), v9, v10, v11, v12, v13, rfl, by show _ = some (V.str s0.en); rw [hg0], at0⟩ ?_ ?_⟩
  · rintro i σ H4 hi ⟨t, c, ys, _, v9, v10, v11, v12, v13, rfl, rfl, a4⟩
    have oki := runL_ok ok0 i
    refine ⟨_, rfl, rfl, _, rfl, ite2 (fun h => ?_) (fun h => ?_)⟩
    · have hg : (runL s0 i).en = "going" := V.str.inj (of_decide_eq_true h)
      have hL : runL s0 (i + 1) = stepL (runL s0 i) := by show nextL _ = _; unfold nextL; rw [if_pos hg]
      obtain ⟨m1, b0, h0⟩ := oki.go hg
      have hw := oki.al.get (stAsked (runL s0 i).st)
      have l15 : (runL s0 i).st.length = 15 := oki.rg.len
      obtain ⟨L, hLL⟩ : ∃ z, runL s0 i = z := ⟨_, rfl⟩
      have ok1 := runL_ok ok0 (i + 1)
      rw [hL] at ok1
      rw [hLL] at oki a4 hg m1 b0 h0 hw l15 ok1
      rw [hL, hLL]
      refine ⟨_, rfl, t, L.st, rfl, a4.et, l15, fun sd H5 hsd y5 esd => ?_⟩
      refine ⟨sd, L.st, rfl, esd, l15, _, _, rfl, rfl, (by show (0 : Int) < 4096; decide), ?_⟩
      rw [show (fun i j => V.int (i % j)) (stPlace L.st) 4096 = V.int (stAsked L.st) from congrArg V.int (asked_b0 m1 b0)]
      obtain ⟨wd, hwd⟩ : ∃ z, wv L.kv (stAsked L.st) = z := ⟨_, rfl⟩
      rw [hwd] at hw
      obtain ⟨lc, zs, ec, elc, pz⟩ := a4.pc
      cases ec
      have er5 := y5 _ _ a4.er
      have elc5 := y5 _ _ elc
      have et5 := y5 _ _ a4.et
      have ed5 := y5 _ _ a4.ed
      refine ⟨_, rfl, _, rfl, trl, _, rfl, .inl (SqL.of er5), _, _, rfl, rfl, trl, _, _, _, rfl, rfl, SqL.of er5, last_ix ys (.ref c), .inl ⟨rfl, _, SqL.of elc5⟩, ?_⟩
      refine ⟨_, rfl, _, rfl, d, rfl, .inl ⟨_, .inl ed5⟩, _, rfl, _, DGet.k (k := .inl (stAsked L.st)) ed5, ?_⟩
      rw [hw.1]
      refine ⟨two, fun qa hqa => ?_⟩
      have y6 := Same.put (o := .tup [V.ref t, V.int wd]) hqa
      have eqa : upd H5 qa (.tup [V.ref t, V.int wd]) qa = some (.tup [V.ref t, V.int wd]) := upd_same
      generalize upd H5 qa (.tup [V.ref t, V.int wd]) = H6 at y6 eqa ⊢
      have lz : zs.length = L.cur.length := pz.length
      refine ⟨c, _, _, rfl, rfl, y6 _ _ elc5, (by have := oki.cl; omega), ?_⟩
      have s46 := y5.trans y6
      have ctl : c ≠ tl := a4.nw.ne (l := c) (by simp) (by simp)
      have cgl : c ≠ gl := a4.nw.ne (l := c) (by simp) (by simp)
      have ctr : c ≠ trl := a4.nw.ne (l := c) (by simp) (by simp)
      have fc : H c = none := a4.nw.free (by simp)
      have k7 : ∀ x o, H4 x = some o → x ≠ c → upd H6 c (.lst (zs ++ [V.ref qa])) x = some o := fun x o e n => by rw [upd_ne n]; exact s46 _ _ e
      have ec7 : upd H6 c (.lst (zs ++ [V.ref qa])) c = some (.lst (zs ++ [V.ref qa])) := upd_same
      have eq7 : upd H6 c (.lst (zs ++ [V.ref qa])) qa = some (.tup [V.ref t, V.int wd]) := by rw [upd_ne (ne_of eqa (y6 _ _ elc5) (by intro z; cases z))]; exact eqa
      generalize upd H6 c (.lst (zs ++ [V.ref qa])) = H7 at k7 ec7 eq7 ⊢
      have tup7 : ∀ x ts, H4 x = some (.tup ts) → H7 x = some (.tup ts) := fun x ts e => k7 _ _ e (ne_of e elc (by intro z; cases z))
      have et7 := tup7 _ _ a4.et
      have ed7 := k7 _ _ a4.ed (ne_of a4.ed elc (by intro z; cases z))
      have eg7 := k7 _ _ a4.eg cgl.symm
      have el7 := k7 _ _ a4.el ctl.symm
      have er7 := k7 _ _ a4.er ctr.symm
      have sm7 : Same H H7 := fun x o e => k7 _ _ (a4.sm _ _ e) (ne_of_none e fc)
      have nds := List.nodup_append.mp a4.nw.nd
      have yc : ∀ l, V.ref l ∈ ys → l ≠ c := fun l hl z => nds.2.2 _ hl _ (List.mem_singleton.mpr rfl) (congrArg V.ref z)
      have po7 : Paired (TraceAt H7) ys L.old := trs_keep a4.po (fun l hl o e => k7 _ _ e (yc l hl)) tup7
      have pc7 : TraceAt H7 (.ref c) (L.cur ++ [(L.st, wd)]) := ⟨c, zs ++ [V.ref qa], rfl, ec7, tr_more (Paired.mapP pz fun _ _ z => z.keep tup7) eq7 et7⟩
      refine ⟨_, rfl, _, rfl, d, rfl, .inl ⟨_, .inl ed7⟩, _, rfl, _, DGet.k (k := .inl (stAsked L.st)) ed7, ?_⟩
      rw [hw.1]
      refine ⟨t, L.st, wd, rfl, et7, oki.rg, hw.2.1, hw.2.2, fun p t1 H8 _ y8 ep et1 => ?_⟩
      refine ⟨p, _, rfl, SqT.of ep, rfl, _, _, rfl, _, _, rfl, _, _, rfl, rfl, ?_⟩
      have okb := ok1.rg
      have s1 : (stepL L) = if (btS L.st wd).getD 5 0 = 1 then ⟨btS L.st wd, putW L.kv (stAsked L.st) (btW L.st), L.told, L.left, L.old, L.cur ++ [(L.st, wd)], L.en⟩ else heardL (btS L.st wd) (putW L.kv (stAsked L.st) (btW L.st)) L.told L.left L.old (L.cur ++ [(L.st, wd)]) := by unfold stepL; rw [hwd]
      have Rb : Rg sizes15 (btS L.st wd) := oki.rg.bt hw.2
      have lb : (btS L.st wd).length = 15 := Rb.len
      have b5 := Rb.bd 5 2 rfl
      have sm8 := sm7.trans y8
      have ed8 := y8 _ _ ed7
      have eg8 := y8 _ _ eg7
      have el8 := y8 _ _ el7
      have er8 := y8 _ _ er7
      have po8 := trs_same po7 y8
      have pc8 : TraceAt H8 (.ref c) (L.cur ++ [(L.st, wd)]) := pc7.keep (fun l _ o e => y8 _ _ e) fun _ _ e => y8 _ _ e
      have hkl : L.kv.length < sizeLine := by have := oki.kl; omega
      generalize btS L.st wd = st1 at et1 s1 Rb lb b5 ⊢
      rcases btW_form L.st with e | ⟨v, e⟩
      focus
        have ed9 : H8 d = some (.dK (putW L.kv (stAsked L.st) (btW L.st))) := by rw [e]; exact ed8
        have et9 := et1
        have eg9 := eg8
        have el9 := el8
        have er9 := er8
        have po9 := po8
        have pc9 := pc8
        have sm9 := sm8
        generalize putW L.kv (stAsked L.st) (btW L.st) = kv1 at ed9 s1
        rw [e]
        refine ⟨_, rfl, rfl, _, rfl, ?_⟩
        rw [decide_eq_true rfl]
        refine iteF ?_
      rotate_left
      focus
        have n8 : ∀ x ts, H8 x = some (.tup ts) → x ≠ d := fun x ts z => ne_of z ed8 (by intro z; cases z)
        have m8 : ∀ x ts, H8 x = some (.lst ts) → x ≠ d := fun x ts z => ne_of z ed8 (by intro z; cases z)
        have ed9 : upd H8 d (.dK (putK L.kv (.inl (stAsked L.st)) (.int v))) d = some (.dK (putW L.kv (stAsked L.st) (btW L.st))) := by rw [e]; exact upd_same
        have kx : ∀ x o, H8 x = some o → x ≠ d → upd H8 d (.dK (putK L.kv (.inl (stAsked L.st)) (.int v))) x = some o := fun x o z n => by rw [upd_ne n]; exact z
        have tx : ∀ x ts, H8 x = some (.tup ts) → upd H8 d (.dK (putK L.kv (.inl (stAsked L.st)) (.int v))) x = some (.tup ts) := fun x ts z => kx _ _ z (n8 _ _ z)
        have et9 := tx _ _ et1
        have eg9 := kx _ _ eg8 (m8 _ _ eg8)
        have el9 := kx _ _ el8 (m8 _ _ el8)
        have er9 := kx _ _ er8 (m8 _ _ er8)
        have po9 := trs_keep po8 (fun l hl o z => kx _ _ z fun y => by
          obtain ⟨_, _, l', xs', e1, e2, _⟩ := paired_of po8 hl
          cases e1
          exact m8 _ _ e2 y) tx
        have pc9 := pc8.keep (fun l el o z => kx _ _ z fun y => by
          obtain ⟨l', xs', e1, e2, _⟩ := pc8
          cases e1; cases el
          exact m8 _ _ e2 y) tx
        have sm9 : Same H (upd H8 d (.dK (putK L.kv (.inl (stAsked L.st)) (.int v)))) := fun x o z => kx _ _ (sm8 _ _ z) (ne_of_none z fd)
        generalize putW L.kv (stAsked L.st) (btW L.st) = kv1 at ed9 s1
        rw [e]
        refine ⟨_, rfl, rfl, _, rfl, ?_⟩
        rw [decide_eq_false (by intro z; cases z)]
        refine iteT ⟨_, rfl, _, rfl, _, rfl, d, _, rfl, DPut.k (k := .inl (stAsked L.st)) ed8 hkl, ?_⟩
        generalize upd H8 d (.dK (putK L.kv (.inl (stAsked L.st)) (.int v))) = H9 at ed9 et9 eg9 el9 er9 po9 pc9 sm9 ⊢
      all_goals
        refine ⟨_, rfl, t1, _, _, _, rfl, rfl, SqT.of et9, atI_getD (i := 5) (by omega), rfl, _, rfl, ite2 (fun hm => ?_) (fun hm => ?_)⟩
        · have hm : st1.getD 5 0 = 0 := V.int.inj (of_decide_eq_true hm)
          have hm1 : ¬ st1.getD 5 0 = 1 := by omega
          rw [if_neg hm1, heard_eq _ _ _ _ _ _ hm1] at s1
          refine ⟨_, rfl, t1, st1, rfl, et9, lb, fun s2 H10 hs2 y10 es2 => ?_⟩
          have eg10 := y10 _ _ eg9
          have el10 := y10 _ _ el9
          refine ⟨_, rfl, _, rfl, _, rfl, s2, gl, tl, st1, L.told, L.left, rfl, es2, lb, hm1, eg10, el10, ntg.symm, by have := oki.tl; omega, fun H11 k11 es11 eg11 el11 => ?_⟩
          have lh : (hearSt st1 L.left).length = 15 := by
            have := ok1.rg.len
            rw [s1] at this; exact this
          refine ⟨_, rfl, s2, hearSt st1 L.left, rfl, es11, lh, fun t2 H12 ht2 y12 et2 => ?_⟩
          have tup11 : ∀ x ts, H10 x = some (.tup ts) → H11 x = some (.tup ts) := fun x ts z => k11 _ _ z (ne_of z es2 (by intro z; cases z)) (ne_of z eg10 (by intro z; cases z)) (ne_of z el10 (by intro z; cases z))
          have er10 := y10 _ _ er9
          have er11 := k11 _ _ er10 (ne_of er10 es2 (by intro z; cases z)) ngr.symm ntr.symm
          have er12 := y12 _ _ er11
          refine ⟨_, rfl, .inl ⟨rfl, _, SqL.of er12⟩, Nat.zero_le _, fun c2 hc2 => ?_⟩
          have y13 := Same.put (o := .lst []) hc2
          have ec2 : upd H12 c2 (.lst []) c2 = some (.lst []) := upd_same
          generalize upd H12 c2 (.lst []) = H13 at y13 ec2 ⊢
          have er13 := y13 _ _ er12
          have lyo : ys.length = L.old.length := po9.length
          refine ⟨trl, _, _, rfl, rfl, er13, (by rw [List.length_append]; have := oki.ol; show _ + 1 < _; omega), ?_⟩
          have c2t : c2 ≠ trl := fun z => by rw [z, er12] at hc2; cases hc2
          have y1213 := y12.trans y13
          have kall : ∀ x o, H10 x = some o → x ≠ s2 → x ≠ gl → x ≠ tl → x ≠ trl → upd H13 trl (.lst ((ys ++ [V.ref c]) ++ [V.ref c2])) x = some o := fun x o z n1 n2 n3 n4 => by rw [upd_ne n4]; exact y1213 _ _ (k11 _ _ z n1 n2 n3)
          have tall : ∀ x ts, H10 x = some (.tup ts) → upd H13 trl (.lst ((ys ++ [V.ref c]) ++ [V.ref c2])) x = some (.tup ts) := fun x ts z => kall _ _ z (ne_of z es2 (by intro z; cases z)) (ne_of z eg10 (by intro z; cases z)) (ne_of z el10 (by intro z; cases z)) (ne_of z er10 (by intro z; cases z))
          have lall : ∀ l, V.ref l ∈ ys ++ [V.ref c] → ∀ o, H10 l = some o → l ≠ s2 → upd H13 trl (.lst ((ys ++ [V.ref c]) ++ [V.ref c2])) l = some o := fun l hl o z n => kall _ _ z n (a4.nw.ne hl (by simp)) (a4.nw.ne hl (by simp)) (a4.nw.ne hl (by simp))
          have po10 := trs_same po9 y10
          have pc10 : TraceAt H10 (.ref c) (L.cur ++ [(L.st, wd)]) := pc9.keep (fun l _ o e => y10 _ _ e) fun _ _ e => y10 _ _ e
          have sm10 := sm9.trans y10
          refine ⟨t2, c2, ys ++ [V.ref c], _, _, _, _, _, _, rfl, ?_, ?_⟩
          · rw [s1]
          · rw [s1]
            refine ⟨fun x o z => ?_, ?_, ?_, ?_, ?_, ?_, ?_, ?_, ?_⟩
            · exact kall _ _ (sm10 _ _ z) (ne_of_none z (sm9.free hs2)) (ne_of_none z fgl) (ne_of_none z ftl) (ne_of_none z ftrl)
            · rw [upd_ne (ne_of et2 er12 (by intro z; cases z))]; exact y13 _ _ et2
            · have ed10 := y10 _ _ ed9
              exact kall _ _ ed10 (fun z => by rw [← z, ed9] at hs2; cases hs2) nd2 nd1 nd3
            · rw [upd_ne ngr]; exact y1213 _ _ eg11
            · rw [upd_ne ntr]; exact y1213 _ _ el11
            · exact upd_same
            · have pp := paired_snoc po10 pc10
              exact trs_keep pp (fun l hl o z => lall l hl o z fun y => by
                obtain ⟨_, _, l', xs', e1, e2, _⟩ := paired_of pp hl
                cases e1
                rw [y, es2] at e2; cases e2) tall
            · exact ⟨c2, [], rfl, by rw [upd_ne c2t]; exact ec2, .nil⟩
            · refine a4.nw.snoc (l := c2) ?_ ?_ ?_
              · have smx : Same H H12 := fun x o z => y12 _ _ (k11 _ _ (sm10 _ _ z) (ne_of_none z (sm9.free hs2)) (ne_of_none z fgl) (ne_of_none z ftl))
                exact smx.free hc2
              · have z1 : c2 ≠ tl := fun z => by rw [z, y12 _ _ el11] at hc2; cases hc2
                have z2 : c2 ≠ gl := fun z => by rw [z, y12 _ _ eg11] at hc2; cases hc2
                simp [z1, z2, c2t]
              · intro hl
                have pp := paired_snoc po10 pc10
                obtain ⟨_, _, l', xs', e1, e2, _⟩ := paired_of pp hl
                cases e1
                have := k11 _ _ e2 (fun y => by rw [y, es2] at e2; cases e2) (a4.nw.ne hl (by simp)) (a4.nw.ne hl (by simp))
                rw [y12 _ _ this] at hc2; cases hc2
        · have hm : st1.getD 5 0 = 1 := by
            have : ¬ st1.getD 5 0 = 0 := fun z => hm (decide_eq_true (congrArg V.int z))
            omega
          rw [if_pos hm] at s1
          refine ⟨t1, c, ys, _, _, _, _, _, _, rfl, ?_, ?_⟩
          · rw [s1]
          · rw [s1]
            exact ⟨sm9, et9, ed9, eg9, el9, er9, po9, pc9, a4.nw⟩
    · have hne : (runL s0 i).en ≠ "going" := fun z => h (decide_eq_true (congrArg V.str z))
      have hL : runL s0 (i + 1) = runL s0 i := by show nextL _ = _; unfold nextL; rw [if_neg hne]
      refine ⟨t, c, ys, _, _, v10, v11, v12, v13, rfl, ?_, ?_⟩
      · rw [hL]
      · rw [hL]; exact a4
  · rintro σ H4 ⟨t, c, ys, _, v9, v10, v11, v12, v13, rfl, rfl, a4⟩
    exact kR _ _ _ _ _ _ _ _ _ _ _ d gl tl trl t c ys (runL s0 b) b H H4 (runL_ok ok0 b) hb a4 fun p r xs H' s' ep er px => q p r xs H' (a4.sm.trans s') ep (s' _ _ a4.el) (s' _ _ a4.ed) er px
end
end K21

set_option Elab.async false
set_option linter.all false
set_option maxRecDepth 100000
set_option maxHeartbeats 4000000
namespace K21
open PySem L2
section
variable {P : Program} {w : World} {K : PySem.W.Frag} {mg : Str → Option Value} {base : Heap}
theorem ok_law_alone {x0 x1 x2 x3 x4 x5 x6 x7 x8 x9 x10 x11 x12 x13 x14 x15 x16 x17 x18 x19 x20 x21 x22 x23 x24 x25 x26 x27 x28 x29 x30 x31 x32 x33 x34 x35 x36 x37 x38 x39 x40 x41 x42 x43 x44 x45 f : Addr} {e0 e1 e2 e3 e4 e5 e6 e7 e8 e9 e10 e11 e12 e13 e14 e15 e16 e17 e18 e19 e20 e21 e22 e23 e24 e25 e26 e27 e28 e29 e30 e31 e32 e33 e34 e35 e36 e37 e38 e39 e40 e41 e42 e43 e44 e45 fd : FuncData} (F : Fun K "_law_alone" "_law_alone" s_law_alone f fd) (T : Bt mg) (C : Ct K mg)
    (T_op_of : Fn K mg "op_of" s_op_of ["state"] x0 e0) (T_number_of : Fn K mg "number_of" s_number_of ["state"] x1 e1) (T_reaching_ops : Fn K mg "reaching_ops" s_reaching_ops [] x2 e2) (T_parts_read_by_own : Fn K mg "parts_read_by_own" s_parts_read_by_own [] x3 e3) (T_parts_set_by_own : Fn K mg "parts_set_by_own" s_parts_set_by_own [] x4 e4) (T_place_within : Fn K mg "place_within" s_place_within ["state"] x5 e5) (T_asked : Fn K mg "asked" s_asked ["state"] x6 e6) (T_is_barred : Fn K mg "is_barred" s_is_barred ["state"] x7 e7) (T_exchanged : Fn K mg "exchanged" s_exchanged ["state", "changes"] x8 e8) (T_trapped : Fn K mg "trapped" s_trapped ["state", "cause", "place"] x9 e9) (T_fetch : Fn K mg "fetch" s_fetch ["state", "word"] x10 e10) (T_cause_of : Fn K mg "cause_of" s_cause_of ["state"] x11 e11) (T_row_trapped : Fn K mg "row_trapped" s_row_trapped ["state", "cause"] x12 e12) (T_a_by_exchange : Fn K mg "a_by_exchange" s_a_by_exchange ["state"] x13 e13) (T_new_a : Fn K mg "new_a" s_new_a ["state", "word"] x14 e14) (T_new_x : Fn K mg "new_x" s_new_x ["state"] x15 e15) (T_leaps : Fn K mg "leaps" s_leaps ["state"] x16 e16) (T_new_p : Fn K mg "new_p" s_new_p ["state"] x17 e17) (T_own_changes : Fn K mg "own_changes" s_own_changes ["state"] x18 e18) (T_row_done : Fn K mg "row_done" s_row_done ["state", "word"] x19 e19) (T_bell_counted : Fn K mg "bell_counted" s_bell_counted ["state"] x20 e20) (T_written : Fn K mg "written" s_written ["state"] x21 e21) (T_told_word : Fn K mg "told_word" s_told_word ["state"] x22 e22) (T_beat_of : Fn K mg "beat_of" s_beat_of ["state", "word"] x23 e23) (T_law_cell_at : Fn K mg "_law_cell_at" s_law_cell_at ["_law_script", "_law_k"] x24 e24) (T_law_mixed : Fn K mg "_law_mixed" s_law_mixed ["_law_number", "_law_k"] x25 e25) (T_law_names : Fn K mg "_law_names" s_law_names [] x26 e26) (T_law_read : Fn K mg "_law_read" s_law_read ["_law_state"] x27 e27) (T_law_told_of : Fn K mg "_law_told_of" s_law_told_of ["_law_s"] x28 e28) (T_law_wants : Fn K mg "_law_wants" s_law_wants ["_law_s"] x29 e29) (T_law_trapped : Fn K mg "_law_trapped" s_law_trapped ["_law_s", "_law_cause", "_law_place"] x30 e30) (T_law_own : Fn K mg "_law_own" s_law_own ["_law_s", "_law_which"] x31 e31) (T_law_moved : Fn K mg "_law_moved" s_law_moved ["_law_s", "_law_which"] x32 e32) (T_law_row : Fn K mg "_law_row" s_law_row ["_law_s", "_law_op", "_law_number", "_law_word"] x33 e33) (T_law_beat : Fn K mg "_law_beat" s_law_beat ["_law_state", "_law_word"] x34 e34) (T_without_noughts : Fn K mg "without_noughts" s_without_noughts ["memory"] x35 e35) (T_beat_in : Fn K mg "beat_in" s_beat_in ["state", "memory", "told", "trace"] x36 e36) (T_law_words_by : Fn K mg "_law_words_by" s_law_words_by ["_law_cells", "_law_number"] x37 e37) (T_first_state : Fn K mg "first_state" s_first_state [] x38 e38) (T_stretch : Fn K mg "stretch" s_stretch ["state", "memory", "beats"] x39 e39) (T_end_by : Fn K mg "end_by" s_end_by ["state"] x40 e40) (T_behind_call : Fn K mg "behind_call" s_behind_call ["state", "told", "left"] x41 e41) (T_lone : Fn K mg "lone" s_lone ["image", "given", "beats"] x42 e42) (T_law_heard : Fn K mg "_law_heard" s_law_heard ["_law_s", "_law_given", "_law_told"] x43 e43) (T_law_alone : Fn K mg "_law_alone" s_law_alone ["_law_image_here", "_law_given", "_law_beats"] x44 e44) (T_law_image : Fn K mg "_law_image" s_law_image ["_law_script"] x45 e45) : FnOk P w K mg base CX0 8 f fd ["_law_image_here", "_law_given", "_law_beats"] sp_alone := by
  refine F.ok (k := 7) sc_law_alone (fun vs H Q E h => ?_) (fun cdv A outer s H vs Q E hr h => ?_)
  · obtain ⟨im, gv, words, given, b, rfl, _⟩ := h; rfl
  · obtain ⟨im, gv, words, given, b, rfl, eim, egv, hwl, hw, hg9, hg, hb, q⟩ := h
    have hs : sizeLine = 16777216 := sizeLine_eq
    obtain ⟨uB, hB, kB⟩ := alone_B (P := P) (w := w) (base := base) (f := f) (cdv := cdv) (outer := outer) (H0 := H) (E := E) T C T_op_of T_number_of T_reaching_ops T_parts_read_by_own T_parts_set_by_own T_place_within T_asked T_is_barred T_exchanged T_trapped T_fetch T_cause_of T_row_trapped T_a_by_exchange T_new_a T_new_x T_leaps T_new_p T_own_changes T_row_done T_bell_counted T_written T_told_word T_beat_of T_law_cell_at T_law_mixed T_law_names T_law_read T_law_told_of T_law_wants T_law_trapped T_law_own T_law_moved T_law_row T_law_beat T_without_noughts T_beat_in T_law_words_by T_first_state T_stretch T_end_by T_behind_call T_lone T_law_heard T_law_alone T_law_image hr
    refine ⟨_, (pss_cons (ps_set (i := 3) sc_law_alone.nd rfl (Or.inl rfl) pe_dnewK)
      (pss_cons (ps_for PassesOwn.never rfl (pi_range1 rfl T.b_range (pa_cons (pe_callB call_len_seq rfl T.b_len (by decide +kernel) (pa_cons (pv 0) pa_nil)) pa_nil)) (pg_name (i := 4) sc_law_alone.nd rfl (Or.inl rfl))
        (pss_one (ps_dput (hu_of hr) (pv 3) (pv 4) (pe_ix ix_list (pv 0) (pv 4) (fun _ _ => rfl)) rfl)))
      (pss_cons (ps_set (i := 5) sc_law_alone.nd rfl (Or.inl rfl) (pe_op op_catT (pe_tup (pa_cons pe_int (pa_cons pe_int (pa_cons pe_int (pa_cons pe_int (pa_cons pe_int (pa_cons pe_int (pa_cons pe_int (pa_cons (pe_callB call_len_seq rfl T.b_len (by decide +kernel) (pa_cons (pv 0) pa_nil)) pa_nil))))))))) (pe_op (op_repT1 (K := K)) (pe_tup (pa_cons pe_int pa_nil)) pe_int)))
      (pss_cons (ps_set (i := 1) sc_law_alone.nd rfl (Or.inl rfl) (pe_callTy call_list_of rfl T.b_list (by decide +kernel) (pa_cons (pv 1) pa_nil)))
      (pss_cons (ps_set (i := 6) sc_law_alone.nd rfl (Or.inl rfl) (pe_lst pa_nil))
      (pss_cons (ps_set (i := 7) sc_law_alone.nd rfl (Or.inl rfl) (pe_lst (pa_cons (pe_lst pa_nil) pa_nil)))
      (pss_cons (ps_set (i := 8) sc_law_alone.nd rfl (Or.inl rfl) pe_str)
      hB))))))), ?_⟩
    intro d hd
    have y1 := Same.put (o := .dK []) hd
    have ed : upd H d (.dK []) d = some (.dK []) := upd_same
    generalize upd H d (.dK []) = H1 at y1 ed ⊢
    refine ⟨_, rfl, im, _, rfl, .inl (SqL.of (y1 _ _ eim)), _, rfl, by rw [List.length_map]; omega, by rw [List.length_map]; omega, ?_⟩
    refine for_range (lo := 0) (n := (((words.map V.int).length : Nat) : Int).toNat) (fun i σ H2 => ∃ (v4 : Option V), σ = [some (.ref im), some (.ref gv), some (.int (b : Int)), some (.ref d), v4, none, none, none, none, none, none, none, none, none] ∧ Same H H2 ∧ H2 d = some (.dK (enKV ((words.map V.int).take i)))) ⟨_, rfl, y1, by rw [List.take_zero]; exact ed⟩ ?_ ?_
    · rintro i σ H2 hi ⟨v4, rfl, s2, ed2⟩
      rw [Int.toNat_natCast, List.length_map] at hi
      obtain ⟨x, hx⟩ : ∃ x, words[i]? = some x := ⟨words[i], List.getElem?_eq_getElem hi⟩
      have hxV : (words.map V.int)[i]? = some (V.int x) := by rw [List.getElem?_map, hx]; rfl
      have ex : atI (words.map V.int) (0 + (i : Int)) = some (V.int x) := by rw [Int.zero_add]; exact atI_nat hxV
      refine ⟨_, rfl, _, rfl, im, _, _, _, rfl, rfl, SqL.of (s2 _ _ eim), ex, _, rfl, _, rfl, d, _, rfl, DPut.k (k := .inl (0 + (i : Int))) ed2 (by rw [enKV_len, List.length_take]; omega), ?_⟩
      rw [Int.zero_add, en_put hxV]
      exact ⟨_, rfl, Kl.same s2 hd Kl.one, upd_same⟩
    · rintro σ H2 ⟨v4, rfl, s2, ed2⟩
      rw [Int.toNat_natCast, List.take_of_length_le (Nat.le_refl _)] at ed2
      refine ⟨_, rfl, im, _, rfl, .inl (SqL.of (s2 _ _ eim)), (by show 8 ≤ sizeLine; omega), fun p1 h1 => ?_⟩
      rw [List.length_map]
      have z1 := Same.put (o := .tup [V.int 0, V.int 0, V.int 0, V.int 0, V.int 0, V.int 1, V.int 0, V.int ((words.length : Nat) : Int)]) h1
      have e1 : upd H2 p1 (.tup [V.int 0, V.int 0, V.int 0, V.int 0, V.int 0, V.int 1, V.int 0, V.int ((words.length : Nat) : Int)]) p1 = some (.tup [V.int 0, V.int 0, V.int 0, V.int 0, V.int 0, V.int 1, V.int 0, V.int ((words.length : Nat) : Int)]) := upd_same
      generalize upd H2 p1 (.tup [V.int 0, V.int 0, V.int 0, V.int 0, V.int 0, V.int 1, V.int 0, V.int ((words.length : Nat) : Int)]) = H3 at z1 e1 ⊢
      refine ⟨(by show 1 ≤ sizeLine; omega), fun p2 h2 => ?_⟩
      have z2 := Same.put (o := .tup [V.int 0]) h2
      have e2 : upd H3 p2 (.tup [V.int 0]) p2 = some (.tup [V.int 0]) := upd_same
      generalize upd H3 p2 (.tup [V.int 0]) = H4 at z2 e2 ⊢
      refine ⟨p2, 7, _, rfl, rfl, SqT.of e2, by decide, by decide, fun p3 h3 => ?_⟩
      have z3 := Same.put (o := .tup (List.replicate (7 : Int).toNat (V.int 0))) h3
      have e3 : upd H4 p3 (.tup (List.replicate (7 : Int).toNat (V.int 0))) p3 = some (.tup (List.replicate (7 : Int).toNat (V.int 0))) := upd_same
      generalize upd H4 p3 (.tup (List.replicate (7 : Int).toNat (V.int 0))) = H5 at z3 e3 ⊢
      refine ⟨p1, p3, _, _, rfl, rfl, SqT.of ((z2.trans z3) _ _ e1), SqT.of e3, by simp, (by show 15 ≤ sizeLine; omega), fun z => (by cases z), fun _ t ht => ?_⟩
      have y6 := Same.put (o := .tup ((startSt words.length).map V.int)) ht
      have et : upd H5 t (.tup ((startSt words.length).map V.int)) t = some (.tup ((startSt words.length).map V.int)) := upd_same
      show gName _ _ _ (upd H5 t (.tup ((startSt words.length).map V.int))) _
      generalize upd H5 t (.tup ((startSt words.length).map V.int)) = H6 at y6 et ⊢
      have s5 : Same H H5 := s2.trans (z1.trans (z2.trans z3))
      have s6 := s5.trans y6
      have ed6 : H6 d = some (.dK (enKV (words.map V.int))) := y6 _ _ ((z1.trans (z2.trans z3)) _ _ ed2)
      refine ⟨_, rfl, gv, _, rfl, .inl (SqL.of (s6 _ _ egv)), fun gl hgl => ?_⟩
      have y7 := Same.put (o := .lst (given.map V.int)) hgl
      have eg : upd H6 gl (.lst (given.map V.int)) gl = some (.lst (given.map V.int)) := upd_same
      generalize upd H6 gl (.lst (given.map V.int)) = H7 at y7 eg ⊢
      refine ⟨Nat.zero_le _, fun tl htl => ?_⟩
      have y8 := Same.put (o := .lst []) htl
      have el : upd H7 tl (.lst []) tl = some (.lst []) := upd_same
      generalize upd H7 tl (.lst []) = H8 at y8 el ⊢
      refine ⟨Nat.zero_le _, fun c hc => ?_⟩
      have y9 := Same.put (o := .lst []) hc
      have ec : upd H8 c (.lst []) c = some (.lst []) := upd_same
      generalize upd H8 c (.lst []) = H9 at y9 ec ⊢
      refine ⟨(by show 1 ≤ sizeLine; omega), fun trl htr => ?_⟩
      have y10 := Same.put (o := .lst [V.ref c]) htr
      have er : upd H9 trl (.lst [V.ref c]) trl = some (.lst [V.ref c]) := upd_same
      generalize upd H9 trl (.lst [V.ref c]) = H10 at y10 er ⊢
      have s7 := s6.trans y7
      have s8 := s7.trans y8
      have s9 := s8.trans y9
      have s10 := s9.trans y10
      have n1 : tl ≠ gl := fun z => by rw [z, eg] at htl; cases htl
      have n2 : tl ≠ trl := fun z => by rw [← z, y9 _ _ el] at htr; cases htr
      have n3 : gl ≠ trl := fun z => by rw [← z, (y8.trans y9) _ _ eg] at htr; cases htr
      have n4 : c ≠ tl := fun z => by rw [z, el] at hc; cases hc
      have n5 : c ≠ gl := fun z => by rw [z, y8 _ _ eg] at hc; cases hc
      have n6 : c ≠ trl := fun z => by rw [← z, ec] at htr; cases htr
      refine kB _ _ _ _ _ _ _ _ d gl tl trl t c (startL words given) b H H10 (start_ok hwl hw hg hg9) rfl hb ⟨s10, ?_, ?_, ?_, ?_, er, .nil, ⟨c, [], rfl, y10 _ _ ec, .nil⟩, ?_⟩ hd (s7.free htl) (s6.free hgl) (s9.free htr) n1 n2 n3 fun p r xs H' s' ep el' ed' er' px => q p tl d r xs H' s' ep el' ed' er' px hd
      · exact (((y7.trans y8).trans y9).trans y10) _ _ et
      · exact (((y7.trans y8).trans y9).trans y10) _ _ ed6
      · exact ((y8.trans y9).trans y10) _ _ eg
      · exact (y9.trans y10) _ _ el
      · exact TrsNew.nil.snoc (s8.free hc) (by simp [n4, n5, n6]) (by simp)
end
end K21

set_option Elab.async false
set_option linter.all false
set_option maxRecDepth 100000
set_option maxHeartbeats 4000000
namespace K21
open PySem L2
theorem pick4 {x0 x1 x2 x3 how : Int} (h : 0 ≤ how ∧ how < 4) : ∃ c, atI [V.int x0, V.int x1, V.int x2, V.int x3] how = some (.int c) ∧ (c = x0 ∨ c = x1 ∨ c = x2 ∨ c = x3) := by
  have : how = 0 ∨ how = 1 ∨ how = 2 ∨ how = 3 := by omega
  rcases this with rfl | rfl | rfl | rfl
  · exact ⟨x0, rfl, .inl rfl⟩
  · exact ⟨x1, rfl, .inr (.inl rfl)⟩
  · exact ⟨x2, rfl, .inr (.inr (.inl rfl))⟩
  · exact ⟨x3, rfl, .inr (.inr (.inr rfl))⟩
def ops16 : List Int := [0, 1, 2, 3, 4, 5, 7, 8, 9, 10, 11, 6, 12, 13, 14, 15]
abbrev wbL : List Expr := [ (PySem.Expr.Constant (PySem.Const.int 0) 0 ⟨363, 23, 363, 24⟩), (PySem.Expr.Constant (PySem.Const.int 1) 0 ⟨363, 26, 363, 27⟩), (PySem.Expr.Constant (PySem.Const.int 2) 0 ⟨363, 29, 363, 30⟩), (PySem.Expr.Constant (PySem.Const.int 3) 0 ⟨363, 32, 363, 33⟩), (PySem.Expr.Constant (PySem.Const.int 4) 0 ⟨363, 35, 363, 36⟩), (PySem.Expr.Constant (PySem.Const.int 5) 0 ⟨363, 38, 363, 39⟩), (PySem.Expr.Constant (PySem.Const.int 7) 0 ⟨363, 41, 363, 42⟩), (PySem.Expr.Constant (PySem.Const.int 8) 0 ⟨363, 44, 363, 45⟩), (PySem.Expr.Constant (PySem.Const.int 9) 0 ⟨363, 47, 363, 48⟩), (PySem.Expr.Constant (PySem.Const.int 10) 0 ⟨363, 50, 363, 52⟩), (PySem.Expr.Constant (PySem.Const.int 11) 0 ⟨363, 54, 363, 56⟩), (PySem.Expr.Constant (PySem.Const.int 6) 0 ⟨363, 58, 363, 59⟩), (PySem.Expr.Constant (PySem.Const.int 12) 0 ⟨363, 61, 363, 63⟩), (PySem.Expr.Constant (PySem.Const.int 13) 0 ⟨363, 65, 363, 67⟩), (PySem.Expr.Constant (PySem.Const.int 14) 0 ⟨363, 69, 363, 71⟩), (PySem.Expr.Constant (PySem.Const.int 15) 0 ⟨363, 73, 363, 75⟩)]
abbrev wbF (es : List Expr) : Stmt := (PySem.Stmt.For (target := (PySem.Expr.Name "_law_k" ⟨357, 8, 357, 14⟩)) (iter := (PySem.Expr.Call (func := (PySem.Expr.Name "range" ⟨357, 18, 357, 23⟩)) (args := [ (PySem.Expr.Call (func := (PySem.Expr.Name "len" ⟨357, 24, 357, 27⟩)) (args := [(PySem.Expr.Name "_law_cells" ⟨357, 28, 357, 38⟩)]) (keywords := []) (pos := ⟨357, 24, 357, 39⟩))]) (keywords := []) (pos := ⟨357, 18, 357, 40⟩))) (body := [ (PySem.Stmt.Assign (targets := [(PySem.Expr.Name "_law_cell" ⟨358, 8, 358, 17⟩)]) (value := (PySem.Expr.Subscript (value := (PySem.Expr.Name "_law_cells" ⟨358, 20, 358, 30⟩)) (slice := (PySem.Expr.Name "_law_k" ⟨358, 31, 358, 37⟩)) (pos := ⟨358, 20, 358, 38⟩))) (pos := ⟨358, 8, 358, 38⟩)), (PySem.Stmt.If (test := (PySem.Expr.Compare (left := (PySem.Expr.BinOp (left := (PySem.Expr.BinOp (left := (PySem.Expr.Name "_law_cell" ⟨359, 12, 359, 21⟩)) (op := PySem.Operator.Add) (right := (PySem.Expr.Name "_law_number" ⟨359, 24, 359, 35⟩)) (pos := ⟨359, 12, 359, 35⟩))) (op := PySem.Operator.Mod) (right := (PySem.Expr.Constant (PySem.Const.int 3) 0 ⟨359, 39, 359, 40⟩)) (pos := ⟨359, 11, 359, 40⟩))) (ops := [PySem.CmpOp.Eq]) (comparators := [(PySem.Expr.Constant (PySem.Const.int 0) 0 ⟨359, 44, 359, 45⟩)]) (pos := ⟨359, 11, 359, 45⟩))) (body := [ (PySem.Stmt.Expr (value := (PySem.Expr.Call (func := (PySem.Expr.Attribute (PySem.Expr.Name "_law_words" ⟨360, 12, 360, 22⟩) "append" ⟨360, 12, 360, 29⟩)) (args := [ (PySem.Expr.BinOp (left := (PySem.Expr.BinOp (left := (PySem.Expr.Name "_law_cell" ⟨360, 30, 360, 39⟩)) (op := PySem.Operator.FloorDiv) (right := (PySem.Expr.Constant (PySem.Const.int 3) 0 ⟨360, 43, 360, 44⟩)) (pos := ⟨360, 30, 360, 44⟩))) (op := PySem.Operator.Mod) (right := (PySem.Expr.Constant (PySem.Const.int 65536) 0 ⟨360, 47, 360, 52⟩)) (pos := ⟨360, 30, 360, 52⟩))]) (keywords := []) (pos := ⟨360, 12, 360, 53⟩))) (pos := ⟨360, 12, 360, 53⟩))]) (orelse := [ (PySem.Stmt.Assign (targets := [(PySem.Expr.Name "_law_drawn_here" ⟨362, 12, 362, 27⟩)]) (value := (PySem.Expr.Call (func := (PySem.Expr.Name "_law_mixed" ⟨362, 30, 362, 40⟩)) (args := [ (PySem.Expr.Name "_law_cell" ⟨362, 41, 362, 50⟩), (PySem.Expr.BinOp (left := (PySem.Expr.Constant (PySem.Const.int 7) 0 ⟨362, 52, 362, 53⟩)) (op := PySem.Operator.Add) (right := (PySem.Expr.Name "_law_k" ⟨362, 56, 362, 62⟩)) (pos := ⟨362, 52, 362, 62⟩))]) (keywords := []) (pos := ⟨362, 30, 362, 63⟩))) (pos := ⟨362, 12, 362, 63⟩)), (PySem.Stmt.Assign (targets := [(PySem.Expr.Name "_law_op" ⟨363, 12, 363, 19⟩)]) (value := (PySem.Expr.Subscript (value := (PySem.Expr.List (elts := es) (pos := ⟨363, 22, 363, 76⟩))) (slice := (PySem.Expr.Call (func := (PySem.Expr.Name "min" ⟨363, 77, 363, 80⟩)) (args := [ (PySem.Expr.BinOp (left := (PySem.Expr.Name "_law_drawn_here" ⟨363, 81, 363, 96⟩)) (op := PySem.Operator.Mod) (right := (PySem.Expr.Constant (PySem.Const.int 20) 0 ⟨363, 99, 363, 101⟩)) (pos := ⟨363, 81, 363, 101⟩)), (PySem.Expr.Constant (PySem.Const.int 15) 0 ⟨363, 103, 363, 105⟩)]) (keywords := []) (pos := ⟨363, 77, 363, 106⟩))) (pos := ⟨363, 22, 363, 107⟩))) (pos := ⟨363, 12, 363, 107⟩)), (PySem.Stmt.Assign (targets := [(PySem.Expr.Name "_law_some" ⟨364, 12, 364, 21⟩)]) (value := (PySem.Expr.BinOp (left := (PySem.Expr.Name "_law_drawn_here" ⟨364, 24, 364, 39⟩)) (op := PySem.Operator.FloorDiv) (right := (PySem.Expr.Constant (PySem.Const.int 20) 0 ⟨364, 43, 364, 45⟩)) (pos := ⟨364, 24, 364, 45⟩))) (pos := ⟨364, 12, 364, 45⟩)), (PySem.Stmt.Assign (targets := [(PySem.Expr.Name "_law_reach" ⟨365, 12, 365, 22⟩)]) (value := (PySem.Expr.Subscript (value := (PySem.Expr.List (elts := [ (PySem.Expr.BinOp (left := (PySem.Expr.Name "_law_some" ⟨365, 26, 365, 35⟩)) (op := PySem.Operator.Mod) (right := (PySem.Expr.Constant (PySem.Const.int 16) 0 ⟨365, 38, 365, 40⟩)) (pos := ⟨365, 26, 365, 40⟩)), (PySem.Expr.BinOp (left := (PySem.Expr.Name "_law_some" ⟨365, 42, 365, 51⟩)) (op := PySem.Operator.Mod) (right := (PySem.Expr.Call (func := (PySem.Expr.Name "len" ⟨365, 54, 365, 57⟩)) (args := [(PySem.Expr.Name "_law_cells" ⟨365, 58, 365, 68⟩)]) (keywords := []) (pos := ⟨365, 54, 365, 69⟩))) (pos := ⟨365, 42, 365, 69⟩)), (PySem.Expr.BinOp (left := (PySem.Expr.Name "_law_some" ⟨365, 71, 365, 80⟩)) (op := PySem.Operator.Mod) (right := (PySem.Expr.Constant (PySem.Const.int 4) 0 ⟨365, 83, 365, 84⟩)) (pos := ⟨365, 71, 365, 84⟩)), (PySem.Expr.BinOp (left := (PySem.Expr.Name "_law_some" ⟨365, 86, 365, 95⟩)) (op := PySem.Operator.Mod) (right := (PySem.Expr.Constant (PySem.Const.int 4096) 0 ⟨365, 98, 365, 102⟩)) (pos := ⟨365, 86, 365, 102⟩))]) (pos := ⟨365, 25, 365, 103⟩))) (slice := (PySem.Expr.BinOp (left := (PySem.Expr.BinOp (left := (PySem.Expr.Name "_law_some" ⟨365, 104, 365, 113⟩)) (op := PySem.Operator.FloorDiv) (right := (PySem.Expr.Constant (PySem.Const.int 4096) 0 ⟨365, 117, 365, 121⟩)) (pos := ⟨365, 104, 365, 121⟩))) (op := PySem.Operator.Mod) (right := (PySem.Expr.Constant (PySem.Const.int 4) 0 ⟨365, 124, 365, 125⟩)) (pos := ⟨365, 104, 365, 125⟩))) (pos := ⟨365, 25, 365, 126⟩))) (pos := ⟨365, 12, 365, 126⟩)), (PySem.Stmt.Expr (value := (PySem.Expr.Call (func := (PySem.Expr.Attribute (PySem.Expr.Name "_law_words" ⟨366, 12, 366, 22⟩) "append" ⟨366, 12, 366, 29⟩)) (args := [ (PySem.Expr.BinOp (left := (PySem.Expr.BinOp (left := (PySem.Expr.Name "_law_op" ⟨366, 30, 366, 37⟩)) (op := PySem.Operator.Mult) (right := (PySem.Expr.Constant (PySem.Const.int 4096) 0 ⟨366, 40, 366, 44⟩)) (pos := ⟨366, 30, 366, 44⟩))) (op := PySem.Operator.Add) (right := (PySem.Expr.Name "_law_reach" ⟨366, 47, 366, 57⟩)) (pos := ⟨366, 30, 366, 57⟩))]) (keywords := []) (pos := ⟨366, 12, 366, 58⟩))) (pos := ⟨366, 12, 366, 58⟩))]) (pos := ⟨359, 8, 366, 58⟩))]) (orelse := []) (pos := ⟨357, 4, 366, 58⟩))
theorem body_wby : defBody s_law_words_by = [(defBody s_law_words_by).getD 0 (.Pass ⟨0, 0, 0, 0⟩), wbF wbL, (defBody s_law_words_by).getD 2 (.Pass ⟨0, 0, 0, 0⟩)] := by kernel_rfl
theorem lits_wby : litsV wbL = some (ops16.map V.int) := by kernel_rfl
theorem body_wby' : ∃ es, defBody s_law_words_by = [(defBody s_law_words_by).getD 0 (.Pass ⟨0, 0, 0, 0⟩), wbF es, (defBody s_law_words_by).getD 2 (.Pass ⟨0, 0, 0, 0⟩)] ∧ litsV es = some (ops16.map V.int) := ⟨wbL, body_wby, lits_wby⟩
theorem ops_sz : (ops16.map V.int).length ≤ sizeLine := by rw [List.length_map, sizeLine_eq]; decide
theorem ops_bd : ∀ n ∈ ops16, 0 ≤ n ∧ n ≤ 15 := by decide
def sp_wby : Sp := fun vs H Q _ => ∃ (l : Addr) (cs : List Int) (n : Int), vs = [.ref l, .int n] ∧ H l = some (.lst (cs.map V.int)) ∧ cs.length ≤ 63 ∧ ∀ (r : Addr) (H' : Hp) (ws : List Int), H r = none → Same H H' → ws.length = cs.length → (∀ w ∈ ws, 0 ≤ w ∧ w < 65536) → H' r = some (.lst (ws.map V.int)) → Q (.ref r) H'
section
variable {P : Program} {w : World} {K : PySem.W.Frag} {mg : Str → Option Value} {base : Heap}
theorem sc_law_words_by : FnScope ["_law_cells", "_law_number", "_law_words", "_law_k", "_law_cell", "_law_drawn_here", "_law_op", "_law_some", "_law_reach"] ["_law_cells", "_law_number"] (defScope s_law_words_by) := ⟨rfl, rfl, rfl, by decide +kernel, rfl, by decide +kernel, by decide +kernel⟩
theorem ok_law_words_by {f x1 : Addr} {fd e1 : FuncData} (F : Fun K "_law_words_by" "_law_words_by" s_law_words_by f fd) (T : Bt mg) (T_law_mixed : Fn K mg "_law_mixed" s_law_mixed ["_law_number", "_law_k"] x1 e1) : FnOk P w K mg base CX0 2 f fd ["_law_cells", "_law_number"] sp_wby := by
  have G_law_mixed := ok_law_mixed (P := P) (w := w) (mg := mg) (base := base) T_law_mixed.F
  refine F.ok sc_law_words_by (fun vs H Q E h => ?_) (fun cdv A outer s H vs Q E hr h => ?_)
  · obtain ⟨l, cs, n, rfl, _⟩ := h; rfl
  · obtain ⟨l, cs, n, rfl, el, hcs, q⟩ := h
    have hs : sizeLine = 16777216 := sizeLine_eq
    obtain ⟨es, bt, hes⟩ := body_wby'
    have hT : PSs (cxOf CX0 P w K mg base ["_law_cells", "_law_number", "_law_words", "_law_k", "_law_cell", "_law_drawn_here", "_law_op", "_law_some", "_law_reach"] "_law_words_by" (defScope s_law_words_by) f cdv A outer s H E).nox [(defBody s_law_words_by).getD 0 (.Pass ⟨0, 0, 0, 0⟩), wbF es, (defBody s_law_words_by).getD 2 (.Pass ⟨0, 0, 0, 0⟩)] _ := (pss_cons (ps_set (i := 2) sc_law_words_by.nd rfl (Or.inl rfl) (pe_lst pa_nil))
      (pss_cons (ps_for PassesOwn.never rfl (pi_range1 rfl T.b_range (pa_cons (pe_callB call_len_seq rfl T.b_len (by decide +kernel) (pa_cons (pv 0) pa_nil)) pa_nil)) (pg_name (i := 3) sc_law_words_by.nd rfl (Or.inl rfl))
        (pss_cons (ps_set (i := 4) sc_law_words_by.nd rfl (Or.inl rfl) (pe_ix ix_list (pv 0) (pv 3) (fun _ _ => rfl)))
        (pss_one (ps_if (pt_cmpR op_eq (pe_op op_mod (pe_op op_add (pv 4) (pv 1)) pe_int) pe_int (nomark _))
          (pss_one (ps_expr (pe_bm PySem.F.plainAttrs_list PySem.F.slot_list_append PySem.F.type_list_append mt_append (pv 2) (pa_cons (pe_op op_mod (pe_op op_fdiv (pv 4) pe_int) pe_int) pa_nil))))
          (pss_cons (ps_set (i := 5) sc_law_words_by.nd rfl (Or.inl rfl) (pe_call G_law_mixed (hr.mono (by decide)) rfl T_law_mixed.m T_law_mixed.F.kp T_law_mixed.b .nil pass0 (pa_cons (pv 4) (pa_cons (pe_op op_add pe_int (pv 3)) pa_nil))))
          (pss_cons (ps_set (i := 6) sc_law_words_by.nd rfl (Or.inl rfl) (pe_ix ix_list (pe_lst (pa_lits hes)) (pe_callB (call_min2 rfl) rfl T.b_min (by decide +kernel) (pa_cons (pe_op op_mod (pv 5) pe_int) (pa_cons pe_int pa_nil))) (fun _ _ => rfl)))
          (pss_cons (ps_set (i := 7) sc_law_words_by.nd rfl (Or.inl rfl) (pe_op op_fdiv (pv 5) pe_int))
          (pss_cons (ps_set (i := 8) sc_law_words_by.nd rfl (Or.inl rfl) (pe_ix ix_list (pe_lst (pa_cons (pe_op op_mod (pv 7) pe_int) (pa_cons (pe_op op_mod (pv 7) (pe_callB call_len_seq rfl T.b_len (by decide +kernel) (pa_cons (pv 0) pa_nil))) (pa_cons (pe_op op_mod (pv 7) pe_int) (pa_cons (pe_op op_mod (pv 7) pe_int) pa_nil))))) (pe_op op_mod (pe_op op_fdiv (pv 7) pe_int) pe_int) (fun _ _ => rfl)))
          (pss_one (ps_expr (pe_bm PySem.F.plainAttrs_list PySem.F.slot_list_append PySem.F.type_list_append mt_append (pv 2) (pa_cons (pe_op op_add (pe_op op_mul (pv 6) pe_int) (pv 8)) pa_nil))))))))))))
      (pss_one (ps_ret (pv 2)))))
    rw [← bt] at hT
    refine ⟨_, hT, ?_⟩
    refine ⟨Nat.zero_le _, fun r hr0 => ?_⟩
    have y0 := Same.put (o := .lst []) hr0
    have er : upd H r (.lst []) r = some (.lst (([] : List Int).map V.int)) := upd_same
    generalize upd H r (.lst []) = H1 at y0 er ⊢
    refine ⟨_, rfl, l, _, rfl, .inl (SqL.of (y0 _ _ el)), _, rfl, by rw [List.length_map]; omega, by rw [List.length_map]; omega, ?_⟩
    refine for_range (lo := 0) (n := (((cs.map V.int).length : Nat) : Int).toNat) (fun i σ H2 => ∃ (v3 v4 v5 v6 v7 v8 : Option V) (ws : List Int), σ = [some (.ref l), some (.int n), some (.ref r), v3, v4, v5, v6, v7, v8] ∧ Same H H2 ∧ ws.length = i ∧ (∀ w ∈ ws, 0 ≤ w ∧ w < 65536) ∧ H2 r = some (.lst (ws.map V.int)))
      ⟨_, _, _, _, _, _, [], rfl, y0, rfl, fun w h => by (cases h), er⟩ ?_ ?_
    · rintro i σ H2 hi ⟨v3, v4, v5, v6, v7, v8, ws, rfl, s2, hw, hb, e2⟩
      rw [Int.toNat_natCast, List.length_map] at hi
      have el2 := s2 _ _ el
      have add : ∀ (v : Int) (H3 : Hp) (w3 w4 w5 w6 w7 w8 : Option V), 0 ≤ v ∧ v < 65536 → Same H H3 → H3 r = some (.lst (ws.map V.int)) → ∃ (v3 v4 v5 v6 v7 v8 : Option V) (ws' : List Int), [some (V.ref l), some (V.int n), some (V.ref r), w3, w4, w5, w6, w7, w8] = [some (.ref l), some (.int n), some (.ref r), v3, v4, v5, v6, v7, v8] ∧ Same H (upd H3 r (.lst (ws.map V.int ++ [V.int v]))) ∧ ws'.length = i + 1 ∧ (∀ w ∈ ws', 0 ≤ w ∧ w < 65536) ∧ upd H3 r (.lst (ws.map V.int ++ [V.int v])) r = some (.lst (ws'.map V.int)) := fun v H3 w3 w4 w5 w6 w7 w8 hv s3 e3 =>
        ⟨_, _, _, _, _, _, ws ++ [v], rfl, Kl.same s3 hr0 Kl.one, by rw [List.length_append, hw]; rfl, fun x hx => by
          rcases List.mem_append.mp hx with z | z
          · exact hb x z
          · rw [List.mem_singleton.mp z]; exact hv, by rw [upd_same, List.map_append]; rfl⟩
      obtain ⟨c, _, ec⟩ := atI_ix (ns := cs) (i := 0 + (i : Int)) (by omega) (by rw [List.length_map]; omega)
      refine ⟨_, rfl, _, rfl, l, _, _, _, rfl, rfl, SqL.of el2, ec, ?_⟩
      refine ⟨_, rfl, _, rfl, _, _, rfl, rfl, _, _, rfl, rfl, (by show (0 : Int) < 3; decide), rfl, _, rfl, ite2 (fun _ => ?_) (fun _ => ?_)⟩
      · refine ⟨_, rfl, .inl ⟨rfl, _, SqL.of e2⟩, _, rfl, _, _, rfl, rfl, ⟨by decide, by decide⟩, _, _, rfl, rfl, (by show (0 : Int) < 65536; decide), r, _, _, rfl, rfl, e2, (by rw [List.length_map]; omega), ?_⟩
        exact add _ _ _ _ _ _ _ _ ⟨Int.emod_nonneg _ (by decide), Int.emod_lt_of_pos _ (by decide)⟩ s2 e2
      · refine ⟨_, rfl, _, rfl, _, _, rfl, rfl, c, 7 + (0 + (i : Int)), rfl, by omega, by omega, fun dr h0 h1 => ?_⟩
        refine ⟨ops_sz, fun L hL => ?_⟩
        have y3 := Same.put (o := .lst (ops16.map V.int)) hL
        have eL : upd H2 L (.lst (ops16.map V.int)) L = some (.lst (ops16.map V.int)) := upd_same
        generalize upd H2 L (.lst (ops16.map V.int)) = H3 at y3 eL ⊢
        have m1 := Int.emod_nonneg dr (b := 20) (by decide)
        obtain ⟨ix, hix⟩ : ∃ z : Int, z = if 15 < dr % 20 then 15 else dr % 20 := ⟨_, rfl⟩
        have hx : 0 ≤ ix ∧ ix < 16 := by rw [hix]; split <;> omega
        obtain ⟨op, hop, eop⟩ := atI_ix (ns := ops16) (i := ix) hx.1 (by rw [List.length_map]; show ix < 16; omega)
        have bop := ops_bd op hop
        refine ⟨_, rfl, _, _, rfl, rfl, (by show (0 : Int) < 20; decide), _, _, rfl, ?_⟩
        rw [← hix]
        refine ⟨L, _, _, _, rfl, rfl, SqL.of eL, eop, ?_⟩
        have s3 := s2.trans y3
        refine ⟨_, rfl, _, _, rfl, rfl, ⟨by decide, by decide⟩, ?_⟩
        have so0 : 0 ≤ dr / 20 := Int.ediv_nonneg h0 (by decide)
        obtain ⟨so, hso⟩ : ∃ z : Int, dr / 20 = z := ⟨_, rfl⟩
        have eso : (fun i j => V.int (i / j)) dr 20 = V.int so := congrArg V.int hso
        rw [eso]
        refine ⟨_, rfl, _, _, rfl, rfl, (by show (0 : Int) < 16; decide), _, rfl, _, rfl, l, _, rfl, .inl (SqL.of (s3 _ _ el)), _, _, rfl, rfl, (by rw [List.length_map]; omega), _, rfl, _, _, rfl, rfl, (by show (0 : Int) < 4; decide), _, rfl, _, _, rfl, rfl, (by show (0 : Int) < 4096; decide), (by show 4 ≤ sizeLine; omega), fun L2 hL2 => ?_⟩
        have hcl : (0 : Int) < (((cs.map V.int).length : Nat) : Int) := by rw [List.length_map]; omega
        have hcl2 : (((cs.map V.int).length : Nat) : Int) ≤ 63 := by rw [List.length_map]; omega
        have g : ∀ m : Int, 0 < m → 0 ≤ so % m ∧ so % m < m := fun m hm => ⟨Int.emod_nonneg _ (by omega), Int.emod_lt_of_pos _ hm⟩
        obtain ⟨re, ere, hre⟩ := pick4 (x0 := so % 16) (x1 := so % (((cs.map V.int).length : Nat) : Int)) (x2 := so % 4) (x3 := so % 4096) (how := so / 4096 % 4) ⟨Int.emod_nonneg _ (by decide), Int.emod_lt_of_pos _ (by decide)⟩
        have bre : 0 ≤ re ∧ re < 4096 := by
          have g1 := g 16 (by decide)
          have g2 := g _ hcl
          have g3 := g 4 (by decide)
          have g4 := g 4096 (by decide)
          rcases hre with h | h | h | h <;> rw [h] <;> omega
        have y4 := Same.put (o := .lst [V.int (so % 16), V.int (so % (((cs.map V.int).length : Nat) : Int)), V.int (so % 4), V.int (so % 4096)]) hL2
        refine ⟨_, rfl, _, _, rfl, rfl, ⟨by decide, by decide⟩, _, _, rfl, rfl, (by show (0 : Int) < 4; decide), L2, _, _, _, rfl, rfl, SqL.of upd_same, ere, ?_⟩
        have s4 := s3.trans y4
        have e4 := (y3.trans y4) _ _ e2
        generalize upd H3 L2 (.lst [V.int (so % 16), V.int (so % (((cs.map V.int).length : Nat) : Int)), V.int (so % 4), V.int (so % 4096)]) = H4 at s4 e4 ⊢
        refine ⟨_, rfl, .inl ⟨rfl, _, SqL.of e4⟩, _, rfl, _, _, rfl, rfl, cmul_r (by decide) (by decide), _, rfl, _, _, rfl, rfl, r, _, _, rfl, rfl, e4, (by rw [List.length_map]; omega), ?_⟩
        exact add (op * 4096 + re) _ _ _ _ _ _ _ (by omega) s4 e4
    · rintro σ H2 ⟨v3, v4, v5, v6, v7, v8, ws, rfl, s2, hw, hb, e2⟩
      rw [Int.toNat_natCast, List.length_map] at hw
      exact ⟨_, rfl, q r H2 ws hr0 s2 hw hb e2⟩
end
def sp_img (K : PySem.W.Frag) : Sp := fun vs H Q _ => ∃ (a : Addr) (ns : List Int), vs = [.ref a] ∧ SqL K H a (ns.map V.int) ∧ ns.length ≤ 63 ∧ ∀ (r : Addr) (H' : Hp) (ws : List Int), H r = none → Same H H' → ws.length ≤ 63 → (∀ w ∈ ws, 0 ≤ w ∧ w < 65536) → H' r = some (.lst (ws.map V.int)) → Q (.ref r) H'
section
variable {P : Program} {w : World} {K : PySem.W.Frag} {mg : Str → Option Value} {base : Heap}
theorem sc_law_image : FnScope ["_law_script", "_law_words", "_law_k"] ["_law_script"] (defScope s_law_image) := ⟨rfl, rfl, rfl, by decide +kernel, rfl, by decide +kernel, by decide +kernel⟩
theorem ok_law_image {f x1 x2 x3 : Addr} {fd e1 e2 e3 : FuncData} (F : Fun K "_law_image" "_law_image" s_law_image f fd) (T : Bt mg) (T_law_mixed : Fn K mg "_law_mixed" s_law_mixed ["_law_number", "_law_k"] x1 e1) (T_law_cell_at : Fn K mg "_law_cell_at" s_law_cell_at ["_law_script", "_law_k"] x2 e2) (T_law_words_by : Fn K mg "_law_words_by" s_law_words_by ["_law_cells", "_law_number"] x3 e3) : FnOk P w K mg base CX0 3 f fd ["_law_script"] (sp_img K) := by
  have G_law_mixed := ok_law_mixed (P := P) (w := w) (mg := mg) (base := base) T_law_mixed.F
  have G_law_cell_at := ok_law_cell_at (P := P) (w := w) (base := base) T_law_cell_at.F T
  have G_law_words_by := ok_law_words_by (P := P) (w := w) (base := base) T_law_words_by.F T T_law_mixed
  refine F.ok sc_law_image (fun vs H Q E h => ?_) (fun cdv A outer s H vs Q E hr h => ?_)
  · obtain ⟨a, ns, rfl, _⟩ := h; rfl
  · obtain ⟨a, ns, rfl, hq, hn63, q⟩ := h
    have hs : sizeLine = 16777216 := sizeLine_eq
    refine ⟨_, (pss_cons (ps_set (i := 1) sc_law_image.nd rfl (Or.inl rfl) (pe_call G_law_words_by (hr.mono (by decide)) rfl T_law_words_by.m T_law_words_by.F.kp T_law_words_by.b .nil pass0 (pa_cons (pe_slice sl_list (pv 0) (po_some pe_int) (po_some pe_int)) (pa_cons (pe_op op_mod (pe_call G_law_mixed (hr.mono (by decide)) rfl T_law_mixed.m T_law_mixed.F.kp T_law_mixed.b .nil pass0 (pa_cons (pe_call G_law_cell_at (hr.mono (by decide)) rfl T_law_cell_at.m T_law_cell_at.F.kp T_law_cell_at.b .nil pass0 (pa_cons (pv 0) (pa_cons pe_int pa_nil))) (pa_cons pe_int pa_nil))) pe_int) pa_nil))))
      (pss_cons (ps_for PassesOwn.never rfl (pi_range1 rfl T.b_range (pa_cons (pe_callB call_len_seq rfl T.b_len (by decide +kernel) (pa_cons (pv 1) pa_nil)) pa_nil)) (pg_name (i := 2) sc_law_image.nd rfl (Or.inl rfl))
        (pss_one (ps_if (PW.pt (pw_and (pt_cmpR op_eq (pe_op op_fdiv (pe_ix ix_list (pv 1) (pv 2) (fun _ _ => rfl)) pe_int) pe_int (nomark _)) (pw_and1 (pt_cmpR op_gt (pe_op op_mod (pe_ix ix_list (pv 1) (pv 2) (fun _ _ => rfl)) pe_int) pe_int (nomark _)))))
          (pss_one (ps_asg (pe_op op_add (pe_op op_mul pe_int pe_int) (pe_op op_mod (pe_ix ix_list (pv 1) (pv 2) (fun _ _ => rfl)) pe_int)) (pg_sub (pv 1) (pv 2) set_list)))
          pss_nil)))
      (pss_one (ps_ret (pv 1))))), ?_⟩
    refine ⟨_, rfl, _, rfl, _, rfl, a, _, rfl, hq, fun sl hsl => ?_⟩
    have hcl := cutV_length (ns.map V.int) (some 2) (some 62)
    rw [cut_ints] at hcl ⊢
    obtain ⟨cs, hcs⟩ : ∃ z, cutN ns (some 2) (some 62) = z := ⟨_, rfl⟩
    rw [hcs] at hcl ⊢
    rw [List.length_map, List.length_map] at hcl
    have y1 := Same.put (o := .lst (cs.map V.int)) hsl
    have esl : upd H sl (.lst (cs.map V.int)) sl = some (.lst (cs.map V.int)) := upd_same
    generalize upd H sl (.lst (cs.map V.int)) = H1 at y1 esl ⊢
    refine ⟨_, rfl, a, ns, 1, rfl, y1.seq hq, by decide, fun c => ⟨c, 3, rfl, by decide, by decide, fun nu h0 h1 => ⟨_, _, rfl, rfl, (by show (0 : Int) < 3; decide), ?_⟩⟩⟩
    refine ⟨sl, cs, _, rfl, esl, by omega, fun r H2 ws hr0 y2 lw hw e2 => ?_⟩
    have fr : H r = none := y1.free hr0
    refine ⟨_, rfl, r, _, rfl, .inl (SqL.of e2), _, rfl, by rw [List.length_map]; omega, by rw [List.length_map]; omega, ?_⟩
    refine for_range (lo := 0) (n := (((ws.map V.int).length : Nat) : Int).toNat) (fun i σ H3 => ∃ (v2 : Option V) (us : List Int), σ = [some (.ref a), some (.ref r), v2] ∧ Same H H3 ∧ us.length = ws.length ∧ (∀ w ∈ us, 0 ≤ w ∧ w < 65536) ∧ H3 r = some (.lst (us.map V.int))) ⟨_, ws, rfl, y1.trans y2, rfl, hw, e2⟩ ?_ ?_
    · rintro i σ H3 hi ⟨v2, us, rfl, s3, lu, hu, e3⟩
      rw [Int.toNat_natCast, List.length_map] at hi
      obtain ⟨x, hx⟩ : ∃ x, us[i]? = some x := ⟨us[i], List.getElem?_eq_getElem (by omega)⟩
      have ex : atI (us.map V.int) (0 + (i : Int)) = some (V.int x) := by rw [Int.zero_add]; exact atI_nat (by rw [List.getElem?_map, hx]; rfl)
      refine ⟨_, rfl, _, rfl, r, _, _, _, rfl, rfl, SqL.of e3, ex, _, _, rfl, rfl, ⟨by decide, by decide⟩, rfl, _, rfl, ite2 (fun _ => ?_) (fun _ => ?_)⟩
      · refine ⟨_, rfl, _, rfl, r, _, _, _, rfl, rfl, SqL.of e3, ex, _, _, rfl, rfl, (by show (0 : Int) < 3; decide), _, _, rfl, rfl, _, rfl, ite2 (fun _ => ?_) (fun _ => ?_)⟩
        · refine ⟨_, _, rfl, rfl, cmul_l (by decide) (by decide), _, rfl, _, rfl, r, _, _, _, rfl, rfl, SqL.of e3, ex, _, _, rfl, rfl, (by show (0 : Int) < 5; decide), _, _, rfl, rfl, _, rfl, _, rfl, r, _, _, i, rfl, rfl, e3, ?_, ?_⟩
          · rw [ixN_ok (by omega) (by rw [List.length_map]; omega), Int.zero_add, Int.toNat_natCast]
          · refine ⟨_, us.set i (13 * 4096 + x % 5), rfl, Kl.same s3 fr Kl.one, by rw [List.length_set]; exact lu, fun z hz => ?_, ?_⟩
            · rcases List.mem_or_eq_of_mem_set hz with h | h
              · exact hu z h
              · rw [h]; have := Int.emod_nonneg x (b := 5) (by decide); have := Int.emod_lt_of_pos x (b := 5) (by decide); omega
            · rw [upd_same, List.map_set]
        · exact ⟨_, us, rfl, s3, lu, hu, e3⟩
      · exact iteF ⟨_, us, rfl, s3, lu, hu, e3⟩
    · rintro σ H3 ⟨v2, us, rfl, s3, lu, hu, e3⟩
      exact ⟨_, rfl, q r H3 us fr s3 (by omega) hu e3⟩
end
end K21

set_option Elab.async false
set_option linter.all false
set_option maxRecDepth 100000
set_option maxHeartbeats 4000000
namespace K21
open PySem L2
theorem kit_tup (K : PySem.W.Frag) : PySem.W.kitOne K (.type "tuple") (.type "tuple") = some true := by rfl
def dTr (p : List Int × Int) : PyData := .tuple [.tuple (p.1.map PyData.int), .int p.2]
def dTs (t : Tr1) : PyData := .list (t.map dTr)
theorem rep_trs (K : PySem.W.Frag) {H : Hp} : ∀ {xs : List V} {trs : List (List Int × Int)}, Paired (TrAt H) xs trs → RepAll K H xs (trs.map dTr)
  | _, _, .nil => .nil
  | _, _, .cons ⟨q, t, e, eq, et⟩ r => by
    subst e
    exact .cons (.tup (SqT.of eq) (.cons (.tup (SqT.of et) (rep_ints K H _)) (.cons (.int _) .nil))) (rep_trs K r)
theorem lay_trs : ∀ trs : List (List Int × Int), PyData.canLayAll0 (trs.map dTr) = true
  | [] => rfl
  | p :: r => by
    show ((PyData.canLayAll0 (p.1.map PyData.int) && (true && true)) && PyData.canLayAll0 (r.map dTr)) = true
    rw [lay_trs r, lay_ints]; rfl
theorem dep_trs : ∀ trs : List (List Int × Int), PyData.depthAll (trs.map dTr) ≤ 2
  | [] => Nat.zero_le _
  | p :: r => by
    show max (max (PyData.depthAll (p.1.map PyData.int) + 1) (max 0 0) + 1) (PyData.depthAll (r.map dTr)) ≤ 2
    have := dep_trs r
    have := dep_ints p.1; omega
theorem rep_tss (K : PySem.W.Frag) {H : Hp} : ∀ {xs : List V} {ts : List Tr1}, Paired (TraceAt H) xs ts → RepAll K H xs (ts.map dTs)
  | _, _, .nil => .nil
  | _, _, .cons ⟨l, zs, e, el, pz⟩ r => by
    subst e
    exact .cons (.lst (SqL.of el) (rep_trs K pz)) (rep_tss K r)
theorem lay_tss : ∀ ts : List Tr1, PyData.canLayAll0 (ts.map dTs) = true
  | [] => rfl
  | t :: r => by
    show (PyData.canLayAll0 (t.map dTr) && PyData.canLayAll0 (r.map dTs)) = true
    rw [lay_tss r, lay_trs]; rfl
theorem dep_tss : ∀ ts : List Tr1, PyData.depthAll (ts.map dTs) ≤ 3
  | [] => Nat.zero_le _
  | t :: r => by
    show max (PyData.depthAll (t.map dTr) + 1) (PyData.depthAll (r.map dTs)) ≤ 3
    have := dep_tss r
    have := dep_trs t; omega
/-- the traces' lengths, j of them one longer -/
def LenAt (H : Hp) (xs : List V) (ts : List Tr1) (j : Nat) : Prop := ∀ k l, xs[k]? = some (.ref l) → ∃ zs tr, H l = some (.lst zs) ∧ ts[k]? = some tr ∧ zs.length = tr.length + (if k < j then 1 else 0)
theorem allT_len {s : LS} {i : Nat} (h : s.Ok i) : (allT s).length ≤ i + 1 ∧ ∀ t ∈ allT s, t.length ≤ i := by
  unfold allT
  have := h.ol
  constructor
  · rw [List.length_append]
    have : (if s.cur = [] then [] else [s.cur]).length ≤ 1 := by split <;> simp
    omega
  · intro t ht
    rcases List.mem_append.mp ht with z | z
    · exact h.ml t z
    · split at z
      · cases z
      · rw [List.mem_singleton.mp z]; exact h.cl
def forBody : Stmt → List Stmt
  | .For _ _ b _ _ => b
  | _ => []
abbrev lawLoop : List Stmt := forBody ((defBody s_law).getD 8 (.Pass ⟨0, 0, 0, 0⟩))
section
variable {P : Program} {w : World} {K : PySem.W.Frag} {mg : Str → Option Value} {base : Heap}
theorem sc_law : FnScope ["_law_script", "_law_image_here", "_law_number", "_law_given", "_law_beats", "_law_told", "_law_end", "_law_memory", "_law_traces", "_law_left", "_law_place", "_law_handed", "_law_turn", "_law_found", "_law_one"] ["_law_script"] (defScope s_law) := ⟨rfl, rfl, rfl, by decide +kernel, rfl, by decide +kernel, by decide +kernel⟩
theorem law_C {f : Addr} (T : Bt mg) {cdv : Value} {A : Around} {outer : List Env} {s : Shared} {H0 : Hp} {E : XK} (hr : Room 9 (A.deeper (PyProof.Rows.envOfC "law" (defScope s_law) s.heap.objs.size f cdv))) :
    ∃ u, PSs (cxOf CX0 P w K mg base ["_law_script", "_law_image_here", "_law_number", "_law_given", "_law_beats", "_law_told", "_law_end", "_law_memory", "_law_traces", "_law_left", "_law_place", "_law_handed", "_law_turn", "_law_found", "_law_one"] "law" (defScope s_law) f cdv A outer s H0 E).nox (lawLoop.drop 3) u ∧
      ∀ (D : Ends) (v0 v1 v2 v3 v4 v6 v7 v9 v10 v11 v12 v14 : Option V) (p1 tl1 d1 trl1 tl0 trl0 : Addr) (en : V) (told : List Int) (kvs : List (Key × V)) (xs ys : List V) (ts : List Tr1) (H7 H8 : Hp), Same H7 H8 → H8 p1 = some (.tup [.ref tl1, en, .ref d1, .ref trl1]) → H8 tl1 = some (.lst (told.map V.int)) → H8 d1 = some (.dK kvs) → kvs.length ≤ 1000 → H8 trl1 = some (.lst xs) → Paired (TraceAt H8) xs ts → ts.length ≤ 200 → (∀ t ∈ ts, t.length ≤ 200) → told.length ≤ 200 →
        H7 tl1 = none → H7 d1 = none → H7 trl1 = none → tl1 ≠ trl1 → TrsNew H7 [tl1, trl1] xs → H7 tl0 = some (.lst (told.map V.int)) → H7 trl0 = some (.lst ys) → Paired (TraceAt H7) ys ts →
        (∀ (v14 : Option V) (H' : Hp), Same H7 H' → D.nx [v0, v1, v2, v3, v4, some (.ref tl0), v6, v7, some (.ref trl0), v9, v10, v11, v12, some (.ref p1), v14] H') →
        u D [v0, v1, v2, v3, v4, some (.ref tl0), v6, v7, some (.ref trl0), v9, v10, v11, v12, some (.ref p1), v14] H8 := by
  refine ⟨_, (pss_cons (ps_for PassesOwn.never rfl (pi_list (pe_ix ix_tup (pv 13) pe_int (fun _ _ => rfl))) (pg_name (i := 14) sc_law.nd rfl (Or.inl rfl))
          (pss_one (ps_expr (pe_bm PySem.F.plainAttrs_list PySem.F.slot_list_append PySem.F.type_list_append mt_append (pv 14) (pa_cons pe_int pa_nil)))))
        (pss_cons (ps_expr (pe_bm PySem.F.plainAttrs_list PySem.F.slot_list_append PySem.F.type_list_append mt_append (pe_ix ix_tup (pv 13) pe_int (fun _ _ => rfl)) (pa_cons pe_int pa_nil)))
        (pss_cons (ps_dput (hu_of hr) (pe_ix ix_tup (pv 13) pe_int (fun _ _ => rfl)) pe_int pe_int rfl)
        (pss_cons (ps_if (PW.pt (pw_or (pt_cmpR (op_neD (hr.units)) (pe_comp rfl (blk_of (sc0 := defScope s_law) (N0 := ["_law_script", "_law_image_here", "_law_number", "_law_given", "_law_beats", "_law_told", "_law_end", "_law_memory", "_law_traces", "_law_left", "_law_place", "_law_handed", "_law_turn", "_law_found", "_law_one"]) (N' := ["_law_one"]) (own := 1) (fv := []) (by decide +kernel) rfl rfl) (pi_list (pe_ix ix_tup (pv 13) pe_int (fun _ _ => rfl))) (fun _ _ _ _ => (pg_name (i := 0) (by show List.Nodup (["_law_one"] : List Str); decide +kernel) rfl (Or.inl rfl))) (fun _ _ _ _ => (pe_callB (call_lenK (K := K)) rfl T.b_len (by decide +kernel) (pa_cons (pv 0) pa_nil)))) (pe_comp rfl (blk_of (sc0 := defScope s_law) (N0 := ["_law_script", "_law_image_here", "_law_number", "_law_given", "_law_beats", "_law_told", "_law_end", "_law_memory", "_law_traces", "_law_left", "_law_place", "_law_handed", "_law_turn", "_law_found", "_law_one"]) (N' := ["_law_trace"]) (own := 1) (fv := []) (by decide +kernel) rfl rfl) (pi_list (pv 8)) (fun _ _ _ _ => (pg_name (i := 0) (by show List.Nodup (["_law_trace"] : List Str); decide +kernel) rfl (Or.inl rfl))) (fun _ _ _ _ => (pe_op op_add (pe_callB (call_lenK (K := K)) rfl T.b_len (by decide +kernel) (pa_cons (pv 0) pa_nil)) pe_int))) (nomark _)) (pw_or1 (pt_cmpR op_ne (pe_callB call_len_seq rfl T.b_len (by decide +kernel) (pa_cons (pe_ix ix_tup (pv 13) pe_int (fun _ _ => rfl)) pa_nil)) (pe_op op_add (pe_callB call_len_seq rfl T.b_len (by decide +kernel) (pa_cons (pv 5) pa_nil)) pe_int) (nomark _)))))
          (pss_one (ps_ret pe_bl))
          pss_nil)
        (pss_cons (ps_expr (pe_bm PySem.F.plainAttrs_list PySem.F.slot_list_append PySem.F.type_list_append mt_append (pe_ix ix_tup (pv 13) pe_int (fun _ _ => rfl)) (pa_cons (pe_lst pa_nil) pa_nil)))
        (pss_one (ps_if (pt_cmpR op_ne (pe_callB call_len_seq rfl T.b_len (by decide +kernel) (pa_cons (pe_ix ix_tup (pv 13) pe_int (fun _ _ => rfl)) pa_nil)) (pe_op op_add (pe_callB call_len_seq rfl T.b_len (by decide +kernel) (pa_cons (pv 5) pa_nil)) pe_int) (nomark _))
          (pss_one (ps_ret pe_bl))
          pss_nil))))))), ?_⟩
  intro D v0 v1 v2 v3 v4 v6 v7 v9 v10 v11 v12 v14 p1 tl1 d1 trl1 tl0 trl0 en told kvs xs ys ts H7 H8 s8 ep e1 ed hk er px hts htl hto f1 f2 f3 n13 nw e0 er0 py q
  have hs : sizeLine = 16777216 := sizeLine_eq
  have lxt : xs.length = ts.length := px.length
  have lyt : ys.length = ts.length := py.length
  have refx : ∀ v ∈ xs, ∃ l, v = .ref l := fun v hv => by obtain ⟨l, e, _⟩ := nw.nw v hv; exact ⟨l, e⟩
  have nl : ∀ l, V.ref l ∈ xs → l ≠ tl1 ∧ l ≠ trl1 := fun l hl => ⟨nw.ne hl (by simp), nw.ne hl (by simp)⟩
  have lk : ∀ l, V.ref l ∈ xs → ∃ zs, H8 l = some (.lst zs) := fun l hl => by
    obtain ⟨_, _, l', zs, e, el, _⟩ := paired_of px hl
    cases e
    exact ⟨zs, el⟩
  -- a 7 behind each trace
  refine ⟨_, rfl, p1, _, _, _, rfl, rfl, SqT.of ep, rfl, trl1, rfl, ⟨_, SqL.of er⟩, for_list (K := K) (a := trl1) (xs := xs) (fun j σ H9 => ∃ (v14 : Option V), σ = [v0, v1, v2, v3, v4, some (.ref tl0), v6, v7, some (.ref trl0), v9, v10, v11, v12, some (.ref p1), v14] ∧ (∀ x o, H8 x = some o → V.ref x ∉ xs → H9 x = some o) ∧ LenAt H9 xs ts j) ⟨_, rfl, fun x o e _ => e, fun k l hl => ?_⟩ ?_ ?_ ?_⟩
  · obtain ⟨tr, htr, l', zs, e, el, pz⟩ := paired_get px hl
    cases e
    exact ⟨zs, tr, el, htr, by rw [if_neg (Nat.not_lt_zero _)]; exact pz.length⟩
  · rintro j σ H9 _ ⟨v14, rfl, k9, _⟩
    exact SqL.of (k9 _ _ er fun z => (nl _ z).2 rfl)
  · rintro j x σ H9 hx ⟨v14, rfl, k9, l9⟩
    obtain ⟨l, rfl⟩ := refx x (List.mem_of_getElem? hx)
    obtain ⟨zs, tr, el, htr, hzs⟩ := l9 j l hx
    rw [if_neg (Nat.lt_irrefl _)] at hzs
    have htr2 := htl tr (List.mem_of_getElem? htr)
    refine ⟨_, rfl, .inl ⟨rfl, _, SqL.of el⟩, l, _, _, rfl, rfl, el, by omega, ?_⟩
    refine ⟨_, rfl, fun x o e hn => ?_, fun k l' hl' => ?_⟩
    · have hxl : x ≠ l := fun z => hn (by rw [z]; exact List.mem_of_getElem? hx)
      rw [upd_ne hxl]; exact k9 x o e hn
    · by_cases hkj : k = j
      · subst hkj
        rw [hx] at hl'
        cases hl'
        exact ⟨_, tr, upd_same, htr, by rw [List.length_append, if_pos (Nat.lt_succ_self _)]; show _ + 1 = _; omega⟩
      · have hne : l' ≠ l := fun z => by
          subst z
          have h1 := (List.getElem?_eq_some_iff.mp hl').1
          exact hkj ((List.getElem?_inj h1 nw.nd).mp (hl'.trans hx.symm))
        obtain ⟨zs', tr', a1, a2, a3⟩ := l9 k l' hl'
        refine ⟨zs', tr', by rw [upd_ne hne]; exact a1, a2, ?_⟩
        rw [a3]
        by_cases z : k < j
        · rw [if_pos z, if_pos (by omega)]
        · rw [if_neg z, if_neg (by omega)]
  · rintro σ H9 ⟨v14, rfl, k9, l9⟩
    have ep9 := k9 _ _ ep fun z => by obtain ⟨zs, e⟩ := lk _ z; rw [ep] at e; cases e
    have e19 := k9 _ _ e1 fun z => (nl _ z).1 rfl
    have er9 := k9 _ _ er fun z => (nl _ z).2 rfl
    have ed9 := k9 _ _ ed fun z => by obtain ⟨zs, e⟩ := lk _ z; rw [ed] at e; cases e
    have s9 : Same H7 H9 := fun x o e => k9 _ _ (s8 _ _ e) fun z => by rw [nw.free z] at e; cases e
    refine ⟨_, rfl, p1, _, _, _, rfl, rfl, SqT.of ep9, rfl, .inl ⟨rfl, _, SqL.of e19⟩, tl1, _, _, rfl, rfl, e19, (by rw [List.length_map]; omega), ?_⟩
    have k10 : ∀ x o, H9 x = some o → x ≠ tl1 → upd H9 tl1 (.lst (told.map V.int ++ [V.int 7])) x = some o := fun x o e n => by rw [upd_ne n]; exact e
    have e110 : upd H9 tl1 (.lst (told.map V.int ++ [V.int 7])) tl1 = some (.lst (told.map V.int ++ [V.int 7])) := upd_same
    generalize upd H9 tl1 (.lst (told.map V.int ++ [V.int 7])) = H10 at k10 e110 ⊢
    have ep10 := k10 _ _ ep9 (ne_of ep9 e19 (by intro z; cases z))
    have er10 := k10 _ _ er9 n13.symm
    have ed10 := k10 _ _ ed9 (ne_of ed9 e19 (by intro z; cases z))
    have l10 : LenAt H10 xs ts xs.length := fun k l hl => by
      obtain ⟨zs, tr, a1, a2, a3⟩ := l9 k l hl
      exact ⟨zs, tr, k10 _ _ a1 (nl l (List.mem_of_getElem? hl)).1, a2, a3⟩
    have s10 : Same H7 H10 := fun x o e => k10 _ _ (s9 _ _ e) (ne_of_none e f1)
    refine ⟨_, rfl, p1, _, _, _, rfl, rfl, SqT.of ep10, rfl, d1, _, rfl, DPut.k (k := .inl 0) ed10 (by omega), ?_⟩
    have k11 : ∀ x o, H10 x = some o → x ≠ d1 → upd H10 d1 (.dK (putK kvs (.inl 0) (.int 7))) x = some o := fun x o e n => by rw [upd_ne n]; exact e
    generalize upd H10 d1 (.dK (putK kvs (.inl 0) (.int 7))) = H11 at k11 ⊢
    have dl : ∀ x zs, H10 x = some (.lst zs) → x ≠ d1 := fun x zs e => ne_of e ed10 (by intro z; cases z)
    have ep11 := k11 _ _ ep10 (ne_of ep10 ed10 (by intro z; cases z))
    have er11 := k11 _ _ er10 (dl _ _ er10)
    have e111 := k11 _ _ e110 (dl _ _ e110)
    have l11 : LenAt H11 xs ts xs.length := fun k l hl => by
      obtain ⟨zs, tr, a1, a2, a3⟩ := l10 k l hl
      exact ⟨zs, tr, k11 _ _ a1 (dl _ _ a1), a2, a3⟩
    have s11 : Same H7 H11 := fun x o e => k11 _ _ (s10 _ _ e) (ne_of_none e f2)
    obtain ⟨lens, hlens⟩ : ∃ z : List Int, ts.map (fun t => (t.length : Int) + 1) = z := ⟨_, rfl⟩
    refine ⟨_, rfl, p1, _, _, _, rfl, rfl, SqT.of ep11, rfl, trl1, rfl, ⟨_, SqL.of er11⟩, comp_inv (K := K) (a := trl1) (xs := xs) (fvals := []) (fun acc j H12 => H11 acc = none ∧ Same H11 H12 ∧ H12 acc = some (.lst ((lens.take j).map V.int))) ?_ ?_ ?_ ?_⟩
    · rintro acc j H12 ⟨_, s12, _⟩
      exact SqL.of (s12 _ _ er11)
    · intro acc hacc
      exact ⟨hacc, Same.put hacc, by rw [List.take_zero]; exact upd_same⟩
    · rintro acc j x H12 R hx ⟨hacc, s12, ea⟩ hR
      obtain ⟨l, rfl⟩ := refx x (List.mem_of_getElem? hx)
      obtain ⟨zs, tr, a1, a2, a3⟩ := l11 j l hx
      have hj : j < xs.length := (List.getElem?_eq_some_iff.mp hx).1
      rw [if_pos hj] at a3
      have hlj : lens[j]? = some ((tr.length : Int) + 1) := by rw [← hlens, List.getElem?_map, a2]; rfl
      refine ⟨_, rfl, l, _, rfl, .inl (SqL.of (s12 _ _ a1)), hR _ _ ⟨_, ea, by rw [List.length_map, List.length_take]; omega, hacc, Kl.same s12 hacc Kl.one, ?_⟩⟩
      rw [upd_same, List.take_add_one, hlj, List.map_append, a3]
      rfl
    · rintro acc H12 hacc ⟨_, s12, ea⟩
      rw [List.take_of_length_le (by rw [← hlens, List.length_map]; omega)] at ea
      have er012 := (s11.trans s12) _ _ er0
      have py12 := trs_same py (s11.trans s12)
      refine ⟨_, rfl, trl0, rfl, ⟨_, SqL.of er012⟩, comp_inv (K := K) (a := trl0) (xs := ys) (fvals := []) (fun acc2 j H13 => H12 acc2 = none ∧ Same H12 H13 ∧ H13 acc2 = some (.lst ((lens.take j).map V.int))) ?_ ?_ ?_ ?_⟩
      · rintro acc2 j H13 ⟨_, s13, _⟩
        exact SqL.of (s13 _ _ er012)
      · intro acc2 hacc2
        exact ⟨hacc2, Same.put hacc2, by rw [List.take_zero]; exact upd_same⟩
      · rintro acc2 j x H13 R hx ⟨hacc2, s13, ea2⟩ hR
        obtain ⟨tr, htr, l, zs, e, el, pz⟩ := paired_get py12 hx
        subst e
        have hj : j < ys.length := (List.getElem?_eq_some_iff.mp hx).1
        have lz : zs.length = tr.length := pz.length
        have hlj : lens[j]? = some ((tr.length : Int) + 1) := by rw [← hlens, List.getElem?_map, htr]; rfl
        refine ⟨_, rfl, l, _, rfl, .inl (SqL.of (s13 _ _ el)), _, _, rfl, rfl, hR _ _ ⟨_, ea2, by rw [List.length_map, List.length_take]; omega, hacc2, Kl.same s13 hacc2 Kl.one, ?_⟩⟩
        rw [upd_same, List.take_add_one, hlj, List.map_append, lz]
        rfl
      · rintro acc2 H13 hacc2 ⟨_, s13, ea2⟩
        rw [List.take_of_length_le (by rw [← hlens, List.length_map]; omega)] at ea2
        have ea13 := s13 _ _ ea
        refine ⟨.list (lens.map PyData.int), .list (lens.map PyData.int), .lst (SqL.of ea13) (rep_ints K _ _), .lst (SqL.of ea2) (rep_ints K _ _), lay_ints _, lay_ints _, (by show PyData.depthAll (lens.map PyData.int) + 1 ≤ 64; have := dep_ints lens; omega), _, rfl, ?_⟩
        rw [show PyData.eqv (.list (lens.map PyData.int)) (.list (lens.map PyData.int)) = true from SeqAt.eqv_refl _ (lay_ints _)]
        have s1113 := s12.trans s13
        have s713 := s11.trans s1113
        have hlen : V.int (((told.map V.int ++ [V.int 7]).length : Nat) : Int) = V.int ((((told.map V.int).length : Nat) : Int) + 1) := by rw [List.length_append]; rfl
        refine iteF ⟨_, rfl, p1, _, _, _, rfl, rfl, SqT.of (s1113 _ _ ep11), rfl, tl1, _, rfl, .inl (SqL.of (s1113 _ _ e111)), _, rfl, tl0, _, rfl, .inl (SqL.of (s713 _ _ e0)), _, _, rfl, rfl, rfl, _, rfl, iteNS hlen ?_⟩
        have er13 := s1113 _ _ er11
        refine ⟨_, rfl, p1, _, _, _, rfl, rfl, SqT.of (s1113 _ _ ep11), rfl, .inl ⟨rfl, _, SqL.of er13⟩, Nat.zero_le _, fun c hc => ?_⟩
        have y14 := Same.put (o := .lst []) hc
        generalize upd H13 c (.lst []) = H14 at y14 ⊢
        refine ⟨trl1, _, _, rfl, rfl, y14 _ _ er13, by omega, ?_⟩
        have s714 := s713.trans y14
        have s1114 := s1113.trans y14
        have k15 : ∀ x o, H14 x = some o → x ≠ trl1 → upd H14 trl1 (.lst (xs ++ [V.ref c])) x = some o := fun x o e n => by rw [upd_ne n]; exact e
        have s15 : Same H7 (upd H14 trl1 (.lst (xs ++ [V.ref c]))) := fun x o e => k15 _ _ (s714 _ _ e) (ne_of_none e f3)
        generalize upd H14 trl1 (.lst (xs ++ [V.ref c])) = H15 at k15 s15 ⊢
        have ep15 := k15 _ _ (s1114 _ _ ep11) (ne_of ep11 er11 (by intro z; cases z))
        refine ⟨_, rfl, p1, _, _, _, rfl, rfl, SqT.of ep15, rfl, tl1, _, rfl, .inl (SqL.of (k15 _ _ (s1114 _ _ e111) n13)), _, rfl, tl0, _, rfl, .inl (SqL.of (s15 _ _ e0)), _, _, rfl, rfl, rfl, _, rfl, iteNS hlen ?_⟩
        exact q _ _ s15
end
end K21

set_option Elab.async false
set_option linter.all false
set_option maxRecDepth 100000
set_option maxHeartbeats 4000000
namespace K21
open PySem L2
def sp_law (K : PySem.W.Frag) : Sp := fun vs H Q _ => ∃ (a : Addr) (ns : List Int), vs = [.ref a] ∧ SqL K H a (ns.map V.int) ∧ ns.length ≤ 63 ∧ ∀ H', Q (.bl true) H'
theorem rep_two (K : PySem.W.Frag) {H : Hp} {p a b : Addr} {xs ys : List Int} (ep : H p = some (.tup [.ref a, .ref b])) (ea : H a = some (.lst (xs.map V.int))) (eb : H b = some (.lst (ys.map V.int))) : Rep K H (.ref p) (.tuple [.list (xs.map PyData.int), .list (ys.map PyData.int)]) :=
  .tup (SqT.of ep) (.cons (.lst (SqL.of ea) (rep_ints K _ _)) (.cons (.lst (SqL.of eb) (rep_ints K _ _)) .nil))
theorem lay_two (xs ys : List Int) : PyData.canLayAll0 [.list (xs.map PyData.int), .list (ys.map PyData.int)] = true := by
  show (PyData.canLayAll0 (xs.map PyData.int) && (PyData.canLayAll0 (ys.map PyData.int) && true)) = true
  rw [lay_ints, lay_ints]; rfl
section
variable {P : Program} {w : World} {K : PySem.W.Frag} {mg : Str → Option Value} {base : Heap}
theorem law_B {x0 x1 x2 x3 x4 x5 x6 x7 x8 x9 x10 x11 x12 x13 x14 x15 x16 x17 x18 x19 x20 x21 x22 x23 x24 x25 x26 x27 x28 x29 x30 x31 x32 x33 x34 x35 x36 x37 x38 x39 x40 x41 x42 x43 x44 x45 f : Addr} {e0 e1 e2 e3 e4 e5 e6 e7 e8 e9 e10 e11 e12 e13 e14 e15 e16 e17 e18 e19 e20 e21 e22 e23 e24 e25 e26 e27 e28 e29 e30 e31 e32 e33 e34 e35 e36 e37 e38 e39 e40 e41 e42 e43 e44 e45 : FuncData} (T : Bt mg) (C : Ct K mg)
    (T_op_of : Fn K mg "op_of" s_op_of ["state"] x0 e0) (T_number_of : Fn K mg "number_of" s_number_of ["state"] x1 e1) (T_reaching_ops : Fn K mg "reaching_ops" s_reaching_ops [] x2 e2) (T_parts_read_by_own : Fn K mg "parts_read_by_own" s_parts_read_by_own [] x3 e3) (T_parts_set_by_own : Fn K mg "parts_set_by_own" s_parts_set_by_own [] x4 e4) (T_place_within : Fn K mg "place_within" s_place_within ["state"] x5 e5) (T_asked : Fn K mg "asked" s_asked ["state"] x6 e6) (T_is_barred : Fn K mg "is_barred" s_is_barred ["state"] x7 e7) (T_exchanged : Fn K mg "exchanged" s_exchanged ["state", "changes"] x8 e8) (T_trapped : Fn K mg "trapped" s_trapped ["state", "cause", "place"] x9 e9) (T_fetch : Fn K mg "fetch" s_fetch ["state", "word"] x10 e10) (T_cause_of : Fn K mg "cause_of" s_cause_of ["state"] x11 e11) (T_row_trapped : Fn K mg "row_trapped" s_row_trapped ["state", "cause"] x12 e12) (T_a_by_exchange : Fn K mg "a_by_exchange" s_a_by_exchange ["state"] x13 e13) (T_new_a : Fn K mg "new_a" s_new_a ["state", "word"] x14 e14) (T_new_x : Fn K mg "new_x" s_new_x ["state"] x15 e15) (T_leaps : Fn K mg "leaps" s_leaps ["state"] x16 e16) (T_new_p : Fn K mg "new_p" s_new_p ["state"] x17 e17) (T_own_changes : Fn K mg "own_changes" s_own_changes ["state"] x18 e18) (T_row_done : Fn K mg "row_done" s_row_done ["state", "word"] x19 e19) (T_bell_counted : Fn K mg "bell_counted" s_bell_counted ["state"] x20 e20) (T_written : Fn K mg "written" s_written ["state"] x21 e21) (T_told_word : Fn K mg "told_word" s_told_word ["state"] x22 e22) (T_beat_of : Fn K mg "beat_of" s_beat_of ["state", "word"] x23 e23) (T_law_cell_at : Fn K mg "_law_cell_at" s_law_cell_at ["_law_script", "_law_k"] x24 e24) (T_law_mixed : Fn K mg "_law_mixed" s_law_mixed ["_law_number", "_law_k"] x25 e25) (T_law_names : Fn K mg "_law_names" s_law_names [] x26 e26) (T_law_read : Fn K mg "_law_read" s_law_read ["_law_state"] x27 e27) (T_law_told_of : Fn K mg "_law_told_of" s_law_told_of ["_law_s"] x28 e28) (T_law_wants : Fn K mg "_law_wants" s_law_wants ["_law_s"] x29 e29) (T_law_trapped : Fn K mg "_law_trapped" s_law_trapped ["_law_s", "_law_cause", "_law_place"] x30 e30) (T_law_own : Fn K mg "_law_own" s_law_own ["_law_s", "_law_which"] x31 e31) (T_law_moved : Fn K mg "_law_moved" s_law_moved ["_law_s", "_law_which"] x32 e32) (T_law_row : Fn K mg "_law_row" s_law_row ["_law_s", "_law_op", "_law_number", "_law_word"] x33 e33) (T_law_beat : Fn K mg "_law_beat" s_law_beat ["_law_state", "_law_word"] x34 e34) (T_without_noughts : Fn K mg "without_noughts" s_without_noughts ["memory"] x35 e35) (T_beat_in : Fn K mg "beat_in" s_beat_in ["state", "memory", "told", "trace"] x36 e36) (T_law_words_by : Fn K mg "_law_words_by" s_law_words_by ["_law_cells", "_law_number"] x37 e37) (T_first_state : Fn K mg "first_state" s_first_state [] x38 e38) (T_stretch : Fn K mg "stretch" s_stretch ["state", "memory", "beats"] x39 e39) (T_end_by : Fn K mg "end_by" s_end_by ["state"] x40 e40) (T_behind_call : Fn K mg "behind_call" s_behind_call ["state", "told", "left"] x41 e41) (T_lone : Fn K mg "lone" s_lone ["image", "given", "beats"] x42 e42) (T_law_heard : Fn K mg "_law_heard" s_law_heard ["_law_s", "_law_given", "_law_told"] x43 e43) (T_law_alone : Fn K mg "_law_alone" s_law_alone ["_law_image_here", "_law_given", "_law_beats"] x44 e44) (T_law_image : Fn K mg "_law_image" s_law_image ["_law_script"] x45 e45) {cdv : Value} {A : Around} {outer : List Env} {s : Shared} {H0 : Hp} {E : XK} (hr : Room 9 (A.deeper (PyProof.Rows.envOfC "law" (defScope s_law) s.heap.objs.size f cdv))) :
    ∃ u, PSs (cxOf CX0 P w K mg base ["_law_script", "_law_image_here", "_law_number", "_law_given", "_law_beats", "_law_told", "_law_end", "_law_memory", "_law_traces", "_law_left", "_law_place", "_law_handed", "_law_turn", "_law_found", "_law_one"] "law" (defScope s_law) f cdv A outer s H0 E).nox lawLoop u ∧
      ∀ (D : Ends) (v0 v2 v7 v10 v12 v13 v14 : Option V) (im gv tl0 trl0 lf hd i2 g2 : Addr) (words given : List Int) (b : Nat) (ys : List V) (H7 : Hp), words.length ≤ 63 → (∀ x ∈ words, 0 ≤ x ∧ x < 65536) → given.length ≤ 9 → (∀ x ∈ given, 0 ≤ x ∧ x < 65536) → b ≤ 120 →
        H7 im = some (.lst (words.map V.int)) → H7 gv = some (.lst (given.map V.int)) → H7 tl0 = some (.lst ((runL (startL words given) b).told.map V.int)) → H7 trl0 = some (.lst ys) → Paired (TraceAt H7) ys (allT (runL (startL words given) b)) → H7 lf = some (.dK (clean (runL (startL words given) b).kv)) → H7 hd = some (.tup [.ref i2, .ref g2]) → H7 i2 = some (.lst (words.map V.int)) → H7 g2 = some (.lst (given.map V.int)) →
        (∀ (v13 v14 : Option V) (H' : Hp), Same H7 H' → D.nx [v0, some (.ref im), v2, some (.ref gv), some (.int (b : Int)), some (.ref tl0), some (.str (runL (startL words given) b).en), v7, some (.ref trl0), some (.ref lf), v10, some (.ref hd), v12, v13, v14] H') →
        u D [v0, some (.ref im), v2, some (.ref gv), some (.int (b : Int)), some (.ref tl0), some (.str (runL (startL words given) b).en), v7, some (.ref trl0), some (.ref lf), v10, some (.ref hd), v12, v13, v14] H7 := by
  have G_lone := ok_lone (P := P) (w := w) (base := base) T_lone.F T C T_op_of T_number_of T_reaching_ops T_parts_read_by_own T_parts_set_by_own T_place_within T_asked T_is_barred T_exchanged T_trapped T_fetch T_cause_of T_row_trapped T_a_by_exchange T_new_a T_new_x T_leaps T_new_p T_own_changes T_row_done T_bell_counted T_written T_told_word T_beat_of T_law_cell_at T_law_mixed T_law_names T_law_read T_law_told_of T_law_wants T_law_trapped T_law_own T_law_moved T_law_row T_law_beat T_without_noughts T_beat_in T_law_words_by T_first_state T_stretch T_end_by T_behind_call T_lone T_law_heard T_law_alone T_law_image
  obtain ⟨uC, hC, kC⟩ := law_C (P := P) (w := w) (base := base) (f := f) (cdv := cdv) (outer := outer) (H0 := H0) (E := E) T hr
  refine ⟨_, (pss_cons (ps_set (i := 13) sc_law.nd rfl (Or.inl rfl) (pe_call G_lone (hr.mono (by decide)) rfl T_lone.m T_lone.F.kp T_lone.b .nil pass0 (pa_cons (pe_ix ix_tup (pv 11) pe_int (fun _ _ => rfl)) (pa_cons (pe_ix ix_tup (pv 11) pe_int (fun _ _ => rfl)) (pa_cons (pv 4) pa_nil)))))
        (pss_cons (ps_if (PW.pt (pw_or (pt_not (pt_val (pe_callB (call_isi (T := "tuple")) rfl T.b_isinstance (by decide +kernel) (pa_cons (pv 13) (pa_cons (pe_bltn (v := .ty "tuple") (u := .type "tuple") rfl T.b_tuple (by decide +kernel) rfl) pa_nil))))) (pw_or (pt_cmpR op_ne (pe_callB call_len_seq rfl T.b_len (by decide +kernel) (pa_cons (pv 13) pa_nil)) pe_int (nomark _)) (pw_or (pt_cmpR (op_neD (hr.units)) (pe_ix ix_tup (pv 13) pe_int (fun _ _ => rfl)) (pv 5) (nomark _)) (pw_or1 (pt_cmpR op_ne (pe_ix ix_tup (pv 13) pe_int (fun _ _ => rfl)) (pv 6) (nomark _)))))))
          (pss_one (ps_ret pe_bl))
          pss_nil)
        (pss_cons (ps_if (PW.pt (pw_or (pt_cmpR (op_neDk (Nat.lt_of_succ_lt (hu_of hr))) (pe_ix ix_tup (pv 13) pe_int (fun _ _ => rfl)) (pv 9) (nomark _)) (pw_or (pt_cmpR (op_neD (hr.units)) (pe_ix ix_tup (pv 13) pe_int (fun _ _ => rfl)) (pv 8) (nomark _)) (pw_or1 (pt_cmpR (op_neD (hr.units)) (pv 11) (pe_tup (pa_cons (pv 1) (pa_cons (pv 3) pa_nil))) (nomark _))))))
          (pss_one (ps_ret pe_bl))
          pss_nil)
        hC))), ?_⟩
  intro D v0 v2 v7 v10 v12 v13 v14 im gv tl0 trl0 lf hd i2 g2 words given b ys H7 hwl hw hg9 hg hb eim egv e0 er0 py elf ehd ei2 eg2 q
  have hs : sizeLine = 16777216 := sizeLine_eq
  have ok := runL_ok (start_ok hwl hw hg hg9) b
  refine ⟨_, rfl, hd, _, _, _, rfl, rfl, SqT.of ehd, rfl, _, rfl, hd, _, _, _, rfl, rfl, SqT.of ehd, rfl, _, rfl, i2, g2, words, given, b, rfl, ei2, eg2, hwl, hw, hg9, hg, hb, fun p1 tl1 d1 trl1 xs H8 s8 ep e1 ed er px f1 f2 f3 n13 nw => ?_⟩
  obtain ⟨L, hLL⟩ : ∃ z, runL (startL words given) b = z := ⟨_, rfl⟩
  rw [hLL] at ok e0 py elf ep e1 ed px q ⊢
  obtain ⟨al1, al2⟩ := allT_len ok
  obtain ⟨qs, hqs⟩ := (clean_all ok.al).ints
  refine ⟨_, rfl, _, _, true, rfl, .tup ep, kit_tup K, _, rfl, iteF ⟨_, rfl, p1, _, rfl, .inr (SqT.of ep), rfl, _, rfl, iteNS rfl ?_⟩⟩
  refine ⟨_, rfl, p1, _, _, _, rfl, rfl, SqT.of ep, rfl, _, rfl, .list (L.told.map PyData.int), .list (L.told.map PyData.int), .lst (SqL.of e1) (rep_ints K _ _), .lst (SqL.of (s8 _ _ e0)) (rep_ints K _ _), lay_ints _, lay_ints _, (by show PyData.depthAll (L.told.map PyData.int) + 1 ≤ 64; have := dep_ints L.told; omega), _, rfl, ?_⟩
  rw [show PyData.eqv (.list (L.told.map PyData.int)) (.list (L.told.map PyData.int)) = true from SeqAt.eqv_refl _ (lay_ints _)]
  refine iteF ⟨_, rfl, p1, _, _, _, rfl, rfl, SqT.of ep, rfl, _, rfl, rfl, _, rfl, iteNS rfl ?_⟩
  refine ⟨_, rfl, p1, _, _, _, rfl, rfl, SqT.of ep, rfl, _, rfl, d1, lf, qs, rfl, rfl, .inl (by rw [← hqs]; exact ed), .inl (by rw [← hqs]; exact s8 _ _ elf), _, rfl, iteF ?_⟩
  refine ⟨_, rfl, p1, _, _, _, rfl, rfl, SqT.of ep, rfl, _, rfl, .list ((allT L).map dTs), .list ((allT L).map dTs), .lst (SqL.of er) (rep_tss K px), .lst (SqL.of (s8 _ _ er0)) (rep_tss K (trs_same py s8)), lay_tss _, lay_tss _, (by show PyData.depthAll ((allT L).map dTs) + 1 ≤ 64; have := dep_tss (allT L); omega), _, rfl, ?_⟩
  rw [show PyData.eqv (.list ((allT L).map dTs)) (.list ((allT L).map dTs)) = true from SeqAt.eqv_refl _ (lay_tss _)]
  refine iteF ⟨_, rfl, _, rfl, _, rfl, (by show 2 ≤ sizeLine; omega), fun p2 hp2 => ?_⟩
  have y9 := Same.put (o := .tup [V.ref im, V.ref gv]) hp2
  have ep2 : upd H8 p2 (.tup [V.ref im, V.ref gv]) p2 = some (.tup [V.ref im, V.ref gv]) := upd_same
  generalize upd H8 p2 (.tup [V.ref im, V.ref gv]) = H9 at y9 ep2 ⊢
  have s9 := s8.trans y9
  refine ⟨.tuple [.list (words.map PyData.int), .list (given.map PyData.int)], .tuple [.list (words.map PyData.int), .list (given.map PyData.int)], rep_two K (s9 _ _ ehd) (s9 _ _ ei2) (s9 _ _ eg2), rep_two K ep2 (s9 _ _ eim) (s9 _ _ egv), lay_two _ _, lay_two _ _, ?_, _, rfl, ?_⟩
  · show max (PyData.depthAll (words.map PyData.int) + 1) (max (PyData.depthAll (given.map PyData.int) + 1) 0) + 1 ≤ 64
    have := dep_ints words
    have := dep_ints given
    omega
  rw [show PyData.eqv (.tuple [.list (words.map PyData.int), .list (given.map PyData.int)]) (.tuple [.list (words.map PyData.int), .list (given.map PyData.int)]) = true from SeqAt.eqv_refl _ (lay_two _ _)]
  refine iteF (kC _ _ _ _ _ _ _ _ _ _ _ _ _ p1 tl1 d1 trl1 tl0 trl0 _ L.told (clean L.kv) xs ys (allT L) H7 H9 s9 (y9 _ _ ep) (y9 _ _ e1) (y9 _ _ ed) ?_ (y9 _ _ er) (trs_same px y9) (by omega) (fun t ht => by have := al2 t ht; omega) (by have := ok.tl; omega) f1 f2 f3 n13 nw e0 er0 py fun v14 H' s' => q _ _ H' s')
  have := clean_len L.kv L.kv.length
  rw [List.take_of_length_le (Nat.le_refl _)] at this
  have := ok.kl
  omega
theorem ok_law {x0 x1 x2 x3 x4 x5 x6 x7 x8 x9 x10 x11 x12 x13 x14 x15 x16 x17 x18 x19 x20 x21 x22 x23 x24 x25 x26 x27 x28 x29 x30 x31 x32 x33 x34 x35 x36 x37 x38 x39 x40 x41 x42 x43 x44 x45 f : Addr} {e0 e1 e2 e3 e4 e5 e6 e7 e8 e9 e10 e11 e12 e13 e14 e15 e16 e17 e18 e19 e20 e21 e22 e23 e24 e25 e26 e27 e28 e29 e30 e31 e32 e33 e34 e35 e36 e37 e38 e39 e40 e41 e42 e43 e44 e45 fd : FuncData} (F : Fun K "law" "law" s_law f fd) (T : Bt mg) (C : Ct K mg)
    (T_op_of : Fn K mg "op_of" s_op_of ["state"] x0 e0) (T_number_of : Fn K mg "number_of" s_number_of ["state"] x1 e1) (T_reaching_ops : Fn K mg "reaching_ops" s_reaching_ops [] x2 e2) (T_parts_read_by_own : Fn K mg "parts_read_by_own" s_parts_read_by_own [] x3 e3) (T_parts_set_by_own : Fn K mg "parts_set_by_own" s_parts_set_by_own [] x4 e4) (T_place_within : Fn K mg "place_within" s_place_within ["state"] x5 e5) (T_asked : Fn K mg "asked" s_asked ["state"] x6 e6) (T_is_barred : Fn K mg "is_barred" s_is_barred ["state"] x7 e7) (T_exchanged : Fn K mg "exchanged" s_exchanged ["state", "changes"] x8 e8) (T_trapped : Fn K mg "trapped" s_trapped ["state", "cause", "place"] x9 e9) (T_fetch : Fn K mg "fetch" s_fetch ["state", "word"] x10 e10) (T_cause_of : Fn K mg "cause_of" s_cause_of ["state"] x11 e11) (T_row_trapped : Fn K mg "row_trapped" s_row_trapped ["state", "cause"] x12 e12) (T_a_by_exchange : Fn K mg "a_by_exchange" s_a_by_exchange ["state"] x13 e13) (T_new_a : Fn K mg "new_a" s_new_a ["state", "word"] x14 e14) (T_new_x : Fn K mg "new_x" s_new_x ["state"] x15 e15) (T_leaps : Fn K mg "leaps" s_leaps ["state"] x16 e16) (T_new_p : Fn K mg "new_p" s_new_p ["state"] x17 e17) (T_own_changes : Fn K mg "own_changes" s_own_changes ["state"] x18 e18) (T_row_done : Fn K mg "row_done" s_row_done ["state", "word"] x19 e19) (T_bell_counted : Fn K mg "bell_counted" s_bell_counted ["state"] x20 e20) (T_written : Fn K mg "written" s_written ["state"] x21 e21) (T_told_word : Fn K mg "told_word" s_told_word ["state"] x22 e22) (T_beat_of : Fn K mg "beat_of" s_beat_of ["state", "word"] x23 e23) (T_law_cell_at : Fn K mg "_law_cell_at" s_law_cell_at ["_law_script", "_law_k"] x24 e24) (T_law_mixed : Fn K mg "_law_mixed" s_law_mixed ["_law_number", "_law_k"] x25 e25) (T_law_names : Fn K mg "_law_names" s_law_names [] x26 e26) (T_law_read : Fn K mg "_law_read" s_law_read ["_law_state"] x27 e27) (T_law_told_of : Fn K mg "_law_told_of" s_law_told_of ["_law_s"] x28 e28) (T_law_wants : Fn K mg "_law_wants" s_law_wants ["_law_s"] x29 e29) (T_law_trapped : Fn K mg "_law_trapped" s_law_trapped ["_law_s", "_law_cause", "_law_place"] x30 e30) (T_law_own : Fn K mg "_law_own" s_law_own ["_law_s", "_law_which"] x31 e31) (T_law_moved : Fn K mg "_law_moved" s_law_moved ["_law_s", "_law_which"] x32 e32) (T_law_row : Fn K mg "_law_row" s_law_row ["_law_s", "_law_op", "_law_number", "_law_word"] x33 e33) (T_law_beat : Fn K mg "_law_beat" s_law_beat ["_law_state", "_law_word"] x34 e34) (T_without_noughts : Fn K mg "without_noughts" s_without_noughts ["memory"] x35 e35) (T_beat_in : Fn K mg "beat_in" s_beat_in ["state", "memory", "told", "trace"] x36 e36) (T_law_words_by : Fn K mg "_law_words_by" s_law_words_by ["_law_cells", "_law_number"] x37 e37) (T_first_state : Fn K mg "first_state" s_first_state [] x38 e38) (T_stretch : Fn K mg "stretch" s_stretch ["state", "memory", "beats"] x39 e39) (T_end_by : Fn K mg "end_by" s_end_by ["state"] x40 e40) (T_behind_call : Fn K mg "behind_call" s_behind_call ["state", "told", "left"] x41 e41) (T_lone : Fn K mg "lone" s_lone ["image", "given", "beats"] x42 e42) (T_law_heard : Fn K mg "_law_heard" s_law_heard ["_law_s", "_law_given", "_law_told"] x43 e43) (T_law_alone : Fn K mg "_law_alone" s_law_alone ["_law_image_here", "_law_given", "_law_beats"] x44 e44) (T_law_image : Fn K mg "_law_image" s_law_image ["_law_script"] x45 e45) : FnOk P w K mg base CX0 10 f fd ["_law_script"] (sp_law K) := by
  have G_law_image := ok_law_image (P := P) (w := w) (base := base) T_law_image.F T T_law_mixed T_law_cell_at T_law_words_by
  have G_law_alone := ok_law_alone (P := P) (w := w) (base := base) T_law_alone.F T C T_op_of T_number_of T_reaching_ops T_parts_read_by_own T_parts_set_by_own T_place_within T_asked T_is_barred T_exchanged T_trapped T_fetch T_cause_of T_row_trapped T_a_by_exchange T_new_a T_new_x T_leaps T_new_p T_own_changes T_row_done T_bell_counted T_written T_told_word T_beat_of T_law_cell_at T_law_mixed T_law_names T_law_read T_law_told_of T_law_wants T_law_trapped T_law_own T_law_moved T_law_row T_law_beat T_without_noughts T_beat_in T_law_words_by T_first_state T_stretch T_end_by T_behind_call T_lone T_law_heard T_law_alone T_law_image
  have G_law_cell_at := ok_law_cell_at (P := P) (w := w) (base := base) T_law_cell_at.F T
  have G_law_mixed := ok_law_mixed (P := P) (w := w) (mg := mg) (base := base) T_law_mixed.F
  refine F.ok (k := 9) sc_law (fun vs H Q E h => ?_) (fun cdv A outer s H vs Q E hr h => ?_)
  · obtain ⟨a, ns, rfl, _⟩ := h; rfl
  · obtain ⟨a, ns, rfl, hq, hn63, q⟩ := h
    have hs : sizeLine = 16777216 := sizeLine_eq
    obtain ⟨uB, hB, kB⟩ := law_B (P := P) (w := w) (base := base) (f := f) (cdv := cdv) (outer := outer) (H0 := H) (E := E) T C T_op_of T_number_of T_reaching_ops T_parts_read_by_own T_parts_set_by_own T_place_within T_asked T_is_barred T_exchanged T_trapped T_fetch T_cause_of T_row_trapped T_a_by_exchange T_new_a T_new_x T_leaps T_new_p T_own_changes T_row_done T_bell_counted T_written T_told_word T_beat_of T_law_cell_at T_law_mixed T_law_names T_law_read T_law_told_of T_law_wants T_law_trapped T_law_own T_law_moved T_law_row T_law_beat T_without_noughts T_beat_in T_law_words_by T_first_state T_stretch T_end_by T_behind_call T_lone T_law_heard T_law_alone T_law_image hr
    refine ⟨_, (pss_cons (ps_set (i := 1) sc_law.nd rfl (Or.inl rfl) (pe_call G_law_image (hr.mono (by decide)) rfl T_law_image.m T_law_image.F.kp T_law_image.b .nil pass0 (pa_cons (pv 0) pa_nil)))
      (pss_cons (ps_set (i := 2) sc_law.nd rfl (Or.inr rfl) (pe_call G_law_mixed (hr.mono (by decide)) rfl T_law_mixed.m T_law_mixed.F.kp T_law_mixed.b .nil pass0 (pa_cons (pe_call G_law_cell_at (hr.mono (by decide)) rfl T_law_cell_at.m T_law_cell_at.F.kp T_law_cell_at.b .nil pass0 (pa_cons (pv 0) (pa_cons pe_int pa_nil))) (pa_cons pe_int pa_nil))))
      (pss_cons (ps_setComp (i := 3) rfl (blk_of (sc0 := defScope s_law) (N0 := ["_law_script", "_law_image_here", "_law_number", "_law_given", "_law_beats", "_law_told", "_law_end", "_law_memory", "_law_traces", "_law_left", "_law_place", "_law_handed", "_law_turn", "_law_found", "_law_one"]) (N' := ["_law_k", "_law_number"]) (own := 1) (fv := [2]) (by decide +kernel) rfl rfl) sc_law.nd rfl (Or.inl rfl) (pi_range1 rfl T.b_range (pa_cons (pe_op op_mod (pv 2) pe_int) pa_nil)) (fun _ _ _ _ => (pg_name (i := 0) (by show List.Nodup (["_law_k", "_law_number"] : List Str); decide +kernel) rfl (Or.inl rfl))) (fun _ _ _ _ => (pe_op op_mod (pe_call G_law_mixed (hr.mono (by decide)) rfl T_law_mixed.m T_law_mixed.F.kp T_law_mixed.b .nil pass0 (pa_cons (pv 1) (pa_cons (pe_op op_add pe_int (pv 0)) pa_nil))) pe_int)))
      (pss_cons (ps_set (i := 4) sc_law.nd rfl (Or.inl rfl) (pe_op op_mod (pe_op op_fdiv (pv 2) pe_int) pe_int))
      (pss_cons (ps_asg (pe_call G_law_alone (hr.mono (by decide)) rfl T_law_alone.m T_law_alone.F.kp T_law_alone.b .nil pass0 (pa_cons (pv 1) (pa_cons (pv 3) (pa_cons (pv 4) pa_nil)))) (pg_tup rfl (pgs_cons (pg_name (i := 5) sc_law.nd rfl (Or.inl rfl)) (pgs_cons (pg_name (i := 6) sc_law.nd rfl (Or.inl rfl)) (pgs_cons (pg_name (i := 7) sc_law.nd rfl (Or.inl rfl)) (pgs_cons (pg_name (i := 8) sc_law.nd rfl (Or.inl rfl)) pgs_nil))))))
      (pss_cons (ps_set (i := 9) sc_law.nd rfl (Or.inl rfl) pe_dnewK)
      (pss_cons (ps_frozen (ps_for PassesOwn.never rfl (pi_keys (pv 7)) (pg_name (i := 10) sc_law.nd rfl (Or.inl rfl))
        (pss_one (ps_if (pt_cmpR op_gt (pe_dget (hu_of hr) (pv 7) (pv 10) (fun _ _ => rfl)) pe_int (nomark _))
          (pss_one (ps_dput (hu_of hr) (pv 9) (pv 10) (pe_dget (hu_of hr) (pv 7) (pv 10) (fun _ _ => rfl)) rfl))
          pss_nil))))
      (pss_cons (ps_set (i := 11) sc_law.nd rfl (Or.inl rfl) (pe_tup (pa_cons (pe_callTy call_list_of rfl T.b_list (by decide +kernel) (pa_cons (pv 1) pa_nil)) (pa_cons (pe_callTy call_list_of rfl T.b_list (by decide +kernel) (pa_cons (pv 3) pa_nil)) pa_nil))))
      (pss_cons (ps_for PassesOwn.never rfl (pi_range1 rfl T.b_range (pa_cons pe_int pa_nil)) (pg_name (i := 12) sc_law.nd rfl (Or.inl rfl))
        hB)
      (pss_one (ps_ret pe_bl))))))))))), ?_⟩
    refine ⟨_, rfl, a, ns, rfl, hq, hn63, fun im H1 words him y1 hwl hw eim => ?_⟩
    refine ⟨_, rfl, a, ns, 0, rfl, y1.seq hq, by decide, fun c => ⟨c, 4, rfl, by decide, by decide, fun nu h0 h1 => ?_⟩⟩
    have hm10 : 0 ≤ nu % 10 ∧ nu % 10 < 10 := ⟨Int.emod_nonneg _ (by decide), Int.emod_lt_of_pos _ (by decide)⟩
    have hm121 : 0 ≤ nu / 10 % 121 ∧ nu / 10 % 121 < 121 := ⟨Int.emod_nonneg _ (by decide), Int.emod_lt_of_pos _ (by decide)⟩
    refine ⟨_, rfl, _, _, rfl, rfl, (by show (0 : Int) < 10; decide), _, rfl, by show -(2 ^ 62) ≤ nu % 10; omega, by show nu % 10 < 2 ^ 62; omega, comp_rngInv (lo := 0) (n := (nu % 10).toNat) (fvals := [some (.int nu)]) (fun acc i H2 => H1 acc = none ∧ i ≤ 9 ∧ Same H1 H2 ∧ ∃ gs : List Int, gs.length = i ∧ (∀ x ∈ gs, 0 ≤ x ∧ x < 65536) ∧ H2 acc = some (.lst (gs.map V.int))) ?_ ?_ ?_⟩
    · intro acc hacc
      exact ⟨hacc, Nat.zero_le _, Same.put hacc, [], rfl, fun x hx => (by cases hx), upd_same⟩
    · rintro acc i H2 R hi ⟨hacc, _, s2, gs, lg, hg, ea⟩ hR
      refine ⟨_, rfl, _, rfl, _, _, rfl, rfl, nu, 5 + (0 + (i : Int)), rfl, by omega, by omega, fun v v0 v1 => ⟨_, _, rfl, rfl, (by show (0 : Int) < 65536; decide), ?_⟩⟩
      refine hR _ _ ⟨_, ea, by rw [List.length_map]; omega, hacc, by omega, Kl.same s2 hacc Kl.one, gs ++ [v % 65536], by rw [List.length_append, lg]; rfl, fun x hx => ?_, ?_⟩
      · rcases List.mem_append.mp hx with z | z
        · exact hg x z
        · rw [List.mem_singleton.mp z]; exact ⟨Int.emod_nonneg _ (by decide), Int.emod_lt_of_pos _ (by decide)⟩
      · rw [upd_same, List.map_append]; rfl
    · rintro gv H2 hgv ⟨_, hi9, s2, given, lg, hg, egv⟩
      refine ⟨_, rfl, _, _, rfl, rfl, ⟨by decide, by decide⟩, _, _, rfl, rfl, (by show (0 : Int) < 121; decide), ?_⟩
      obtain ⟨b, hb⟩ : ∃ b : Nat, nu / 10 % 121 = (b : Int) := ⟨(nu / 10 % 121).toNat, by omega⟩
      have hb120 : b ≤ 120 := by omega
      have s12 := y1.trans s2
      have eim2 := s2 _ _ eim
      have eb : (fun i j => V.int (i % j)) (nu / 10) 121 = V.int (b : Int) := congrArg V.int hb
      rw [eb]
      refine ⟨_, rfl, _, rfl, _, rfl, im, gv, words, given, b, rfl, eim2, egv, hwl, hw, by omega, hg, hb120, fun p tl0 d0 trl0 ys H3 s3 ep e0 ed0 er0 py fd0 => ?_⟩
      have ok := runL_ok (start_ok hwl hw hg (by omega)) b
      obtain ⟨L, hLL⟩ : ∃ z, runL (startL words given) b = z := ⟨_, rfl⟩
      refine ⟨p, _, rfl, SqT.of ep, rfl, _, _, rfl, _, _, rfl, _, _, rfl, _, _, rfl, rfl, ?_⟩
      rw [hLL] at ok ed0
      intro r hr0
      have y4 := Same.put (o := .dK []) hr0
      have erd : upd H3 r (.dK []) r = some (.dK []) := upd_same
      generalize upd H3 r (.dK []) = H4 at y4 erd ⊢
      have dr : d0 ≠ r := ne_of_none ed0 hr0
      have ed4 := y4 _ _ ed0
      refine ⟨d0, _, ed4, fun o => ?_⟩
      have kf : ∀ x u, H4 x = some u → x ≠ d0 → upd H4 d0 (.frz o (.dK L.kv)) x = some u := fun x u e hx => by rw [upd_ne hx]; exact e
      have efz : upd H4 d0 (.frz o (.dK L.kv)) d0 = some (.frz o (.dK L.kv)) := upd_same
      generalize upd H4 d0 (.frz o (.dK L.kv)) = Hf at kf efz ⊢
      have hkl : L.kv.length ≤ 1000 := by have := ok.kl; omega
      refine ⟨_, rfl, d0, o, _, rfl, efz, for_keys (d := d0) (o := o) (kvs := L.kv) (fun i σ H5 => ∃ (v10 : Option V), σ = [some (.ref a), some (.ref im), some (.int nu), some (.ref gv), some (.int (b : Int)), some (.ref tl0), some (.str (runL (startL words given) b).en), some (.ref d0), some (.ref trl0), some (.ref r), v10, none, none, none, none] ∧ Kl r Hf H5 ∧ H5 r = some (.dK (clean (L.kv.take i))))
        ⟨_, rfl, Kl.of (Same.refl _), by rw [List.take_zero]; exact kf _ _ erd dr.symm⟩ ?_ ?_ ?_⟩
      · rintro i σ H5 _ ⟨v10, rfl, k5, _⟩
        exact k5 _ _ efz dr
      · rintro i k v σ H5 hkv ⟨v10, rfl, k5, e5⟩
        obtain ⟨kk, vv, e, hv0, hv1⟩ := ok.al _ (List.mem_of_getElem? hkv)
        cases e
        have hi : i < L.kv.length := (List.getElem?_eq_some_iff.mp hkv).1
        have gd : DGet H5 d0 (.int kk) (some (.int vv)) := .inl ⟨_, .inl kk, .inr ⟨o, k5 _ _ efz dr⟩, rfl, (valV_ix ok.nd hkv).symm⟩
        refine ⟨_, rfl, _, rfl, d0, _, rfl, gd, _, _, rfl, rfl, _, rfl, ite2 (fun h => ?_) (fun h => ?_)⟩
        · have hv : (0 : Int) < vv := of_decide_eq_true h
          refine ⟨_, rfl, _, rfl, d0, _, rfl, gd, _, rfl, _, rfl, r, _, rfl, DPut.k (k := .inl kk) e5 (by have := clean_len L.kv i; omega), ?_⟩
          refine ⟨_, rfl, k5.trans Kl.one, ?_⟩
          rw [upd_same, clean_step hkv, if_neg (fun z => by have := V.int.inj z; omega)]
        · have hv : ¬ (0 : Int) < vv := fun z => h (decide_eq_true z)
          refine ⟨_, rfl, k5, ?_⟩
          rw [clean_step hkv, if_pos (by show V.int vv = V.int 0; congr 1; omega)]
          exact e5
      rintro σ H5 ⟨v10, rfl, k5, e5⟩
      rw [List.take_of_length_le (Nat.le_refl _)] at e5
      refine ⟨k5 _ _ efz dr, ?_⟩
      have sT : Same H3 (thaw d0 L.kv H5) := fun x u e => by
        unfold thaw
        by_cases hx : x = d0
        · subst hx; rw [upd_same, ← e]; exact ed0.symm
        · rw [upd_ne hx]
          exact k5 _ _ (kf _ _ (y4 _ _ e) hx) (ne_of_none e hr0)
      have eT : thaw d0 L.kv H5 r = some (.dK (clean L.kv)) := by unfold thaw; rw [upd_ne dr.symm]; exact e5
      generalize thaw d0 L.kv H5 = H6 at sT eT ⊢
      have s6 := s3.trans sT
      refine ⟨_, rfl, im, _, rfl, .inl (SqL.of (s6 _ _ eim2)), fun i2 hi2 => ?_⟩
      have y7 := Same.put (o := .lst (words.map V.int)) hi2
      have ei2 : upd H6 i2 (.lst (words.map V.int)) i2 = some (.lst (words.map V.int)) := upd_same
      generalize upd H6 i2 (.lst (words.map V.int)) = H7 at y7 ei2 ⊢
      refine ⟨_, rfl, gv, _, rfl, .inl (SqL.of (y7 _ _ (s6 _ _ egv))), fun g2 hg2 => ?_⟩
      have y8 := Same.put (o := .lst (given.map V.int)) hg2
      have eg2 : upd H7 g2 (.lst (given.map V.int)) g2 = some (.lst (given.map V.int)) := upd_same
      generalize upd H7 g2 (.lst (given.map V.int)) = H8 at y8 eg2 ⊢
      refine ⟨(by show 2 ≤ sizeLine; omega), fun hd hhd => ?_⟩
      have y9 := Same.put (o := .tup [V.ref i2, V.ref g2]) hhd
      have ehd : upd H8 hd (.tup [V.ref i2, V.ref g2]) hd = some (.tup [V.ref i2, V.ref g2]) := upd_same
      generalize upd H8 hd (.tup [V.ref i2, V.ref g2]) = H9 at y9 ehd ⊢
      have y79 := y7.trans (y8.trans y9)
      have s39 := sT.trans y79
      have s29 := s3.trans s39
      refine ⟨2, rfl, by decide, by decide, for_range (lo := 0) (n := 2) (fun i σ H10 => ∃ (v12 v13 v14 : Option V), σ = [some (.ref a), some (.ref im), some (.int nu), some (.ref gv), some (.int (b : Int)), some (.ref tl0), some (.str (runL (startL words given) b).en), some (.ref d0), some (.ref trl0), some (.ref r), v10, some (.ref hd), v12, v13, v14] ∧ Same H9 H10) ⟨_, _, _, rfl, Same.refl _⟩ ?_ ?_⟩
      · rintro i σ H10 _ ⟨v12, v13, v14, rfl, s10⟩
        have s310 := s39.trans s10
        refine kB _ _ _ _ _ _ _ _ im gv tl0 trl0 r hd i2 g2 words given b ys H10 hwl hw (by omega) hg hb120 ((s3.trans s310) _ _ eim2) ((s3.trans s310) _ _ egv) (s310 _ _ e0) (s310 _ _ er0) (trs_same py s310) ?_ (s10 _ _ ehd) ((y8.trans y9).trans s10 _ _ ei2) ((y9.trans s10) _ _ eg2) fun v13 v14 H' s' => ⟨_, _, _, rfl, s10.trans s'⟩
        rw [hLL]; exact (y79.trans s10) _ _ eT
      · rintro σ H10 ⟨v12, v13, v14, rfl, s10⟩
        exact q _
end
end K21

set_option Elab.async false
set_option linter.all false
set_option maxRecDepth 100000
set_option maxHeartbeats 4000000
namespace K21
open PySem L2
theorem all_mk {l : PySem.W.OpenLaw} {w : World} {K : PySem.W.Frag} {h : Heap} {mg : Str → Option Value} {fz : Addr} {tk : Tok} (X : K.In h) (G : h.Ns mainGlobals mg) (hfa : mg "law" = some (.ref fz))
    {f0 : Addr} {od0 an0 : Option Addr} {sl0 : Array (Option Value)} {oc0 kV0 dc0 pm0 cd0 ct0 : Value}
    {f1 : Addr} {od1 an1 : Option Addr} {sl1 : Array (Option Value)} {oc1 kV1 dc1 pm1 cd1 ct1 : Value}
    {f2 : Addr} {od2 an2 : Option Addr} {sl2 : Array (Option Value)} {oc2 kV2 dc2 pm2 cd2 ct2 : Value}
    {f3 : Addr} {od3 an3 : Option Addr} {sl3 : Array (Option Value)} {oc3 kV3 dc3 pm3 cd3 ct3 : Value}
    {f4 : Addr} {od4 an4 : Option Addr} {sl4 : Array (Option Value)} {oc4 kV4 dc4 pm4 cd4 ct4 : Value}
    {f5 : Addr} {od5 an5 : Option Addr} {sl5 : Array (Option Value)} {oc5 kV5 dc5 pm5 cd5 ct5 : Value}
    {f6 : Addr} {od6 an6 : Option Addr} {sl6 : Array (Option Value)} {oc6 kV6 dc6 pm6 cd6 ct6 : Value}
    {f7 : Addr} {od7 an7 : Option Addr} {sl7 : Array (Option Value)} {oc7 kV7 dc7 pm7 cd7 ct7 : Value}
    {f8 : Addr} {od8 an8 : Option Addr} {sl8 : Array (Option Value)} {oc8 kV8 dc8 pm8 cd8 ct8 : Value}
    {f9 : Addr} {od9 an9 : Option Addr} {sl9 : Array (Option Value)} {oc9 kV9 dc9 pm9 cd9 ct9 : Value}
    {f10 : Addr} {od10 an10 : Option Addr} {sl10 : Array (Option Value)} {oc10 kV10 dc10 pm10 cd10 ct10 : Value}
    {f11 : Addr} {od11 an11 : Option Addr} {sl11 : Array (Option Value)} {oc11 kV11 dc11 pm11 cd11 ct11 : Value}
    {f12 : Addr} {od12 an12 : Option Addr} {sl12 : Array (Option Value)} {oc12 kV12 dc12 pm12 cd12 ct12 : Value}
    {f13 : Addr} {od13 an13 : Option Addr} {sl13 : Array (Option Value)} {oc13 kV13 dc13 pm13 cd13 ct13 : Value}
    {f14 : Addr} {od14 an14 : Option Addr} {sl14 : Array (Option Value)} {oc14 kV14 dc14 pm14 cd14 ct14 : Value}
    {f15 : Addr} {od15 an15 : Option Addr} {sl15 : Array (Option Value)} {oc15 kV15 dc15 pm15 cd15 ct15 : Value}
    {f16 : Addr} {od16 an16 : Option Addr} {sl16 : Array (Option Value)} {oc16 kV16 dc16 pm16 cd16 ct16 : Value}
    {f17 : Addr} {od17 an17 : Option Addr} {sl17 : Array (Option Value)} {oc17 kV17 dc17 pm17 cd17 ct17 : Value}
    {f18 : Addr} {od18 an18 : Option Addr} {sl18 : Array (Option Value)} {oc18 kV18 dc18 pm18 cd18 ct18 : Value}
    {f19 : Addr} {od19 an19 : Option Addr} {sl19 : Array (Option Value)} {oc19 kV19 dc19 pm19 cd19 ct19 : Value}
    {f20 : Addr} {od20 an20 : Option Addr} {sl20 : Array (Option Value)} {oc20 kV20 dc20 pm20 cd20 ct20 : Value}
    {f21 : Addr} {od21 an21 : Option Addr} {sl21 : Array (Option Value)} {oc21 kV21 dc21 pm21 cd21 ct21 : Value}
    {f22 : Addr} {od22 an22 : Option Addr} {sl22 : Array (Option Value)} {oc22 kV22 dc22 pm22 cd22 ct22 : Value}
    {f23 : Addr} {od23 an23 : Option Addr} {sl23 : Array (Option Value)} {oc23 kV23 dc23 pm23 cd23 ct23 : Value}
    {f24 : Addr} {od24 an24 : Option Addr} {sl24 : Array (Option Value)} {oc24 kV24 dc24 pm24 cd24 ct24 : Value}
    {f25 : Addr} {od25 an25 : Option Addr} {sl25 : Array (Option Value)} {oc25 kV25 dc25 pm25 cd25 ct25 : Value}
    {f26 : Addr} {od26 an26 : Option Addr} {sl26 : Array (Option Value)} {oc26 kV26 dc26 pm26 cd26 ct26 : Value}
    {f27 : Addr} {od27 an27 : Option Addr} {sl27 : Array (Option Value)} {oc27 kV27 dc27 pm27 cd27 ct27 : Value}
    {f28 : Addr} {od28 an28 : Option Addr} {sl28 : Array (Option Value)} {oc28 kV28 dc28 pm28 cd28 ct28 : Value}
    {f29 : Addr} {od29 an29 : Option Addr} {sl29 : Array (Option Value)} {oc29 kV29 dc29 pm29 cd29 ct29 : Value}
    {f30 : Addr} {od30 an30 : Option Addr} {sl30 : Array (Option Value)} {oc30 kV30 dc30 pm30 cd30 ct30 : Value}
    {f31 : Addr} {od31 an31 : Option Addr} {sl31 : Array (Option Value)} {oc31 kV31 dc31 pm31 cd31 ct31 : Value}
    {f32 : Addr} {od32 an32 : Option Addr} {sl32 : Array (Option Value)} {oc32 kV32 dc32 pm32 cd32 ct32 : Value}
    {f33 : Addr} {od33 an33 : Option Addr} {sl33 : Array (Option Value)} {oc33 kV33 dc33 pm33 cd33 ct33 : Value}
    {f34 : Addr} {od34 an34 : Option Addr} {sl34 : Array (Option Value)} {oc34 kV34 dc34 pm34 cd34 ct34 : Value}
    {f35 : Addr} {od35 an35 : Option Addr} {sl35 : Array (Option Value)} {oc35 kV35 dc35 pm35 cd35 ct35 : Value}
    {f36 : Addr} {od36 an36 : Option Addr} {sl36 : Array (Option Value)} {oc36 kV36 dc36 pm36 cd36 ct36 : Value}
    {f37 : Addr} {od37 an37 : Option Addr} {sl37 : Array (Option Value)} {oc37 kV37 dc37 pm37 cd37 ct37 : Value}
    {f38 : Addr} {od38 an38 : Option Addr} {sl38 : Array (Option Value)} {oc38 kV38 dc38 pm38 cd38 ct38 : Value}
    {f39 : Addr} {od39 an39 : Option Addr} {sl39 : Array (Option Value)} {oc39 kV39 dc39 pm39 cd39 ct39 : Value}
    {f40 : Addr} {od40 an40 : Option Addr} {sl40 : Array (Option Value)} {oc40 kV40 dc40 pm40 cd40 ct40 : Value}
    {f41 : Addr} {od41 an41 : Option Addr} {sl41 : Array (Option Value)} {oc41 kV41 dc41 pm41 cd41 ct41 : Value}
    {f42 : Addr} {od42 an42 : Option Addr} {sl42 : Array (Option Value)} {oc42 kV42 dc42 pm42 cd42 ct42 : Value}
    {f43 : Addr} {od43 an43 : Option Addr} {sl43 : Array (Option Value)} {oc43 kV43 dc43 pm43 cd43 ct43 : Value}
    {f44 : Addr} {od44 an44 : Option Addr} {sl44 : Array (Option Value)} {oc44 kV44 dc44 pm44 cd44 ct44 : Value}
    {f45 : Addr} {od45 an45 : Option Addr} {sl45 : Array (Option Value)} {oc45 kV45 dc45 pm45 cd45 ct45 : Value}
    {f46 : Addr} {od46 an46 : Option Addr} {sl46 : Array (Option Value)} {oc46 kV46 dc46 pm46 cd46 ct46 : Value}
    (a0 : PySem.W.nsIn K mainGlobals "first_state" = some (some (.ref f0))) (l0 : K.lookup f0 = some ⟨oc0, od0, .func (PySem.W.fnOf "first_state" "first_state" (defArgs s_first_state) (defBody s_first_state) (defScope s_first_state) .none kV0 dc0 pm0 an0 cd0 ct0), sl0⟩) (c0 : PySem.W.codeIn K cd0 "first_state" = true) (k0 : PySem.W.keepIn K (.ref f0) = true)
    (a1 : PySem.W.nsIn K mainGlobals "op_of" = some (some (.ref f1))) (l1 : K.lookup f1 = some ⟨oc1, od1, .func (PySem.W.fnOf "op_of" "op_of" (defArgs s_op_of) (defBody s_op_of) (defScope s_op_of) .none kV1 dc1 pm1 an1 cd1 ct1), sl1⟩) (c1 : PySem.W.codeIn K cd1 "op_of" = true) (k1 : PySem.W.keepIn K (.ref f1) = true)
    (a2 : PySem.W.nsIn K mainGlobals "number_of" = some (some (.ref f2))) (l2 : K.lookup f2 = some ⟨oc2, od2, .func (PySem.W.fnOf "number_of" "number_of" (defArgs s_number_of) (defBody s_number_of) (defScope s_number_of) .none kV2 dc2 pm2 an2 cd2 ct2), sl2⟩) (c2 : PySem.W.codeIn K cd2 "number_of" = true) (k2 : PySem.W.keepIn K (.ref f2) = true)
    (a3 : PySem.W.nsIn K mainGlobals "reaching_ops" = some (some (.ref f3))) (l3 : K.lookup f3 = some ⟨oc3, od3, .func (PySem.W.fnOf "reaching_ops" "reaching_ops" (defArgs s_reaching_ops) (defBody s_reaching_ops) (defScope s_reaching_ops) .none kV3 dc3 pm3 an3 cd3 ct3), sl3⟩) (c3 : PySem.W.codeIn K cd3 "reaching_ops" = true) (k3 : PySem.W.keepIn K (.ref f3) = true)
    (a4 : PySem.W.nsIn K mainGlobals "parts_read_by_own" = some (some (.ref f4))) (l4 : K.lookup f4 = some ⟨oc4, od4, .func (PySem.W.fnOf "parts_read_by_own" "parts_read_by_own" (defArgs s_parts_read_by_own) (defBody s_parts_read_by_own) (defScope s_parts_read_by_own) .none kV4 dc4 pm4 an4 cd4 ct4), sl4⟩) (c4 : PySem.W.codeIn K cd4 "parts_read_by_own" = true) (k4 : PySem.W.keepIn K (.ref f4) = true)
    (a5 : PySem.W.nsIn K mainGlobals "parts_set_by_own" = some (some (.ref f5))) (l5 : K.lookup f5 = some ⟨oc5, od5, .func (PySem.W.fnOf "parts_set_by_own" "parts_set_by_own" (defArgs s_parts_set_by_own) (defBody s_parts_set_by_own) (defScope s_parts_set_by_own) .none kV5 dc5 pm5 an5 cd5 ct5), sl5⟩) (c5 : PySem.W.codeIn K cd5 "parts_set_by_own" = true) (k5 : PySem.W.keepIn K (.ref f5) = true)
    (a6 : PySem.W.nsIn K mainGlobals "place_within" = some (some (.ref f6))) (l6 : K.lookup f6 = some ⟨oc6, od6, .func (PySem.W.fnOf "place_within" "place_within" (defArgs s_place_within) (defBody s_place_within) (defScope s_place_within) .none kV6 dc6 pm6 an6 cd6 ct6), sl6⟩) (c6 : PySem.W.codeIn K cd6 "place_within" = true) (k6 : PySem.W.keepIn K (.ref f6) = true)
    (a7 : PySem.W.nsIn K mainGlobals "asked" = some (some (.ref f7))) (l7 : K.lookup f7 = some ⟨oc7, od7, .func (PySem.W.fnOf "asked" "asked" (defArgs s_asked) (defBody s_asked) (defScope s_asked) .none kV7 dc7 pm7 an7 cd7 ct7), sl7⟩) (c7 : PySem.W.codeIn K cd7 "asked" = true) (k7 : PySem.W.keepIn K (.ref f7) = true)
    (a8 : PySem.W.nsIn K mainGlobals "is_barred" = some (some (.ref f8))) (l8 : K.lookup f8 = some ⟨oc8, od8, .func (PySem.W.fnOf "is_barred" "is_barred" (defArgs s_is_barred) (defBody s_is_barred) (defScope s_is_barred) .none kV8 dc8 pm8 an8 cd8 ct8), sl8⟩) (c8 : PySem.W.codeIn K cd8 "is_barred" = true) (k8 : PySem.W.keepIn K (.ref f8) = true)
    (a9 : PySem.W.nsIn K mainGlobals "exchanged" = some (some (.ref f9))) (l9 : K.lookup f9 = some ⟨oc9, od9, .func (PySem.W.fnOf "exchanged" "exchanged" (defArgs s_exchanged) (defBody s_exchanged) (defScope s_exchanged) .none kV9 dc9 pm9 an9 cd9 ct9), sl9⟩) (c9 : PySem.W.codeIn K cd9 "exchanged" = true) (k9 : PySem.W.keepIn K (.ref f9) = true)
    (a10 : PySem.W.nsIn K mainGlobals "trapped" = some (some (.ref f10))) (l10 : K.lookup f10 = some ⟨oc10, od10, .func (PySem.W.fnOf "trapped" "trapped" (defArgs s_trapped) (defBody s_trapped) (defScope s_trapped) .none kV10 dc10 pm10 an10 cd10 ct10), sl10⟩) (c10 : PySem.W.codeIn K cd10 "trapped" = true) (k10 : PySem.W.keepIn K (.ref f10) = true)
    (a11 : PySem.W.nsIn K mainGlobals "fetch" = some (some (.ref f11))) (l11 : K.lookup f11 = some ⟨oc11, od11, .func (PySem.W.fnOf "fetch" "fetch" (defArgs s_fetch) (defBody s_fetch) (defScope s_fetch) .none kV11 dc11 pm11 an11 cd11 ct11), sl11⟩) (c11 : PySem.W.codeIn K cd11 "fetch" = true) (k11 : PySem.W.keepIn K (.ref f11) = true)
    (a12 : PySem.W.nsIn K mainGlobals "cause_of" = some (some (.ref f12))) (l12 : K.lookup f12 = some ⟨oc12, od12, .func (PySem.W.fnOf "cause_of" "cause_of" (defArgs s_cause_of) (defBody s_cause_of) (defScope s_cause_of) .none kV12 dc12 pm12 an12 cd12 ct12), sl12⟩) (c12 : PySem.W.codeIn K cd12 "cause_of" = true) (k12 : PySem.W.keepIn K (.ref f12) = true)
    (a13 : PySem.W.nsIn K mainGlobals "row_trapped" = some (some (.ref f13))) (l13 : K.lookup f13 = some ⟨oc13, od13, .func (PySem.W.fnOf "row_trapped" "row_trapped" (defArgs s_row_trapped) (defBody s_row_trapped) (defScope s_row_trapped) .none kV13 dc13 pm13 an13 cd13 ct13), sl13⟩) (c13 : PySem.W.codeIn K cd13 "row_trapped" = true) (k13 : PySem.W.keepIn K (.ref f13) = true)
    (a14 : PySem.W.nsIn K mainGlobals "a_by_exchange" = some (some (.ref f14))) (l14 : K.lookup f14 = some ⟨oc14, od14, .func (PySem.W.fnOf "a_by_exchange" "a_by_exchange" (defArgs s_a_by_exchange) (defBody s_a_by_exchange) (defScope s_a_by_exchange) .none kV14 dc14 pm14 an14 cd14 ct14), sl14⟩) (c14 : PySem.W.codeIn K cd14 "a_by_exchange" = true) (k14 : PySem.W.keepIn K (.ref f14) = true)
    (a15 : PySem.W.nsIn K mainGlobals "new_a" = some (some (.ref f15))) (l15 : K.lookup f15 = some ⟨oc15, od15, .func (PySem.W.fnOf "new_a" "new_a" (defArgs s_new_a) (defBody s_new_a) (defScope s_new_a) .none kV15 dc15 pm15 an15 cd15 ct15), sl15⟩) (c15 : PySem.W.codeIn K cd15 "new_a" = true) (k15 : PySem.W.keepIn K (.ref f15) = true)
    (a16 : PySem.W.nsIn K mainGlobals "new_x" = some (some (.ref f16))) (l16 : K.lookup f16 = some ⟨oc16, od16, .func (PySem.W.fnOf "new_x" "new_x" (defArgs s_new_x) (defBody s_new_x) (defScope s_new_x) .none kV16 dc16 pm16 an16 cd16 ct16), sl16⟩) (c16 : PySem.W.codeIn K cd16 "new_x" = true) (k16 : PySem.W.keepIn K (.ref f16) = true)
    (a17 : PySem.W.nsIn K mainGlobals "leaps" = some (some (.ref f17))) (l17 : K.lookup f17 = some ⟨oc17, od17, .func (PySem.W.fnOf "leaps" "leaps" (defArgs s_leaps) (defBody s_leaps) (defScope s_leaps) .none kV17 dc17 pm17 an17 cd17 ct17), sl17⟩) (c17 : PySem.W.codeIn K cd17 "leaps" = true) (k17 : PySem.W.keepIn K (.ref f17) = true)
    (a18 : PySem.W.nsIn K mainGlobals "new_p" = some (some (.ref f18))) (l18 : K.lookup f18 = some ⟨oc18, od18, .func (PySem.W.fnOf "new_p" "new_p" (defArgs s_new_p) (defBody s_new_p) (defScope s_new_p) .none kV18 dc18 pm18 an18 cd18 ct18), sl18⟩) (c18 : PySem.W.codeIn K cd18 "new_p" = true) (k18 : PySem.W.keepIn K (.ref f18) = true)
    (a19 : PySem.W.nsIn K mainGlobals "own_changes" = some (some (.ref f19))) (l19 : K.lookup f19 = some ⟨oc19, od19, .func (PySem.W.fnOf "own_changes" "own_changes" (defArgs s_own_changes) (defBody s_own_changes) (defScope s_own_changes) .none kV19 dc19 pm19 an19 cd19 ct19), sl19⟩) (c19 : PySem.W.codeIn K cd19 "own_changes" = true) (k19 : PySem.W.keepIn K (.ref f19) = true)
    (a20 : PySem.W.nsIn K mainGlobals "row_done" = some (some (.ref f20))) (l20 : K.lookup f20 = some ⟨oc20, od20, .func (PySem.W.fnOf "row_done" "row_done" (defArgs s_row_done) (defBody s_row_done) (defScope s_row_done) .none kV20 dc20 pm20 an20 cd20 ct20), sl20⟩) (c20 : PySem.W.codeIn K cd20 "row_done" = true) (k20 : PySem.W.keepIn K (.ref f20) = true)
    (a21 : PySem.W.nsIn K mainGlobals "bell_counted" = some (some (.ref f21))) (l21 : K.lookup f21 = some ⟨oc21, od21, .func (PySem.W.fnOf "bell_counted" "bell_counted" (defArgs s_bell_counted) (defBody s_bell_counted) (defScope s_bell_counted) .none kV21 dc21 pm21 an21 cd21 ct21), sl21⟩) (c21 : PySem.W.codeIn K cd21 "bell_counted" = true) (k21 : PySem.W.keepIn K (.ref f21) = true)
    (a22 : PySem.W.nsIn K mainGlobals "written" = some (some (.ref f22))) (l22 : K.lookup f22 = some ⟨oc22, od22, .func (PySem.W.fnOf "written" "written" (defArgs s_written) (defBody s_written) (defScope s_written) .none kV22 dc22 pm22 an22 cd22 ct22), sl22⟩) (c22 : PySem.W.codeIn K cd22 "written" = true) (k22 : PySem.W.keepIn K (.ref f22) = true)
    (a23 : PySem.W.nsIn K mainGlobals "told_word" = some (some (.ref f23))) (l23 : K.lookup f23 = some ⟨oc23, od23, .func (PySem.W.fnOf "told_word" "told_word" (defArgs s_told_word) (defBody s_told_word) (defScope s_told_word) .none kV23 dc23 pm23 an23 cd23 ct23), sl23⟩) (c23 : PySem.W.codeIn K cd23 "told_word" = true) (k23 : PySem.W.keepIn K (.ref f23) = true)
    (a24 : PySem.W.nsIn K mainGlobals "beat_of" = some (some (.ref f24))) (l24 : K.lookup f24 = some ⟨oc24, od24, .func (PySem.W.fnOf "beat_of" "beat_of" (defArgs s_beat_of) (defBody s_beat_of) (defScope s_beat_of) .none kV24 dc24 pm24 an24 cd24 ct24), sl24⟩) (c24 : PySem.W.codeIn K cd24 "beat_of" = true) (k24 : PySem.W.keepIn K (.ref f24) = true)
    (a25 : PySem.W.nsIn K mainGlobals "without_noughts" = some (some (.ref f25))) (l25 : K.lookup f25 = some ⟨oc25, od25, .func (PySem.W.fnOf "without_noughts" "without_noughts" (defArgs s_without_noughts) (defBody s_without_noughts) (defScope s_without_noughts) .none kV25 dc25 pm25 an25 cd25 ct25), sl25⟩) (c25 : PySem.W.codeIn K cd25 "without_noughts" = true) (k25 : PySem.W.keepIn K (.ref f25) = true)
    (a26 : PySem.W.nsIn K mainGlobals "beat_in" = some (some (.ref f26))) (l26 : K.lookup f26 = some ⟨oc26, od26, .func (PySem.W.fnOf "beat_in" "beat_in" (defArgs s_beat_in) (defBody s_beat_in) (defScope s_beat_in) .none kV26 dc26 pm26 an26 cd26 ct26), sl26⟩) (c26 : PySem.W.codeIn K cd26 "beat_in" = true) (k26 : PySem.W.keepIn K (.ref f26) = true)
    (a27 : PySem.W.nsIn K mainGlobals "stretch" = some (some (.ref f27))) (l27 : K.lookup f27 = some ⟨oc27, od27, .func (PySem.W.fnOf "stretch" "stretch" (defArgs s_stretch) (defBody s_stretch) (defScope s_stretch) .none kV27 dc27 pm27 an27 cd27 ct27), sl27⟩) (c27 : PySem.W.codeIn K cd27 "stretch" = true) (k27 : PySem.W.keepIn K (.ref f27) = true)
    (a28 : PySem.W.nsIn K mainGlobals "end_by" = some (some (.ref f28))) (l28 : K.lookup f28 = some ⟨oc28, od28, .func (PySem.W.fnOf "end_by" "end_by" (defArgs s_end_by) (defBody s_end_by) (defScope s_end_by) .none kV28 dc28 pm28 an28 cd28 ct28), sl28⟩) (c28 : PySem.W.codeIn K cd28 "end_by" = true) (k28 : PySem.W.keepIn K (.ref f28) = true)
    (a29 : PySem.W.nsIn K mainGlobals "behind_call" = some (some (.ref f29))) (l29 : K.lookup f29 = some ⟨oc29, od29, .func (PySem.W.fnOf "behind_call" "behind_call" (defArgs s_behind_call) (defBody s_behind_call) (defScope s_behind_call) .none kV29 dc29 pm29 an29 cd29 ct29), sl29⟩) (c29 : PySem.W.codeIn K cd29 "behind_call" = true) (k29 : PySem.W.keepIn K (.ref f29) = true)
    (a30 : PySem.W.nsIn K mainGlobals "lone" = some (some (.ref f30))) (l30 : K.lookup f30 = some ⟨oc30, od30, .func (PySem.W.fnOf "lone" "lone" (defArgs s_lone) (defBody s_lone) (defScope s_lone) .none kV30 dc30 pm30 an30 cd30 ct30), sl30⟩) (c30 : PySem.W.codeIn K cd30 "lone" = true) (k30 : PySem.W.keepIn K (.ref f30) = true)
    (a31 : PySem.W.nsIn K mainGlobals "_law_cell_at" = some (some (.ref f31))) (l31 : K.lookup f31 = some ⟨oc31, od31, .func (PySem.W.fnOf "_law_cell_at" "_law_cell_at" (defArgs s_law_cell_at) (defBody s_law_cell_at) (defScope s_law_cell_at) .none kV31 dc31 pm31 an31 cd31 ct31), sl31⟩) (c31 : PySem.W.codeIn K cd31 "_law_cell_at" = true) (k31 : PySem.W.keepIn K (.ref f31) = true)
    (a32 : PySem.W.nsIn K mainGlobals "_law_mixed" = some (some (.ref f32))) (l32 : K.lookup f32 = some ⟨oc32, od32, .func (PySem.W.fnOf "_law_mixed" "_law_mixed" (defArgs s_law_mixed) (defBody s_law_mixed) (defScope s_law_mixed) .none kV32 dc32 pm32 an32 cd32 ct32), sl32⟩) (c32 : PySem.W.codeIn K cd32 "_law_mixed" = true) (k32 : PySem.W.keepIn K (.ref f32) = true)
    (a33 : PySem.W.nsIn K mainGlobals "_law_names" = some (some (.ref f33))) (l33 : K.lookup f33 = some ⟨oc33, od33, .func (PySem.W.fnOf "_law_names" "_law_names" (defArgs s_law_names) (defBody s_law_names) (defScope s_law_names) .none kV33 dc33 pm33 an33 cd33 ct33), sl33⟩) (c33 : PySem.W.codeIn K cd33 "_law_names" = true) (k33 : PySem.W.keepIn K (.ref f33) = true)
    (a34 : PySem.W.nsIn K mainGlobals "_law_read" = some (some (.ref f34))) (l34 : K.lookup f34 = some ⟨oc34, od34, .func (PySem.W.fnOf "_law_read" "_law_read" (defArgs s_law_read) (defBody s_law_read) (defScope s_law_read) .none kV34 dc34 pm34 an34 cd34 ct34), sl34⟩) (c34 : PySem.W.codeIn K cd34 "_law_read" = true) (k34 : PySem.W.keepIn K (.ref f34) = true)
    (a35 : PySem.W.nsIn K mainGlobals "_law_told_of" = some (some (.ref f35))) (l35 : K.lookup f35 = some ⟨oc35, od35, .func (PySem.W.fnOf "_law_told_of" "_law_told_of" (defArgs s_law_told_of) (defBody s_law_told_of) (defScope s_law_told_of) .none kV35 dc35 pm35 an35 cd35 ct35), sl35⟩) (c35 : PySem.W.codeIn K cd35 "_law_told_of" = true) (k35 : PySem.W.keepIn K (.ref f35) = true)
    (a36 : PySem.W.nsIn K mainGlobals "_law_wants" = some (some (.ref f36))) (l36 : K.lookup f36 = some ⟨oc36, od36, .func (PySem.W.fnOf "_law_wants" "_law_wants" (defArgs s_law_wants) (defBody s_law_wants) (defScope s_law_wants) .none kV36 dc36 pm36 an36 cd36 ct36), sl36⟩) (c36 : PySem.W.codeIn K cd36 "_law_wants" = true) (k36 : PySem.W.keepIn K (.ref f36) = true)
    (a37 : PySem.W.nsIn K mainGlobals "_law_trapped" = some (some (.ref f37))) (l37 : K.lookup f37 = some ⟨oc37, od37, .func (PySem.W.fnOf "_law_trapped" "_law_trapped" (defArgs s_law_trapped) (defBody s_law_trapped) (defScope s_law_trapped) .none kV37 dc37 pm37 an37 cd37 ct37), sl37⟩) (c37 : PySem.W.codeIn K cd37 "_law_trapped" = true) (k37 : PySem.W.keepIn K (.ref f37) = true)
    (a38 : PySem.W.nsIn K mainGlobals "_law_own" = some (some (.ref f38))) (l38 : K.lookup f38 = some ⟨oc38, od38, .func (PySem.W.fnOf "_law_own" "_law_own" (defArgs s_law_own) (defBody s_law_own) (defScope s_law_own) .none kV38 dc38 pm38 an38 cd38 ct38), sl38⟩) (c38 : PySem.W.codeIn K cd38 "_law_own" = true) (k38 : PySem.W.keepIn K (.ref f38) = true)
    (a39 : PySem.W.nsIn K mainGlobals "_law_moved" = some (some (.ref f39))) (l39 : K.lookup f39 = some ⟨oc39, od39, .func (PySem.W.fnOf "_law_moved" "_law_moved" (defArgs s_law_moved) (defBody s_law_moved) (defScope s_law_moved) .none kV39 dc39 pm39 an39 cd39 ct39), sl39⟩) (c39 : PySem.W.codeIn K cd39 "_law_moved" = true) (k39 : PySem.W.keepIn K (.ref f39) = true)
    (a40 : PySem.W.nsIn K mainGlobals "_law_row" = some (some (.ref f40))) (l40 : K.lookup f40 = some ⟨oc40, od40, .func (PySem.W.fnOf "_law_row" "_law_row" (defArgs s_law_row) (defBody s_law_row) (defScope s_law_row) .none kV40 dc40 pm40 an40 cd40 ct40), sl40⟩) (c40 : PySem.W.codeIn K cd40 "_law_row" = true) (k40 : PySem.W.keepIn K (.ref f40) = true)
    (a41 : PySem.W.nsIn K mainGlobals "_law_beat" = some (some (.ref f41))) (l41 : K.lookup f41 = some ⟨oc41, od41, .func (PySem.W.fnOf "_law_beat" "_law_beat" (defArgs s_law_beat) (defBody s_law_beat) (defScope s_law_beat) .none kV41 dc41 pm41 an41 cd41 ct41), sl41⟩) (c41 : PySem.W.codeIn K cd41 "_law_beat" = true) (k41 : PySem.W.keepIn K (.ref f41) = true)
    (a42 : PySem.W.nsIn K mainGlobals "_law_words_by" = some (some (.ref f42))) (l42 : K.lookup f42 = some ⟨oc42, od42, .func (PySem.W.fnOf "_law_words_by" "_law_words_by" (defArgs s_law_words_by) (defBody s_law_words_by) (defScope s_law_words_by) .none kV42 dc42 pm42 an42 cd42 ct42), sl42⟩) (c42 : PySem.W.codeIn K cd42 "_law_words_by" = true) (k42 : PySem.W.keepIn K (.ref f42) = true)
    (a43 : PySem.W.nsIn K mainGlobals "_law_heard" = some (some (.ref f43))) (l43 : K.lookup f43 = some ⟨oc43, od43, .func (PySem.W.fnOf "_law_heard" "_law_heard" (defArgs s_law_heard) (defBody s_law_heard) (defScope s_law_heard) .none kV43 dc43 pm43 an43 cd43 ct43), sl43⟩) (c43 : PySem.W.codeIn K cd43 "_law_heard" = true) (k43 : PySem.W.keepIn K (.ref f43) = true)
    (a44 : PySem.W.nsIn K mainGlobals "_law_alone" = some (some (.ref f44))) (l44 : K.lookup f44 = some ⟨oc44, od44, .func (PySem.W.fnOf "_law_alone" "_law_alone" (defArgs s_law_alone) (defBody s_law_alone) (defScope s_law_alone) .none kV44 dc44 pm44 an44 cd44 ct44), sl44⟩) (c44 : PySem.W.codeIn K cd44 "_law_alone" = true) (k44 : PySem.W.keepIn K (.ref f44) = true)
    (a45 : PySem.W.nsIn K mainGlobals "_law_image" = some (some (.ref f45))) (l45 : K.lookup f45 = some ⟨oc45, od45, .func (PySem.W.fnOf "_law_image" "_law_image" (defArgs s_law_image) (defBody s_law_image) (defScope s_law_image) .none kV45 dc45 pm45 an45 cd45 ct45), sl45⟩) (c45 : PySem.W.codeIn K cd45 "_law_image" = true) (k45 : PySem.W.keepIn K (.ref f45) = true)
    (a46 : PySem.W.nsIn K mainGlobals "law" = some (some (.ref f46))) (l46 : K.lookup f46 = some ⟨oc46, od46, .func (PySem.W.fnOf "law" "law" (defArgs s_law) (defBody s_law) (defScope s_law) .none kV46 dc46 pm46 an46 cd46 ct46), sl46⟩) (c46 : PySem.W.codeIn K cd46 "law" = true) (k46 : PySem.W.keepIn K (.ref f46) = true)
    {tk_SET : Tok} (fw_SET : PySem.W.nsIn K mainGlobals "SET" = some (some (.int 0 tk_SET)))
    {tk_LOAD : Tok} (fw_LOAD : PySem.W.nsIn K mainGlobals "LOAD" = some (some (.int 1 tk_LOAD)))
    {tk_STORE : Tok} (fw_STORE : PySem.W.nsIn K mainGlobals "STORE" = some (some (.int 2 tk_STORE)))
    {tk_ADD : Tok} (fw_ADD : PySem.W.nsIn K mainGlobals "ADD" = some (some (.int 3 tk_ADD)))
    {tk_TAKE : Tok} (fw_TAKE : PySem.W.nsIn K mainGlobals "TAKE" = some (some (.int 4 tk_TAKE)))
    {tk_BOTH : Tok} (fw_BOTH : PySem.W.nsIn K mainGlobals "BOTH" = some (some (.int 5 tk_BOTH)))
    {tk_GOTO : Tok} (fw_GOTO : PySem.W.nsIn K mainGlobals "GOTO" = some (some (.int 6 tk_GOTO)))
    {tk_ZERO : Tok} (fw_ZERO : PySem.W.nsIn K mainGlobals "ZERO" = some (some (.int 7 tk_ZERO)))
    {tk_BELOW : Tok} (fw_BELOW : PySem.W.nsIn K mainGlobals "BELOW" = some (some (.int 8 tk_BELOW)))
    {tk_FROM : Tok} (fw_FROM : PySem.W.nsIn K mainGlobals "FROM" = some (some (.int 9 tk_FROM)))
    {tk_INTO : Tok} (fw_INTO : PySem.W.nsIn K mainGlobals "INTO" = some (some (.int 10 tk_INTO)))
    {tk_MOVE : Tok} (fw_MOVE : PySem.W.nsIn K mainGlobals "MOVE" = some (some (.int 11 tk_MOVE)))
    {tk_LINK : Tok} (fw_LINK : PySem.W.nsIn K mainGlobals "LINK" = some (some (.int 12 tk_LINK)))
    {tk_CALL : Tok} (fw_CALL : PySem.W.nsIn K mainGlobals "CALL" = some (some (.int 13 tk_CALL)))
    {tk_OWN : Tok} (fw_OWN : PySem.W.nsIn K mainGlobals "OWN" = some (some (.int 14 tk_OWN)))
    {tk_BACK : Tok} (fw_BACK : PySem.W.nsIn K mainGlobals "BACK" = some (some (.int 15 tk_BACK)))
    {tk_WORDS : Tok} (fw_WORDS : PySem.W.nsIn K mainGlobals "WORDS" = some (some (.int 65536 tk_WORDS)))
    {tk_PLACES : Tok} (fw_PLACES : PySem.W.nsIn K mainGlobals "PLACES" = some (some (.int 4096 tk_PLACES)))
    {tk_FIRST_BELOW : Tok} (fw_FIRST_BELOW : PySem.W.nsIn K mainGlobals "FIRST_BELOW" = some (some (.int 32768 tk_FIRST_BELOW)))
    {tk_A : Tok} (fw_A : PySem.W.nsIn K mainGlobals "A" = some (some (.int 0 tk_A)))
    {tk_X : Tok} (fw_X : PySem.W.nsIn K mainGlobals "X" = some (some (.int 1 tk_X)))
    {tk_P : Tok} (fw_P : PySem.W.nsIn K mainGlobals "P" = some (some (.int 2 tk_P)))
    {tk_ROW : Tok} (fw_ROW : PySem.W.nsIn K mainGlobals "ROW" = some (some (.int 3 tk_ROW)))
    {tk_FETCHED : Tok} (fw_FETCHED : PySem.W.nsIn K mainGlobals "FETCHED" = some (some (.int 4 tk_FETCHED)))
    {tk_MODE : Tok} (fw_MODE : PySem.W.nsIn K mainGlobals "MODE" = some (some (.int 5 tk_MODE)))
    {tk_BEGIN : Tok} (fw_BEGIN : PySem.W.nsIn K mainGlobals "BEGIN" = some (some (.int 6 tk_BEGIN)))
    {tk_LENGTH : Tok} (fw_LENGTH : PySem.W.nsIn K mainGlobals "LENGTH" = some (some (.int 7 tk_LENGTH)))
    {tk_BELL : Tok} (fw_BELL : PySem.W.nsIn K mainGlobals "BELL" = some (some (.int 8 tk_BELL)))
    {tk_SAVED_A : Tok} (fw_SAVED_A : PySem.W.nsIn K mainGlobals "SAVED_A" = some (some (.int 9 tk_SAVED_A)))
    {tk_SAVED_X : Tok} (fw_SAVED_X : PySem.W.nsIn K mainGlobals "SAVED_X" = some (some (.int 10 tk_SAVED_X)))
    {tk_SAVED_P : Tok} (fw_SAVED_P : PySem.W.nsIn K mainGlobals "SAVED_P" = some (some (.int 11 tk_SAVED_P)))
    {tk_CAUSE : Tok} (fw_CAUSE : PySem.W.nsIn K mainGlobals "CAUSE" = some (some (.int 12 tk_CAUSE)))
    {tk_NUMBER : Tok} (fw_NUMBER : PySem.W.nsIn K mainGlobals "NUMBER" = some (some (.int 13 tk_NUMBER)))
    {tk_HALTED : Tok} (fw_HALTED : PySem.W.nsIn K mainGlobals "HALTED" = some (some (.int 14 tk_HALTED)))
    {aW_WIDTHS : Addr} {odW_WIDTHS : Option Addr} {slW_WIDTHS : Array (Option Value)} {nW_WIDTHS : Nat} {tW_WIDTHS_0 tW_WIDTHS_1 tW_WIDTHS_2 tW_WIDTHS_3 tW_WIDTHS_4 tW_WIDTHS_5 tW_WIDTHS_6 tW_WIDTHS_7 tW_WIDTHS_8 tW_WIDTHS_9 tW_WIDTHS_10 tW_WIDTHS_11 tW_WIDTHS_12 tW_WIDTHS_13 tW_WIDTHS_14 : Tok} (fw_WIDTHS : PySem.W.nsIn K mainGlobals "WIDTHS" = some (some (.ref aW_WIDTHS))) (lw_WIDTHS : K.lookup aW_WIDTHS = some ⟨.type "tuple", odW_WIDTHS, .seq #[.int 16 tW_WIDTHS_0, .int 16 tW_WIDTHS_1, .int 12 tW_WIDTHS_2, .int 16 tW_WIDTHS_3, .int 1 tW_WIDTHS_4, .int 1 tW_WIDTHS_5, .int 12 tW_WIDTHS_6, .int 12 tW_WIDTHS_7, .int 12 tW_WIDTHS_8, .int 16 tW_WIDTHS_9, .int 16 tW_WIDTHS_10, .int 12 tW_WIDTHS_11, .int 3 tW_WIDTHS_12, .int 12 tW_WIDTHS_13, .int 1 tW_WIDTHS_14] nW_WIDTHS, slW_WIDTHS⟩)
    {tk_BARRED : Tok} (fw_BARRED : PySem.W.nsIn K mainGlobals "BARRED" = some (some (.int 1 tk_BARRED)))
    {tk_NOT_OWN : Tok} (fw_NOT_OWN : PySem.W.nsIn K mainGlobals "NOT_OWN" = some (some (.int 2 tk_NOT_OWN)))
    {tk_CALLED : Tok} (fw_CALLED : PySem.W.nsIn K mainGlobals "CALLED" = some (some (.int 3 tk_CALLED)))
    {tk_RUNG : Tok} (fw_RUNG : PySem.W.nsIn K mainGlobals "RUNG" = some (some (.int 4 tk_RUNG)))
    {tk_MOVES : Tok} (fw_MOVES : PySem.W.nsIn K mainGlobals "MOVES" = some (some (.int 4 tk_MOVES)))
    {tk_OWNS : Tok} (fw_OWNS : PySem.W.nsIn K mainGlobals "OWNS" = some (some (.int 16 tk_OWNS)))
    {tk_OWN_HALT : Tok} (fw_OWN_HALT : PySem.W.nsIn K mainGlobals "OWN_HALT" = some (some (.int 5 tk_OWN_HALT)))
    {tk_OWN_TELL : Tok} (fw_OWN_TELL : PySem.W.nsIn K mainGlobals "OWN_TELL" = some (some (.int 6 tk_OWN_TELL)))
    {tk_NONE_LEFT : Tok} (fw_NONE_LEFT : PySem.W.nsIn K mainGlobals "NONE_LEFT" = some (some (.int 65535 tk_NONE_LEFT)))
    {tk_END : Tok} (fw_END : PySem.W.nsIn K mainGlobals "END" = some (some (.int 0 tk_END)))
    {tk_TELL : Tok} (fw_TELL : PySem.W.nsIn K mainGlobals "TELL" = some (some (.int 1 tk_TELL)))
    {tk_ASK : Tok} (fw_ASK : PySem.W.nsIn K mainGlobals "ASK" = some (some (.int 3 tk_ASK)))
    (z_enumerate : PySem.W.nsIn K mainGlobals "enumerate" = some none)
    (z_dict : PySem.W.nsIn K mainGlobals "dict" = some none)
    (z_len : PySem.W.nsIn K mainGlobals "len" = some none)
    (z_range : PySem.W.nsIn K mainGlobals "range" = some none)
    (z_list : PySem.W.nsIn K mainGlobals "list" = some none)
    (z_tuple : PySem.W.nsIn K mainGlobals "tuple" = some none)
    (z_min : PySem.W.nsIn K mainGlobals "min" = some none)
    (z_isinstance : PySem.W.nsIn K mainGlobals "isinstance" = some none)
    (z_int : PySem.W.nsIn K mainGlobals "int" = some none)
    (z_bool : PySem.W.nsIn K mainGlobals "bool" = some none)
    (z_zip : PySem.W.nsIn K mainGlobals "zip" = some none)
    (z_sum : PySem.W.nsIn K mainGlobals "sum" = some none)
    : ∃ fd : FuncData, (∀ (s : Shared) (v : Value), BindsTo s fd ⟨[v], []⟩ [("_law_script", v)]) ∧ ∀ base : Heap, K.In base → base.Ns mainGlobals mg → FnOk l.prog w K mg base CX0 10 fz fd ["_law_script"] (sp_law K) := by
  have e := hfa.symm.trans (PySem.W.mg_of X G a46)
  cases e
  have T : Bt mg := ⟨PySem.W.mg_none_of X G z_enumerate, PySem.W.mg_none_of X G z_dict, PySem.W.mg_none_of X G z_len, PySem.W.mg_none_of X G z_range, PySem.W.mg_none_of X G z_list, PySem.W.mg_none_of X G z_tuple, PySem.W.mg_none_of X G z_min, PySem.W.mg_none_of X G z_isinstance, PySem.W.mg_none_of X G z_int, PySem.W.mg_none_of X G z_bool, PySem.W.mg_none_of X G z_zip, PySem.W.mg_none_of X G z_sum⟩
  have C : Ct K mg := ⟨⟨_, PySem.W.mg_of X G fw_SET⟩, ⟨_, PySem.W.mg_of X G fw_LOAD⟩, ⟨_, PySem.W.mg_of X G fw_STORE⟩, ⟨_, PySem.W.mg_of X G fw_ADD⟩, ⟨_, PySem.W.mg_of X G fw_TAKE⟩, ⟨_, PySem.W.mg_of X G fw_BOTH⟩, ⟨_, PySem.W.mg_of X G fw_GOTO⟩, ⟨_, PySem.W.mg_of X G fw_ZERO⟩, ⟨_, PySem.W.mg_of X G fw_BELOW⟩, ⟨_, PySem.W.mg_of X G fw_FROM⟩, ⟨_, PySem.W.mg_of X G fw_INTO⟩, ⟨_, PySem.W.mg_of X G fw_MOVE⟩, ⟨_, PySem.W.mg_of X G fw_LINK⟩, ⟨_, PySem.W.mg_of X G fw_CALL⟩, ⟨_, PySem.W.mg_of X G fw_OWN⟩, ⟨_, PySem.W.mg_of X G fw_BACK⟩, ⟨_, PySem.W.mg_of X G fw_WORDS⟩, ⟨_, PySem.W.mg_of X G fw_PLACES⟩, ⟨_, PySem.W.mg_of X G fw_FIRST_BELOW⟩, ⟨_, PySem.W.mg_of X G fw_A⟩, ⟨_, PySem.W.mg_of X G fw_X⟩, ⟨_, PySem.W.mg_of X G fw_P⟩, ⟨_, PySem.W.mg_of X G fw_ROW⟩, ⟨_, PySem.W.mg_of X G fw_FETCHED⟩, ⟨_, PySem.W.mg_of X G fw_MODE⟩, ⟨_, PySem.W.mg_of X G fw_BEGIN⟩, ⟨_, PySem.W.mg_of X G fw_LENGTH⟩, ⟨_, PySem.W.mg_of X G fw_BELL⟩, ⟨_, PySem.W.mg_of X G fw_SAVED_A⟩, ⟨_, PySem.W.mg_of X G fw_SAVED_X⟩, ⟨_, PySem.W.mg_of X G fw_SAVED_P⟩, ⟨_, PySem.W.mg_of X G fw_CAUSE⟩, ⟨_, PySem.W.mg_of X G fw_NUMBER⟩, ⟨_, PySem.W.mg_of X G fw_HALTED⟩, ⟨_, PySem.W.mg_of X G fw_WIDTHS, fun H => .inr ⟨_, _, _, lw_WIDTHS, rfl, rfl, by show 15 ≤ sizeLine; rw [sizeLine_eq]; decide, .cons ⟨_, rfl⟩ (.cons ⟨_, rfl⟩ (.cons ⟨_, rfl⟩ (.cons ⟨_, rfl⟩ (.cons ⟨_, rfl⟩ (.cons ⟨_, rfl⟩ (.cons ⟨_, rfl⟩ (.cons ⟨_, rfl⟩ (.cons ⟨_, rfl⟩ (.cons ⟨_, rfl⟩ (.cons ⟨_, rfl⟩ (.cons ⟨_, rfl⟩ (.cons ⟨_, rfl⟩ (.cons ⟨_, rfl⟩ (.cons ⟨_, rfl⟩ (.nil)))))))))))))))⟩⟩, ⟨_, PySem.W.mg_of X G fw_BARRED⟩, ⟨_, PySem.W.mg_of X G fw_NOT_OWN⟩, ⟨_, PySem.W.mg_of X G fw_CALLED⟩, ⟨_, PySem.W.mg_of X G fw_RUNG⟩, ⟨_, PySem.W.mg_of X G fw_MOVES⟩, ⟨_, PySem.W.mg_of X G fw_OWNS⟩, ⟨_, PySem.W.mg_of X G fw_OWN_HALT⟩, ⟨_, PySem.W.mg_of X G fw_OWN_TELL⟩, ⟨_, PySem.W.mg_of X G fw_NONE_LEFT⟩, ⟨_, PySem.W.mg_of X G fw_END⟩, ⟨_, PySem.W.mg_of X G fw_TELL⟩, ⟨_, PySem.W.mg_of X G fw_ASK⟩⟩
  have F0 := fun_mk (st := s_first_state) l0 c0 k0
  have b0 := F0.binds (ps := []) fun _ _ _ _ _ _ us hl => match us, hl with | [], _ => rfl
  have F1 := fun_mk (st := s_op_of) l1 c1 k1
  have b1 := F1.binds (ps := ["state"]) fun _ _ _ _ _ _ us hl => match us, hl with | [_], _ => rfl
  have F2 := fun_mk (st := s_number_of) l2 c2 k2
  have b2 := F2.binds (ps := ["state"]) fun _ _ _ _ _ _ us hl => match us, hl with | [_], _ => rfl
  have F3 := fun_mk (st := s_reaching_ops) l3 c3 k3
  have b3 := F3.binds (ps := []) fun _ _ _ _ _ _ us hl => match us, hl with | [], _ => rfl
  have F4 := fun_mk (st := s_parts_read_by_own) l4 c4 k4
  have b4 := F4.binds (ps := []) fun _ _ _ _ _ _ us hl => match us, hl with | [], _ => rfl
  have F5 := fun_mk (st := s_parts_set_by_own) l5 c5 k5
  have b5 := F5.binds (ps := []) fun _ _ _ _ _ _ us hl => match us, hl with | [], _ => rfl
  have F6 := fun_mk (st := s_place_within) l6 c6 k6
  have b6 := F6.binds (ps := ["state"]) fun _ _ _ _ _ _ us hl => match us, hl with | [_], _ => rfl
  have F7 := fun_mk (st := s_asked) l7 c7 k7
  have b7 := F7.binds (ps := ["state"]) fun _ _ _ _ _ _ us hl => match us, hl with | [_], _ => rfl
  have F8 := fun_mk (st := s_is_barred) l8 c8 k8
  have b8 := F8.binds (ps := ["state"]) fun _ _ _ _ _ _ us hl => match us, hl with | [_], _ => rfl
  have F9 := fun_mk (st := s_exchanged) l9 c9 k9
  have b9 := F9.binds (ps := ["state", "changes"]) fun _ _ _ _ _ _ us hl => match us, hl with | [_, _], _ => rfl
  have F10 := fun_mk (st := s_trapped) l10 c10 k10
  have b10 := F10.binds (ps := ["state", "cause", "place"]) fun _ _ _ _ _ _ us hl => match us, hl with | [_, _, _], _ => rfl
  have F11 := fun_mk (st := s_fetch) l11 c11 k11
  have b11 := F11.binds (ps := ["state", "word"]) fun _ _ _ _ _ _ us hl => match us, hl with | [_, _], _ => rfl
  have F12 := fun_mk (st := s_cause_of) l12 c12 k12
  have b12 := F12.binds (ps := ["state"]) fun _ _ _ _ _ _ us hl => match us, hl with | [_], _ => rfl
  have F13 := fun_mk (st := s_row_trapped) l13 c13 k13
  have b13 := F13.binds (ps := ["state", "cause"]) fun _ _ _ _ _ _ us hl => match us, hl with | [_, _], _ => rfl
  have F14 := fun_mk (st := s_a_by_exchange) l14 c14 k14
  have b14 := F14.binds (ps := ["state"]) fun _ _ _ _ _ _ us hl => match us, hl with | [_], _ => rfl
  have F15 := fun_mk (st := s_new_a) l15 c15 k15
  have b15 := F15.binds (ps := ["state", "word"]) fun _ _ _ _ _ _ us hl => match us, hl with | [_, _], _ => rfl
  have F16 := fun_mk (st := s_new_x) l16 c16 k16
  have b16 := F16.binds (ps := ["state"]) fun _ _ _ _ _ _ us hl => match us, hl with | [_], _ => rfl
  have F17 := fun_mk (st := s_leaps) l17 c17 k17
  have b17 := F17.binds (ps := ["state"]) fun _ _ _ _ _ _ us hl => match us, hl with | [_], _ => rfl
  have F18 := fun_mk (st := s_new_p) l18 c18 k18
  have b18 := F18.binds (ps := ["state"]) fun _ _ _ _ _ _ us hl => match us, hl with | [_], _ => rfl
  have F19 := fun_mk (st := s_own_changes) l19 c19 k19
  have b19 := F19.binds (ps := ["state"]) fun _ _ _ _ _ _ us hl => match us, hl with | [_], _ => rfl
  have F20 := fun_mk (st := s_row_done) l20 c20 k20
  have b20 := F20.binds (ps := ["state", "word"]) fun _ _ _ _ _ _ us hl => match us, hl with | [_, _], _ => rfl
  have F21 := fun_mk (st := s_bell_counted) l21 c21 k21
  have b21 := F21.binds (ps := ["state"]) fun _ _ _ _ _ _ us hl => match us, hl with | [_], _ => rfl
  have F22 := fun_mk (st := s_written) l22 c22 k22
  have b22 := F22.binds (ps := ["state"]) fun _ _ _ _ _ _ us hl => match us, hl with | [_], _ => rfl
  have F23 := fun_mk (st := s_told_word) l23 c23 k23
  have b23 := F23.binds (ps := ["state"]) fun _ _ _ _ _ _ us hl => match us, hl with | [_], _ => rfl
  have F24 := fun_mk (st := s_beat_of) l24 c24 k24
  have b24 := F24.binds (ps := ["state", "word"]) fun _ _ _ _ _ _ us hl => match us, hl with | [_, _], _ => rfl
  have F25 := fun_mk (st := s_without_noughts) l25 c25 k25
  have b25 := F25.binds (ps := ["memory"]) fun _ _ _ _ _ _ us hl => match us, hl with | [_], _ => rfl
  have F26 := fun_mk (st := s_beat_in) l26 c26 k26
  have b26 := F26.binds (ps := ["state", "memory", "told", "trace"]) fun _ _ _ _ _ _ us hl => match us, hl with | [_, _, _, _], _ => rfl
  have F27 := fun_mk (st := s_stretch) l27 c27 k27
  have b27 := F27.binds (ps := ["state", "memory", "beats"]) fun _ _ _ _ _ _ us hl => match us, hl with | [_, _, _], _ => rfl
  have F28 := fun_mk (st := s_end_by) l28 c28 k28
  have b28 := F28.binds (ps := ["state"]) fun _ _ _ _ _ _ us hl => match us, hl with | [_], _ => rfl
  have F29 := fun_mk (st := s_behind_call) l29 c29 k29
  have b29 := F29.binds (ps := ["state", "told", "left"]) fun _ _ _ _ _ _ us hl => match us, hl with | [_, _, _], _ => rfl
  have F30 := fun_mk (st := s_lone) l30 c30 k30
  have b30 := F30.binds (ps := ["image", "given", "beats"]) fun _ _ _ _ _ _ us hl => match us, hl with | [_, _, _], _ => rfl
  have F31 := fun_mk (st := s_law_cell_at) l31 c31 k31
  have b31 := F31.binds (ps := ["_law_script", "_law_k"]) fun _ _ _ _ _ _ us hl => match us, hl with | [_, _], _ => rfl
  have F32 := fun_mk (st := s_law_mixed) l32 c32 k32
  have b32 := F32.binds (ps := ["_law_number", "_law_k"]) fun _ _ _ _ _ _ us hl => match us, hl with | [_, _], _ => rfl
  have F33 := fun_mk (st := s_law_names) l33 c33 k33
  have b33 := F33.binds (ps := []) fun _ _ _ _ _ _ us hl => match us, hl with | [], _ => rfl
  have F34 := fun_mk (st := s_law_read) l34 c34 k34
  have b34 := F34.binds (ps := ["_law_state"]) fun _ _ _ _ _ _ us hl => match us, hl with | [_], _ => rfl
  have F35 := fun_mk (st := s_law_told_of) l35 c35 k35
  have b35 := F35.binds (ps := ["_law_s"]) fun _ _ _ _ _ _ us hl => match us, hl with | [_], _ => rfl
  have F36 := fun_mk (st := s_law_wants) l36 c36 k36
  have b36 := F36.binds (ps := ["_law_s"]) fun _ _ _ _ _ _ us hl => match us, hl with | [_], _ => rfl
  have F37 := fun_mk (st := s_law_trapped) l37 c37 k37
  have b37 := F37.binds (ps := ["_law_s", "_law_cause", "_law_place"]) fun _ _ _ _ _ _ us hl => match us, hl with | [_, _, _], _ => rfl
  have F38 := fun_mk (st := s_law_own) l38 c38 k38
  have b38 := F38.binds (ps := ["_law_s", "_law_which"]) fun _ _ _ _ _ _ us hl => match us, hl with | [_, _], _ => rfl
  have F39 := fun_mk (st := s_law_moved) l39 c39 k39
  have b39 := F39.binds (ps := ["_law_s", "_law_which"]) fun _ _ _ _ _ _ us hl => match us, hl with | [_, _], _ => rfl
  have F40 := fun_mk (st := s_law_row) l40 c40 k40
  have b40 := F40.binds (ps := ["_law_s", "_law_op", "_law_number", "_law_word"]) fun _ _ _ _ _ _ us hl => match us, hl with | [_, _, _, _], _ => rfl
  have F41 := fun_mk (st := s_law_beat) l41 c41 k41
  have b41 := F41.binds (ps := ["_law_state", "_law_word"]) fun _ _ _ _ _ _ us hl => match us, hl with | [_, _], _ => rfl
  have F42 := fun_mk (st := s_law_words_by) l42 c42 k42
  have b42 := F42.binds (ps := ["_law_cells", "_law_number"]) fun _ _ _ _ _ _ us hl => match us, hl with | [_, _], _ => rfl
  have F43 := fun_mk (st := s_law_heard) l43 c43 k43
  have b43 := F43.binds (ps := ["_law_s", "_law_given", "_law_told"]) fun _ _ _ _ _ _ us hl => match us, hl with | [_, _, _], _ => rfl
  have F44 := fun_mk (st := s_law_alone) l44 c44 k44
  have b44 := F44.binds (ps := ["_law_image_here", "_law_given", "_law_beats"]) fun _ _ _ _ _ _ us hl => match us, hl with | [_, _, _], _ => rfl
  have F45 := fun_mk (st := s_law_image) l45 c45 k45
  have b45 := F45.binds (ps := ["_law_script"]) fun _ _ _ _ _ _ us hl => match us, hl with | [_], _ => rfl
  have F46 := fun_mk (st := s_law) l46 c46 k46
  exact ⟨PySem.W.fnOf "law" "law" (defArgs s_law) (defBody s_law) (defScope s_law) .none kV46 dc46 pm46 an46 cd46 ct46, fun s v => .of_eq rfl, fun base _ _ => ok_law F46 T C ⟨F1, PySem.W.mg_of X G a1, b1⟩ ⟨F2, PySem.W.mg_of X G a2, b2⟩ ⟨F3, PySem.W.mg_of X G a3, b3⟩ ⟨F4, PySem.W.mg_of X G a4, b4⟩ ⟨F5, PySem.W.mg_of X G a5, b5⟩ ⟨F6, PySem.W.mg_of X G a6, b6⟩ ⟨F7, PySem.W.mg_of X G a7, b7⟩ ⟨F8, PySem.W.mg_of X G a8, b8⟩ ⟨F9, PySem.W.mg_of X G a9, b9⟩ ⟨F10, PySem.W.mg_of X G a10, b10⟩ ⟨F11, PySem.W.mg_of X G a11, b11⟩ ⟨F12, PySem.W.mg_of X G a12, b12⟩ ⟨F13, PySem.W.mg_of X G a13, b13⟩ ⟨F14, PySem.W.mg_of X G a14, b14⟩ ⟨F15, PySem.W.mg_of X G a15, b15⟩ ⟨F16, PySem.W.mg_of X G a16, b16⟩ ⟨F17, PySem.W.mg_of X G a17, b17⟩ ⟨F18, PySem.W.mg_of X G a18, b18⟩ ⟨F19, PySem.W.mg_of X G a19, b19⟩ ⟨F20, PySem.W.mg_of X G a20, b20⟩ ⟨F21, PySem.W.mg_of X G a21, b21⟩ ⟨F22, PySem.W.mg_of X G a22, b22⟩ ⟨F23, PySem.W.mg_of X G a23, b23⟩ ⟨F24, PySem.W.mg_of X G a24, b24⟩ ⟨F31, PySem.W.mg_of X G a31, b31⟩ ⟨F32, PySem.W.mg_of X G a32, b32⟩ ⟨F33, PySem.W.mg_of X G a33, b33⟩ ⟨F34, PySem.W.mg_of X G a34, b34⟩ ⟨F35, PySem.W.mg_of X G a35, b35⟩ ⟨F36, PySem.W.mg_of X G a36, b36⟩ ⟨F37, PySem.W.mg_of X G a37, b37⟩ ⟨F38, PySem.W.mg_of X G a38, b38⟩ ⟨F39, PySem.W.mg_of X G a39, b39⟩ ⟨F40, PySem.W.mg_of X G a40, b40⟩ ⟨F41, PySem.W.mg_of X G a41, b41⟩ ⟨F25, PySem.W.mg_of X G a25, b25⟩ ⟨F26, PySem.W.mg_of X G a26, b26⟩ ⟨F42, PySem.W.mg_of X G a42, b42⟩ ⟨F0, PySem.W.mg_of X G a0, b0⟩ ⟨F27, PySem.W.mg_of X G a27, b27⟩ ⟨F28, PySem.W.mg_of X G a28, b28⟩ ⟨F29, PySem.W.mg_of X G a29, b29⟩ ⟨F30, PySem.W.mg_of X G a30, b30⟩ ⟨F43, PySem.W.mg_of X G a43, b43⟩ ⟨F44, PySem.W.mg_of X G a44, b44⟩ ⟨F45, PySem.W.mg_of X G a45, b45⟩⟩
theorem walk {l : PySem.W.OpenLaw} {q : Program} {loose : List Str} {XP : (Str → Option Value) → Heap → Prop} {YP : World → Heap → Prop} {d : DefRec} {K : Params → PySem.W.Frag} (hn : l.most = some 63) (hdf : d.params.defaults = [])
    (hY : ∀ (w : World) (h : Heap), YP w h → (K w.params).In h)
    (F : ∀ (w : World) (mg : Str → Option Value) (fa : Addr) (h : Heap), (K w.params).In h → h.Ns mainGlobals mg → mg d.name = some (.ref fa) →
      ∃ fd : FuncData, (∀ (s : Shared) (u : Value), BindsTo s fd ⟨[u], []⟩ [("_law_script", u)]) ∧ ∀ base : Heap, (K w.params).In base → base.Ns mainGlobals mg → FnOk l.prog w (K w.params) mg base CX0 10 fa fd ["_law_script"] (sp_law (K w.params))) :
    PySem.W.WalkO q loose XP YP l.row.toRowW d [] (fun f vs => PySem.call f vs) :=
  L2.walk_of (n := 63) (k := 10) (x := "_law_script") (CX := fun _ => CX0) (sp := fun w => sp_law (K w.params)) hn (by decide) hdf ⟨rfl, by decide, by decide⟩ hY F (fun _ _ a ns hl _ hS => ⟨a, ns, rfl, hS, hl, fun _ => rfl⟩) fun _ _ _ _ _ z => z
end K21
def PySem.W.Fast.tw3558181028493873569 : Unit := ()
def PySem.W.Fast.tw14624684186298452268 : Unit := ()
def PySem.W.Fast.tw8778401772986463138 : Unit := ()
def PySem.W.Fast.tw2423719040045347068 : Unit := ()
def PySem.W.Fast.tw160463302509813329 : Unit := ()
def PySem.W.Fast.tw2285353791597211683 : Unit := ()
def PySem.W.Fast.tw10136947679450486612 : Unit := ()
def PySem.W.Fast.tw13478776927886240339 : Unit := ()
def PySem.W.Fast.tw3506050603181823105 : Unit := ()
def PySem.W.Fast.tw1498058785295873231 : Unit := ()
def PySem.W.Fast.tw16806938276024998358 : Unit := ()
def PySem.W.Fast.tw6300668150345060220 : Unit := ()
def PySem.W.Fast.tw11561434415501692590 : Unit := ()
def PySem.W.Fast.tw997627709952887990 : Unit := ()
def PySem.W.Fast.tw4790524856534205116 : Unit := ()
def PySem.W.Fast.tw8147037400338919416 : Unit := ()
def PySem.W.Fast.tw17773728001104908058 : Unit := ()
def PySem.W.Fast.tw11553480645617128757 : Unit := ()
def PySem.W.Fast.tw1940690375091130520 : Unit := ()
def PySem.W.Fast.tw18025376972256523395 : Unit := ()
def PySem.W.Fast.tw11159041077719801207 : Unit := ()
def PySem.W.Fast.tw13013931401860270991 : Unit := ()
def PySem.W.Fast.tw18187860315330575925 : Unit := ()
def PySem.W.Fast.tw8728506545876009050 : Unit := ()
def PySem.W.Fast.tw7649137090845028608 : Unit := ()
def PySem.W.Fast.tw8166581810249702449 : Unit := ()
def PySem.W.Fast.tw9381765488097449016 : Unit := ()
def PySem.W.Fast.tw12173328455143400689 : Unit := ()
def PySem.W.Fast.tw2369414007658826977 : Unit := ()
def PySem.W.Fast.tw12949942642004706313 : Unit := ()
def PySem.W.Fast.tw1770848766794407833 : Unit := ()
def PySem.W.Fast.tw1331360481894199089 : Unit := ()
def PySem.W.Fast.tw3031966753845294346 : Unit := ()
def PySem.W.Fast.tw12594331341188468510 : Unit := ()
def PySem.W.Fast.tw13467120508923593980 : Unit := ()
def PySem.W.Fast.tw11385274005155993213 : Unit := ()
def PySem.W.Fast.tw3572199870494900848 : Unit := ()
def PySem.W.Fast.tw12702782887896807888 : Unit := ()
def PySem.W.Fast.tw7496307130905562123 : Unit := ()
def PySem.W.Fast.tw11577850273985670551 : Unit := ()
def PySem.W.Fast.tw5259475414865841133 : Unit := ()
def PySem.W.Fast.tw18142653500656302485 : Unit := ()
def PySem.W.Fast.tw17990352645099316188 : Unit := ()
def PySem.W.Fast.tw10816590460424909799 : Unit := ()
def PySem.W.Fast.tw2624488445340633233 : Unit := ()
def PySem.W.Fast.tw5534164986310606657 : Unit := ()
def PySem.W.Fast.tw4960459167754090053 : Unit := ()
def PySem.W.Fast.tw6749522387552502371 : Unit := ()
def PySem.W.Fast.tw14659879719081362270 : Unit := ()
def PySem.W.Fast.tw10656887259615412725 : Unit := ()
def PySem.W.Fast.tw4563121816002730411 : Unit := ()
def PySem.W.Fast.tw7048357893173306847 : Unit := ()
def PySem.W.Fast.tw15589577692957673158 : Unit := ()
def PySem.W.Fast.tw9502829005899647707 : Unit := ()
def PySem.W.Fast.tw8949203286951237578 : Unit := ()
def PySem.W.Fast.tw14725980197319329636 : Unit := ()
def PySem.W.Fast.tw17594905185900477069 : Unit := ()
def PySem.W.Fast.tw2253318419387491237 : Unit := ()
def PySem.W.Fast.tw1850811514737199052 : Unit := ()
def PySem.W.Fast.tw6234832207003832412 : Unit := ()
def PySem.W.Fast.tw14216272508992065697 : Unit := ()
def PySem.W.Fast.tw4632492684512917493 : Unit := ()
def PySem.W.Fast.tw12244627504445437867 : Unit := ()
def PySem.W.Fast.tw1642125370402607522 : Unit := ()
def PySem.W.Fast.tw16169714066932747560 : Unit := ()
def PySem.W.Fast.tw13041378673783223766 : Unit := ()
def PySem.W.Fast.tw5230720584603274948 : Unit := ()
def PySem.W.Fast.tw17845287015713261104 : Unit := ()
def PySem.W.Fast.tw12407764586416808331 : Unit := ()
def PySem.W.Fast.tw17395365677241828757 : Unit := ()
def PySem.W.Fast.tw16300437940427756628 : Unit := ()
def PySem.W.Fast.tw5860852495405624718 : Unit := ()
def PySem.W.Fast.tw15006938478665686289 : Unit := ()
def PySem.W.Fast.tw1304968726124899861 : Unit := ()
def PySem.W.Fast.tw5339143734574436491 : Unit := ()
def PySem.W.Fast.tw731757475217012687 : Unit := ()
def PySem.W.Fast.tw1104133441561660813 : Unit := ()
def PySem.W.Fast.tw3516022509673686604 : Unit := ()
def PySem.W.Fast.tw16766960301527177231 : Unit := ()
def PySem.W.Fast.tw17187745697971446638 : Unit := ()
def PySem.W.Fast.tw9499095803977308060 : Unit := ()
def PySem.W.Fast.tw10668712832238946451 : Unit := ()
def PySem.W.Fast.tw2315274282164494528 : Unit := ()
def PySem.W.Fast.tw17752496889123416760 : Unit := ()
def PySem.W.Fast.tw11426431845008554005 : Unit := ()
def PySem.W.Fast.tw16188861095048456713 : Unit := ()
def PySem.W.Fast.tw15269729546252630026 : Unit := ()
def PySem.W.Fast.tw12363312226897009244 : Unit := ()
def PySem.W.Fast.tw1761377629550293803 : Unit := ()
def PySem.W.Fast.tw4805273550720267576 : Unit := ()
def PySem.W.Fast.tw6897941676864866109 : Unit := ()
def PySem.W.Fast.tw13808099663986731178 : Unit := ()
def PySem.W.Fast.tw851264418935124066 : Unit := ()
def PySem.W.Fast.tw301265802763404746 : Unit := ()
def PySem.W.Fast.tw13707991330146043968 : Unit := ()
def PySem.W.Fast.tw2121635774271677659 : Unit := ()
def PySem.W.Fast.tw14899170581282186110 : Unit := ()
def PySem.W.Fast.tw10746575430058225984 : Unit := ()
def PySem.W.Fast.tw13997707365116492301 : Unit := ()
def PySem.W.Fast.tw7767885622994713162 : Unit := ()
def PySem.W.Fast.tw15485625922630897743 : Unit := ()
def PySem.W.Fast.tw16908824657791957204 : Unit := ()
def PySem.W.Fast.tw12722854052845986374 : Unit := ()
def PySem.W.Fast.tw1969244865422554244 : Unit := ()
def PySem.W.Fast.tw2679057004413249184 : Unit := ()
def PySem.W.Fast.tw9238753040374310729 : Unit := ()
def PySem.W.Fast.tw10607827886759088297 : Unit := ()
def PySem.W.Fast.tw16361966747759291433 : Unit := ()
def PySem.W.Fast.tw15659494888435033304 : Unit := ()
def PySem.W.Fast.tw9972373519838861928 : Unit := ()
def PySem.W.Fast.tw5503055030378691815 : Unit := ()
def PySem.W.Fast.tw2347586260198729551 : Unit := ()
def PySem.W.Fast.tw4743984560837997642 : Unit := ()
def PySem.W.Fast.tw903228423167736607 : Unit := ()
def PySem.W.Fast.tw6810596812956528661 : Unit := ()
def PySem.W.Fast.tw7610170781332477307 : Unit := ()
def PySem.W.Fast.tw9649422105047967508 : Unit := ()
def PySem.W.Fast.tw1536575932684419976 : Unit := ()
def PySem.W.Fast.tw11161990596208921872 : Unit := ()
def PySem.W.Fast.tw15994042000618545205 : Unit := ()
def PySem.W.Fast.tw7744736719559752265 : Unit := ()
def PySem.W.Fast.tw14421137093495278972 : Unit := ()
def PySem.W.Fast.tw15942662185803137312 : Unit := ()
def PySem.W.Fast.tw5572529863904015526 : Unit := ()
def PySem.W.Fast.tw7734640735247566081 : Unit := ()
def PySem.W.Fast.tw9289519443813648504 : Unit := ()
def PySem.W.Fast.tw9209382347746395250 : Unit := ()
def PySem.W.Fast.tw12405152985816836734 : Unit := ()
def PySem.W.Fast.tw13969780164762845866 : Unit := ()
def PySem.W.Fast.tw12742262405628559500 : Unit := ()
def PySem.W.Fast.tw4879650866033630377 : Unit := ()
def PySem.W.Fast.tw8126244107820640534 : Unit := ()
def PySem.W.Fast.tw12781996894007740233 : Unit := ()
def PySem.W.Fast.tw17677789210735193947 : Unit := ()
def PySem.W.Fast.tw6463550238117196135 : Unit := ()
def PySem.W.Fast.tw5406820427057836353 : Unit := ()
def PySem.W.Fast.tw13382276711114347697 : Unit := ()
def PySem.W.Fast.tw15732433108904894368 : Unit := ()
def PySem.W.Fast.tw3370548967120842724 : Unit := ()
def PySem.W.Fast.tw7462299821511477837 : Unit := ()
def PySem.W.Fast.tw17532715321070496921 : Unit := ()
def PySem.W.Fast.tw16402938859780673716 : Unit := ()
def PySem.W.Fast.tw9033131312790879039 : Unit := ()
def PySem.W.Fast.tw9070858789577718741 : Unit := ()
def PySem.W.Fast.tw13456921348008980310 : Unit := ()
def PySem.W.Fast.tw8414369521717871995 : Unit := ()
def PySem.W.Fast.tw11905774069064791397 : Unit := ()
def PySem.W.Fast.tw7672869177131044553 : Unit := ()
def PySem.W.Fast.tw813476666740076089 : Unit := ()
def PySem.W.Fast.tw17521009749705069792 : Unit := ()
def PySem.W.Fast.tw796913290781408777 : Unit := ()
def PySem.W.Fast.tw5700349468475310121 : Unit := ()
def PySem.W.Fast.tw3415395649947358671 : Unit := ()
def PySem.W.Fast.tw3548434355275873170 : Unit := ()
def PySem.W.Fast.tw4015014618177494869 : Unit := ()
def PySem.W.Fast.tw8101230824150371706 : Unit := ()
def PySem.W.Fast.tw12078246894584443638 : Unit := ()
def PySem.W.Fast.tw12116959530905834763 : Unit := ()
def PySem.W.Fast.tw3317240004144350096 : Unit := ()
def PySem.W.Fast.tw3418380422907748407 : Unit := ()
def PySem.W.Fast.tw18199812302367288719 : Unit := ()
def PySem.W.Fast.tw8500214501109162724 : Unit := ()
def PySem.W.Fast.tw4646093267250174356 : Unit := ()
def PySem.W.Fast.tw15679299620586157166 : Unit := ()
def PySem.W.Fast.tw15643800873613929632 : Unit := ()
def PySem.W.Fast.tw11931908232427519064 : Unit := ()
def PySem.W.Fast.tw9673479411078615188 : Unit := ()
def PySem.W.Fast.tw3577172277674284003 : Unit := ()
def PySem.W.Fast.tw14643130653624379058 : Unit := ()
def PySem.W.Fast.tw12533874804234650162 : Unit := ()
def PySem.W.Fast.tw5155195978489182797 : Unit := ()
def PySem.W.Fast.tw13355604986421683255 : Unit := ()
def PySem.W.Fast.tw11142258444951951135 : Unit := ()
def PySem.W.Fast.tw4451883268987151386 : Unit := ()
def PySem.W.Fast.tw7892929066879851769 : Unit := ()
def PySem.W.Fast.tw9290578418200313225 : Unit := ()
def PySem.W.Fast.tw8970967043865154262 : Unit := ()
def PySem.W.Fast.tw17483388222052625543 : Unit := ()
def PySem.W.Fast.tw11124257078439444047 : Unit := ()
def PySem.W.Fast.tw13160600844446034136 : Unit := ()
def PySem.W.Fast.tw15247762436644953513 : Unit := ()
def PySem.W.Fast.tw8320192348802297727 : Unit := ()
def PySem.W.Fast.tw13160094126798305711 : Unit := ()
def PySem.W.Fast.tw18403183328601649394 : Unit := ()
def PySem.W.Fast.tw17859047978343955560 : Unit := ()
def PySem.W.Fast.tw13858521628822205716 : Unit := ()
def PySem.W.Fast.tw234198108001351189 : Unit := ()
def PySem.W.Fast.tw1878314175607085674 : Unit := ()
def PySem.W.Fast.tw516039463734699324 : Unit := ()
def PySem.W.Fast.tw10009491770747292596 : Unit := ()
def PySem.W.Fast.tw18051956612360855128 : Unit := ()
def PySem.W.Fast.tw12123407194878962663 : Unit := ()
def PySem.W.Fast.tw17782812621483251365 : Unit := ()
def PySem.W.Fast.tw7797264361194931540 : Unit := ()
def PySem.W.Fast.tw6395419636567678034 : Unit := ()
def PySem.W.Fast.tw9483881056015487587 : Unit := ()
def PySem.W.Fast.tw3372805067986428486 : Unit := ()
def PySem.W.Fast.tw17997473127910774603 : Unit := ()
def PySem.W.Fast.tw7620107207696310242 : Unit := ()
def PySem.W.Fast.tw11547560397911892377 : Unit := ()
def PySem.W.Fast.tw8662642499652967259 : Unit := ()
def PySem.W.Fast.tw12476350396964830094 : Unit := ()
def PySem.W.Fast.tw3368571132242630267 : Unit := ()
def PySem.W.Fast.tw15959921101031510489 : Unit := ()
def PySem.W.Fast.tw8305553305674050642 : Unit := ()
def PySem.W.Fast.tw9159956985647448043 : Unit := ()
def PySem.W.Fast.tw12407473190389183269 : Unit := ()
def PySem.W.Fast.tw13597561862591162365 : Unit := ()
def PySem.W.Fast.tw18091556143630127184 : Unit := ()
def PySem.W.Fast.tw16101079673771344198 : Unit := ()
def PySem.W.Fast.tw9664095246269898820 : Unit := ()
def PySem.W.Fast.tw6143582485019068883 : Unit := ()
def PySem.W.Fast.tw5715414482307636228 : Unit := ()
def PySem.W.Fast.tw10765019082008838152 : Unit := ()
def PySem.W.Fast.tw17049069655448212808 : Unit := ()
def PySem.W.Fast.tw704006881877593130 : Unit := ()
def PySem.W.Fast.tw7584095929283064375 : Unit := ()
def PySem.W.Fast.tw15535253738377453329 : Unit := ()
def PySem.W.Fast.tw17197440804929207472 : Unit := ()
def PySem.W.Fast.tw16816626413899953188 : Unit := ()
def PySem.W.Fast.tw8361864649819350504 : Unit := ()
def PySem.W.Fast.tw7578417366013423407 : Unit := ()
def PySem.W.Fast.tw5507968279648458205 : Unit := ()
def PySem.W.Fast.tw13267798539420686199 : Unit := ()
def PySem.W.Fast.tw9759511040459300526 : Unit := ()
def PySem.W.Fast.tw6039155622626562701 : Unit := ()
def PySem.W.Fast.tw9151425157848900162 : Unit := ()
def PySem.W.Fast.tw6065663226117280479 : Unit := ()
def PySem.W.Fast.tw3282056901096023393 : Unit := ()
def PySem.W.Fast.tw731134057254838920 : Unit := ()
def PySem.W.Fast.tw5507077860127206350 : Unit := ()
def PySem.W.Fast.tw201248738349184402 : Unit := ()
def PySem.W.Fast.tw8516978813074830894 : Unit := ()
def PySem.W.Fast.tw6729311881655823454 : Unit := ()
def PySem.W.Fast.tw1980915738211121124 : Unit := ()
def PySem.W.Fast.tw16238474429231870741 : Unit := ()
def PySem.W.Fast.tw15323942159896723168 : Unit := ()
def PySem.W.Fast.tw15001567497109509973 : Unit := ()
def PySem.W.Fast.tw2475336707062676060 : Unit := ()
def PySem.W.Fast.tw9901341201702354499 : Unit := ()
def PySem.W.Fast.tw7529294889511011316 : Unit := ()
def PySem.W.Fast.tw7080473473833428624 : Unit := ()
def PySem.W.Fast.tw3783648476727225253 : Unit := ()
def PySem.W.Fast.tw14206882295512442110 : Unit := ()
def PySem.W.Fast.tw2006739697668787844 : Unit := ()
def PySem.W.Fast.tw8616709912915168616 : Unit := ()
def PySem.W.Fast.tw2643630106035313440 : Unit := ()
def PySem.W.Fast.tw5151879731137896351 : Unit := ()
def PySem.W.Fast.tw3245223901545951250 : Unit := ()
def PySem.W.Fast.tw240303844486841688 : Unit := ()
def PySem.W.Fast.tw10066723350393191235 : Unit := ()
def PySem.W.Fast.tw6813000083936038091 : Unit := ()
def PySem.W.Fast.tw9444214227761311276 : Unit := ()
def PySem.W.Fast.tw8430818574442351320 : Unit := ()
def PySem.W.Fast.tw14388597322510239271 : Unit := ()
def PySem.W.Fast.tw4540936387338857742 : Unit := ()
def PySem.W.Fast.tw6247573182631705999 : Unit := ()
def PySem.W.Fast.tw13499117682393991785 : Unit := ()
def PySem.W.Fast.tw8445111649936793210 : Unit := ()
def PySem.W.Fast.tw13383901837520647081 : Unit := ()
def PySem.W.Fast.tw14099167737264944618 : Unit := ()
def PySem.W.Fast.tw10602315134117842711 : Unit := ()
def PySem.W.Fast.tw6665026256809738288 : Unit := ()
def PySem.W.Fast.tw16630043535543914127 : Unit := ()
def PySem.W.Fast.tw18343407492272840625 : Unit := ()
def PySem.W.Fast.tw5665767794900674046 : Unit := ()
def PySem.W.Fast.tw2131965768469342632 : Unit := ()
def PySem.W.Fast.tw17567022675389518762 : Unit := ()
def PySem.W.Fast.tw13458214293267580203 : Unit := ()
def PySem.W.Fast.tw15869344249943586355 : Unit := ()
def PySem.W.Fast.tw8674287550936656780 : Unit := ()
def PySem.W.Fast.tw1761512184865905617 : Unit := ()
def PySem.W.Fast.tw9212935827551272698 : Unit := ()
def PySem.W.Fast.tw6794462408291206102 : Unit := ()
def PySem.W.Fast.tw14245494537724622701 : Unit := ()
def PySem.W.Fast.tw11324489371856124992 : Unit := ()
def PySem.W.Fast.tw13500681920567484328 : Unit := ()
def PySem.W.Fast.tw2135861333549100803 : Unit := ()
def PySem.W.Fast.tw2109641301428008848 : Unit := ()
def PySem.W.Fast.tw8748458701834836712 : Unit := ()
def PySem.W.Fast.tw9690026817762521768 : Unit := ()
def PySem.W.Fast.tw14685882844352588849 : Unit := ()
def PySem.W.Fast.tw13825252549526510599 : Unit := ()
def PySem.W.Fast.tw10496509405633151007 : Unit := ()
def PySem.W.Fast.tw12122554686248238240 : Unit := ()
def PySem.W.Fast.tw649320420167956613 : Unit := ()
def PySem.W.Fast.tw12885836707324490170 : Unit := ()
def PySem.W.Fast.tw6789464411864805741 : Unit := ()
def PySem.W.Fast.tw6928344803354914991 : Unit := ()
def PySem.W.Fast.tw4761999939643794487 : Unit := ()
def PySem.W.Fast.tw16568365047286648781 : Unit := ()
def PySem.W.Fast.tw7649648377236630496 : Unit := ()
def PySem.W.Fast.tw6018849900116253593 : Unit := ()
def PySem.W.Fast.tw3814857856066153616 : Unit := ()
def PySem.W.Fast.tw8907568246659153151 : Unit := ()
def PySem.W.Fast.tw4224311268718015610 : Unit := ()
def PySem.W.Fast.tw6067575487356597673 : Unit := ()
def PySem.W.Fast.tw6251910161470379128 : Unit := ()
def PySem.W.Fast.tw13062791210587835287 : Unit := ()
def PySem.W.Fast.tw17145666734480929472 : Unit := ()
def PySem.W.Fast.tw11515641587953304280 : Unit := ()
def PySem.W.Fast.tw16364911392512687083 : Unit := ()
def PySem.W.Fast.tw8531880954918872215 : Unit := ()
def PySem.W.Fast.tw4913812106449275391 : Unit := ()
def PySem.W.Fast.tw11178925972682751560 : Unit := ()
def PySem.W.Fast.tw15771469541142420000 : Unit := ()
def PySem.W.Fast.tw16314775245289850377 : Unit := ()
open PySem PySem.W PyProof.Rows
set_option maxRecDepth 100000 in
set_option maxHeartbeats 0 in
theorem PySem.Challenge.cw_gatetown_k21_programs_by_themselves_holds : PySem.Challenge.rw_gatetown_k21_programs_by_themselves.Holds := by
  w_on; o_law; k_head; (case hw => w_witness2)
  k_fill
  refine K21.walk (l := PySem.Challenge.rw_gatetown_k21_programs_by_themselves) rfl rfl (fun w h Y => PySem.W.kIn_of Y) ?F
  case F =>
    intro w mg fa h KX G hmg
    refine' K21.all_mk (tk := 0) KX G hmg ?a0 ?l0 ?c0 ?k0 ?a1 ?l1 ?c1 ?k1 ?a2 ?l2 ?c2 ?k2 ?a3 ?l3 ?c3 ?k3 ?a4 ?l4 ?c4 ?k4 ?a5 ?l5 ?c5 ?k5 ?a6 ?l6 ?c6 ?k6 ?a7 ?l7 ?c7 ?k7 ?a8 ?l8 ?c8 ?k8 ?a9 ?l9 ?c9 ?k9 ?a10 ?l10 ?c10 ?k10 ?a11 ?l11 ?c11 ?k11 ?a12 ?l12 ?c12 ?k12 ?a13 ?l13 ?c13 ?k13 ?a14 ?l14 ?c14 ?k14 ?a15 ?l15 ?c15 ?k15 ?a16 ?l16 ?c16 ?k16 ?a17 ?l17 ?c17 ?k17 ?a18 ?l18 ?c18 ?k18 ?a19 ?l19 ?c19 ?k19 ?a20 ?l20 ?c20 ?k20 ?a21 ?l21 ?c21 ?k21 ?a22 ?l22 ?c22 ?k22 ?a23 ?l23 ?c23 ?k23 ?a24 ?l24 ?c24 ?k24 ?a25 ?l25 ?c25 ?k25 ?a26 ?l26 ?c26 ?k26 ?a27 ?l27 ?c27 ?k27 ?a28 ?l28 ?c28 ?k28 ?a29 ?l29 ?c29 ?k29 ?a30 ?l30 ?c30 ?k30 ?a31 ?l31 ?c31 ?k31 ?a32 ?l32 ?c32 ?k32 ?a33 ?l33 ?c33 ?k33 ?a34 ?l34 ?c34 ?k34 ?a35 ?l35 ?c35 ?k35 ?a36 ?l36 ?c36 ?k36 ?a37 ?l37 ?c37 ?k37 ?a38 ?l38 ?c38 ?k38 ?a39 ?l39 ?c39 ?k39 ?a40 ?l40 ?c40 ?k40 ?a41 ?l41 ?c41 ?k41 ?a42 ?l42 ?c42 ?k42 ?a43 ?l43 ?c43 ?k43 ?a44 ?l44 ?c44 ?k44 ?a45 ?l45 ?c45 ?k45 ?a46 ?l46 ?c46 ?k46 ?fw_SET ?fw_LOAD ?fw_STORE ?fw_ADD ?fw_TAKE ?fw_BOTH ?fw_GOTO ?fw_ZERO ?fw_BELOW ?fw_FROM ?fw_INTO ?fw_MOVE ?fw_LINK ?fw_CALL ?fw_OWN ?fw_BACK ?fw_WORDS ?fw_PLACES ?fw_FIRST_BELOW ?fw_A ?fw_X ?fw_P ?fw_ROW ?fw_FETCHED ?fw_MODE ?fw_BEGIN ?fw_LENGTH ?fw_BELL ?fw_SAVED_A ?fw_SAVED_X ?fw_SAVED_P ?fw_CAUSE ?fw_NUMBER ?fw_HALTED ?fw_WIDTHS ?lw_WIDTHS ?fw_BARRED ?fw_NOT_OWN ?fw_CALLED ?fw_RUNG ?fw_MOVES ?fw_OWNS ?fw_OWN_HALT ?fw_OWN_TELL ?fw_NONE_LEFT ?fw_END ?fw_TELL ?fw_ASK ?z_enumerate ?z_dict ?z_len ?z_range ?z_list ?z_tuple ?z_min ?z_isinstance ?z_int ?z_bool ?z_zip ?z_sum
    (case a0 => k_is)
    (case l0 => k_is)
    (case c0 => k_is)
    (case k0 => k_is)
    (case a1 => k_is)
    (case l1 => k_is)
    (case c1 => k_is)
    (case k1 => k_is)
    (case a2 => k_is)
    (case l2 => k_is)
    (case c2 => k_is)
    (case k2 => k_is)
    (case a3 => k_is)
    (case l3 => k_is)
    (case c3 => k_is)
    (case k3 => k_is)
    (case a4 => k_is)
    (case l4 => k_is)
    (case c4 => k_is)
    (case k4 => k_is)
    (case a5 => k_is)
    (case l5 => k_is)
    (case c5 => k_is)
    (case k5 => k_is)
    (case a6 => k_is)
    (case l6 => k_is)
    (case c6 => k_is)
    (case k6 => k_is)
    (case a7 => k_is)
    (case l7 => k_is)
    (case c7 => k_is)
    (case k7 => k_is)
    (case a8 => k_is)
    (case l8 => k_is)
    (case c8 => k_is)
    (case k8 => k_is)
    (case a9 => k_is)
    (case l9 => k_is)
    (case c9 => k_is)
    (case k9 => k_is)
    (case a10 => k_is)
    (case l10 => k_is)
    (case c10 => k_is)
    (case k10 => k_is)
    (case a11 => k_is)
    (case l11 => k_is)
    (case c11 => k_is)
    (case k11 => k_is)
    (case a12 => k_is)
    (case l12 => k_is)
    (case c12 => k_is)
    (case k12 => k_is)
    (case a13 => k_is)
    (case l13 => k_is)
    (case c13 => k_is)
    (case k13 => k_is)
    (case a14 => k_is)
    (case l14 => k_is)
    (case c14 => k_is)
    (case k14 => k_is)
    (case a15 => k_is)
    (case l15 => k_is)
    (case c15 => k_is)
    (case k15 => k_is)
    (case a16 => k_is)
    (case l16 => k_is)
    (case c16 => k_is)
    (case k16 => k_is)
    (case a17 => k_is)
    (case l17 => k_is)
    (case c17 => k_is)
    (case k17 => k_is)
    (case a18 => k_is)
    (case l18 => k_is)
    (case c18 => k_is)
    (case k18 => k_is)
    (case a19 => k_is)
    (case l19 => k_is)
    (case c19 => k_is)
    (case k19 => k_is)
    (case a20 => k_is)
    (case l20 => k_is)
    (case c20 => k_is)
    (case k20 => k_is)
    (case a21 => k_is)
    (case l21 => k_is)
    (case c21 => k_is)
    (case k21 => k_is)
    (case a22 => k_is)
    (case l22 => k_is)
    (case c22 => k_is)
    (case k22 => k_is)
    (case a23 => k_is)
    (case l23 => k_is)
    (case c23 => k_is)
    (case k23 => k_is)
    (case a24 => k_is)
    (case l24 => k_is)
    (case c24 => k_is)
    (case k24 => k_is)
    (case a25 => k_is)
    (case l25 => k_is)
    (case c25 => k_is)
    (case k25 => k_is)
    (case a26 => k_is)
    (case l26 => k_is)
    (case c26 => k_is)
    (case k26 => k_is)
    (case a27 => k_is)
    (case l27 => k_is)
    (case c27 => k_is)
    (case k27 => k_is)
    (case a28 => k_is)
    (case l28 => k_is)
    (case c28 => k_is)
    (case k28 => k_is)
    (case a29 => k_is)
    (case l29 => k_is)
    (case c29 => k_is)
    (case k29 => k_is)
    (case a30 => k_is)
    (case l30 => k_is)
    (case c30 => k_is)
    (case k30 => k_is)
    (case a31 => k_is)
    (case l31 => k_is)
    (case c31 => k_is)
    (case k31 => k_is)
    (case a32 => k_is)
    (case l32 => k_is)
    (case c32 => k_is)
    (case k32 => k_is)
    (case a33 => k_is)
    (case l33 => k_is)
    (case c33 => k_is)
    (case k33 => k_is)
    (case a34 => k_is)
    (case l34 => k_is)
    (case c34 => k_is)
    (case k34 => k_is)
    (case a35 => k_is)
    (case l35 => k_is)
    (case c35 => k_is)
    (case k35 => k_is)
    (case a36 => k_is)
    (case l36 => k_is)
    (case c36 => k_is)
    (case k36 => k_is)
    (case a37 => k_is)
    (case l37 => k_is)
    (case c37 => k_is)
    (case k37 => k_is)
    (case a38 => k_is)
    (case l38 => k_is)
    (case c38 => k_is)
    (case k38 => k_is)
    (case a39 => k_is)
    (case l39 => k_is)
    (case c39 => k_is)
    (case k39 => k_is)
    (case a40 => k_is)
    (case l40 => k_is)
    (case c40 => k_is)
    (case k40 => k_is)
    (case a41 => k_is)
    (case l41 => k_is)
    (case c41 => k_is)
    (case k41 => k_is)
    (case a42 => k_is)
    (case l42 => k_is)
    (case c42 => k_is)
    (case k42 => k_is)
    (case a43 => k_is)
    (case l43 => k_is)
    (case c43 => k_is)
    (case k43 => k_is)
    (case a44 => k_is)
    (case l44 => k_is)
    (case c44 => k_is)
    (case k44 => k_is)
    (case a45 => k_is)
    (case l45 => k_is)
    (case c45 => k_is)
    (case k45 => k_is)
    (case a46 => k_is)
    (case l46 => k_is)
    (case c46 => k_is)
    (case k46 => k_is)
    (case fw_SET => k_is)
    (case fw_LOAD => k_is)
    (case fw_STORE => k_is)
    (case fw_ADD => k_is)
    (case fw_TAKE => k_is)
    (case fw_BOTH => k_is)
    (case fw_GOTO => k_is)
    (case fw_ZERO => k_is)
    (case fw_BELOW => k_is)
    (case fw_FROM => k_is)
    (case fw_INTO => k_is)
    (case fw_MOVE => k_is)
    (case fw_LINK => k_is)
    (case fw_CALL => k_is)
    (case fw_OWN => k_is)
    (case fw_BACK => k_is)
    (case fw_WORDS => k_is)
    (case fw_PLACES => k_is)
    (case fw_FIRST_BELOW => k_is)
    (case fw_A => k_is)
    (case fw_X => k_is)
    (case fw_P => k_is)
    (case fw_ROW => k_is)
    (case fw_FETCHED => k_is)
    (case fw_MODE => k_is)
    (case fw_BEGIN => k_is)
    (case fw_LENGTH => k_is)
    (case fw_BELL => k_is)
    (case fw_SAVED_A => k_is)
    (case fw_SAVED_X => k_is)
    (case fw_SAVED_P => k_is)
    (case fw_CAUSE => k_is)
    (case fw_NUMBER => k_is)
    (case fw_HALTED => k_is)
    (case fw_WIDTHS => k_is)
    (case lw_WIDTHS => k_is)
    (case fw_BARRED => k_is)
    (case fw_NOT_OWN => k_is)
    (case fw_CALLED => k_is)
    (case fw_RUNG => k_is)
    (case fw_MOVES => k_is)
    (case fw_OWNS => k_is)
    (case fw_OWN_HALT => k_is)
    (case fw_OWN_TELL => k_is)
    (case fw_NONE_LEFT => k_is)
    (case fw_END => k_is)
    (case fw_TELL => k_is)
    (case fw_ASK => k_is)
    (case z_enumerate => k_is)
    (case z_dict => k_is)
    (case z_len => k_is)
    (case z_range => k_is)
    (case z_list => k_is)
    (case z_tuple => k_is)
    (case z_min => k_is)
    (case z_isinstance => k_is)
    (case z_int => k_is)
    (case z_bool => k_is)
    (case z_zip => k_is)
    (case z_sum => k_is)
