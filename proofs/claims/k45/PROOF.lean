import PyProof.Rows.All
import Wide.All
import OpenK.AllK
import Wide.FinOn
import Lean
import PyProof.EqAt
import PyProof.EqKinds
import PyProof.TupleCall
import PyProof.NeData
import PyProof.StrWalks
import PyProof.MeetsStr
import PyProof.Draws
import PyProof.EnumMake
import PyProof.Rows.Range3
import PyProof.AttrMissHeap
import PyProof.CollectWalk
import PyProof.TupleIter
import KE.KDictOf
import KE.KEqDict
import OpenK.KOwn
import KE.KTryOn
import PyProof.NsDelKeeps
import PyProof.ExcClass3
import PyProof.DictWalks
import PyProof.ListMulRoad
import PyProof.StrOps2
import PyProof.StrBlockG
import PyProof.ListStr
import PyProof.Rows.SortStr
import PyProof.ExcArgsOwn
import KE.KIsAll
import PyProof.ExcAttrAll.ValueError
import PyProof.Rows.SortShell
import PyProof.DictItems
import PyProof.InstStoreFacts
import PyProof.ExcInit
import PySem.Challenge.RW_gatetown_k45_programs_looked_over
-- CHANGE: your row's module here, as the last of these rows
set_option Elab.async false
set_option linter.all false
set_option maxRecDepth 100000
namespace L2
open PySem PySem.Spec PyProof.Rows

abbrev Key := Sum Int Str
def keyIs : Key → Value → Bool
  | .inl k, v => Value.isInt k v
  | .inr x, v => Value.isStrOf x v
def keyH (w : World) : Key → Int
  | .inl k => hashInt k
  | .inr x => hashStr w x
theorem keyIs_shape : ∀ {k : Key} {v : Value}, keyIs k v = true → (∃ i t, k = Sum.inl i ∧ v = Value.int i t) ∨ (∃ x t, k = Sum.inr x ∧ v = Value.str x t)
  | .inl i, v, h => by
    obtain ⟨t, e⟩ := Value.isInt_shape (k := i) (v := v) h
    exact .inl ⟨i, t, rfl, e⟩
  | .inr x, v, h => by
    obtain ⟨t, e⟩ := Value.isStrOf_shape (x := x) (v := v) h
    exact .inr ⟨x, t, rfl, e⟩
theorem keyIs_int (i : Int) (t : Tok) : keyIs (.inl i) (.int i t) = true := by simp [keyIs, Value.isInt]
theorem keyIs_str (x : Str) (t : Tok) : keyIs (.inr x) (.str x t) = true := by simp [keyIs, Value.isStrOf]
theorem key_ll (a b : Int) : decide ((Sum.inl a : Key) = Sum.inl b) = (a == b) := by
  by_cases e : a = b
  · subst e; simp
  · have h : ¬ (Sum.inl a : Key) = Sum.inl b := fun q => e (Sum.inl.inj q)
    rw [decide_eq_false h]
    exact (beq_eq_false_iff_ne.mpr e).symm
theorem key_rr (a b : Str) : decide ((Sum.inr a : Key) = Sum.inr b) = decide (a = b) := by
  by_cases e : a = b
  · subst e; simp
  · have h : ¬ (Sum.inr a : Key) = Sum.inr b := fun q => e (Sum.inr.inj q)
    rw [decide_eq_false h, decide_eq_false e]
theorem key_lr (a : Int) (b : Str) : decide ((Sum.inl a : Key) = Sum.inr b) = false := decide_eq_false (fun q => nomatch q)
theorem key_rl (a : Str) (b : Int) : decide ((Sum.inr a : Key) = Sum.inl b) = false := decide_eq_false (fun q => nomatch q)

def mixKind (prog : Program) (w : World) : PySem.KeyKind prog w Key where
  is := keyIs
  hash := keyH w
  inj := fun v a b ha hb => by
    rcases keyIs_shape ha with ⟨i, t, rfl, rfl⟩ | ⟨x, t, rfl, rfl⟩
    · rcases keyIs_shape hb with ⟨j, u, rfl, e⟩ | ⟨y, u, rfl, e⟩
      · injection e with e1 _; rw [e1]
      · exact nomatch e
    · rcases keyIs_shape hb with ⟨j, u, rfl, e⟩ | ⟨y, u, rfl, e⟩
      · exact nomatch e
      · injection e with e1 _; rw [e1]
  byValue := fun k v h => by
    rcases keyIs_shape h with ⟨i, t, rfl, rfl⟩ | ⟨x, t, rfl, rfl⟩ <;> rfl
  pyHash := fun hv h => by
    rcases keyIs_shape hv with ⟨i, t, rfl, rfl⟩ | ⟨x, t, rfl, rfl⟩
    · exact wpAny_pyHash_int h
    · exact wpAny_pyHash_str h
  eqBool := fun hu hv h => by
    rcases keyIs_shape hu with ⟨i, t, rfl, rfl⟩ | ⟨x, t, rfl, rfl⟩
    · rcases keyIs_shape hv with ⟨j, u, rfl, rfl⟩ | ⟨y, u, rfl, rfl⟩
      · rw [key_ll] at h; exact wpAny_eqBool_int h
      · rw [key_lr] at h; exact SeqAt.EqAt.int_str i t y u _ _ _ _ h
    · rcases keyIs_shape hv with ⟨j, u, rfl, rfl⟩ | ⟨y, u, rfl, rfl⟩
      · rw [key_rl] at h; exact SeqAt.EqAt.str_int x t j u _ _ _ _ h
      · rw [key_rr] at h; exact wpAny_eqBool_str h
  «strs» := fun k x t v h => by
    rcases keyIs_shape h with ⟨i, u, rfl, e⟩ | ⟨y, u, rfl, e⟩
    · exact nomatch e
    · injection e with e1 _
      subst e1
      cases v <;> rfl

theorem mixKind_int (prog : Program) (w : World) (i : Int) (t : Tok) : (mixKind prog w).is (.inl i) (.int i t) = true := keyIs_int i t
theorem mixKind_str (prog : Program) (w : World) (x : Str) (t : Tok) : (mixKind prog w).is (.inr x) (.str x t) = true := keyIs_str x t
end L2

namespace L2
open PySem PySem.Spec PyProof.Rows

inductive V where
  | non | bl (b : Bool) | int (i : Int) | str (x : Str) | byt (b : Array UInt8) | flt (b : UInt64) | ref (a : Addr) | ty (n : String)
  deriving DecidableEq

def RelV : V → Value → Prop
  | .non, u => u = Value.none
  | .bl b, u => u = Value.bool b
  | .int i, u => ∃ t, u = Value.int i t
  | .str x, u => ∃ t, u = Value.str x t
  | .byt b, u => ∃ t, u = Value.bytes b t
  | .flt b, u => ∃ t, u = Value.float b t
  | .ref a, u => u = Value.ref a
  | .ty n, u => u = Value.type n

abbrev Vals : List V → List Value → Prop := Paired RelV
theorem Vals.length {xs : List V} {us : List Value} (r : Vals xs us) : xs.length = us.length := Paired.length r
theorem Vals.get : ∀ {xs : List V} {us : List Value} {i : Nat} {x : V}, Vals xs us → xs[i]? = some x → ∃ u, us[i]? = some u ∧ RelV x u
  | _, _, _, _, .nil, e => by simp at e
  | _, _, 0, _, .cons r _, e => by simp at e; subst e; exact ⟨_, rfl, r⟩
  | _, _, i + 1, x, .cons _ t, e => by
    obtain ⟨u, h1, h2⟩ := Vals.get (i := i) (x := x) t (by simpa using e)
    exact ⟨u, by simpa using h1, h2⟩
theorem Vals.set {x : V} {u : Value} (r : RelV x u) : ∀ {xs : List V} {us : List Value} (i : Nat), Vals xs us → Vals (xs.set i x) (us.set i u)
  | _, _, _, .nil => .nil
  | _, _, 0, .cons _ t => .cons r t
  | _, _, i + 1, .cons q t => .cons q (Vals.set r i t)
theorem Vals.append : ∀ {xs ys : List V} {us ws : List Value}, Vals xs us → Vals ys ws → Vals (xs ++ ys) (us ++ ws)
  | _, _, _, _, .nil, s => s
  | _, _, _, _, .cons r t, s => .cons r (Vals.append t s)
theorem Vals.take : ∀ {xs : List V} {us : List Value} (n : Nat), Vals xs us → Vals (xs.take n) (us.take n)
  | _, _, 0, _ => .nil
  | _, _, _ + 1, .nil => .nil
  | _, _, n + 1, .cons r t => .cons r (Vals.take n t)
theorem Vals.drop : ∀ {xs : List V} {us : List Value} (n : Nat), Vals xs us → Vals (xs.drop n) (us.drop n)
  | _, _, 0, r => r
  | _, _, _ + 1, .nil => .nil
  | _, _, n + 1, .cons _ t => Vals.drop n t

def RelO : Option V → Option Value → Prop
  | some v, some u => RelV v u
  | none, none => True
  | _, _ => False
def KV {κ : Type} : List (κ × V) → List (κ × Value) → Prop := Paired fun (p : κ × V) (q : κ × Value) => p.1 = q.1 ∧ RelV p.2 q.2

def kV : Key → V
  | .inl i => .int i
  | .inr x => .str x

inductive HO where
    | lst (xs : List V)
    | tup (xs : List V)
    | dK (kvs : List (Key × V)) | dT (kvs : List (List Key × V))
    | set (S : Int → Bool) (n : Nat)
    | ins (C dx : Addr) (fs : List (Str × V))
    | own (x : Addr)
    | xd (fs : List (Str × V))
    | met (f x : Addr)
    | rng (lo hi : Int)
    | frz (o : Obj) (u : HO)
    | tbl (ps : Array Value)
    | ext (φ : Heap → Prop)

abbrev Hp := Addr → Option HO
def upd (H : Hp) (a : Addr) (o : HO) : Hp := fun b => if b = a then some o else H b
theorem upd_same {H : Hp} {a : Addr} {o : HO} : upd H a o a = some o := by unfold upd; rw [if_pos rfl]
theorem upd_ne {H : Hp} {a b : Addr} {o : HO} (h : b ≠ a) : upd H a o b = H b := by unfold upd; rw [if_neg h]
theorem ne_of {H : Hp} {a b : Addr} {o u : HO} (h : H a = some o) (h' : H b = some u) (d : o ≠ u) : a ≠ b := by
  intro e; subst e; rw [h] at h'; exact d (Option.some.inj h')
theorem ne_of_none {H : Hp} {a b : Addr} {o : HO} (h : H a = some o) (h' : H b = none) : a ≠ b := by
  intro e; subst e; rw [h] at h'; cases h'

section
variable (P : Program) (w : World)
def ObjOk (H : Hp) (h : Heap) (a : Addr) : HO → Prop
  | .lst xs => xs.length ≤ sizeLine ∧ ∃ (its : List Value) (n : Nat), Vals xs its ∧ h.get? a = some { cls := .type "list", data := .seq its.toArray n }
  | .tup xs => xs.length ≤ sizeLine ∧ ∃ its : List Value, Vals xs its ∧ IsTup h a its.toArray
  | .dK kvs => kvs.length ≤ sizeLine ∧ (a == sysModules) = false ∧ ∃ vs, KV kvs vs ∧ h.DictOf (mixKind P w) a vs
  | .dT kvs => kvs.length ≤ sizeLine ∧ (a == sysModules) = false ∧ ∃ xs : List (List Key × Addr × Value),
      Paired (fun (p : List Key × V) (q : List Key × Addr × Value) => p.1 = q.1 ∧ H q.2.1 = some (.tup (p.1.map kV)) ∧ RelV p.2 q.2.2) kvs xs ∧
      ∃ o es ep, h.get? a = some o ∧ o.ExactDict ∧ o.data = .dict es ep ∧ es.toList = xs.map (entryOfKey (tupleKind (mixKind P w))) ∧ (xs.map (·.1)).Nodup
  | .set S n => h.SetOf (intKind P w) a S n
  | .ins C dx fs => H dx = some (.own a) ∧ fs.length ≤ 1000 ∧ dx ≠ a ∧ h.get? a = some (PySem.W.instObj C dx) ∧
      ∃ mA, h.Ns1 dx mA ∧ (∀ f, RelO (fs.lookup f) (mA f)) ∧ PySem.Within mA (fs.map (·.1))
  | .own _ => ∃ o, h.get? a = some o
  | .xd fs => ∃ mA, h.Ns1 a mA ∧ ∀ f, RelO (fs.lookup f) (mA f)
  | .rng lo hi => ∃ t u v, h.get? a = some { cls := .type "range", data := .fields #[.int lo t, .int hi u, .int 1 v] }
  | .frz o u => h.get? a = some o ∧ ObjOk H h a u
  | .tbl ps => h.get? a = some { cls := .none, data := .fields ps }
  | .met f x => h.get? a = some (PySem.W.methodObj (.ref f) (.ref x))
  | .ext φ => φ h ∧ (∃ o, h.get? a = some o) ∧ ∀ h1 h2 : Heap, φ h1 → (∀ o, h1.get? a = some o → h2.get? a = some o) → φ h2
def HOk (H : Hp) (h : Heap) : Prop := ∀ a o, H a = some o → ObjOk P w H h a o
end

section
variable {P : Program} {w : World} {H H' : Hp} {h h' : Heap} {a : Addr} {o : HO}
theorem ObjOk.lt (x : ObjOk P w H h a o) : a < h.objs.size := by
  cases o with
  | lst xs => obtain ⟨_, _, _, _, e⟩ := x; exact Heap.lt_size e
  | tup xs => obtain ⟨_, _, _, p⟩ := x; exact p.lt
  | dK kvs => obtain ⟨_, _, _, _, o, _, _, e, _⟩ := x; exact Heap.lt_size e
  | dT kvs => obtain ⟨_, _, _, _, o, _, _, e, _⟩ := x; exact Heap.lt_size e
  | set S n => obtain ⟨o, _, _, _, e, _⟩ := x; exact Heap.lt_size e
  | ins C dx fs => obtain ⟨_, _, _, e, _⟩ := x; exact Heap.lt_size e
  | own y => obtain ⟨_, e⟩ := x; exact Heap.lt_size e
  | xd fs => obtain ⟨_, ⟨_, _, _, e, _⟩, _⟩ := x; exact Heap.lt_size e
  | rng lo hi => obtain ⟨_, _, _, e⟩ := x; exact Heap.lt_size e
  | frz ob u => obtain ⟨e, _⟩ := x; exact Heap.lt_size e
  | tbl ps => exact Heap.lt_size (show h.get? a = some _ from x)
  | met f y => exact Heap.lt_size (show h.get? a = some _ from x)
  | ext φ => obtain ⟨_, ⟨_, e⟩, _⟩ := x; exact Heap.lt_size e
theorem Paired.mapP {α β : Type} {F G : α → β → Prop} : ∀ {l₁ : List α} {l₂ : List β}, Paired F l₁ l₂ → (∀ a b, F a b → G a b) → Paired G l₁ l₂
  | _, _, .nil, _ => .nil
  | _, _, .cons r t, f => .cons (f _ _ r) (Paired.mapP t f)
theorem ObjOk.stay (x : ObjOk P w H h a o) (k : ∀ b u, (b = a ∨ H b = some (.own a)) → h.get? b = some u → h'.get? b = some u)
    (ho : ∀ b, H b = some (.own a) → H' b = some (.own a)) (ht : ∀ b xs, H b = some (.tup xs) → H' b = some (.tup xs)) : ObjOk P w H' h' a o := by
  induction o with
  | lst xs => obtain ⟨z, its, n, r, e⟩ := x; exact ⟨z, its, n, r, k _ _ (.inl rfl) e⟩
  | tup xs => obtain ⟨z, its, r, ob, e, c⟩ := x; exact ⟨z, its, r, ob, k _ _ (.inl rfl) e, c⟩
  | dK kvs => obtain ⟨z, y, vs, r, ob, es, ep, e, c⟩ := x; exact ⟨z, y, vs, r, ob, es, ep, k _ _ (.inl rfl) e, c⟩
  | dT kvs =>
    obtain ⟨z, y, xs, r, ob, es, ep, e, c⟩ := x
    exact ⟨z, y, xs, Paired.mapP r fun p q z => ⟨z.1, ht _ _ z.2.1, z.2.2⟩, ob, es, ep, k _ _ (.inl rfl) e, c⟩
  | set S n => obtain ⟨ob, es, ep, t, e, c⟩ := x; exact ⟨ob, es, ep, t, k _ _ (.inl rfl) e, c⟩
  | ins C dx fs =>
    obtain ⟨d, z, ne, e, mA, ⟨od, es, ep, e2, c⟩, r⟩ := x
    exact ⟨ho _ d, z, ne, k _ _ (.inl rfl) e, mA, ⟨od, es, ep, k _ _ (.inr d) e2, c⟩, r⟩
  | own y => obtain ⟨ob, e⟩ := x; exact ⟨ob, k _ _ (.inl rfl) e⟩
  | xd fs => obtain ⟨mA, ⟨od, es, ep, e, c⟩, r⟩ := x; exact ⟨mA, ⟨od, es, ep, k _ _ (.inl rfl) e, c⟩, r⟩
  | rng lo hi => obtain ⟨t, u, v, e⟩ := x; exact ⟨t, u, v, k _ _ (.inl rfl) e⟩
  | frz ob u ih => obtain ⟨e, q⟩ := x; exact ⟨k _ _ (.inl rfl) e, ih q⟩
  | tbl ps =>
    have e : h.get? a = some { cls := .none, data := .fields ps } := x
    show h'.get? a = some { cls := .none, data := .fields ps }
    exact k a _ (.inl rfl) e
  | met f y =>
    have e : h.get? a = some (PySem.W.methodObj (.ref f) (.ref y)) := x
    show h'.get? a = some (PySem.W.methodObj (.ref f) (.ref y))
    exact k a _ (.inl rfl) e
  | ext φ => obtain ⟨p, ⟨o, e⟩, st⟩ := x; exact ⟨st _ _ p fun o q => k _ _ (.inl rfl) q, ⟨o, k _ _ (.inl rfl) e⟩, st⟩
theorem HOk.lt (x : HOk P w H h) (e : H a = some o) : a < h.objs.size := (x a o e).lt
theorem HOk.fresh (x : HOk P w H h) (e : h.objs.size ≤ a) : H a = none := by
  cases q : H a with
  | none => rfl
  | some u => exact absurd (Nat.lt_of_lt_of_le (x.lt q) e) (Nat.lt_irrefl _)
theorem HOk.kept (x : HOk P w H h) (k : ∀ b u, h.get? b = some u → h'.get? b = some u) : HOk P w H h' := fun a o e =>
  (x a o e).stay (fun b u _ q => k b u q) (fun _ q => q) fun _ _ q => q
theorem HOk.laid (x : HOk P w H h) (k : ∀ b u, h.get? b = some u → h'.get? b = some u) (hp : h.objs.size ≤ a) (new : ObjOk P w (upd H a o) h' a o) : HOk P w (upd H a o) h' := fun b u e => by
  have hn := x.fresh hp
  by_cases hb : b = a
  · subst hb; rw [upd_same] at e; cases e; exact new
  · rw [upd_ne hb] at e
    exact (x b u e).stay (fun c v _ q => k c v q) (fun c q => by rw [upd_ne (ne_of_none q hn)]; exact q) fun c xs q => by rw [upd_ne (ne_of_none q hn)]; exact q
end

def Rd (H : Hp) (a : Addr) (u : HO) : Prop := H a = some u ∨ ∃ o, H a = some (.frz o u)
theorem Rd.ok {P : Program} {w : World} {H : Hp} {h : Heap} {a : Addr} {u : HO} (r : Rd H a u) (x : HOk P w H h) : ObjOk P w H h a u := by
  rcases r with r | ⟨o, r⟩
  · exact x a u r
  · obtain ⟨_, q⟩ := x a _ r
    exact q
def Mut : Option HO → Prop
  | some (.lst _) => True
  | some (.dK _) => True
  | some (.dT _) => True
  | some (.set _ _) => True
  | some (.ins _ _ _) => True
  | some (.ext _) => True
  | _ => False
section
variable {P : Program} {w : World} {H : Hp} {h h' : Heap} {x e : Addr} {o' : HO}
theorem HOk.write (ok : HOk P w H h) (mu : Mut (H x)) (he : e = x ∨ H e = some (.own x)) (k : ∀ b u, b ≠ e → h.get? b = some u → h'.get? b = some u) (heo : ∃ u, h'.get? e = some u)
    (new : ObjOk P w (upd H x o') h' x o') : HOk P w (upd H x o') h' := fun b u q => by
  have nown : ∀ c y, H c = some (.own y) → c ≠ x := fun c y r z => by subst z; rw [r] at mu; exact mu
  have ntup : ∀ c xs, H c = some (.tup xs) → c ≠ x := fun c xs r z => by subst z; rw [r] at mu; exact mu
  by_cases hb : b = x
  · subst hb; rw [upd_same] at q; cases q; exact new
  · rw [upd_ne hb] at q
    by_cases hbe : b = e
    · have q' : H b = some (.own x) := by
        rcases he with z | z
        · exact absurd (hbe.trans z) hb
        · rw [hbe]; exact z
      rw [q] at q'; cases q'
      obtain ⟨v, hv⟩ := heo
      exact ⟨v, by rw [hbe]; exact hv⟩
    · refine (ok b u q).stay (fun c v hc r => k c v ?_ r) (fun c r => by rw [upd_ne (nown c b r)]; exact r) fun c xs r => by rw [upd_ne (ntup c xs r)]; exact r
      rcases hc with rfl | hc
      · exact hbe
      · rintro rfl
        rcases he with z | z
        · exact nown c b hc z
        · rw [hc] at z; cases z; exact hb rfl
end

structure Un (fs ex : List Addr) (H H' : Hp) (h h' : Heap) : Prop where
  keep : ∀ b o, h.get? b = some o → H b = none → b ∉ fs → b ∉ ex → h'.get? b = some o
  slot : ∀ b o, h.get? b = some o → H b = none → b ∈ fs → b ∉ ex → ∃ sl, h'.get? b = some { o with slots := sl }
  free : ∀ b o, h.get? b = some o → H b = none → b ∉ ex → H' b = none
  there : ∀ b o, h.get? b = some o → b ∉ ex → ∃ o', h'.get? b = some o'
  tups : ∀ b xs, H b = some (.tup xs) → H' b = some (.tup xs)
  frzs : ∀ b o u, H b = some (.frz o u) → H' b = some (.frz o u)
  tbls : ∀ b ps, H b = some (.tbl ps) → ∃ more, H' b = some (.tbl (ps ++ more))
section
variable {fs fs' ex ex' : List Addr} {H H1 H2 : Hp} {h h1 h2 h' : Heap} {a x e : Addr} {o : HO}
theorem Un.any (u : Un fs ex H H1 h h1) {b : Addr} {ob : Obj} (q : h.get? b = some ob) (n : H b = none) (hx : b ∉ ex) : ∃ sl, h1.get? b = some { ob with slots := sl } := by
  by_cases hb : b ∈ fs
  · exact u.slot b ob q n hb hx
  · exact ⟨ob.slots, u.keep b ob q n hb hx⟩
theorem Un.kept (k : ∀ b u, h.get? b = some u → h'.get? b = some u) : Un fs ex H H h h' :=
  ⟨fun b ob q _ _ _ => k b ob q, fun b ob q _ _ _ => ⟨ob.slots, k b ob q⟩, fun _ _ _ n _ => n, fun b ob q _ => ⟨ob, k b ob q⟩, fun _ _ q => q, fun _ _ _ q => q, fun _ ps q => ⟨#[], by rw [q]; simp⟩⟩
theorem Un.refl : Un fs ex H H h h := Un.kept fun _ _ q => q
theorem Un.laid (k : ∀ b u, h.get? b = some u → h'.get? b = some u) (hp : h.objs.size ≤ a) (hn : H a = none) : Un fs ex H (upd H a o) h h' where
  keep := fun b u q _ _ _ => k b u q
  slot := fun b u q _ _ _ => ⟨u.slots, k b u q⟩
  free := fun b u q n _ => by rw [upd_ne (Nat.ne_of_lt (Nat.lt_of_lt_of_le (Heap.lt_size q) hp))]; exact n
  there := fun b u q _ => ⟨u, k b u q⟩
  tups := fun b xs q => by rw [upd_ne (ne_of_none q hn)]; exact q
  frzs := fun b u xs q => by rw [upd_ne (ne_of_none q hn)]; exact q
  tbls := fun b ps q => ⟨#[], by rw [upd_ne (ne_of_none q hn), q]; simp⟩
theorem Un.write (mu : Mut (H x)) (he : e = x ∨ H e = some (.own x)) (k : ∀ b u, b ≠ e → h.get? b = some u → h'.get? b = some u) (heo : ∃ u, h'.get? e = some u) : Un fs ex H (upd H x o) h h' := by
  have hx : ∀ b, H b = none → b ≠ x := fun b n z => by subst z; rw [n] at mu; exact mu
  have hb : ∀ b, H b = none → b ≠ e := fun b n z => by
    subst z
    rcases he with r | r
    · exact hx b n r
    · rw [n] at r; cases r
  have hm : ∀ b u, H b = some u → ¬ Mut (some u) → b ≠ x := fun b u q nm z => by subst z; rw [q] at mu; exact nm mu
  refine ⟨fun b u q n _ _ => k b u (hb b n) q, fun b u q n _ _ => ⟨u.slots, k b u (hb b n) q⟩, fun b u q n _ => by rw [upd_ne (hx b n)]; exact n, fun b u q _ => ?_,
    fun b xs q => by rw [upd_ne (hm b _ q fun z => z)]; exact q, fun b u xs q => by rw [upd_ne (hm b _ q fun z => z)]; exact q, fun b ps q => ⟨#[], by rw [upd_ne (hm b _ q fun z => z), q]; simp⟩⟩
  by_cases hbe : b = e
  · subst hbe; exact heo
  · exact ⟨u, k b u hbe q⟩
end

def trk (h : Heap) (H : Hp) : List Addr := (List.range h.objs.size).filter fun a => (H a).isSome
def hidT (h : Heap) (H : Hp) : Heap := PySem.W.hideAll h (trk h H)
theorem hidT_size (h : Heap) (H : Hp) : (hidT h H).objs.size = h.objs.size := PySem.W.hideAll_size _ _
theorem hidT_get {h : Heap} {H : Hp} {b : Addr} {o : Obj} (e : h.get? b = some o) (n : H b = none) : (hidT h H).get? b = some o :=
  PySem.W.hideAll_get _ e fun hm => by
    have q : (H b).isSome = true := (List.mem_filter.mp hm).2
    rw [n] at q; simp at q
theorem of_hidT {h : Heap} {H : Hp} {b : Addr} {o : Obj} (e : (hidT h H).get? b = some o) : h.get? b = some o ∧ H b = none := by
  have e' : h.get? b = some o := PySem.W.of_hideAll (trk h H) e
  refine ⟨e', ?_⟩
  cases q : H b with
  | none => rfl
  | some x =>
    have hm : b ∈ trk h H := List.mem_filter.mpr ⟨List.mem_range.mpr (Heap.lt_size e'), by simp [q]⟩
    have z : (hidT h H).get? b = none := PySem.W.hideAll_none (trk h H) hm
    rw [z] at e; cases e

end L2

namespace L2
open PySem PySem.Spec PyProof.Rows

structure Mod (K : PySem.W.Frag) (mg : Str → Option Value) (base : Heap) : Prop where
  kin : K.In base
  glob : base.Ns mainGlobals mg
  blt : ∃ mb, base.Ns builtinsNs mb ∧ ∀ x : Str, x ≠ "__name__" → mb x = bootBuiltins x
  nolimit : base.NoLimit

structure Cx where
  prog : Program
  w : World
  K : PySem.W.Frag
  mg : Str → Option Value
  base : Heap
  A : Around
  N : List Str
  s₀ : Shared
  H₀ : Hp
  env : Env
  outer : List Env
  stack : List Env
  ex : List Addr
  fn : Str → Bool
  calm : Bool
  pn : List (Addr × Obj)
  xe : Value → Shared → Prop
def frs (l : List Env) : List Addr := l.filterMap (·.frame)
abbrev Cx.fs (X : Cx) : List Addr := frs X.outer

def Vis (sc : Scope) (x : Str) : Prop := sc.names.lookup x = some .local ∨ sc.names.lookup x = some .cell ∨ sc.names.lookup x = some .free
def Loc (sc : Scope) (x : Str) : Prop := sc.names.lookup x = some .local ∨ sc.names.lookup x = some .cell
def Look (env : Env) (h : Heap) (m : Str → Option Value) (x : Str) (u : Value) : Prop :=
  (env.kindOf x = some .local ∧ m x = some u) ∨ ((env.kindOf x = some .cell ∨ env.kindOf x = some .free) ∧ ∃ c, env.cells.lookup x = some c ∧ h.IsCell c (some u))

structure Cx.Ok (X : Cx) : Prop where
  mod : Mod X.K X.mg X.base
  kind : X.env.scope.kind = .function
  glob : X.env.globals = mainGlobals
  blt : X.env.builtins = builtinsNs
  above : X.s₀.heap.objs.size ≤ X.env.locals
  inj : ∀ x y c, X.env.cells.lookup x = some c → X.env.cells.lookup y = some c → x = y
  has : ∀ x, (X.env.kindOf x = some .cell ∨ X.env.kindOf x = some .free) → ∃ c, X.env.cells.lookup x = some c
  cab : ∀ x c, X.fn x = true → X.env.cells.lookup x = some c → X.s₀.heap.objs.size ≤ c
  hd : X.calm = true → X.A.handled = none
  frames : X.A.frames = some X.stack
  stk : X.stack = X.outer ∨ (X.stack = X.env :: X.outer ∧ X.env.frame = some X.env.locals)
  exf : ∀ b ∈ X.ex, b ≠ X.env.locals ∧ ∀ x c, X.env.cells.lookup x = some c → c ≠ b
  bs : ∀ b o, X.base.get? b = some o → X.s₀.heap.get? b = some o ∧ X.H₀ b = none
  bsz : X.base.objs.size ≤ X.s₀.heap.objs.size
  noex : ∀ b o, X.base.get? b = some o → b ∉ X.ex
  exfs : ∀ b ∈ X.ex, b ∉ X.fs
  funs : X.s₀.heap.FunFrames X.base X.outer
  frf : ∀ b ∈ X.fs, X.H₀ b = none

structure Inv (X : Cx) (pins : List (Addr × Obj)) (σ : List (Option V)) (H : Hp) (s : Shared) : Prop where
  ok : X.Ok
  os : s.os = X.s₀.os
  bare : AllBare s.gens
  base : Un X.fs X.ex X.H₀ H X.s₀.heap s.heap
  loc : ∃ m, s.heap.Ns X.env.locals m ∧ ∀ (i : Nat) (x : Str) (v : V), X.N[i]? = some x → σ[i]? = some (some v) → Vis X.env.scope x → ∃ u, RelV v u ∧ Look X.env s.heap m x u
  cell : ∀ x c, X.env.cells.lookup x = some c → ∃ v, s.heap.IsCell c v
  free : H X.env.locals = none
  freeC : ∀ x c, X.env.cells.lookup x = some c → H c = none
  pin : ∀ p ∈ X.pn ++ pins, s.heap.get? p.1 = some p.2 ∧ H p.1 = none ∧ p.1 ≠ X.env.locals ∧ p.1 ∉ X.fs ∧ ∀ v, p.2.data ≠ .cell v
  hok : HOk X.prog X.w H s.heap
  len : σ.length = X.N.length

section
variable {X : Cx} {pins : List (Addr × Obj)} {σ : List (Option V)} {H H' : Hp} {s : Shared} {h' : Heap}

theorem Cx.Ok.nofr (ok : X.Ok) {b : Addr} {o : Obj} (e : X.base.get? b = some o) : b ∉ X.fs := fun hb => by
  have := (ok.funs.mem hb).1
  rw [e] at this; cases this
theorem Inv.bs (I : Inv X pins σ H s) : ∀ b o, X.base.get? b = some o → s.heap.get? b = some o ∧ H b = none := fun b o e =>
  ⟨I.base.keep b o (I.ok.bs b o e).1 (I.ok.bs b o e).2 (I.ok.nofr e) (I.ok.noex b o e), I.base.free b o (I.ok.bs b o e).1 (I.ok.bs b o e).2 (I.ok.noex b o e)⟩
theorem Inv.bk (I : Inv X pins σ H s) : ∀ b o, X.base.get? b = some o → s.heap.get? b = some o := fun b o e => (I.bs b o e).1
theorem Inv.mod (I : Inv X pins σ H s) : Mod X.K X.mg X.base := I.ok.mod
theorem Inv.kIn (I : Inv X pins σ H s) : X.K.In s.heap := I.ok.mod.kin.keeps I.bk
theorem Inv.lt (I : Inv X pins σ H s) : X.env.locals < s.heap.objs.size := let ⟨_, hn, _⟩ := I.loc; hn.lt
theorem Inv.sz (I : Inv X pins σ H s) : X.s₀.heap.objs.size ≤ s.heap.objs.size := Nat.le_trans I.ok.above (Nat.le_of_lt I.lt)
theorem Inv.nofs (I : Inv X pins σ H s) {a : Addr} (h : s.heap.objs.size ≤ a) : a ∉ X.fs := fun hb => by
  obtain ⟨_, o, ho, _⟩ := I.ok.funs.mem hb
  exact absurd (Nat.lt_of_lt_of_le (Heap.lt_size ho) (Nat.le_trans I.sz h)) (Nat.lt_irrefl _)
theorem Inv.cne (I : Inv X pins σ H s) : ∀ x c, X.env.cells.lookup x = some c → c ≠ X.env.locals := fun x c e z => by
  obtain ⟨v, o, ho, hd⟩ := I.cell x c e
  obtain ⟨m, ⟨o', es, ep, ho', hd', _⟩, _⟩ := I.loc
  rw [z, ho'] at ho; cases ho; rw [hd'] at hd; cases hd
theorem Inv.funs (I : Inv X pins σ H s) : s.heap.FunFrames X.base X.outer := by
  have all : ∀ (l : List Env), (∀ b ∈ frs l, b ∈ X.fs) → X.s₀.heap.FunFrames X.base l → s.heap.FunFrames X.base l := by
    intro l
    induction l with
    | nil => intro _ _; trivial
    | cons env r ih =>
      intro hs hl
      obtain ⟨hk, ⟨L, o, hf, hn, ho, hd⟩, hr⟩ := hl
      have hL : L ∈ X.fs := hs L (by unfold frs; rw [List.filterMap_cons, hf]; exact List.mem_cons_self)
      obtain ⟨sl, e⟩ := I.base.slot L o ho (I.ok.frf L hL) hL fun z => I.ok.exfs L z hL
      exact ⟨hk, ⟨L, _, hf, hn, e, hd⟩, ih (fun b hb => hs b (by unfold frs; rw [List.filterMap_cons, hf]; exact List.mem_cons_of_mem _ hb)) hr⟩
  exact all X.outer (fun _ hb => hb) I.ok.funs

theorem Inv.stack (I : Inv X pins σ H s) : s.heap.FunFrames X.base X.stack := by
  rcases I.ok.stk with e | ⟨e, hf⟩
  · rw [e]; exact I.funs
  · rw [e]
    obtain ⟨m, hn, _⟩ := I.loc
    refine .cons (by rw [I.ok.kind]; decide) hf hn ?_ I.funs
    exact Heap.get?_none_of_le (Nat.le_trans I.ok.bsz I.ok.above)
theorem Inv.stkSub (I : Inv X pins σ H s) : ∀ b ∈ frs X.stack, b ∈ X.env.locals :: X.fs := fun b hb => by
  rcases I.ok.stk with e | ⟨e, hf⟩
  · rw [e] at hb; exact List.mem_cons_of_mem _ hb
  · rw [e] at hb
    unfold frs at hb
    rw [List.filterMap_cons, hf] at hb
    exact hb
theorem Inv.stkFree (I : Inv X pins σ H s) : ∀ b ∈ frs X.stack, H b = none := fun b hb => by
  rcases List.mem_cons.mp (I.stkSub b hb) with e | hb
  · rw [e]; exact I.free
  · obtain ⟨_, o, ho, _⟩ := I.ok.funs.mem hb
    exact I.base.free b o ho (I.ok.frf b hb) fun z => I.ok.exfs b z hb

theorem Inv.step {g' : Array GenState} {t' : Nat} {d' : Drawn} {ch : List Addr} (I : Inv X pins σ H s)
    (hch : ∀ b ∈ ch, (b ∈ X.ex ∨ X.s₀.heap.objs.size ≤ b) ∧ b ≠ X.env.locals ∧ (∀ x c, X.env.cells.lookup x = some c → c ≠ b) ∧ ∀ p ∈ X.pn ++ pins, p.1 ≠ b)
    (keep : ∀ b o, b ≠ X.env.locals → b ∉ X.fs → b ∉ ch → s.heap.get? b = some o → H b = none → h'.get? b = some o)
    (slot : ∀ b o, b ≠ X.env.locals → b ∈ X.fs → b ∉ ch → s.heap.get? b = some o → H b = none → ∃ sl, h'.get? b = some { o with slots := sl }) (free : ∀ b o, b ∉ ch → s.heap.get? b = some o → H b = none → H' b = none)
    (there : ∀ b o, b ∉ ch → s.heap.get? b = some o → ∃ o', h'.get? b = some o')
    (tups : ∀ b xs, H b = some (.tup xs) → H' b = some (.tup xs)) (frzs : ∀ b o u, H b = some (.frz o u) → H' b = some (.frz o u)) (tbls : ∀ b ps, H b = some (.tbl ps) → ∃ more, H' b = some (.tbl (ps ++ more)))
    (ns : ∀ m, s.heap.Ns X.env.locals m → h'.Ns X.env.locals m) (hok : HOk X.prog X.w H' h') (hg : AllBare g') :
    Inv X pins σ H' { s with heap := h', gens := g', drawn := d', toks := t' } := by
  have neL : ∀ b o, X.s₀.heap.get? b = some o → b ≠ X.env.locals := fun b o e => Nat.ne_of_lt (Nat.lt_of_lt_of_le (Heap.lt_size e) I.ok.above)
  have neC : ∀ b o, X.s₀.heap.get? b = some o → b ∉ X.ex → b ∉ ch := fun b o e hx hb => by
    rcases (hch b hb).1 with z | z
    · exact hx z
    · exact absurd (Nat.lt_of_lt_of_le (Heap.lt_size e) z) (Nat.lt_irrefl _)
  have cellK : ∀ x c, X.env.cells.lookup x = some c → ∀ v, s.heap.IsCell c v → h'.IsCell c v := fun x c e v ⟨o, ho, hd⟩ => by
    have nch : c ∉ ch := fun z => (hch c z).2.2.1 x c e rfl
    by_cases hc : c ∈ X.fs
    · obtain ⟨sl, q⟩ := slot c o (I.cne x c e) hc nch ho (I.freeC x c e)
      exact ⟨_, q, hd⟩
    · exact ⟨o, keep c o (I.cne x c e) hc nch ho (I.freeC x c e), hd⟩
  refine ⟨I.ok, I.os, hg, ⟨fun b o e n hb hx => ?_, fun b o e n hb hx => ?_, fun b o e n hx => ?_, fun b o e hx => ?_, fun b xs e => tups b xs (I.base.tups b xs e), fun b o xs e => frzs b o xs (I.base.frzs b o xs e), fun b ps e => ?_⟩, ?_, fun x c e => ?_, ?_, fun x c e => ?_, fun p hp => ?_, hok, I.len⟩
  · exact keep b o (neL b o e) hb (neC b o e hx) (I.base.keep b o e n hb hx) (I.base.free b o e n hx)
  · obtain ⟨sl, e1⟩ := I.base.slot b o e n hb hx
    obtain ⟨sl', e2⟩ := slot b _ (neL b o e) hb (neC b o e hx) e1 (I.base.free b o e n hx)
    exact ⟨sl', e2⟩
  · obtain ⟨o', e1⟩ := I.base.there b o e hx
    exact free b o' (neC b o e hx) e1 (I.base.free b o e n hx)
  · obtain ⟨o', e1⟩ := I.base.there b o e hx
    exact there b o' (neC b o e hx) e1
  · obtain ⟨m1, e1⟩ := I.base.tbls b ps e
    obtain ⟨m2, e2⟩ := tbls b _ e1
    exact ⟨m1 ++ m2, by rw [e2, Array.append_assoc]⟩
  · obtain ⟨m, hn, hl⟩ := I.loc
    refine ⟨m, ns m hn, fun i x v e1 e2 e3 => ?_⟩
    obtain ⟨u, r, l⟩ := hl i x v e1 e2 e3
    refine ⟨u, r, ?_⟩
    rcases l with l | ⟨k, c, e, z⟩
    · exact .inl l
    · exact .inr ⟨k, c, e, cellK x c e _ z⟩
  · obtain ⟨v, z⟩ := I.cell x c e
    exact ⟨v, cellK x c e v z⟩
  · obtain ⟨m, ⟨o, _, _, ho, _⟩, _⟩ := I.loc
    exact free _ o (fun z => (hch _ z).2.1 rfl) ho I.free
  · obtain ⟨v, o, ho, hd⟩ := I.cell x c e
    exact free c o (fun z => (hch c z).2.2.1 x c e rfl) ho (I.freeC x c e)
  · obtain ⟨e, n, ne, nf, d⟩ := I.pin p hp
    have nch : p.1 ∉ ch := fun z => (hch p.1 z).2.2.2 p hp rfl
    exact ⟨keep p.1 p.2 ne nf nch e n, free p.1 p.2 nch e n, ne, nf, d⟩
theorem Inv.un {t' : Nat} (I : Inv X pins σ H s) (u : Un X.fs [] H H' s.heap h') (hok : HOk X.prog X.w H' h') : Inv X pins σ H' { s with heap := h', toks := t' } := by
  obtain ⟨m, ⟨o, es, ep, ho, r⟩, _⟩ := id I.loc
  obtain ⟨sl, hL⟩ := u.any ho I.free (by simp)
  exact I.step (g' := s.gens) (d' := s.drawn) (ch := []) (fun _ z => nomatch z) (fun b o _ hb _ e n => u.keep b o e n hb (by simp)) (fun b o _ hb _ e n => u.slot b o e n hb (by simp)) (fun b o _ e n => u.free b o e n (by simp)) (fun b o _ e => u.there b o e (by simp)) u.tups u.frzs u.tbls (fun m' hm => by
    obtain ⟨o', es', ep', ho', r'⟩ := hm
    rw [ho] at ho'; cases ho'
    exact ⟨_, es', ep', hL, r'⟩) hok I.bare
theorem Inv.call {g' : Array GenState} {t' : Nat} {d' : Drawn} {ch : List Addr} (I : Inv X pins σ H s) (u : Un (frs X.stack) ch H H' s.heap h') (hok : HOk X.prog X.w H' h') (hg : AllBare g')
    (hch : ∀ b ∈ ch, (b ∈ X.ex ∨ X.s₀.heap.objs.size ≤ b) ∧ b ≠ X.env.locals ∧ (∀ x c, X.env.cells.lookup x = some c → c ≠ b) ∧ ∀ p ∈ X.pn ++ pins, p.1 ≠ b) :
    Inv X pins σ H' { s with heap := h', gens := g', drawn := d', toks := t' } := by
  obtain ⟨m, ⟨o, es, ep, ho, r⟩, _⟩ := id I.loc
  obtain ⟨sl, hL⟩ := u.any ho I.free fun z => (hch _ z).2.1 rfl
  exact I.step (ch := ch) hch (fun b o hL hb hc e n => u.keep b o e n (fun z => (List.mem_cons.mp (I.stkSub b z)).elim hL hb) hc) (fun b o _ _ hc e n => u.any e n hc) (fun b o hc e n => u.free b o e n hc) (fun b o hc e => u.there b o e hc) u.tups u.frzs u.tbls (fun m' hm => by
    obtain ⟨o', es', ep', ho', r'⟩ := hm
    rw [ho] at ho'; cases ho'
    exact ⟨_, es', ep', hL, r'⟩) hok hg
theorem Inv.turned {t' : Nat} {it : Addr} (I : Inv X pins σ H s) (k : ∀ b o, b ≠ it → s.heap.get? b = some o → h'.get? b = some o) (hn : H it = none) (hL : it ≠ X.env.locals)
    (h1 : it ∈ X.ex ∨ X.s₀.heap.objs.size ≤ it) (h2 : ∀ x c, X.env.cells.lookup x = some c → c ≠ it) (h3 : ∀ p ∈ X.pn ++ pins, p.1 ≠ it) : Inv X pins σ H { s with heap := h', toks := t' } := by
  have nit : ∀ b u, H b = some u → b ≠ it := fun b u e z => by rw [z, hn] at e; cases e
  refine I.step (g' := s.gens) (d' := s.drawn) (ch := [it]) (fun b hb => ?_) (fun b o _ _ hc e _ => k b o (fun z => hc (by simp [z])) e) (fun b o _ _ hc e _ => ⟨o.slots, k b o (fun z => hc (by simp [z])) e⟩) (fun _ _ _ _ n => n)
    (fun b o hc e => ⟨o, k b o (fun z => hc (by simp [z])) e⟩) (fun _ _ e => e) (fun _ _ _ e => e) (fun b ps e => ⟨#[], by rw [e]; simp⟩) (fun m hm => ?_) (fun b u e => ?_) I.bare
  · have e : b = it := by simpa using hb
    subst e
    exact ⟨h1, hL, h2, h3⟩
  · obtain ⟨o, es, ep, ho, r⟩ := hm
    exact ⟨o, es, ep, k _ o (Ne.symm hL) ho, r⟩
  · refine (I.hok b u e).stay (fun c v hc q => k c v ?_ q) (fun _ q => q) fun _ _ q => q
    rcases hc with z | z
    · rw [z]; exact nit b u e
    · exact nit c _ z
theorem Inv.tok (I : Inv X pins σ H s) (t : Nat) : Inv X pins σ H { s with toks := t } := I.un (h' := s.heap) (t' := t) Un.refl I.hok
theorem Inv.kept {t' : Nat} (I : Inv X pins σ H s) (k : ∀ b u, s.heap.get? b = some u → h'.get? b = some u) : Inv X pins σ H { s with heap := h', toks := t' } := I.un (Un.kept k) (I.hok.kept k)
theorem Inv.laid {a : Addr} {o : HO} {t' : Nat} (I : Inv X pins σ H s) (k : ∀ b u, s.heap.get? b = some u → h'.get? b = some u) (hp : s.heap.objs.size ≤ a) (new : ObjOk X.prog X.w (upd H a o) h' a o) :
    Inv X pins σ (upd H a o) { s with heap := h', toks := t' } := I.un (Un.laid k hp (I.hok.fresh hp)) (I.hok.laid k hp new)
theorem Inv.write {x e : Addr} {o : HO} {t' : Nat} (I : Inv X pins σ H s) (mu : Mut (H x)) (he : e = x ∨ H e = some (.own x)) (k : ∀ b u, b ≠ e → s.heap.get? b = some u → h'.get? b = some u) (heo : ∃ u, h'.get? e = some u)
    (new : ObjOk X.prog X.w (upd H x o) h' x o) : Inv X pins σ (upd H x o) { s with heap := h', toks := t' } := I.un (Un.write mu he k heo) (I.hok.write mu he k heo new)
theorem Inv.pins_of {pins' : List (Addr × Obj)} (I : Inv X pins σ H s) (h : ∀ p ∈ pins', s.heap.get? p.1 = some p.2 ∧ H p.1 = none ∧ p.1 ≠ X.env.locals ∧ p.1 ∉ X.fs ∧ ∀ v, p.2.data ≠ .cell v) : Inv X pins' σ H s :=
  ⟨I.ok, I.os, I.bare, I.base, I.loc, I.cell, I.free, I.freeC, fun p hp => (List.mem_append.mp hp).elim (fun z => I.pin p (List.mem_append_left _ z)) (h p), I.hok, I.len⟩

theorem nodup_ix {N : List Str} (hN : N.Nodup) {i j : Nat} {x : Str} (a : N[i]? = some x) (b : N[j]? = some x) : i = j := by
  obtain ⟨h1, e1⟩ := List.getElem?_eq_some_iff.mp a
  obtain ⟨h2, e2⟩ := List.getElem?_eq_some_iff.mp b
  exact (List.getElem_inj hN).mp (e1.trans e2.symm)

theorem store_ok2 {M : Model} {A : Around} {E : Value → Shared → Prop} {i : Nat} {x : Str} {v : V} {u : Value} {Q : Unit → Shared → Prop} (I : Inv X pins σ H s) (hN : X.N.Nodup) (hi : X.N[i]? = some x) (hx : Loc X.env.scope x) (r : RelV v u)
    (h : ∀ s', Inv X pins (σ.set i (some v)) H s' → (∃ a, Heap.SameBut a s.heap s'.heap ∧ (a = X.env.locals ∨ X.env.cells.lookup x = some a)) → Q () s') (hf : X.fn x = true ∨ X.env.scope.names.lookup x = some .local := by first | exact .inl rfl | exact .inr rfl | assumption) : wpAny M A (storeName X.env x u) Q E s := by
  obtain ⟨m, hn, hl⟩ := id I.loc
  have hcls : (X.env.scope.kind == .class || (X.env.scope.kind == .module && X.env.locals != X.env.globals)) = false := by rw [I.ok.kind]; rfl
  have hiσ : i < σ.length := by rw [I.len]; exact (List.getElem?_eq_some_iff.mp hi).1
  have cne := I.cne
  have tracked : ∀ {a : Addr} {h' : Heap}, (∃ o, s.heap.get? a = some o ∧ H a = none) → Heap.SameBut a s.heap h' → HOk X.prog X.w H h' := fun {a h'} ha hs b ob e => by
    obtain ⟨_, _, hfree⟩ := ha
    refine (I.hok b ob e).stay (fun c w' hc q => (hs.2 c ?_).trans q) (fun _ q => q) fun _ _ q => q
    rintro rfl
    rcases hc with rfl | hc
    · rw [hfree] at e; cases e
    · rw [hfree] at hc; cases hc
  rcases hx with hk | hk
  · refine wpAny_storeName_local hk hn (fun h' hn' hs => ?_) hcls
    obtain ⟨oL, _, _, hoL, _⟩ := id hn
    refine h _ ⟨I.ok, I.os, I.bare, ⟨fun b o e n hb hx => ?_, fun b o e n hb hx => ?_, I.base.free, fun b o e hx => ?_, I.base.tups, I.base.frzs, I.base.tbls⟩, ⟨_, hn', fun j y v' e1 e2 e3 => ?_⟩, fun y c e => ?_, I.free, I.freeC, fun p hp => ?_, tracked ⟨oL, hoL, I.free⟩ hs, by simpa using I.len⟩ ⟨_, hs, .inl rfl⟩
    · exact (hs.2 b (Nat.ne_of_lt (Nat.lt_of_lt_of_le (Heap.lt_size e) I.ok.above))).trans (I.base.keep b o e n hb hx)
    · obtain ⟨sl, e1⟩ := I.base.slot b o e n hb hx
      exact ⟨sl, (hs.2 b (Nat.ne_of_lt (Nat.lt_of_lt_of_le (Heap.lt_size e) I.ok.above))).trans e1⟩
    · obtain ⟨o', e1⟩ := I.base.there b o e hx
      exact ⟨o', (hs.2 b (Nat.ne_of_lt (Nat.lt_of_lt_of_le (Heap.lt_size e) I.ok.above))).trans e1⟩
    · by_cases hj : j = i
      · subst hj
        rw [hi] at e1; cases e1
        rw [List.getElem?_set_self hiσ] at e2
        cases e2
        exact ⟨u, r, .inl ⟨hk, by simp⟩⟩
      · rw [List.getElem?_set_ne (Ne.symm hj)] at e2
        obtain ⟨u', r', q⟩ := hl j y v' e1 e2 e3
        refine ⟨u', r', ?_⟩
        rcases q with ⟨k, e⟩ | ⟨k, c, e, z⟩
        · refine .inl ⟨k, ?_⟩
          have : y ≠ x := fun e => hj (nodup_ix hN e1 (e ▸ hi))
          simp [this, e]
        · exact .inr ⟨k, c, e, z.sameBut hs (cne y c e)⟩
    · obtain ⟨w', z⟩ := I.cell y c e
      exact ⟨w', z.sameBut hs (cne y c e)⟩
    · obtain ⟨e, n, ne, nf, d⟩ := I.pin p hp
      exact ⟨(hs.2 p.1 ne).trans e, n, ne, nf, d⟩
  · have hfn : X.fn x = true := by
      rcases hf with z | z
      · exact z
      · rw [z] at hk; cases hk
    obtain ⟨c, hc⟩ := I.ok.has x (.inl hk)
    obtain ⟨w', z⟩ := I.cell x c hc
    refine wpAny_storeName_cell I.ok.kind hk hc z (fun h' hc' hs => ?_)
    obtain ⟨oc, hoc, hocd⟩ := id z
    refine h { s with heap := h' } ⟨I.ok, I.os, I.bare, ⟨fun b o e n hb hx => ?_, fun b o e n hb hx => ?_, I.base.free, fun b o e hx => ?_, I.base.tups, I.base.frzs, I.base.tbls⟩, ⟨m, hn.sameBut hs (Ne.symm (cne x c hc)), fun j y v' e1 e2 e3 => ?_⟩, fun y c' e => ?_, I.free, I.freeC, fun p hp => ?_, tracked ⟨oc, hoc, I.freeC x c hc⟩ hs, by simpa using I.len⟩ ⟨c, hs, .inr hc⟩
    · exact (hs.2 b (Nat.ne_of_lt (Nat.lt_of_lt_of_le (Heap.lt_size e) (I.ok.cab x c hfn hc)))).trans (I.base.keep b o e n hb hx)
    · obtain ⟨sl, e1⟩ := I.base.slot b o e n hb hx
      exact ⟨sl, (hs.2 b (Nat.ne_of_lt (Nat.lt_of_lt_of_le (Heap.lt_size e) (I.ok.cab x c hfn hc)))).trans e1⟩
    · obtain ⟨o', e1⟩ := I.base.there b o e hx
      exact ⟨o', (hs.2 b (Nat.ne_of_lt (Nat.lt_of_lt_of_le (Heap.lt_size e) (I.ok.cab x c hfn hc)))).trans e1⟩
    · by_cases hj : j = i
      · subst hj
        rw [hi] at e1; cases e1
        rw [List.getElem?_set_self hiσ] at e2
        cases e2
        exact ⟨u, r, .inr ⟨.inl hk, c, hc, hc'⟩⟩
      · rw [List.getElem?_set_ne (Ne.symm hj)] at e2
        obtain ⟨u', r', q⟩ := hl j y v' e1 e2 e3
        refine ⟨u', r', ?_⟩
        rcases q with q | ⟨k, c', e, z'⟩
        · exact .inl q
        · refine .inr ⟨k, c', e, z'.sameBut hs ?_⟩
          rintro rfl
          exact hj (nodup_ix hN e1 (I.ok.inj _ _ _ e hc ▸ hi))
    · by_cases hcc : c' = c
      · subst hcc; exact ⟨_, hc'⟩
      · obtain ⟨w2, z2⟩ := I.cell y c' e
        exact ⟨w2, z2.sameBut hs hcc⟩
    · obtain ⟨e, n, ne, nf, d⟩ := I.pin p hp
      refine ⟨(hs.2 p.1 ?_).trans e, n, ne, nf, d⟩
      intro q
      rw [q, hoc] at e
      have q' : oc = p.2 := Option.some.inj e
      exact d w' (by rw [← q']; exact hocd)
theorem store_ok {M : Model} {A : Around} {E : Value → Shared → Prop} {i : Nat} {x : Str} {v : V} {u : Value} {Q : Unit → Shared → Prop} (I : Inv X pins σ H s) (hN : X.N.Nodup) (hi : X.N[i]? = some x) (hx : Loc X.env.scope x) (r : RelV v u)
    (h : ∀ s', Inv X pins (σ.set i (some v)) H s' → Q () s') (hf : X.fn x = true ∨ X.env.scope.names.lookup x = some .local := by first | exact .inl rfl | exact .inr rfl | assumption) : wpAny M A (storeName X.env x u) Q E s :=
  store_ok2 I hN hi hx r (fun s' I' _ => h s' I') hf
theorem Inv.call' {s' : Shared} {ch : List Addr} (I : Inv X pins σ H s) (ho : s'.os = s.os) (u : Un (frs X.stack) ch H H' s.heap s'.heap) (hok : HOk X.prog X.w H' s'.heap) (hg : AllBare s'.gens)
    (hch : ∀ b ∈ ch, (b ∈ X.ex ∨ X.s₀.heap.objs.size ≤ b) ∧ b ≠ X.env.locals ∧ (∀ x c, X.env.cells.lookup x = some c → c ≠ b) ∧ ∀ p ∈ X.pn ++ pins, p.1 ≠ b) : Inv X pins σ H' s' := by
  obtain ⟨h', g', d', t', o'⟩ := s'
  have e : o' = s.os := ho
  subst e
  exact I.call (g' := g') (t' := t') (d' := d') u hok hg hch
end

abbrev XK := Value → Option Addr → Hp → Prop
abbrev St := List (Option V)
abbrev VK := V → Hp → Prop
abbrev TE := St → Hp → VK → Prop
abbrev TT := St → Hp → (Bool → Hp → Prop) → Prop
abbrev TA := St → Hp → (List V → Hp → Prop) → Prop
structure Ends where
  nx : St → Hp → Prop
  rt : VK
  bk : St → Hp → Prop := fun _ _ => False
  ct : St → Hp → Prop := fun _ _ => False
abbrev TS := Ends → St → Hp → Prop

def EP (X : Cx) (pins : List (Addr × Obj)) (σ : St) (Q : VK) (u : Value) (s' : Shared) : Prop := ∃ v H', Inv X pins σ H' s' ∧ RelV v u ∧ Q v H'
def TP (X : Cx) (pins : List (Addr × Obj)) (σ : St) (Q : Bool → Hp → Prop) (b : Bool) (s' : Shared) : Prop := ∃ H', Inv X pins σ H' s' ∧ Q b H'
def AP (X : Cx) (pins : List (Addr × Obj)) (σ : St) (Q : List V → Hp → Prop) (us : List Value) (s' : Shared) : Prop := ∃ vs H', Inv X pins σ H' s' ∧ Vals vs us ∧ Q vs H'
def SP (X : Cx) (pins : List (Addr × Obj)) (D : Ends) (f : Flow) (s' : Shared) : Prop :=
  match f with
  | .next => ∃ σ' H', Inv X pins σ' H' s' ∧ D.nx σ' H'
  | .brk => ∃ σ' H', Inv X pins σ' H' s' ∧ D.bk σ' H'
  | .cont => ∃ σ' H', Inv X pins σ' H' s' ∧ D.ct σ' H'
  | .ret u => ∃ v σ' H', Inv X pins σ' H' s' ∧ RelV v u ∧ D.rt v H'

def PE (X : Cx) (e : Expr) (t : TE) : Prop :=
  ∀ (pins : List (Addr × Obj)) (s : Shared) (σ : St) (H : Hp) (Q : VK), Inv X pins σ H s → t σ H Q → wpAny (model X.prog X.w) X.A (eval e X.env) (EP X pins σ Q) X.xe s
def PT (X : Cx) (e : Expr) (t : TT) : Prop :=
  ∀ (pins : List (Addr × Obj)) (s : Shared) (σ : St) (H : Hp) (Q : Bool → Hp → Prop), Inv X pins σ H s → t σ H Q → wpAny (model X.prog X.w) X.A (isTrue e X.env (eval e X.env)) (TP X pins σ Q) X.xe s
def PW (X : Cx) (e : Expr) (t : TT) : Prop :=
  ∀ (whole : Sem Value) (pins : List (Addr × Obj)) (s : Shared) (σ : St) (H : Hp) (Q : Bool → Hp → Prop), Inv X pins σ H s → t σ H Q → wpAny (model X.prog X.w) X.A (isTrue e X.env whole) (TP X pins σ Q) X.xe s
theorem PW.pt {X : Cx} {e : Expr} {t : TT} (h : PW X e t) : PT X e t := h _
def PA (X : Cx) (es : List Expr) (t : TA) : Prop :=
  ∀ (pos : Pos) (pins : List (Addr × Obj)) (s : Shared) (σ : St) (H : Hp) (Q : List V → Hp → Prop), Inv X pins σ H s → t σ H Q → wpAny (model X.prog X.w) X.A (spliced (backTo pos (starEach es X.env))) (AP X pins σ Q) X.xe s
def PS (X : Cx) (st : Stmt) (t : TS) : Prop :=
  ∀ (pins : List (Addr × Obj)) (s : Shared) (σ : St) (H : Hp) (D : Ends), Inv X pins σ H s → t D σ H → wpAny (model X.prog X.w) X.A (exec st X.env) (SP X pins D) X.xe s
def PSs (X : Cx) (st : List Stmt) (t : TS) : Prop :=
  ∀ (pins : List (Addr × Obj)) (s : Shared) (σ : St) (H : Hp) (D : Ends), Inv X pins σ H s → t D σ H → wpAny (model X.prog X.w) X.A (execs st X.env) (SP X pins D) X.xe s
theorem thn {α : Type} {t : Sem α} {Q Q' : α → Shared → Prop} {M : Model} {A : Around} {E : Value → Shared → Prop} {s : Shared} (h : wpAny M A t Q E s) (hQ : ∀ a s, Q a s → Q' a s) : wpAny M A t Q' E s := wpAny_mono h hQ fun _ _ x => x
end L2

namespace L2
open PySem PySem.Spec PyProof.Rows
section
variable {X : Cx}

theorem bin {a b : Expr} {ta tb : TE} (ha : PE X a ta) (hb : PE X b tb) {pins : List (Addr × Obj)} {s : Shared} {σ : St} {H : Hp} {R : V → V → Hp → Prop} (I : Inv X pins σ H s) (h : ta σ H fun x H1 => tb σ H1 fun y H2 => R x y H2)
    {α : Type} {Q : α → Shared → Prop} {f : Value → Value → Sem α}
    (hf : ∀ v u s2 x y H2, Inv X pins σ H2 s2 → RelV x v → RelV y u → R x y H2 → wpAny (model X.prog X.w) X.A (f v u) Q X.xe s2) :
    wpAny (model X.prog X.w) X.A (eval a X.env) (fun v s₁ => wpAny (model X.prog X.w) X.A (eval b X.env) (fun u s₂ => wpAny (model X.prog X.w) X.A (f v u) Q X.xe s₂) X.xe s₁) X.xe s := by
  refine thn (ha pins s σ H _ I h) fun v s1 ⟨x, H1, I1, r1, q1⟩ => ?_
  refine thn (hb pins s1 σ H1 _ I1 q1) fun u s2 ⟨y, H2, I2, r2, q2⟩ => ?_
  exact hf v u s2 x y H2 I2 r1 r2 q2

def tVar (i : Nat) : TE := fun σ H Q => ∃ v, σ[i]? = some (some v) ∧ Q v H
def tC (v : V) : TE := fun _ H Q => Q v H
theorem pe_var {i : Nat} {x : Str} {pos : Pos} (hN : X.N[i]? = some x) (hv : Vis X.env.scope x) (hd : (x == ("__debug__" : Str)) = false := by decide) (hcd : (x == ("__classdict__" : Str)) = false := by decide) : PE X (.Name x pos) (tVar i) := by
  intro pins s σ H Q I h
  obtain ⟨v, e, h⟩ := h
  obtain ⟨m, hn, hl⟩ := I.loc
  obtain ⟨u, r, l⟩ := hl i x v hN e hv
  have fin : EP X pins σ Q u s := ⟨v, H, I, r, h⟩
  rcases l with ⟨hk, hm⟩ | ⟨hk, c, hc, hcell⟩
  · exact wpAny_Name (wpAny_loadName_local I.ok.kind hk hn hm fin) hd
  · rcases hk with hk | hk
    · exact wpAny_Name (wpAny_loadName_cell I.ok.kind hk hc hcell fin) hd
    · exact wpAny_Name (wpAny_loadName_free I.ok.kind hk hc hcell fin hcd) hd
theorem pe_int {i j pos} : PE X (.Constant (.int i) j pos) (tC (.int i)) := fun _ _ _ H _ I h => wpAny_Constant_int ⟨.int i, H, I.tok _, ⟨_, rfl⟩, h⟩
theorem pe_bl {b j pos} : PE X (.Constant (.bool b) j pos) (tC (.bl b)) := fun _ _ _ H _ I h => Constant_bool ⟨.bl b, H, I, rfl, h⟩
theorem pe_non {j pos} : PE X (.Constant .none j pos) (tC .non) := fun _ _ _ H _ I h => Constant_none ⟨.non, H, I, rfl, h⟩
theorem pe_str {x j pos} : PE X (.Constant (.str x) j pos) (tC (.str x)) := fun _ _ _ H _ I h => Calls.Constant_str ⟨.str x, H, I.tok _, ⟨_, rfl⟩, h⟩

def Gl (X : Cx) (x : Str) : Prop := X.env.kindOf x = some .globalImplicit
theorem ld_glob {E : Value → Shared → Prop} {pins : List (Addr × Obj)} {s : Shared} {σ : St} {H : Hp} {x : Str} {u : Value} {pos : Pos} {Q : Value → Shared → Prop} (I : Inv X pins σ H s) (hg : Gl X x) (hm : X.mg x = some u) (h : Q u s)
    (hd : (x == ("__debug__" : Str)) = false := by decide) : wpAny (model X.prog X.w) X.A (eval (.Name x pos) X.env) Q E s :=
  Calls.Name_function_global I.ok.kind hg (Calls.loadGlobal_global (by rw [I.ok.glob]; exact I.mod.glob.keeps I.bk) hm h) hd
theorem ld_blt {E : Value → Shared → Prop} {pins : List (Addr × Obj)} {s : Shared} {σ : St} {H : Hp} {x : Str} {u : Value} {pos : Pos} {Q : Value → Shared → Prop} (I : Inv X pins σ H s) (hg : Gl X x) (hm : X.mg x = none) (hv : bootBuiltins x = some u) (h : Q u s)
    (hn : x ≠ "__name__" := by decide) (hd : (x == ("__debug__" : Str)) = false := by decide) : wpAny (model X.prog X.w) X.A (eval (.Name x pos) X.env) Q E s := by
  obtain ⟨mb, h1, h2⟩ := I.mod.blt
  exact Calls.Name_function_global I.ok.kind hg (Calls.loadGlobal_builtin (by rw [I.ok.glob]; exact I.mod.glob.keeps I.bk) hm (by rw [I.ok.blt]; exact h1.keeps I.bk) ((h2 x hn).trans hv) h) hd
theorem pe_glob {x : Str} {v : V} {u : Value} {pos : Pos} (hg : Gl X x) (hm : X.mg x = some u) (r : RelV v u) (hd : (x == ("__debug__" : Str)) = false := by decide) : PE X (.Name x pos) (tC v) :=
  fun _ _ _ H _ I h => ld_glob I hg hm ⟨v, H, I, r, h⟩ hd
theorem pe_bltn {x : Str} {v : V} {u : Value} {pos : Pos} (hg : Gl X x) (hm : X.mg x = none) (hv : bootBuiltins x = some u) (r : RelV v u) (hn : x ≠ "__name__" := by decide) (hd : (x == ("__debug__" : Str)) = false := by decide) : PE X (.Name x pos) (tC v) :=
  fun _ _ _ H _ I h => ld_blt I hg hm hv ⟨v, H, I, r, h⟩ hn hd

variable {a b : Expr} {ta tb : TE} {pos : Pos}

def PC (X : Cx) (op : CmpOp) (a b : Expr) (t : TE) : Prop :=
  ∀ (pins : List (Addr × Obj)) (s : Shared) (σ : St) (H : Hp) (Q : VK), Inv X pins σ H s → t σ H Q →
    wpAny (model X.prog X.w) X.A (eval a X.env) (fun v s₁ => wpAny (model X.prog X.w) X.A (eval b X.env) (fun u s₂ => wpAny (model X.prog X.w) X.A (compareOp op v u) (EP X pins σ Q) X.xe s₂) X.xe s₁) X.xe s
def tB (t : TE) : TT := fun σ H Q => t σ H fun x H1 => ∃ c, x = .bl c ∧ Q c H1
theorem pt_cmp {op : CmpOp} {t : TE} (h : PC X op a b t) (h1 : behindInMarks op b = false := by first | exact nobehind _ (by decide) (by decide) | rfl) : PT X (.Compare a [op] [b] pos) (tB t) := by
  intro pins s σ H Q I hw
  refine wpAny_isTrue_Compare1 (thn (h pins s σ H _ I hw) fun v s1 h1 => thn h1 fun u s2 h2 => thn h2 fun c s3 ⟨x, H1, I1, r1, q1⟩ => ?_) h1
  obtain ⟨d, rfl, q⟩ := q1
  cases r1
  exact wpAny_truthy_bool ⟨H1, I1, q⟩
theorem pt_val {e : Expr} {t : TE} (h : PE X e t) (he : ∀ whole, isTrue e X.env whole = (do let v ← whole; standAt e.pos; holding [v] (truthy v)) := by intro _; rfl) : PT X e (tB t) := by
  intro pins s σ H Q I hw
  refine isTrue_plain (thn (h pins s σ H _ I hw) fun v s1 ⟨x, H1, I1, r1, q1⟩ => ?_) (he _)
  obtain ⟨d, rfl, q⟩ := q1
  cases r1
  exact wpAny_truthy_bool ⟨H1, I1, q⟩

variable {tA tB' : TT} {rest : List Expr}
def tAnd (t u : TT) : TT := fun σ H Q => t σ H fun c H1 => if c = true then u σ H1 Q else Q false H1
def tOr (t u : TT) : TT := fun σ H Q => t σ H fun c H1 => if c = true then Q true H1 else u σ H1 Q
def tNot (t : TT) : TT := fun σ H Q => t σ H fun c H1 => Q (!c) H1
theorem pw_and1 (ha : PT X a tA) : PW X (.BoolOp .And [a] pos) tA := by
  intro wh pins s σ H Q I h
  refine isTrue_and (thn (ha pins s σ H Q I h) fun c s1 e => ?_)
  cases c with
  | true => exact isTrue_and_nil e
  | false => exact e
theorem pw_or1 (ha : PT X a tA) : PW X (.BoolOp .Or [a] pos) tA := by
  intro wh pins s σ H Q I h
  refine isTrue_or (thn (ha pins s σ H Q I h) fun c s1 e => ?_)
  cases c with
  | false => exact isTrue_or_nil e
  | true => exact e
theorem pw_and (ha : PT X a tA) (hb : PW X (.BoolOp .And (b :: rest) pos) tB') : PW X (.BoolOp .And (a :: b :: rest) pos) (tAnd tA tB') := by
  intro wh pins s σ H Q I h
  refine isTrue_and (thn (ha pins s σ H _ I h) fun c s1 ⟨H1, I1, q1⟩ => ?_)
  cases c with
  | true => exact hb wh pins s1 σ H1 Q I1 q1
  | false => exact ⟨H1, I1, q1⟩
theorem pw_or (ha : PT X a tA) (hb : PW X (.BoolOp .Or (b :: rest) pos) tB') : PW X (.BoolOp .Or (a :: b :: rest) pos) (tOr tA tB') := by
  intro wh pins s σ H Q I h
  refine isTrue_or (thn (ha pins s σ H _ I h) fun c s1 ⟨H1, I1, q1⟩ => ?_)
  cases c with
  | true => exact ⟨H1, I1, q1⟩
  | false => exact hb wh pins s1 σ H1 Q I1 q1
theorem pt_not (ha : PT X a tA) : PT X (.UnaryOp .Not a pos) (tNot tA) := by
  intro pins s σ H Q I h
  exact isTrue_not (ha pins s σ H (fun c H1 => Q (!c) H1) I h)
def tAndV (ta tb : TE) : TE := fun σ H Q => ta σ H fun x H1 => ∃ c, x = .bl c ∧ if c = true then tb σ H1 Q else Q (.bl false) H1
theorem pe_one {op} {t : TE} (h : PE X a t) : PE X (.BoolOp op [a] pos) t := fun pins s σ H Q I hw => BoolOp_one (h pins s σ H Q I hw)
theorem pe_and (ha : PE X a ta) (hb : PE X (.BoolOp .And (b :: rest) pos) tb) : PE X (.BoolOp .And (a :: b :: rest) pos) (tAndV ta tb) := by
  intro pins s σ H Q I h
  refine BoolOp_and (thn (ha pins s σ H _ I h) fun v s1 ⟨x, H1, I1, r1, q1⟩ => ?_)
  obtain ⟨c, rfl, q1⟩ := q1
  cases r1
  refine wpAny_truthy_bool ?_
  cases c with
  | true => exact hb pins s1 σ H1 Q I1 q1
  | false => exact ⟨.bl false, H1, I1, rfl, q1⟩
def tIf (t : TT) (ta tb : TE) : TE := fun σ H Q => t σ H fun c H1 => if c = true then ta σ H1 Q else tb σ H1 Q
theorem pe_ifExp {c : Expr} (hc : PT X c tA) (ha : PE X a ta) (hb : PE X b tb) : PE X (.IfExp c a b pos) (tIf tA ta tb) := by
  intro pins s σ H Q I h
  refine wpAny_IfExp (thn (hc pins s σ H _ I h) fun d s1 ⟨H1, I1, q1⟩ => ?_)
  cases d with
  | true => exact ha pins s1 σ H1 Q I1 q1
  | false => exact hb pins s1 σ H1 Q I1 q1
end
end L2

namespace L2
open PySem PySem.Spec PyProof.Rows

def SqL (K : PySem.W.Frag) (H : Hp) (a : Addr) (xs : List V) : Prop :=
  Rd H a (.lst xs) ∨
    ∃ (o : Obj) (its : Array Value) (n : Nat), K.lookup a = some o ∧ o.cls = .type "list" ∧ o.dict = none ∧ o.data = .seq its n ∧ its.size ≤ sizeLine ∧ Vals xs its.toList
def SqT (K : PySem.W.Frag) (H : Hp) (a : Addr) (xs : List V) : Prop :=
  Rd H a (.tup xs) ∨
    ∃ (o : Obj) (its : Array Value) (n : Nat), K.lookup a = some o ∧ o.cls = .type "tuple" ∧ o.data = .seq its n ∧ its.size ≤ sizeLine ∧ Vals xs its.toList
def absV : Value → Option V
  | .none => some .non
  | .bool b => some (.bl b)
  | .int i _ => some (.int i)
  | .str x _ => some (.str x)
  | .bytes b _ => some (.byt b)
  | .float b _ => some (.flt b)
  | .ref a => some (.ref a)
  | .type n => some (.ty n)
  | _ => none
theorem RelV.abs {x : V} {u : Value} (r : RelV x u) : absV u = some x := by
  cases x with
  | non => cases r; rfl
  | bl _ => cases r; rfl
  | int _ => obtain ⟨t, rfl⟩ := r; rfl
  | str _ => obtain ⟨t, rfl⟩ := r; rfl
  | byt _ => obtain ⟨t, rfl⟩ := r; rfl
  | flt _ => obtain ⟨t, rfl⟩ := r; rfl
  | ref _ => cases r; rfl
  | ty _ => cases r; rfl
theorem RelV.inj {x y : V} {u : Value} (r : RelV x u) (q : RelV y u) : x = y := Option.some.inj (r.abs.symm.trans q.abs)
theorem Vals.inj : ∀ {xs ys : List V} {us : List Value}, Vals xs us → Vals ys us → xs = ys
  | _, _, _, .nil, .nil => rfl
  | _, _, _, .cons r t, .cons r' t' => by rw [r.inj r', Vals.inj t t']
section
variable {X : Cx} {pins : List (Addr × Obj)} {σ : St} {H : Hp} {s : Shared} {a : Addr} {xs ys : List V}
theorem SqL.of {K : PySem.W.Frag} (h : H a = some (.lst xs)) : SqL K H a xs := .inl (.inl h)
theorem SqT.of {K : PySem.W.Frag} (h : H a = some (.tup xs)) : SqT K H a xs := .inl (.inl h)
theorem Inv.list (I : Inv X pins σ H s) (h : SqL X.K H a xs) : ∃ its : List Value, Vals xs its ∧ PlainL s.heap a its.toArray ∧ xs.length ≤ sizeLine := by
  rcases h with h | ⟨o, its, n, hk, hc, hd, hs, hz, r⟩
  · obtain ⟨z, its, n, r, e⟩ := h.ok I.hok
    exact ⟨its, r, ⟨_, n, e, rfl, rfl, rfl⟩, z⟩
  · refine ⟨its.toList, r, ⟨o, n, I.kIn a o hk, hc, hd, by simpa using hs⟩, ?_⟩
    have e := r.length
    simp only [Array.length_toList] at e
    omega
theorem Inv.tuple (I : Inv X pins σ H s) (h : SqT X.K H a xs) : ∃ its : List Value, Vals xs its ∧ IsTup s.heap a its.toArray ∧ xs.length ≤ sizeLine := by
  rcases h with h | ⟨o, its, n, hk, hc, hs, hz, r⟩
  · obtain ⟨z, its, r, p⟩ := h.ok I.hok
    exact ⟨its, r, p, z⟩
  · refine ⟨its.toList, r, ⟨o, I.kIn a o hk, hc, n, by simpa using hs⟩, ?_⟩
    have e := r.length
    simp only [Array.length_toList] at e
    omega
theorem Inv.list_inj (I : Inv X pins σ H s) (h : SqL X.K H a xs) (h' : SqL X.K H a ys) : xs = ys := by
  obtain ⟨its, r, ⟨o, n, e, _, _, d⟩, _⟩ := I.list h
  obtain ⟨its', r', ⟨o', n', e', _, _, d'⟩, _⟩ := I.list h'
  rw [e] at e'; cases e'
  rw [d] at d'
  injection d' with d1 _
  have : its = its' := by simpa using congrArg Array.toList d1
  subst this
  exact r.inj r'
theorem Inv.tuple_inj (I : Inv X pins σ H s) (h : SqT X.K H a xs) (h' : SqT X.K H a ys) : xs = ys := by
  obtain ⟨its, r, ⟨o, e, _, n, d⟩, _⟩ := I.tuple h
  obtain ⟨its', r', ⟨o', e', _, n', d'⟩, _⟩ := I.tuple h'
  rw [e] at e'; cases e'
  rw [d] at d'
  injection d' with d1 _
  have : its = its' := by simpa using congrArg Array.toList d1
  subst this
  exact r.inj r'
end

abbrev Cx.wish (X : Cx) (E : Value → Shared → Prop) : Cx := { X with xe := E }
abbrev Cx.nox (X : Cx) : Cx := X.wish fun _ _ => False
theorem Cx.Ok.wish {X : Cx} (ok : X.Ok) (E : Value → Shared → Prop) : (X.wish E).Ok :=
  ⟨ok.mod, ok.kind, ok.glob, ok.blt, ok.above, ok.inj, ok.has, ok.cab, ok.hd, ok.frames, ok.stk, ok.exf, ok.bs, ok.bsz, ok.noex, ok.exfs, ok.funs, ok.frf⟩
theorem Cx.Ok.unwish {X : Cx} {E : Value → Shared → Prop} (ok : (X.wish E).Ok) : X.Ok :=
  ⟨ok.mod, ok.kind, ok.glob, ok.blt, ok.above, ok.inj, ok.has, ok.cab, ok.hd, ok.frames, ok.stk, ok.exf, ok.bs, ok.bsz, ok.noex, ok.exfs, ok.funs, ok.frf⟩
section
variable {X : Cx} {pins : List (Addr × Obj)} {σ : St} {H : Hp} {s : Shared} {E : Value → Shared → Prop}
theorem Inv.wish (I : Inv X pins σ H s) (E : Value → Shared → Prop) : Inv (X.wish E) pins σ H s := ⟨I.ok.wish E, I.os, I.bare, I.base, I.loc, I.cell, I.free, I.freeC, I.pin, I.hok, I.len⟩
theorem Inv.unwish (I : Inv (X.wish E) pins σ H s) : Inv X pins σ H s := ⟨I.ok.unwish, I.os, I.bare, I.base, I.loc, I.cell, I.free, I.freeC, I.pin, I.hok, I.len⟩
theorem SP.unwish {D : Ends} {f : Flow} {s' : Shared} (h : SP (X.wish E) pins D f s') : SP X pins D f s' := by
  cases f with
  | next => obtain ⟨σ', H', I, q⟩ := h; exact ⟨σ', H', I.unwish, q⟩
  | brk => obtain ⟨σ', H', I, q⟩ := h; exact ⟨σ', H', I.unwish, q⟩
  | cont => obtain ⟨σ', H', I, q⟩ := h; exact ⟨σ', H', I.unwish, q⟩
  | ret u => obtain ⟨v, σ', H', I, r, q⟩ := h; exact ⟨v, σ', H', I.unwish, r, q⟩
theorem PSs.nox {st : List Stmt} {t : TS} (h : PSs X.nox st t) : PSs X st t := fun pins s σ H D I hw =>
  wpAny_mono (h pins s σ H D (I.wish _) hw) (fun _ _ q => q.unwish) fun _ _ z => False.elim z
end

section
variable {X : Cx} {st : Stmt} {rest : List Stmt} {t u : TS} {e : Expr} {te : TE} {pos : Pos}
def tNext : TS := fun D σ H => D.nx σ H
def tSeq (t u : TS) : TS := fun D σ H => t { D with nx := u D } σ H
theorem pss_nil : PSs X [] tNext := fun _ _ σ H _ I h => wpAny_execs_nil ⟨σ, H, I, h⟩
theorem pss_cons (h1 : PS X st t) (h2 : PSs X rest u) : PSs X (st :: rest) (tSeq t u) := by
  intro pins s σ H D I h
  refine wpAny_execs_cons (thn (h1 pins s σ H { D with nx := u D } I h) fun f s1 q => ?_)
  cases f with
  | next =>
    obtain ⟨σ', H', I', q⟩ := q
    exact h2 pins s1 σ' H' D I' q
  | ret v => exact q
  | brk => exact q
  | cont => exact q
theorem pss_one (h1 : PS X st t) : PSs X [st] t := by
  intro pins s σ H D I h
  refine wpAny_execs_cons (thn (h1 pins s σ H D I h) fun f s1 q => ?_)
  cases f with
  | next => exact wpAny_execs_nil q
  | ret v => exact q
  | brk => exact q
  | cont => exact q
theorem Inv.quiet {pins : List (Addr × Obj)} {σ : St} {H : Hp} {s : Shared} (I : Inv X pins σ H s) : interactive X.env = false := by simp [interactive, I.ok.kind]
def tDrop (te : TE) : TS := fun D σ H => te σ H fun _ H1 => D.nx σ H1
theorem ps_expr (he : PE X e te) (hs : swapsWith e none pos.line X.env = pure false := by rfl) : PS X (.Expr e pos) (tDrop te) := by
  intro pins s σ H D I h
  exact wpAny_Expr_any (thn (he pins s σ H _ I h) fun v s1 ⟨x, H1, I1, r1, q1⟩ => ⟨σ, H1, I1, q1⟩) I.quiet hs
def tRet (te : TE) : TS := fun D σ H => te σ H D.rt
theorem ps_ret (he : PE X e te) : PS X (.Return (some e) pos) (tRet te) := by
  intro pins s σ H D I h
  exact wpAny_Return_some (thn (he pins s σ H _ I h) fun v s1 ⟨x, H1, I1, r1, q1⟩ => ⟨x, σ, H1, I1, r1, q1⟩)
def tIfS (c : TT) (t u : TS) : TS := fun D σ H => c σ H fun b H1 => if b = true then t D σ H1 else u D σ H1
theorem ps_if {c : Expr} {a b : List Stmt} {tc : TT} (hc : PT X c tc) (ha : PSs X a t) (hb : PSs X b u) : PS X (.If c a b pos) (tIfS tc t u) := by
  intro pins s σ H D I h
  refine wpAny_If (thn (hc pins s σ H _ I h) fun d s1 ⟨H1, I1, q1⟩ => ?_)
  cases d with
  | true => exact ha pins s1 σ H1 D I1 q1
  | false => exact hb pins s1 σ H1 D I1 q1
end

abbrev TG := V → St → Hp → (St → Hp → Prop) → Prop
abbrev TGs := List V → St → Hp → (St → Hp → Prop) → Prop
def PG (X : Cx) (target : Expr) (t : TG) : Prop :=
  ∀ (pins : List (Addr × Obj)) (s : Shared) (σ : St) (H : Hp) (v : V) (u : Value) (Q : St → Hp → Prop), Inv X pins σ H s → RelV v u → t v σ H Q →
    wpAny (model X.prog X.w) X.A (assign target X.env u) (fun _ s' => ∃ σ' H', Inv X pins σ' H' s' ∧ Q σ' H') X.xe s
def PGs (X : Cx) (ts : List Expr) (t : TGs) : Prop :=
  ∀ (pins : List (Addr × Obj)) (s : Shared) (σ : St) (H : Hp) (vs : List V) (us : List Value) (Q : St → Hp → Prop), Inv X pins σ H s → Vals vs us → t vs σ H Q →
    wpAny (model X.prog X.w) X.A (assignInOrder ((assignEach ts X.env).map (·.2)) us) (fun _ s' => ∃ σ' H', Inv X pins σ' H' s' ∧ Q σ' H') X.xe s
abbrev TSet := V → V → V → Hp → (Hp → Prop) → Prop
def PSet (X : Cx) (t : TSet) : Prop :=
  ∀ (pins : List (Addr × Obj)) (s : Shared) (σ : St) (H : Hp) (o i v : V) (ov iv u : Value) (Q : Hp → Prop), Inv X pins σ H s → RelV o ov → RelV i iv → RelV v u → t o i v H Q →
    wpAny (model X.prog X.w) X.A (setItem ov iv u) (fun _ s' => ∃ H', Inv X pins σ H' s' ∧ Q H') X.xe s
section
variable {X : Cx} {pos : Pos}
def gName (i : Nat) : TG := fun v σ H Q => Q (σ.set i (some v)) H
theorem pg_name {i : Nat} {x : Str} (hN : X.N.Nodup) (hi : X.N[i]? = some x) (hx : Loc X.env.scope x) (hf : X.fn x = true ∨ X.env.scope.names.lookup x = some .local := by first | exact .inl rfl | exact .inr rfl | assumption) : PG X (.Name x pos) (gName i) := by
  intro pins s σ H v u Q I r h
  exact wpAny_assign_Name (store_ok I hN hi hx r (fun s' I' => ⟨_, H, I', h⟩) hf)
def gNil : TGs := fun vs σ H Q => vs = [] ∧ Q σ H
def gCons (t : TG) (u : TGs) : TGs := fun vs σ H Q => ∃ v r, vs = v :: r ∧ t v σ H fun σ' H' => u r σ' H' Q
theorem pgs_nil : PGs X [] gNil := by
  intro pins s σ H vs us Q I r h
  obtain ⟨e, h⟩ := h
  subst e
  cases r
  exact assignInOrder_nil ⟨σ, H, I, h⟩
theorem pgs_cons {e : Expr} {es : List Expr} {t : TG} {u : TGs} (h1 : PG X e t) (h2 : PGs X es u)
    (hs : (assignEach (e :: es) X.env).map (·.2) = assign e X.env :: (assignEach es X.env).map (·.2) := by rfl) : PGs X (e :: es) (gCons t u) := by
  intro pins s σ H vs us Q I r h
  obtain ⟨v, vr, e1, h⟩ := h
  subst e1
  cases r with
  | cons r rr =>
    rw [hs]
    refine assignInOrder_cons (thn (h1 pins s σ H _ _ _ I r h) fun _ s1 ⟨σ1, H1, I1, q1⟩ => ?_)
    exact h2 pins s1 σ1 H1 _ _ Q I1 rr q1
def gTup (K : PySem.W.Frag) (n : Nat) (t : TGs) : TG := fun v σ H Q => ∃ a xs, v = .ref a ∧ SqT K H a xs ∧ xs.length = n ∧ t xs σ H Q
theorem pg_tup {es : List Expr} {k : Nat} {t : TGs} {n : Nat} (hc : X.calm = true) (h : PGs X es t)
    (hn : (assignEach es X.env).length = n := by rfl) (hst : (assignEach es X.env).findIdx? (·.1) = none := by rfl) : PG X (.Tuple es k pos) (gTup X.K n t) := by
  intro pins s σ H v u Q I r hw
  obtain ⟨a, xs, e1, hq, hl, hw⟩ := hw
  subst e1
  cases r
  obtain ⟨its, rv, ht, hz⟩ := I.tuple hq
  refine assign_Tuple_tuple (I.ok.hd hc) ht (by simp [hn, ← hl, rv.length]) hst fun h' hx => ?_
  have I1 : Inv X pins σ H { s with heap := h' } := I.kept (t' := s.toks) fun b o e => hx b o (Nat.ne_of_lt (Heap.lt_size e)) e
  exact h pins _ σ H xs _ Q I1 (by simpa using rv) hw
def gSub (to ti : TE) (t : TSet) : TG := fun v σ H Q => to σ H fun o H1 => ti σ H1 fun i H2 => t o i v H2 fun H3 => Q σ H3
theorem pg_sub {o i : Expr} {to ti : TE} {t : TSet} (ho : PE X o to) (hi : PE X i ti) (hs : PSet X t)
    (ha : ∀ v, assign (.Subscript o i pos) X.env v = (do
      let ov ← holding [v] (eval o X.env)
      let iv ← holding [v, ov] (eval i X.env)
      standAt pos
      holding [v, ov, iv] (setItem ov iv v)
      release [v, ov, iv] []) := by intro _; rfl) : PG X (.Subscript o i pos) (gSub to ti t) := by
  intro pins s σ H v u Q I r h
  rw [ha]
  refine wpAny_bind (wpAny_holding (thn (ho pins s σ H _ I h) fun ov s1 ⟨x, H1, I1, r1, q1⟩ => ?_))
  refine wpAny_bind (wpAny_holding (thn (hi pins s1 σ H1 _ I1 q1) fun iv s2 ⟨y, H2, I2, r2, q2⟩ => ?_))
  refine wpAny_bind (wpAny_standAt (wpAny_bind (wpAny_holding (thn (hs pins s2 σ H2 x y v ov iv u _ I2 r1 r2 r q2) fun _ s3 ⟨H3, I3, q3⟩ => ?_))))
  exact wpAny_release ⟨σ, H3, I3, q3⟩
def tAsg (te : TE) (g : TG) : TS := fun D σ H => te σ H fun x H1 => g x σ H1 D.nx
theorem ps_asg {tg e : Expr} {te : TE} {g : TG} (he : PE X e te) (hg : PG X tg g) (hs : swapsWithSole [tg] e pos.line X.env = pure false := by rfl) (hw : swappedStores [tg] e X.env = pure none := by rfl)
    (h1 : (assignEach [tg] X.env).map (·.2) = [assign tg X.env] := by rfl) : PS X (.Assign [tg] e pos) (tAsg te g) := by
  intro pins s σ H D I h
  refine wpAny_Assign_stores (thn (he pins s σ H _ I h) fun v s1 ⟨x, H1, I1, r1, q1⟩ => ?_) hs hw
  rw [h1]
  exact thn (hg pins s1 σ H1 x v _ I1 r1 q1) fun _ s2 q => q
theorem ps_set {i : Nat} {x : Str} {e : Expr} {te : TE} {pos' : Pos} (hN : X.N.Nodup) (hi : X.N[i]? = some x) (hx : Loc X.env.scope x) (he : PE X e te) (hs : swapsWith e (some (.Name x pos')) pos.line X.env = pure false := by rfl) (hf : X.fn x = true ∨ X.env.scope.names.lookup x = some .local := by first | exact .inl rfl | exact .inr rfl | assumption) :
    PS X (.Assign [.Name x pos'] e pos) (tAsg te (gName i)) := by
  intro pins s σ H D I h
  refine wpAny_Assign_Name (thn (he pins s σ H _ I h) fun v s1 ⟨y, H1, I1, r1, q1⟩ => ?_) hs
  exact store_ok I1 hN hi hx r1 (fun s2 I2 => ⟨_, H1, I2, q1⟩) hf
end

section
variable {X : Cx} {pos : Pos}
end

structure It where
  go : Nat → Hp → Prop
  yld : Nat → Hp → V → Hp → Prop
  stop : Nat → Hp → Prop
def FpOk (X : Cx) (pins : List (Addr × Obj)) (H : Hp) (b : Addr) : Prop :=
  H b = none ∧ b ≠ X.env.locals ∧ b ∉ X.fs ∧ (b ∈ X.ex ∨ X.s₀.heap.objs.size ≤ b) ∧ (∀ x c, X.env.cells.lookup x = some c → c ≠ b) ∧ ∀ p ∈ X.pn ++ pins, p.1 ≠ b
theorem Inv.fpOk {X : Cx} {pins : List (Addr × Obj)} {σ : St} {H H' : Hp} {s : Shared} {b : Addr} (I : Inv X pins σ H s) (hb : s.heap.objs.size ≤ b) (hn : H' b = none) : FpOk X pins H' b := by
  refine ⟨hn, Nat.ne_of_gt (Nat.lt_of_lt_of_le I.lt hb), I.nofs hb, .inr (Nat.le_trans I.sz hb), fun x c e z => ?_, fun p hp z => ?_⟩
  · obtain ⟨v, q⟩ := I.cell x c e
    exact absurd (Nat.lt_of_lt_of_le q.lt (by rw [z]; exact hb)) (Nat.lt_irrefl _)
  · exact absurd (Nat.lt_of_lt_of_le (Heap.lt_size (I.pin p hp).1) (by rw [z]; exact hb)) (Nat.lt_irrefl _)
structure Turn (P : Program) (w : World) (K : PySem.W.Frag) (tg : Expr) (J : It) (fp : List Addr) (it : Addr) (tn : Nat → Heap → Prop) : Prop where
  mem : it ∈ fp
  obj : ∀ i h, tn i h → ∀ b ∈ fp, ∃ o, h.get? b = some o ∧ ∀ v, o.data ≠ .cell v
  keep : ∀ i h h', tn i h → (∀ b ∈ fp, ∀ o, h.get? b = some o → h'.get? b = some o) → tn i h'
  item : ∀ (X : Cx), X.prog = P → X.w = w → X.K = K → X.calm = true → ∀ (i : Nat) (pins : List (Addr × Obj)) (s : Shared) (σ : St) (H : Hp) (E : Value → Shared → Prop), Inv X pins σ H s → (∀ b ∈ fp, FpOk X pins H b) → tn i s.heap → J.go i H →
    wpAny (model P w) X.A (pyNext (.ref it)) (fun r s1 => ∃ u, r = some u ∧
      wpAny (model P w) X.A (letOwnedTupleGo tg (.ref it) u) (fun _ s2 => ∃ x H', Inv X pins σ H' s2 ∧ RelV x u ∧ J.yld i H x H' ∧ tn (i + 1) s2.heap ∧ ∀ b ∈ fp, H' b = none) E s1) E s
  done : ∀ (X : Cx), X.prog = P → X.w = w → X.K = K → X.calm = true → ∀ (i : Nat) (pins : List (Addr × Obj)) (s : Shared) (σ : St) (H : Hp) (E : Value → Shared → Prop), Inv X pins σ H s → (∀ b ∈ fp, FpOk X pins H b) → tn i s.heap → J.stop i H →
    wpAny (model P w) X.A (pyNext (.ref it)) (fun r s1 => r = none ∧ Inv X pins σ H s1) E s
  self : ∀ (A : Around) (i : Nat) (s : Shared) (Q : Value → Shared → Prop) (E : Value → Shared → Prop), tn i s.heap → Q (.ref it) s → wpAny (model P w) A (pyIter (.ref it)) Q E s
abbrev TI := St → Hp → (It → Hp → Prop) → Prop
def PIE (X : Cx) (pins : List (Addr × Obj)) (σ : St) (tg : Expr) (R : It → Hp → Prop) (itv : Value) (s2 : Shared) : Prop :=
  ∃ (it : Addr) (fp : List Addr) (tn : Nat → Heap → Prop) (J : It) (H' : Hp), itv = .ref it ∧ Inv X pins σ H' s2 ∧ Turn X.prog X.w X.K tg J fp it tn ∧ tn 0 s2.heap ∧ (∀ b ∈ fp, FpOk X pins H' b) ∧ R J H'
def PI (X : Cx) (tg iter : Expr) (wi : TI) : Prop :=
  ∀ (pins : List (Addr × Obj)) (s : Shared) (σ : St) (H : Hp) (R : It → Hp → Prop), Inv X pins σ H s → wi σ H R →
    wpAny (model X.prog X.w) X.A (eval iter X.env) (fun v s1 => wpAny (model X.prog X.w) X.A (pyIter v) (PIE X pins σ tg R) X.xe s1) X.xe s

theorem go_of {M : Model} {A : Around} {E : Value → Shared → Prop} {s : Shared} {tg : Expr} {it : Addr} {u : Value} {o : Obj} {n : String} {vs : Array Value} {Q : Unit → Shared → Prop} (ho : s.heap.get? it = some o) (hc : o.cls = .type n) (hd : o.data = .fields vs)
    (hn : ["enumerate", "zip", "dict_itemiterator", "dict_reverseitemiterator", "odict_iterator", "itertools.zip_longest", "itertools.pairwise"].contains n = false) (hQ : Q () s) : wpAny M A (letOwnedTupleGo tg (.ref it) u) Q E s := by
  unfold letOwnedTupleGo
  cases tg <;> first
    | exact wpAny_pure hQ
    | (cases u <;> first
        | exact wpAny_pure hQ
        | (refine wpAny_bind (wpAny_load ho ?_)
           rw [hc, hd]
           show wpAny M A (if (["enumerate", "zip", "dict_itemiterator", "dict_reverseitemiterator", "odict_iterator", "itertools.zip_longest", "itertools.pairwise"].contains n && vs[0]? == some (rawInt _)) = true then _ else _) Q E s
           rw [if_neg (by intro h; rw [hn, Bool.false_and] at h; cases h)]
           exact wpAny_pure hQ))

def Itl (K : PySem.W.Frag) (a : Addr) : It :=
  ⟨fun i H => ∃ xs x, SqL K H a xs ∧ xs[i]? = some x, fun i H x H' => H' = H ∧ ∀ xs, SqL K H a xs → xs[i]? = some x, fun i H => ∃ xs, SqL K H a xs ∧ xs.length ≤ i⟩
def Itt (K : PySem.W.Frag) (a : Addr) : It :=
  ⟨fun i H => ∃ xs x, SqT K H a xs ∧ xs[i]? = some x, fun i H x H' => H' = H ∧ ∀ xs, SqT K H a xs → xs[i]? = some x, fun i H => ∃ xs, SqT K H a xs ∧ xs.length ≤ i⟩
def Itr (lo : Int) (n : Nat) : It := ⟨fun i _ => i < n, fun i H x H' => H' = H ∧ x = .int (lo + i), fun i _ => n ≤ i⟩
theorem turn_list {P : Program} {w : World} {K : PySem.W.Frag} {tg : Expr} (a it : Addr) : Turn P w K tg (Itl K a) [it] it (fun i h => h.IsListIter it a i) where
  mem := by simp
  obj := fun i h st b hb => by
    have e : b = it := by simpa using hb
    subst e
    obtain ⟨o, e, c, d⟩ := st
    exact ⟨o, e, fun v z => by rw [d] at z; cases z⟩
  keep := fun i h h' st k => st.at fun o e => k it (by simp) o e
  item := by
    intro X hP hw hK hc i pins s σ H E I hf st hg
    subst hP hw hK
    obtain ⟨xs, x, hq, hx⟩ := hg
    obtain ⟨its, rv, p, hz⟩ := I.list hq
    obtain ⟨u, hu, ru⟩ := rv.get hx
    obtain ⟨f0, f1, f2, f3, f4, f5⟩ := hf it (by simp)
    refine wpAny_pyNext_list_item st p.isList (x := u) (by simpa using hu) fun h' st' sb => ?_
    have I1 : Inv X pins σ H { s with heap := h' } := I.turned (t' := s.toks) (fun b o hb e => (sb.2 b hb).trans e) f0 f1 f3 f4 f5
    obtain ⟨o, e, c, d⟩ := id st'
    exact ⟨u, rfl, go_of (s := { s with heap := h' }) e c d (by decide) ⟨x, H, I1, ru, ⟨rfl, fun ys hy => by rw [I.list_inj hy hq]; exact hx⟩, st', fun b hb => (hf b hb).1⟩⟩
  done := by
    intro X hP hw hK hc i pins s σ H E I hf st hg
    subst hP hw hK
    obtain ⟨xs, hq, hx⟩ := hg
    obtain ⟨its, rv, p, hz⟩ := I.list hq
    obtain ⟨f0, f1, f2, f3, f4, f5⟩ := hf it (by simp)
    have hl := rv.length
    exact wpAny_pyNext_list_end (I.ok.hd hc) st p.isList (by simp; omega) fun h' eb => ⟨rfl, I.turned (t' := s.toks) (fun b o hb e => eb b o hb e) f0 f1 f3 f4 f5⟩
  self := fun _ _ _ _ _ st h => wpAny_pyIter_listiter st h
theorem turn_tuple {P : Program} {w : World} {K : PySem.W.Frag} {tg : Expr} (a it : Addr) : Turn P w K tg (Itt K a) [it] it (fun i h => h.IsTupleIter it a i) where
  mem := by simp
  obj := fun i h st b hb => by
    have e : b = it := by simpa using hb
    subst e
    obtain ⟨o, e, c, d⟩ := st
    exact ⟨o, e, fun v z => by rw [d] at z; cases z⟩
  keep := fun i h h' st k => st.at fun o e => k it (by simp) o e
  item := by
    intro X hP hw hK hc i pins s σ H E I hf st hg
    subst hP hw hK
    obtain ⟨xs, x, hq, hx⟩ := hg
    obtain ⟨its, rv, p, hz⟩ := I.tuple hq
    obtain ⟨u, hu, ru⟩ := rv.get hx
    obtain ⟨f0, f1, f2, f3, f4, f5⟩ := hf it (by simp)
    refine wpAny_pyNext_tuple_item st (show s.heap.IsTuple a its.toArray from p) (x := u) (by simpa using hu) fun h' st' sb => ?_
    have I1 : Inv X pins σ H { s with heap := h' } := I.turned (t' := s.toks) (fun b o hb e => (sb.2 b hb).trans e) f0 f1 f3 f4 f5
    obtain ⟨o, e, c, d⟩ := id st'
    exact ⟨u, rfl, go_of (s := { s with heap := h' }) e c d (by decide) ⟨x, H, I1, ru, ⟨rfl, fun ys hy => by rw [I.tuple_inj hy hq]; exact hx⟩, st', fun b hb => (hf b hb).1⟩⟩
  done := by
    intro X hP hw hK hc i pins s σ H E I hf st hg
    subst hP hw hK
    obtain ⟨xs, hq, hx⟩ := hg
    obtain ⟨its, rv, p, hz⟩ := I.tuple hq
    obtain ⟨f0, f1, f2, f3, f4, f5⟩ := hf it (by simp)
    have hl := rv.length
    exact wpAny_pyNext_tuple_end (I.ok.hd hc) st (show s.heap.IsTuple a its.toArray from p) (by simp; omega) fun h' eb => ⟨rfl, I.turned (t' := s.toks) (fun b o hb e => eb b o hb e) f0 f1 f3 f4 f5⟩
  self := fun _ _ _ _ _ st h => wpAny_pyIter_tupleiter st h
theorem turn_range {P : Program} {w : World} {K : PySem.W.Frag} {tg : Expr} (it : Addr) (lo : Int) (n : Nat) : Turn P w K tg (Itr lo n) [it] it (fun i h => IsRangeIter h it (lo + (i : Nat) * 1) ((n : Int) - (i : Nat)) 1) where
  mem := by simp
  obj := fun i h st b hb => by
    have e : b = it := by simpa using hb
    subst e
    exact ⟨_, st, fun v z => by
      have z' : Data.fields _ = Data.cell v := z
      cases z'⟩
  keep := fun i h h' st k => k it (by simp) _ st
  item := by
    intro X hP hw hK hc i pins s σ H E I hf st hg
    subst hP hw hK
    obtain ⟨f0, f1, f2, f3, f4, f5⟩ := hf it (by simp)
    have W := Walks.range (prog := X.prog) (w := X.w) (I.ok.hd hc) it lo 1 n
    refine W.item i s _ _ hg st fun v h' tk hv st' kk => ?_
    obtain ⟨t, rfl⟩ := hv
    have I1 : Inv X pins σ H { s with heap := h', toks := tk } := I.turned (fun b o hb e => kk b o (by simpa using hb) e) f0 f1 f3 f4 f5
    refine ⟨_, rfl, go_of (s := { s with heap := h', toks := tk }) (n := "range_iterator") st' rfl rfl (by decide) ⟨.int (lo + i), H, I1, ⟨t, ?_⟩, ⟨rfl, rfl⟩, st', fun b hb => (hf b hb).1⟩⟩
    rw [Int.mul_one]
  done := by
    intro X hP hw hK hc i pins s σ H E I hf st hg
    subst hP hw hK
    obtain ⟨f0, f1, f2, f3, f4, f5⟩ := hf it (by simp)
    exact wpAny_pyNext_range_end (I.ok.hd hc) st (by have : n ≤ i := hg; omega) fun h' eb => ⟨rfl, I.turned (t' := s.toks) (fun b o hb e => eb b o hb e) f0 f1 f3 f4 f5⟩
  self := fun _ _ _ _ _ st h => wpAny_pyIter_rangeiter st h
end L2

namespace L2
open PySem PySem.Spec PyProof.Rows
section
variable {X : Cx} {tg : Expr}
def iList (K : PySem.W.Frag) (tl : TE) : TI := fun σ H R => tl σ H fun x H1 => ∃ a, x = .ref a ∧ (∃ xs, SqL K H1 a xs) ∧ R (Itl K a) H1
def iTup (K : PySem.W.Frag) (tl : TE) : TI := fun σ H R => tl σ H fun x H1 => ∃ a, x = .ref a ∧ (∃ xs, SqT K H1 a xs) ∧ R (Itt K a) H1
theorem pi_list {l : Expr} {tl : TE} (hl : PE X l tl) : PI X tg l (iList X.K tl) := by
  intro pins s σ H R I h
  refine thn (hl pins s σ H _ I h) fun v s1 ⟨x, H1, I1, r1, q1⟩ => ?_
  obtain ⟨a, e, ⟨xs, hq⟩, q⟩ := q1
  subst e
  cases r1
  obtain ⟨its, rv, p, hz⟩ := I1.list hq
  refine wpAny_pyIter_list p.isList ?_
  refine ⟨s1.heap.objs.size, [s1.heap.objs.size], _, _, H1, rfl, I1.kept (t' := s1.toks) fun b o e => Heap.get?_push_of_some _ e, turn_list a _, ⟨_, Heap.get?_push_size _ rfl, rfl, rfl⟩, fun b hb => ?_, q⟩
  have e : b = s1.heap.objs.size := by simpa using hb
  subst e
  exact I1.fpOk (Nat.le_refl _) (I1.hok.fresh (Nat.le_refl _))
theorem pi_tup {l : Expr} {tl : TE} (hl : PE X l tl) : PI X tg l (iTup X.K tl) := by
  intro pins s σ H R I h
  refine thn (hl pins s σ H _ I h) fun v s1 ⟨x, H1, I1, r1, q1⟩ => ?_
  obtain ⟨a, e, ⟨xs, hq⟩, q⟩ := q1
  subst e
  cases r1
  obtain ⟨its, rv, p, hz⟩ := I1.tuple hq
  refine wpAny_pyIter_tuple (show s1.heap.IsTuple a its.toArray from p) ?_
  refine ⟨s1.heap.objs.size, [s1.heap.objs.size], _, _, H1, rfl, I1.kept (t' := s1.toks) fun b o e => Heap.get?_push_of_some _ e, turn_tuple a _, ⟨_, Heap.get?_push_size _ rfl, rfl, rfl⟩, fun b hb => ?_, q⟩
  have e : b = s1.heap.objs.size := by simpa using hb
  subst e
  exact I1.fpOk (Nat.le_refl _) (I1.hok.fresh (Nat.le_refl _))
theorem range_it {pins : List (Addr × Obj)} {σ : St} {H : Hp} {s : Shared} {R : It → Hp → Prop} {E : Value → Shared → Prop} {lo hi : Int} {t u v : Tok} {tk : Nat} (I : Inv X pins σ H s) (h1 : -(2 ^ 62) ≤ lo) (h2 : lo < 2 ^ 62) (h3 : -(2 ^ 62) ≤ hi) (h4 : hi < 2 ^ 62)
    (q : R (Itr lo (hi - lo).toNat) H) : wpAny (model X.prog X.w) X.A (pyIter (.ref s.heap.objs.size)) (PIE X pins σ tg R) E { s with heap := s.heap.push { cls := .type "range", data := .fields #[.int lo t, .int hi u, .int 1 v] }, toks := tk } := by
  refine wpAny_pyIter_range (IsRange.new ..) (small_one h1 h2 h3 h4) ?_
  have I1 : Inv X pins σ H { s with heap := s.heap.push { cls := .type "range", data := .fields #[.int lo t, .int hi u, .int 1 v] }, toks := tk } := I.kept fun b o e => Heap.get?_push_of_some _ e
  refine ⟨(s.heap.push { cls := .type "range", data := .fields #[.int lo t, .int hi u, .int 1 v] }).objs.size, [(s.heap.push { cls := .type "range", data := .fields #[.int lo t, .int hi u, .int 1 v] }).objs.size], _, _, H, rfl,
    I1.kept (t' := tk) fun b o e => Heap.get?_push_of_some _ e, turn_range _ lo (hi - lo).toNat, ?_, fun b hb => ?_, q⟩
  · have e1 : lo + ((0 : Nat) : Int) * 1 = lo := by simp
    have e2 : (((hi - lo).toNat : Nat) : Int) - ((0 : Nat) : Int) = Builtin.Range.rangeSize lo hi 1 := by rw [rangeSize_one]; split <;> omega
    show IsRangeIter _ _ (lo + ((0 : Nat) : Int) * 1) ((((hi - lo).toNat : Nat) : Int) - ((0 : Nat) : Int)) 1
    rw [e1, e2]
    exact Heap.get?_push_size _ rfl
  · have e : b = (s.heap.push { cls := .type "range", data := .fields #[.int lo t, .int hi u, .int 1 v] }).objs.size := by simpa using hb
    subst e
    exact I1.fpOk (Nat.le_refl _) (I1.hok.fresh (Nat.le_refl _))
def iRng1 (ta : TA) : TI := fun σ H R => ta σ H fun vs H1 => ∃ j : Int, vs = [.int j] ∧ -(2 ^ 62) ≤ j ∧ j < 2 ^ 62 ∧ R (Itr 0 j.toNat) H1
theorem pi_range1 {a : Expr} {ta : TA} {p pos : Pos} (hg : Gl X "range") (hm : X.mg "range" = none) (ha : PA X [a] ta) (hs : starEach [a] X.env = [(false, eval a X.env)] := by rfl) : PI X tg (.Call (.Name "range" p) [a] [] pos) (iRng1 ta) := by
  intro pins s σ H R I h
  refine Call_ (ld_blt I hg hm boot_range (PyProof.Rows.callWith_type1 (thn (ha pos pins s σ H _ I h) fun us s1 ⟨vs, H1, I1, r1, q1⟩ => ?_) hs rfl))
  obtain ⟨j, e, q1, q2, q⟩ := q1
  subst e
  cases r1 with
  | cons r rr =>
    cases rr
    obtain ⟨t, rfl⟩ := r
    exact call_range_1 (range_it I1 (by omega) (by omega) q1 q2 (by simpa using q))

def tFor (wi : TI) (g : TG) (tb : TS) : TS := fun D σ H => wi σ H fun J H1 => ∃ W : Nat → Nat → St → Hp → Prop, (∃ m, W 0 m σ H1) ∧ ∀ i m σ H, W i m σ H →
  (J.stop i H ∧ D.nx σ H) ∨ (J.go i H ∧ ∃ N : St → Hp → Prop, (∀ σ' H', N σ' H' → ∃ m', m' < m ∧ W (i + 1) m' σ' H') ∧ ∀ x H', J.yld i H x H' → g x σ H' fun σ2 H2 => tb { D with nx := N, ct := N, bk := D.nx } σ2 H2)
def pinsAt (fp : List Addr) (h : Heap) : List (Addr × Obj) := fp.filterMap fun b => (h.get? b).map fun o => (b, o)
theorem mem_pinsAt {fp : List Addr} {h : Heap} {b : Addr} {o : Obj} (hb : b ∈ fp) (e : h.get? b = some o) : (b, o) ∈ pinsAt fp h := List.mem_filterMap.mpr ⟨b, hb, by rw [e]; rfl⟩
theorem of_pinsAt {fp : List Addr} {h : Heap} {p : Addr × Obj} (hp : p ∈ pinsAt fp h) : p.1 ∈ fp ∧ h.get? p.1 = some p.2 := by
  obtain ⟨b, hb, e⟩ := List.mem_filterMap.mp hp
  cases q : h.get? b with
  | none => rw [q] at e; cases e
  | some o =>
    rw [q] at e
    have e' : (b, o) = p := Option.some.inj e
    subst e'
    exact ⟨hb, q⟩
theorem Inv.pinned {pins : List (Addr × Obj)} {σ : St} {H : Hp} {s : Shared} {fp : List Addr} (I : Inv X pins σ H s) (hf : ∀ b ∈ fp, FpOk X pins H b) (ho : ∀ b ∈ fp, ∃ o, s.heap.get? b = some o ∧ ∀ v, o.data ≠ .cell v) : Inv X (pins ++ pinsAt fp s.heap) σ H s :=
  I.pins_of fun p hp => (List.mem_append.mp hp).elim (fun z => I.pin p (List.mem_append_right _ z)) fun z => by
    obtain ⟨hb, e⟩ := of_pinsAt z
    obtain ⟨f0, f1, f2, _⟩ := hf p.1 hb
    obtain ⟨o, e', d⟩ := ho p.1 hb
    rw [e] at e'; cases e'
    exact ⟨e, f0, f1, f2, d⟩
theorem Inv.unpinned {pins pl : List (Addr × Obj)} {σ : St} {H : Hp} {s : Shared} (I : Inv X (pins ++ pl) σ H s) : Inv X pins σ H s := I.pins_of fun p hp => I.pin p (List.mem_append_right _ (List.mem_append_left _ hp))
theorem ps_for {iter : Expr} {body : List Stmt} {wi : TI} {g : TG} {tb : TS} {pos : Pos} (hp : PassesOwn (model X.prog X.w) X.A X.env X.xe) (hc : X.calm = true) (hi : PI X tg iter wi) (hg : PG X tg g) (hb : PSs X body tb)
    (hs : ∀ x, foldedSetIterable iter X.env x = pure x := by intro _; rfl) : PS X (.For tg iter body [] pos) (tFor wi g tb) := by
  intro pins s σ H D I h
  refine wpAny_For (thn (hi pins s σ H _ I h) fun v s1 h1 => thn h1 fun itv s2 h2 => ?_) hs
  obtain ⟨it, fp, tn, J, H2, e, I2, T, st2, f2, W, ⟨m0, w0⟩, turn⟩ := h2
  subst e
  -- what stays true of the iterator's objects through the loop
  have stat : ∀ {H' : Hp}, (∀ b ∈ fp, H' b = none) → ∀ b ∈ fp, FpOk X pins H' b := fun hn b hb => ⟨hn b hb, (f2 b hb).2⟩
  refine codeAny_forLoop_any (fun n s' => ∃ i σ' H', Inv X pins σ' H' s' ∧ tn i s'.heap ∧ (∀ b ∈ fp, H' b = none) ∧ W i n σ' H') ?_ m0 ⟨0, σ, H2, I2, st2, fun b hb => (f2 b hb).1, w0⟩
  rintro n s3 ⟨i, σ3, H3, I3, st3, fr3, w3⟩
  rcases turn i n σ3 H3 w3 with ⟨stop, qn⟩ | ⟨go, N, hN, step⟩
  · refine wpAny_passesOwn hp (thn (T.done X rfl rfl rfl hc i pins s3 σ3 H3 X.xe I3 (stat fr3) st3 stop) fun r s4 ⟨hr, I4⟩ => ?_)
    subst hr
    exact wpAny_execs_nil ⟨σ3, H3, I4, qn⟩
  · refine wpAny_passesOwn hp (thn (T.item X rfl rfl rfl hc i pins s3 σ3 H3 X.xe I3 (stat fr3) st3 go) fun r s4 ⟨u, hr, h4⟩ => ?_)
    subst hr
    refine wpAny_passesOwn hp (thn h4 fun _ s5 ⟨x, H5, I5, r5, y5, st5, fr5⟩ => ?_)
    have I5' := I5.pinned (stat fr5) (T.obj _ _ st5)
    refine wpAny_passesOwn hp (thn (hg _ s5 σ3 H5 x u _ I5' r5 (step x H5 y5)) fun _ s6 ⟨σ6, H6, I6, q6⟩ => ?_)
    refine wpAny_passesOwn hp (thn (hb _ s6 σ6 H6 _ I6 q6) fun f s7 q7 => ?_)
    have again : ∀ {σ7 : St} {H7 : Hp}, Inv X (pins ++ pinsAt fp s5.heap) σ7 H7 s7 → N σ7 H7 → ∃ m, m < n ∧ ∃ i σ' H', Inv X pins σ' H' s7 ∧ tn i s7.heap ∧ (∀ b ∈ fp, H' b = none) ∧ W i m σ' H' := fun {σ7 H7} I7 n7 => by
      obtain ⟨m', hm, w7⟩ := hN σ7 H7 n7
      refine ⟨m', hm, i + 1, σ7, H7, I7.unpinned, T.keep _ _ _ st5 fun b hb o e => (I7.pin (b, o) (List.mem_append_right _ (List.mem_append_right _ (mem_pinsAt hb e)))).1, fun b hb => ?_, w7⟩
      obtain ⟨o, e, d⟩ := T.obj _ _ st5 b hb
      exact (I7.pin (b, o) (List.mem_append_right _ (List.mem_append_right _ (mem_pinsAt hb e)))).2.1
    cases f with
    | next => obtain ⟨σ7, H7, I7, n7⟩ := q7; exact again I7 n7
    | cont => obtain ⟨σ7, H7, I7, n7⟩ := q7; exact again I7 n7
    | brk => obtain ⟨σ7, H7, I7, q7⟩ := q7; exact ⟨σ7, H7, I7.unpinned, q7⟩
    | ret v => obtain ⟨x7, σ7, H7, I7, r7, q7⟩ := q7; exact ⟨x7, σ7, H7, I7.unpinned, r7, q7⟩
end

theorem for_list {K : PySem.W.Frag} {a : Addr} {xs : List V} {g : TG} {tb : TS} {D : Ends} {σ : St} {H : Hp} (Pv : Nat → St → Hp → Prop) (h0 : Pv 0 σ H) (hl : ∀ i σ H, i ≤ xs.length → Pv i σ H → SqL K H a xs)
    (hs : ∀ i x σ H, xs[i]? = some x → Pv i σ H → g x σ H fun σ2 H2 => tb { D with nx := Pv (i + 1), ct := Pv (i + 1), bk := D.nx } σ2 H2) (hd : ∀ σ H, Pv xs.length σ H → D.nx σ H) :
    ∃ W : Nat → Nat → St → Hp → Prop, (∃ m, W 0 m σ H) ∧ ∀ i m σ H, W i m σ H →
      ((Itl K a).stop i H ∧ D.nx σ H) ∨ ((Itl K a).go i H ∧ ∃ N : St → Hp → Prop, (∀ σ' H', N σ' H' → ∃ m', m' < m ∧ W (i + 1) m' σ' H') ∧ ∀ x H', (Itl K a).yld i H x H' → g x σ H' fun σ2 H2 => tb { D with nx := N, ct := N, bk := D.nx } σ2 H2) := by
  refine ⟨fun i m σ H => m = xs.length - i ∧ i ≤ xs.length ∧ Pv i σ H, ⟨xs.length, by simp, Nat.zero_le _, h0⟩, ?_⟩
  rintro i m σ H ⟨rfl, hi, p⟩
  have q := hl i σ H hi p
  by_cases hlt : i < xs.length
  · refine .inr ⟨⟨xs, xs[i], q, by simp [hlt]⟩, Pv (i + 1), fun σ' H' p' => ⟨xs.length - (i + 1), by omega, rfl, hlt, p'⟩, fun x H' y => ?_⟩
    obtain ⟨e, y⟩ := y
    subst e
    exact hs i x σ _ (y xs q) p
  · have e : i = xs.length := by omega
    subst e
    exact .inl ⟨⟨xs, q, Nat.le_refl _⟩, hd σ H p⟩
theorem for_tup {K : PySem.W.Frag} {a : Addr} {xs : List V} {g : TG} {tb : TS} {D : Ends} {σ : St} {H : Hp} (Pv : Nat → St → Hp → Prop) (h0 : Pv 0 σ H) (hl : ∀ i σ H, i ≤ xs.length → Pv i σ H → SqT K H a xs)
    (hs : ∀ i x σ H, xs[i]? = some x → Pv i σ H → g x σ H fun σ2 H2 => tb { D with nx := Pv (i + 1), ct := Pv (i + 1), bk := D.nx } σ2 H2) (hd : ∀ σ H, Pv xs.length σ H → D.nx σ H) :
    ∃ W : Nat → Nat → St → Hp → Prop, (∃ m, W 0 m σ H) ∧ ∀ i m σ H, W i m σ H →
      ((Itt K a).stop i H ∧ D.nx σ H) ∨ ((Itt K a).go i H ∧ ∃ N : St → Hp → Prop, (∀ σ' H', N σ' H' → ∃ m', m' < m ∧ W (i + 1) m' σ' H') ∧ ∀ x H', (Itt K a).yld i H x H' → g x σ H' fun σ2 H2 => tb { D with nx := N, ct := N, bk := D.nx } σ2 H2) := by
  refine ⟨fun i m σ H => m = xs.length - i ∧ i ≤ xs.length ∧ Pv i σ H, ⟨xs.length, by simp, Nat.zero_le _, h0⟩, ?_⟩
  rintro i m σ H ⟨rfl, hi, p⟩
  have q := hl i σ H hi p
  by_cases hlt : i < xs.length
  · refine .inr ⟨⟨xs, xs[i], q, by simp [hlt]⟩, Pv (i + 1), fun σ' H' p' => ⟨xs.length - (i + 1), by omega, rfl, hlt, p'⟩, fun x H' y => ?_⟩
    obtain ⟨e, y⟩ := y
    subst e
    exact hs i x σ _ (y xs q) p
  · have e : i = xs.length := by omega
    subst e
    exact .inl ⟨⟨xs, q, Nat.le_refl _⟩, hd σ H p⟩
theorem for_range {lo : Int} {n : Nat} {g : TG} {tb : TS} {D : Ends} {σ : St} {H : Hp} (Pv : Nat → St → Hp → Prop) (h0 : Pv 0 σ H)
    (hs : ∀ i σ H, i < n → Pv i σ H → g (.int (lo + i)) σ H fun σ2 H2 => tb { D with nx := Pv (i + 1), ct := Pv (i + 1), bk := D.nx } σ2 H2) (hd : ∀ σ H, Pv n σ H → D.nx σ H) :
    ∃ W : Nat → Nat → St → Hp → Prop, (∃ m, W 0 m σ H) ∧ ∀ i m σ H, W i m σ H →
      ((Itr lo n).stop i H ∧ D.nx σ H) ∨ ((Itr lo n).go i H ∧ ∃ N : St → Hp → Prop, (∀ σ' H', N σ' H' → ∃ m', m' < m ∧ W (i + 1) m' σ' H') ∧ ∀ x H', (Itr lo n).yld i H x H' → g x σ H' fun σ2 H2 => tb { D with nx := N, ct := N, bk := D.nx } σ2 H2) := by
  refine ⟨fun i m σ H => m = n - i ∧ i ≤ n ∧ Pv i σ H, ⟨n, by simp, Nat.zero_le _, h0⟩, ?_⟩
  rintro i m σ H ⟨rfl, hi, p⟩
  by_cases hlt : i < n
  · refine .inr ⟨hlt, Pv (i + 1), fun σ' H' p' => ⟨n - (i + 1), by omega, rfl, hlt, p'⟩, fun x H' y => ?_⟩
    obtain ⟨e, y⟩ := y
    subst e y
    exact hs i σ _ hlt p
  · have e : i = n := by omega
    subst e
    exact .inl ⟨Nat.le_refl _, hd σ H p⟩
end L2

namespace L2
open PySem PySem.Spec PyProof.Rows

abbrev R2 := V → V → Hp → VK → Prop
def OpR (X : Cx) (f : Value → Value → Sem Value) (r : R2) : Prop :=
  ∀ (pins : List (Addr × Obj)) (s : Shared) (σ : St) (H : Hp) (x y : V) (v u : Value) (Q : VK), Inv X pins σ H s → RelV x v → RelV y u → r x y H Q →
    wpAny (model X.prog X.w) X.A (f v u) (EP X pins σ Q) X.xe s
def UnR (X : Cx) (f : Value → Sem Value) (r : V → Hp → VK → Prop) : Prop :=
  ∀ (pins : List (Addr × Obj)) (s : Shared) (σ : St) (H : Hp) (x : V) (v : Value) (Q : VK), Inv X pins σ H s → RelV x v → r x H Q →
    wpAny (model X.prog X.w) X.A (f v) (EP X pins σ Q) X.xe s
def CallR (X : Cx) (f : Value) (r : List V → Hp → VK → Prop) : Prop :=
  ∀ (pins : List (Addr × Obj)) (s : Shared) (σ : St) (H : Hp) (xs : List V) (us : List Value) (Q : VK), Inv X pins σ H s → Vals xs us → r xs H Q →
    wpAny (model X.prog X.w) X.A (call f us) (EP X pins σ Q) X.xe s

def tOp (r : R2) (ta tb : TE) : TE := fun σ H Q => ta σ H fun x H1 => tb σ H1 fun y H2 => r x y H2 Q
def tUn (r : V → Hp → VK → Prop) (ta : TE) : TE := fun σ H Q => ta σ H fun x H1 => r x H1 Q
def rI (C : Int → Int → Prop) (g : Int → Int → V) : R2 := fun x y H Q => ∃ i j, x = .int i ∧ y = .int j ∧ C i j ∧ Q (g i j) H
def rI0 (g : Int → Int → V) : R2 := fun x y H Q => ∃ i j, x = .int i ∧ y = .int j ∧ Q (g i j) H
def rU (g : Int → V) : V → Hp → VK → Prop := fun x H Q => ∃ i, x = .int i ∧ Q (g i) H

section
variable {X : Cx} {a b c : Expr} {ta tb tc : TE} {pos : Pos}

theorem binT (ha : PE X a ta) (hb : PE X b tb) {pins : List (Addr × Obj)} {s : Shared} {σ : St} {H : Hp} {R : V → V → Hp → Prop} (I : Inv X pins σ H s)
    (h : ta σ H fun x H1 => tb σ H1 fun y H2 => R x y H2) {Q : Value → Shared → Prop} {f : Value → Value → Sem Value}
    (hf : ∀ v u s2 x y H2, Inv X pins σ H2 s2 → RelV x v → RelV y u → R x y H2 → wpAny (model X.prog X.w) X.A (f v u) Q X.xe s2) :
    wpAny (model X.prog X.w) X.A (eval a X.env) (fun v s₁ => wpAny (model X.prog X.w) X.A (eval b X.env) (fun u s₂ => wpAny (model X.prog X.w) X.A (f v u) Q X.xe s₂) X.xe s₁) X.xe s := by
  refine thn (ha pins s σ H _ I h) fun v s1 ⟨x, H1, I1, r1, q1⟩ => ?_
  refine thn (hb pins s1 σ H1 _ I1 q1) fun u s2 ⟨y, H2, I2, r2, q2⟩ => ?_
  exact hf v u s2 x y H2 I2 r1 r2 q2

theorem pe_op {op : Operator} {r : R2} (ho : OpR X (binaryOp op) r) (ha : PE X a ta) (hb : PE X b tb) : PE X (.BinOp a op b pos) (tOp r ta tb) := by
  intro pins s σ H Q I h
  exact wpAny_BinOp (binT ha hb I h fun v u s2 x y H2 I2 rx ry q => ho pins s2 σ H2 x y v u Q I2 rx ry q)
theorem pe_un {op : UnaryOp} {r : V → Hp → VK → Prop} (ho : UnR X (unaryOp op) r) (ha : PE X a ta) : PE X (.UnaryOp op a pos) (tUn r ta) := by
  intro pins s σ H Q I h
  exact UnaryOp_ (thn (ha pins s σ H _ I h) fun v s1 ⟨x, H1, I1, r1, q1⟩ => ho pins s1 σ H1 x v Q I1 r1 q1)

theorem opI {f : Value → Value → Sem Value} {C : Int → Int → Prop} {g : Int → Int → Int}
    (rule : ∀ (i j : Int) (t u : Tok) (s : Shared) (Q : Value → Shared → Prop) (E : Value → Shared → Prop), C i j → Q (.int (g i j) s.toks) { s with toks := s.toks + 1 } → wpAny (model X.prog X.w) X.A (f (.int i t) (.int j u)) Q E s) :
    OpR X f (rI C fun i j => .int (g i j)) := by
  intro pins s σ H x y v u Q I rx ry h
  obtain ⟨i, j, rfl, rfl, hc, q⟩ := h
  obtain ⟨t, rfl⟩ := rx
  obtain ⟨t', rfl⟩ := ry
  exact rule i j t t' s _ _ hc ⟨.int (g i j), H, I.tok _, ⟨_, rfl⟩, q⟩
theorem opI0 {f : Value → Value → Sem Value} {g : Int → Int → Int}
    (rule : ∀ (i j : Int) (t u : Tok) (s : Shared) (Q : Value → Shared → Prop) (E : Value → Shared → Prop), Q (.int (g i j) s.toks) { s with toks := s.toks + 1 } → wpAny (model X.prog X.w) X.A (f (.int i t) (.int j u)) Q E s) :
    OpR X f (rI0 fun i j => .int (g i j)) := by
  intro pins s σ H x y v u Q I rx ry h
  obtain ⟨i, j, rfl, rfl, q⟩ := h
  obtain ⟨t, rfl⟩ := rx
  obtain ⟨t', rfl⟩ := ry
  exact rule i j t t' s _ _ ⟨.int (g i j), H, I.tok _, ⟨_, rfl⟩, q⟩
theorem opB0 {f : Value → Value → Sem Value} {g : Int → Int → Bool}
    (rule : ∀ (i j : Int) (t u : Tok) (s : Shared) (Q : Value → Shared → Prop) (E : Value → Shared → Prop), Q (.bool (g i j)) s → wpAny (model X.prog X.w) X.A (f (.int i t) (.int j u)) Q E s) :
    OpR X f (rI0 fun i j => .bl (g i j)) := by
  intro pins s σ H x y v u Q I rx ry h
  obtain ⟨i, j, rfl, rfl, q⟩ := h
  obtain ⟨t, rfl⟩ := rx
  obtain ⟨t', rfl⟩ := ry
  exact rule i j t t' s _ _ ⟨.bl (g i j), H, I, rfl, q⟩

def CDiv (i j : Int) : Prop := 0 < j ∧ j < 1073741824
def CPow (i j : Int) : Prop := 0 ≤ j ∧ j ≤ 1000000 ∧ i.natAbs < 2 ^ 64
def CMul (i j : Int) : Prop := (-(2 ^ 64) < i ∧ i < 2 ^ 64) ∨ (-(2 ^ 64) < j ∧ j < 2 ^ 64)
theorem CMul.ok {i j : Int} (h : CMul i j) : IntMulOk i j := by
  rcases h with ⟨h1, h2⟩ | ⟨h1, h2⟩
  · exact .of_left (intBits_le_64 h1 h2)
  · exact .of_right (intBits_le_64 h1 h2)

theorem op_add : OpR X (binaryOp .Add) (rI0 fun i j => .int (i + j)) := opI0 fun _ _ _ _ _ _ _ q => add_int q
theorem op_sub : OpR X (binaryOp .Sub) (rI0 fun i j => .int (i - j)) := opI0 fun _ _ _ _ _ _ _ q => sub_int q
theorem op_mul : OpR X (binaryOp .Mult) (rI CMul fun i j => .int (i * j)) := opI fun _ _ _ _ _ _ _ hc q => mul_int q hc.ok
theorem op_fdiv : OpR X (binaryOp .FloorDiv) (rI CDiv fun i j => .int (i / j)) := opI fun i j _ _ _ _ _ hc q => by
  have h1 : (0 : Int) < j := hc.1
  have h2 : j < 1073741824 := hc.2
  exact floordiv_int (by omega) (by rw [Int.fdiv_eq_ediv_of_nonneg i (by omega)]; exact q) (.inl (PyProof.noPylong_small (by omega)))
theorem op_mod : OpR X (binaryOp .Mod) (rI (fun _ j => 0 < j) fun i j => .int (i % j)) := opI fun i j _ _ _ _ _ hc q => by
  have h1 : (0 : Int) < j := hc
  exact mod_int' (by omega) (by rw [Int.fmod_eq_emod_of_nonneg i (by omega)]; exact q)
theorem op_pow : OpR X (binaryOp .Pow) (rI CPow fun i j => .int (i ^ j.toNat)) := opI fun _ _ _ _ _ _ _ hc q => pow_int_small hc.1 hc.2.1 hc.2.2 q


theorem unI {f : Value → Sem Value} {g : Int → Int}
    (rule : ∀ (i : Int) (t : Tok) (s : Shared) (Q : Value → Shared → Prop) (E : Value → Shared → Prop), Q (.int (g i) s.toks) { s with toks := s.toks + 1 } → wpAny (model X.prog X.w) X.A (f (.int i t)) Q E s) :
    UnR X f (rU fun i => .int (g i)) := by
  intro pins s σ H x v Q I rx h
  obtain ⟨i, rfl, q⟩ := h
  obtain ⟨t, rfl⟩ := rx
  exact rule i t s _ _ ⟨.int (g i), H, I.tok _, ⟨_, rfl⟩, q⟩
theorem un_neg : UnR X (unaryOp .USub) (rU fun i => .int (-i)) := unI fun _ _ _ _ _ q => neg_int q

end

def scal : V → V → Bool
  | .non, .non => true | .non, .int _ => true | .int _, .non => true | .non, .bl _ => true | .bl _, .non => true | .non, .str _ => true | .str _, .non => true
  | .int _, .int _ => true | .bl _, .bl _ => true | .str _, .str _ => true | .byt _, .byt _ => true
  | .int _, .str _ => true | .str _, .int _ => true | .bl _, .str _ => true | .str _, .bl _ => true
  | _, _ => false
def rEq : R2 := fun x y H Q => scal x y = true ∧ Q (.bl (decide (x = y))) H
def rNe : R2 := fun x y H Q => scal x y = true ∧ Q (.bl (!decide (x = y))) H

theorem dec_int {i j : Int} : decide (V.int i = V.int j) = (i == j) := by
  rw [Bool.eq_iff_iff]
  simp
theorem dec_bl {i j : Bool} : decide (V.bl i = V.bl j) = (i == j) := by
  rw [Bool.eq_iff_iff]
  simp
theorem dec_str {i j : Str} : decide (V.str i = V.str j) = (i == j) := by
  rw [Bool.eq_iff_iff]
  simp
theorem dec_byt {i j : Array UInt8} : decide (V.byt i = V.byt j) = (i.toList == j.toList) := by
  rw [Bool.eq_iff_iff]
  cases i
  cases j
  simp

section
variable {X : Cx} {a b c : Expr} {ta tb tc : TE} {pos : Pos}
theorem fin_bl {pins : List (Addr × Obj)} {σ : St} {H : Hp} {s : Shared} {Q : VK} {k k' : Bool} (I : Inv X pins σ H s) (q : Q (.bl k) H) (e : k = k') : EP X pins σ Q (.bool k') s := by
  subst e
  exact ⟨.bl k, H, I, rfl, q⟩
theorem op_eq : OpR X (compareOp .Eq) rEq := by
  intro pins s σ H x y v u Q I rx ry h
  obtain ⟨hs, q⟩ := h
  cases x with
  | non =>
    cases rx
    cases y with
    | non => cases ry; exact PySem.EqNone.eq_none_none (fin_bl I q (by simp))
    | bl j => cases ry; exact PySem.EqNone.eq_none_bool (fin_bl I q (by simp))
    | int j => obtain ⟨t', rfl⟩ := ry; exact PySem.EqNone.eq_none_int (fin_bl I q (by simp))
    | str j => obtain ⟨t', rfl⟩ := ry; exact PySem.EqNone.eq_none_str (fin_bl I q (by simp))
    | _ => exact absurd (show false = true from hs) Bool.false_ne_true
  | bl i =>
    cases rx
    cases y with
    | non => cases ry; exact PySem.EqNone.eq_bool_none (fin_bl I q (by simp))
    | bl j => cases ry; exact eq_bool (fin_bl I q dec_bl)
    | str j => obtain ⟨t', rfl⟩ := ry; exact PySem.EqMixed.eq_bool_str (fin_bl I q (by simp))
    | _ => exact absurd (show false = true from hs) Bool.false_ne_true
  | int i =>
    obtain ⟨t, rfl⟩ := rx
    cases y with
    | non => cases ry; exact PySem.EqNone.eq_int_none (fin_bl I q (by simp))
    | int j => obtain ⟨t', rfl⟩ := ry; exact eq_int (fin_bl I q dec_int)
    | str j => obtain ⟨t', rfl⟩ := ry; exact PySem.EqMixed.eq_int_str (fin_bl I q (by simp))
    | _ => exact absurd (show false = true from hs) Bool.false_ne_true
  | str i =>
    obtain ⟨t, rfl⟩ := rx
    cases y with
    | non => cases ry; exact PySem.EqNone.eq_str_none (fin_bl I q (by simp))
    | bl j => cases ry; exact PySem.EqMixed.eq_str_bool (fin_bl I q (by simp))
    | int j => obtain ⟨t', rfl⟩ := ry; exact PySem.EqMixed.eq_str_int (fin_bl I q (by simp))
    | str j => obtain ⟨t', rfl⟩ := ry; exact eq_str (fin_bl I q dec_str)
    | _ => exact absurd (show false = true from hs) Bool.false_ne_true
  | byt i =>
    obtain ⟨t, rfl⟩ := rx
    cases y with
    | byt j => obtain ⟨t', rfl⟩ := ry; exact PySem.W.eq_bytes (fin_bl I q dec_byt)
    | _ => exact absurd (show false = true from hs) Bool.false_ne_true
  | _ => cases y <;> exact absurd (show false = true from hs) Bool.false_ne_true
theorem op_ne : OpR X (compareOp .NotEq) rNe := by
  intro pins s σ H x y v u Q I rx ry h
  obtain ⟨hs, q⟩ := h
  cases x with
  | non =>
    cases rx
    cases y with
    | non => cases ry; exact PySem.EqNone.ne_none_none (fin_bl I q (by simp))
    | bl j => cases ry; exact PySem.EqNone.ne_none_bool (fin_bl I q (by simp))
    | int j => obtain ⟨t', rfl⟩ := ry; exact PySem.EqNone.ne_none_int (fin_bl I q (by simp))
    | str j => obtain ⟨t', rfl⟩ := ry; exact PySem.EqNone.ne_none_str (fin_bl I q (by simp))
    | _ => exact absurd (show false = true from hs) Bool.false_ne_true
  | bl i =>
    cases rx
    cases y with
    | non => cases ry; exact PySem.EqNone.ne_bool_none (fin_bl I q (by simp))
    | bl j => cases ry; exact ne_bool (fin_bl I q (congrArg not dec_bl))
    | str j => obtain ⟨t', rfl⟩ := ry; exact PySem.EqMixed.ne_bool_str (fin_bl I q (by simp))
    | _ => exact absurd (show false = true from hs) Bool.false_ne_true
  | int i =>
    obtain ⟨t, rfl⟩ := rx
    cases y with
    | non => cases ry; exact PySem.EqNone.ne_int_none (fin_bl I q (by simp))
    | int j => obtain ⟨t', rfl⟩ := ry; exact ne_int (fin_bl I q (congrArg not dec_int))
    | str j => obtain ⟨t', rfl⟩ := ry; exact PySem.EqMixed.ne_int_str (fin_bl I q (by simp))
    | _ => exact absurd (show false = true from hs) Bool.false_ne_true
  | str i =>
    obtain ⟨t, rfl⟩ := rx
    cases y with
    | non => cases ry; exact PySem.EqNone.ne_str_none (fin_bl I q (by simp))
    | bl j => cases ry; exact PySem.EqMixed.ne_str_bool (fin_bl I q (by simp))
    | int j => obtain ⟨t', rfl⟩ := ry; exact PySem.EqMixed.ne_str_int (fin_bl I q (by simp))
    | str j => obtain ⟨t', rfl⟩ := ry; exact ne_str (fin_bl I q (congrArg not dec_str))
    | _ => exact absurd (show false = true from hs) Bool.false_ne_true
  | byt i =>
    obtain ⟨t, rfl⟩ := rx
    cases y with
    | byt j => obtain ⟨t', rfl⟩ := ry; exact PySem.W.ne_bytes (fin_bl I q (congrArg not dec_byt))
    | _ => exact absurd (show false = true from hs) Bool.false_ne_true
  | _ => cases y <;> exact absurd (show false = true from hs) Bool.false_ne_true

theorem op_lt : OpR X (compareOp .Lt) (rI0 fun i j => .bl (decide (i < j))) := opB0 fun _ _ _ _ _ _ _ q => lt_int q
theorem op_gt : OpR X (compareOp .Gt) (rI0 fun i j => .bl (decide (j < i))) := opB0 fun _ _ _ _ _ _ _ q => gt_int q

theorem op_isN : OpR X (compareOp .Is) (fun x y H Q => y = .non ∧ Q (.bl (decide (x = .non))) H) := by
  intro pins s σ H x y v u Q I rx ry h
  obtain ⟨rfl, q⟩ := h
  cases ry
  refine is_none_gen (fin_bl I q ?_)
  cases x <;> first
    | (cases rx; rfl)
    | (obtain ⟨t, rfl⟩ := rx; rfl)
theorem op_notN : OpR X (compareOp .IsNot) (fun x y H Q => y = .non ∧ Q (.bl (!decide (x = .non))) H) := by
  intro pins s σ H x y v u Q I rx ry h
  obtain ⟨rfl, q⟩ := h
  cases ry
  refine isnot_none_gen (fin_bl I q ?_)
  cases x <;> first
    | (cases rx; rfl)
    | (obtain ⟨t, rfl⟩ := rx; rfl)



theorem nomark (b : Expr) {op : CmpOp} (h : op ≠ .In := by decide) (h2 : op ≠ .NotIn := by decide) : behindInMarks op b = false := by
  have e1 : (op == CmpOp.In) = false := by cases op <;> first | rfl | exact absurd rfl h
  have e2 : (op == CmpOp.NotIn) = false := by cases op <;> first | rfl | exact absurd rfl h2
  cases b <;> simp [behindInMarks, e1, e2]
theorem pe_cmpR {op : CmpOp} {r : R2} (ho : OpR X (compareOp op) r) (ha : PE X a ta) (hb : PE X b tb) (hm : behindInMarks op b = false) : PE X (.Compare a [op] [b] pos) (tOp r ta tb) := by
  intro pins s σ H Q I h
  exact wpAny_Compare1 (binT ha hb I h fun v u s2 x y H2 I2 rx ry q => ho pins s2 σ H2 x y v u Q I2 rx ry q) hm
def tTest (t : TE) : TT := fun σ H Q => t σ H fun x H' => ∃ k, x = .bl k ∧ Q k H'
theorem pt_cmpR {op : CmpOp} {r : R2} (ho : OpR X (compareOp op) r) (ha : PE X a ta) (hb : PE X b tb) (hm : behindInMarks op b = false) : PT X (.Compare a [op] [b] pos) (tTest (tOp r ta tb)) := by
  intro pins s σ H Q I h
  refine wpAny_isTrue_Compare1 (thn (ha pins s σ H _ I h) fun v s1 ⟨x, H1, I1, r1, q1⟩ => thn (hb pins s1 σ H1 _ I1 q1) fun u s2 ⟨y, H2, I2, r2, q2⟩ =>
    thn (ho pins s2 σ H2 x y v u _ I2 r1 r2 q2) fun c s3 ⟨z, H3, I3, r3, k, e, q3⟩ => ?_) hm
  subst e
  cases r3
  exact wpAny_truthy_bool ⟨H3, I3, q3⟩
def tChain (r r' : R2) (ta tb tc : TE) : TE := fun σ H Q => ta σ H fun x H1 => tb σ H1 fun y H2 => r x y H2 fun z H3 => ∃ k, z = .bl k ∧
  (if k = true then tc σ H3 fun w' H4 => r' y w' H4 Q else Q (.bl false) H3)
theorem pt_chain {op op' : CmpOp} {r r' : R2} (ho : OpR X (compareOp op) r) (ho' : OpR X (compareOp op') r') (ha : PE X a ta) (hb : PE X b tb) (hc : PE X c tc)
    (hm : lastMarks [op, op'] [b, c] = false := by with_unfolding_all rfl) : PT X (.Compare a [op, op'] [b, c] pos) (tTest (tChain r r' ta tb tc)) := by
  intro pins s σ H Q I h
  refine isTrue_chain (thn (ha pins s σ H _ I h) fun v s1 ⟨x, H1, I1, r1, q1⟩ => test_link (thn (hb pins s1 σ H1 _ I1 q1) fun u s2 ⟨y, H2, I2, r2, q2⟩ =>
    thn (ho pins s2 σ H2 x y v u _ I2 r1 r2 q2) fun d s3 ⟨z, H3, I3, r3, k, e, q3⟩ => ?_)) hm
  subst e
  cases r3
  refine wpAny_truthy_bool ?_
  cases k with
  | false =>
    obtain ⟨k', e', q'⟩ := q3
    cases e'
    exact ite_ff ⟨H3, I3, q'⟩
  | true =>
    refine ite_tt (test_last (thn (hc pins s3 σ H3 _ I3 q3) fun w' s4 ⟨z', H4, I4, r4, q4⟩ => thn (ho' pins s4 σ H4 y z' u w' _ I4 r2 r4 q4) fun d' s5 ⟨z2, H5, I5, r5, k2, e2, q5⟩ => ?_))
    subst e2
    cases r5
    exact wpAny_truthy_bool ⟨H5, I5, q5⟩

theorem line63 : (sizeLine : Nat) < 2 ^ 63 := by rw [sizeLine_eq]; decide

theorem op_add_str : OpR X (binaryOp .Add) (fun x y H Q => ∃ i j, x = .str i ∧ y = .str j ∧ i.length + j.length ≤ sizeLine ∧ Q (.str (i ++ j)) H) := by
  intro pins s σ H x y v u Q I rx ry h
  obtain ⟨i, j, rfl, rfl, hz, q⟩ := h
  obtain ⟨t, rfl⟩ := rx
  obtain ⟨t', rfl⟩ := ry
  exact add_str (fun t' tk => ⟨.str (i ++ j), H, I.tok _, ⟨_, rfl⟩, q⟩) hz

def PlainIxT (b : Expr) : Prop := ∀ o i, subscripted b false o i = operate [o, i] (getItem o i)
theorem pe_item_str (ha : PE X a ta) (hb : PE X b tb) (hs : PlainIxT b) :
    PE X (.Subscript a b pos) (tOp (fun x y H Q => ∃ z i c, x = .str z ∧ y = .int i ∧ 0 ≤ i ∧ i < 2 ^ 63 ∧ i < z.length ∧ z.cps[i.toNat]? = some c ∧ Q (.str ⟨#[c]⟩) H) ta tb) := by
  intro pins s σ H Q I h
  refine Subscript_ (binT ha hb I h fun v u s2 x y H2 I2 rx ry q => ?_)
  obtain ⟨z, i, c, rfl, rfl, h0, h63, h1, hc, q⟩ := q
  obtain ⟨t, rfl⟩ := rx
  obtain ⟨t', rfl⟩ := ry
  have e : seqIndex? i z.length = some i.toNat := PySem.StrLaws.seqIndex_nonneg h0 h1
  exact tail_any (typeIs_str s2 z t) slot_str_getitem.lookup (getItem_str (c := c) (by
    have e1 : decide (i < -(2 ^ 63 : Int)) = false := decide_eq_false (by omega)
    have e2 : decide (i ≥ 2 ^ 63) = false := decide_eq_false (by omega)
    rw [e1, e2] <;> rfl) (by rw [e]; exact hc) ⟨.str ⟨#[c]⟩, H2, I2.tok _, ⟨_, rfl⟩, q⟩) (hs _ _)

theorem vals1 {x : V} {us : List Value} (r : Vals [x] us) : ∃ u, us = [u] ∧ RelV x u := by
  cases r with
  | cons r1 r2 => cases r2; exact ⟨_, rfl, r1⟩
theorem vals2 {x y : V} {us : List Value} (r : Vals [x, y] us) : ∃ u w', us = [u, w'] ∧ RelV x u ∧ RelV y w' := by
  cases r with
  | cons r1 r2 =>
    cases r2 with
    | cons r3 r4 => cases r4; exact ⟨_, _, rfl, r1, r3⟩
theorem call_int1 : CallR X (.type "int") (fun xs H Q => (∃ i, xs = [.int i] ∧ Q (.int i) H) ∨ ∃ k, xs = [.bl k] ∧ Q (.int (if k then 1 else 0)) H) := by
  intro pins s σ H xs us Q I r h
  rcases h with ⟨i, rfl, q⟩ | ⟨k, rfl, q⟩
  · obtain ⟨u, rfl, t, rfl⟩ := vals1 r
    exact call_int_int ⟨.int i, H, I, ⟨_, rfl⟩, q⟩
  · obtain ⟨u, rfl, r1⟩ := vals1 r
    cases r1
    exact call_int_bool ⟨.int (if k then 1 else 0), H, I.tok _, ⟨_, rfl⟩, q⟩
end
end L2

namespace L2
open PySem PySem.Spec PyProof.Rows

structure ObjM (h : Heap) (x dx C : Addr) (mA : Str → Option Value) : Prop where
  obj : h.get? x = some (PySem.W.instObj C dx)
  ns : h.Ns1 dx mA
  ne : dx ≠ x

theorem lookIn_ns {h : Heap} {dx : Addr} {mA : Str → Option Value} (n : h.Ns1 dx mA) : ∃ od, h.get? dx = some od ∧ ∀ name, PySem.W.lookIn name od = some (mA name) := by
  obtain ⟨o, es, ep, ho, hd, hk, _, hm⟩ := n
  refine ⟨o, ho, fun name => ?_⟩
  have e := hm name
  unfold nsFind findBy at e
  rw [← Array.find?_toList] at e
  unfold PySem.W.lookIn
  rw [hd]
  dsimp only
  split
  · rename_i y q
    rw [q] at e
    exact congrArg some e
  · rename_i q
    rw [q] at e
    have a : es.toList.any (·.refKey) = false := by
      rw [List.any_eq_false]
      intro y hy
      obtain ⟨z, t, hkey⟩ := hk y (Array.mem_toList_iff.mp hy)
      simp [DictEntry.refKey, hkey]
    have a' : ¬ es.toList.any (·.refKey) = true := by rw [a]; exact Bool.false_ne_true
    rw [if_neg a']
    exact congrArg some e

theorem ObjM.look {h : Heap} {x dx C : Addr} {mA : Str → Option Value} (I : ObjM h x dx C mA) : ∃ od, PySem.W.InstAt h x (PySem.W.instObj C dx) C (some od) ∧ ∀ name, PySem.W.lookIn name od = some (mA name) :=
  let ⟨od, ho, hl⟩ := lookIn_ns I.ns
  ⟨od, ⟨I.obj, rfl, rfl, ho⟩, hl⟩

section
variable {prog : Program} {w : World} {A : Around} {E : Value → Shared → Prop} {s : Shared} {K : PySem.W.Frag} {x dx C f : Addr} {mA : Str → Option Value} {name : Str} {v : Value}





end


theorem handed_of {v : V} {u : Value} (r : RelV v u) : PySem.W.handedIn u = true := by
  cases v with
  | non => cases (show u = Value.none from r); rfl
  | bl b => cases (show u = Value.bool b from r); rfl
  | int i => obtain ⟨t, e⟩ := (show ∃ t, u = Value.int i t from r); cases e; rfl
  | str x => obtain ⟨t, e⟩ := (show ∃ t, u = Value.str x t from r); cases e; rfl
  | byt b => obtain ⟨t, e⟩ := (show ∃ t, u = Value.bytes b t from r); cases e; rfl
  | flt b => obtain ⟨t, e⟩ := (show ∃ t, u = Value.float b t from r); cases e; rfl
  | ref a => cases (show u = Value.ref a from r); rfl
  | ty n => cases (show u = Value.type n from r); rfl

section
variable {P : Program} {w : World} {H H' : Hp} {h h' : Heap} {a C dx : Addr} {fs fs' : List (Str × V)}
theorem ins_get (hok : HOk P w H h) (e : H a = some (.ins C dx fs)) : ∃ mA, ObjM h a dx C mA ∧ (∀ f, RelO (fs.lookup f) (mA f)) ∧ PySem.Within mA (fs.map (·.1)) ∧ fs.length ≤ 1000 ∧ H dx = some (.own a) := by
  obtain ⟨d, z, ne, ob, mA, n, r, q⟩ := (show ObjOk P w H h a (.ins C dx fs) from hok a _ e)
  exact ⟨mA, ⟨ob, n, ne⟩, r, q, z, d⟩
end

structure Cls (K : PySem.W.Frag) (C : Addr) : Prop where
  pg : PySem.W.plainGet K C Str.empty = true
  hd : PySem.W.hasDictIn K C = true
  po : PySem.W.plainOver K C = true
  sa : PySem.W.findIn K (.ref C) "__setattr__" = some (some (.builtin "object.__setattr__"))
theorem Cls.get {K : PySem.W.Frag} {C : Addr} (c : Cls K C) (f : Str) : PySem.W.plainGet K C f = true := c.pg
structure Con (K : PySem.W.Frag) (C : Addr) (f : Str) (v : V) (u : Value) : Prop where
  at_ : PySem.W.findIn K (.ref C) f = some (some u)
  rel : RelV v u
  get : PySem.W.specialIn K u "__get__" = some none
  cp : PySem.W.copiedNames.contains f = false
structure Meth (K : PySem.W.Frag) (C : Addr) (m : Str) (f : Addr) : Prop where
  at_ : PySem.W.findIn K (.ref C) m = some (some (.ref f))
  fn : PySem.W.isFn K (.ref f) = true
  kp : PySem.W.keepIn K (.ref f) = true

section
variable {X : Cx} {pins : List (Addr × Obj)} {σ : St} {H : Hp} {s : Shared} {a C dx : Addr} {fs : List (Str × V)} {f : Str} {v : V} {A : Around} {E : Value → Shared → Prop}






theorem attr_of {prog : Program} {w : World} {env : Env} {e : Expr} {f : Str} {pos : Pos} {s : Shared} {Q : Value → Shared → Prop} (hb : attributeBase e f env (eval e env) = eval e env)
    (h : wpAny (model prog w) A (eval e env) (fun o s₁ => wpAny (model prog w) A (getAttr o f true) Q E s₁) E s) : wpAny (model prog w) A (eval (.Attribute e f pos) env) Q E s :=
  Attribute_any_ h (by rw [arm_eval_Attribute, hb])
end


section
variable {X : Cx} {o e value : Expr} {f : Str} {pos pos' tpos : Pos} {ta tv : TE}

end

section
variable {X : Cx} {pins : List (Addr × Obj)} {σ : St} {H : Hp} {s : Shared} {A : Around} {E : Value → Shared → Prop} {Q : Value → Shared → Prop} {c : Value} {b : Bool}
inductive TyOf (K : PySem.W.Frag) (H : Hp) : V → Value → Prop where
  | non : TyOf K H .non (.type "NoneType")
  | bl (x : Bool) : TyOf K H (.bl x) (.type "bool")
  | int (i : Int) : TyOf K H (.int i) (.type "int")
  | str (x : Str) : TyOf K H (.str x) (.type "str")
  | flt (x : UInt64) : TyOf K H (.flt x) (.type "float")
  | lst {a : Addr} {xs : List V} (e : H a = some (.lst xs)) : TyOf K H (.ref a) (.type "list")
  | frz {a : Addr} {o : Obj} {xs : List V} (e : H a = some (.frz o (.lst xs))) : TyOf K H (.ref a) (.type "list")
  | tup {a : Addr} {xs : List V} (e : H a = some (.tup xs)) : TyOf K H (.ref a) (.type "tuple")
  | dK {a : Addr} {kvs : List (Key × V)} (e : H a = some (.dK kvs)) : TyOf K H (.ref a) (.type "dict")
  | dT {a : Addr} {kvs : List (List Key × V)} (e : H a = some (.dT kvs)) : TyOf K H (.ref a) (.type "dict")
  | ins {a C dx : Addr} {fs : List (Str × V)} (e : H a = some (.ins C dx fs)) (cl : Cls K C) (ha : PySem.W.findIn K (.ref C) "__class__" = some (some (.builtin "object.__class__")))
      (hn : PySem.W.specialIn K (.builtin "object.__class__") "__get__" = some (some (.builtin "getset_descriptor.__get__"))) (htk : PySem.W.takesIn K (.builtin "object.__class__") = some true)
      (hm : PySem.W.mroIn K C (.type "object") = some true) : TyOf K H (.ref a) (.ref C)
theorem isinst_ok {x : V} {u t : Value} (I : Inv X pins σ H s) (rx : RelV x u) (ty : TyOf X.K H x t) (e : PySem.W.kitOne X.K t c = some b) (h : ∀ tk, Q (.bool b) { s with toks := tk }) :
    wpAny (model X.prog X.w) A (call (.builtin "isinstance") [u, c]) Q E s := by
  cases ty with
  | non => cases (show u = Value.none from rx); exact PySem.W.kia_one PySem.W.kitx_none I.kIn True.intro e (fun z => nomatch z) h
  | bl y => cases (show u = Value.bool y from rx); exact PySem.W.kia_one PySem.W.kitx_bool I.kIn True.intro e (fun z => nomatch z) h
  | int i => obtain ⟨t, q⟩ := (show ∃ t, u = Value.int i t from rx); cases q; exact PySem.W.kia_one PySem.W.kitx_int I.kIn True.intro e (fun z => nomatch z) h
  | str y => obtain ⟨t, q⟩ := (show ∃ t, u = Value.str y t from rx); cases q; exact PySem.W.kia_one PySem.W.kitx_str I.kIn True.intro e (fun z => nomatch z) h
  | flt y => obtain ⟨t, q⟩ := (show ∃ t, u = Value.float y t from rx); cases q; exact PySem.W.kia_one PySem.W.kitx_float I.kIn True.intro e (fun z => nomatch z) h
  | @lst a xs ea =>
    cases (show u = Value.ref a from rx)
    obtain ⟨_, _, n, _, h1⟩ := (show ObjOk X.prog X.w H s.heap a (.lst xs) from I.hok a _ ea)
    exact PySem.W.kia_one PySem.W.kitx_list I.kIn ⟨_, h1, rfl⟩ e (fun z => nomatch z) h
  | @frz a ob xs ea =>
    cases (show u = Value.ref a from rx)
    obtain ⟨_, _, _, n, _, h1⟩ := (show ObjOk X.prog X.w H s.heap a (.frz ob (.lst xs)) from I.hok a _ ea)
    exact PySem.W.kia_one PySem.W.kitx_list I.kIn ⟨_, h1, rfl⟩ e (fun z => nomatch z) h
  | @tup a xs ea =>
    cases (show u = Value.ref a from rx)
    obtain ⟨_, _, _, p⟩ := (show ObjOk X.prog X.w H s.heap a (.tup xs) from I.hok a _ ea)
    obtain ⟨o, h1, h2, _⟩ := p
    exact PySem.W.kia_one PySem.W.kitx_tuple I.kIn ⟨o, h1, h2⟩ e (fun z => nomatch z) h
  | @dK a kvs ea =>
    cases (show u = Value.ref a from rx)
    obtain ⟨_, _, vs, _, p⟩ := (show ObjOk X.prog X.w H s.heap a (.dK kvs) from I.hok a _ ea)
    obtain ⟨o, es, ep, h1, h2, _⟩ := p
    exact PySem.W.kia_one PySem.W.kitx_dict I.kIn ⟨o, h1, h2.1⟩ e (fun z => nomatch z) h
  | @dT a kvs ea =>
    cases (show u = Value.ref a from rx)
    obtain ⟨_, _, xs, _, o, es, ep, h1, h2, _⟩ := (show ObjOk X.prog X.w H s.heap a (.dT kvs) from I.hok a _ ea)
    exact PySem.W.kia_one PySem.W.kitx_dict I.kIn ⟨o, h1, h2.1⟩ e (fun z => nomatch z) h
  | @ins a C dx fs ea cl ha hn htk hm =>
    cases (show u = Value.ref a from rx)
    obtain ⟨mA, O, _⟩ := ins_get I.hok ea
    obtain ⟨od, J, _⟩ := O.look
    exact PySem.W.kia_one (PySem.W.kitx_own (cl.get _) cl.hd ha hn htk hm) I.kIn J e (fun z => nomatch z) h
end
end L2

namespace L2
open PySem PySem.Spec PyProof.Rows

structure Room (k : Nat) (A : Around) : Prop where
  hd : A.handled = none
  dp : A.depth + 3 * k + 5 < recursionLimit
  un : A.units + 16 * k + 200 < cLine
theorem Room.mono {j k : Nat} {A : Around} (r : Room k A) (h : j ≤ k) : Room j A := ⟨r.hd, by have := r.dp; omega, by have := r.un; omega⟩
theorem Room.deeper {k : Nat} {A : Around} (r : Room (k + 1) A) (env : Env) : Room k (A.deeper env) :=
  ⟨r.hd, by have := r.dp; show A.depth + 1 + 3 * k + 5 < _; omega, by have := r.un; show A.units + 3 + 16 * k + 200 < _; omega⟩
theorem make_depth {A : Around} {C : Addr} {us : List Value} {kw : List (Str × Value)} : (A.under (.builtin "type.__call__" ⟨.ref C :: us, kw⟩)).depth = A.depth + 1 := by
  first | rfl | simp [Around.under, Code.weight, Code.isCreation, Code.isGuard, Code.isCaller, Code.frames, Code.isFrame, guardIds]
theorem make_units {A : Around} {C : Addr} {us : List Value} {kw : List (Str × Value)} : (A.under (.builtin "type.__call__" ⟨.ref C :: us, kw⟩)).units = A.units + 1 := by
  first | rfl | simp [Around.under, Code.cUnits, Code.frames, Code.isFrame]
theorem Room.make {k : Nat} {A : Around} (r : Room (k + 1) A) (C : Addr) (us : List Value) (kw : List (Str × Value)) : Room k (A.under (.builtin "type.__call__" ⟨.ref C :: us, kw⟩)) :=
  ⟨r.hd, by have := r.dp; rw [make_depth]; omega, by have := r.un; rw [make_units]; omega⟩
theorem Room.depth {k : Nat} {A : Around} (r : Room k A) : A.depth < recursionLimit := by have := r.dp; omega
theorem Room.units {k : Nat} {A : Around} (r : Room k A) : A.units + 64 < cLine := by have := r.un; omega

def tNil : TA := fun _ H Q => Q [] H
def tCons (ta : TE) (tr : TA) : TA := fun σ H Q => ta σ H fun x H1 => tr σ H1 fun xs H2 => Q (x :: xs) H2
section
variable {X : Cx} {e : Expr} {es : List Expr} {te : TE} {t : TA} {pos : Pos}
theorem pa_nil : PA X [] tNil := fun _ _ _ _ H Q I h => Calls.spliced_nil ⟨[], H, I, .nil, h⟩
theorem pa_cons (ha : PE X e te) (hr : PA X es t) (hs : starEach (e :: es) X.env = (false, eval e X.env) :: starEach es X.env := by rfl) : PA X (e :: es) (tCons te t) := by
  intro pos pins s σ H Q I h
  rw [hs]
  show wpAny _ _ (spliced ((false, eval e X.env) :: backTo pos (starEach es X.env))) _ _ s
  refine Calls.spliced_cons (thn (ha pins s σ H _ I h) fun u s1 ⟨x, H1, I1, r1, q1⟩ => ?_)
  exact thn (hr pos pins s1 σ H1 _ I1 q1) fun us s2 ⟨xs, H2, I2, r2, q2⟩ => ⟨x :: xs, H2, I2, .cons r1 r2, q2⟩

def tTup (t : TA) : TE := fun σ H Q => t σ H fun xs H1 => xs.length ≤ sizeLine ∧ ∀ p, H1 p = none → Q (.ref p) (upd H1 p (.tup xs))
def tLst (t : TA) : TE := fun σ H Q => t σ H fun xs H1 => xs.length ≤ sizeLine ∧ ∀ p, H1 p = none → Q (.ref p) (upd H1 p (.lst xs))
theorem pe_tup {x1} (h : PA X es t) : PE X (.Tuple es x1 pos) (tTup t) := by
  intro pins s σ H Q I hq
  refine wpAny_Tuple_spliced (thn (h pos pins s σ H _ I hq) fun us s1 ⟨xs, H1, I1, r, z, q⟩ => ⟨by rw [← r.length]; exact z, ?_⟩)
  have hf : H1 s1.heap.objs.size = none := I1.hok.fresh (Nat.le_refl _)
  refine ⟨.ref s1.heap.objs.size, upd H1 s1.heap.objs.size (.tup xs), I1.laid (t' := s1.toks) (fun b u e => Heap.get?_push_of_some _ e) (Nat.le_refl _) ?_, rfl, q _ hf⟩
  exact ⟨z, us, r, ⟨_, Heap.get?_push_size _ rfl, rfl, _, rfl⟩⟩
theorem pe_lst (h : PA X es t) : PE X (.List es pos) (tLst t) := by
  intro pins s σ H Q I hq
  refine wpAny_List_spliced (thn (h pos pins s σ H _ I hq) fun us s1 ⟨xs, H1, I1, r, z, q⟩ => ⟨by rw [← r.length]; exact z, ?_⟩)
  have hf : H1 s1.heap.objs.size = none := I1.hok.fresh (Nat.le_refl _)
  refine ⟨.ref s1.heap.objs.size, upd H1 s1.heap.objs.size (.lst xs), I1.laid (t' := s1.toks) (fun b u e => Heap.get?_push_of_some _ e) (Nat.le_refl _) ?_, rfl, q _ hf⟩
  exact ⟨z, us, 0, r, Heap.get?_push_size _ rfl⟩
end

abbrev Sp := List V → Hp → VK → XK → Prop
abbrev CXT := List Env → Hp → Shared → XK → Value → Shared → Prop

structure Env0 (P : Program) (w : World) (K : PySem.W.Frag) (mg : Str → Option Value) (base : Heap) (A : Around) (outer : List Env) (s : Shared) (H : Hp) : Prop where
  frames : A.frames = some outer
  mod : Mod K mg base
  bs : ∀ b o, base.get? b = some o → s.heap.get? b = some o ∧ H b = none
  bsz : base.objs.size ≤ s.heap.objs.size
  funs : s.heap.FunFrames base outer
  frf : ∀ b ∈ frs outer, H b = none
  hok : HOk P w H s.heap
  bare : AllBare s.gens
def CE (outer : List Env) (P : Program) (w : World) (H : Hp) (s : Shared) (Q : VK) (u : Value) (s' : Shared) : Prop :=
  ∃ v H', s'.os = s.os ∧ AllBare s'.gens ∧ Un (frs outer) [] H H' s.heap s'.heap ∧ HOk P w H' s'.heap ∧ RelV v u ∧ Q v H'
def CR (CX : CXT) (outer : List Env) (P : Program) (w : World) (H : Hp) (s : Shared) (Q : VK) (E : XK) (r : Result) (s' : Shared) : Prop :=
  match r with
  | .ok (.ret u) => CE outer P w H s Q u s'
  | .ok _ => False
  | .error e => CX outer H s E e s'
structure FnOk (P : Program) (w : World) (K : PySem.W.Frag) (mg : Str → Option Value) (base : Heap) (CX : CXT) (k : Nat) (f : Addr) (fd : FuncData) (ps : List Str) (sp : Sp) : Prop where
  len : ∀ vs H Q E, sp vs H Q E → vs.length = ps.length
  run : ∀ (A : Around) (outer : List Env) (s : Shared) (H : Hp) (args : Args) (us : List Value) (vs : List V) (Q : VK) (E : XK), Room k A → Env0 P w K mg base A outer s H → BindsTo s fd args (ps.zip us) → Vals vs us → sp vs H Q E →
    codeAny (model P w) A (.call (.ref f) args) (CR CX outer P w H s Q E) s
theorem FnOk.mono {P : Program} {w : World} {K : PySem.W.Frag} {mg : Str → Option Value} {base : Heap} {CX : CXT} {j k : Nat} {f : Addr} {fd : FuncData} {ps : List Str} {sp : Sp} (F : FnOk P w K mg base CX j f fd ps sp) (h : j ≤ k) :
    FnOk P w K mg base CX k f fd ps sp := ⟨F.len, fun A outer s H args us vs Q E hr => F.run A outer s H args us vs Q E (hr.mono h)⟩

theorem Env0.make {P : Program} {w : World} {K : PySem.W.Frag} {mg : Str → Option Value} {base : Heap} {A : Around} {outer : List Env} {s : Shared} {H : Hp} (e : Env0 P w K mg base A outer s H) (C : Addr) (us : List Value) (kw : List (Str × Value)) :
    Env0 P w K mg base (A.under (.builtin "type.__call__" ⟨.ref C :: us, kw⟩)) outer s H := ⟨by first | exact e.frames | (simpa [Around.under, Code.envs, Code.isFrame, pushEnvs] using e.frames), e.mod, e.bs, e.bsz, e.funs, e.frf, e.hok, e.bare⟩

section
variable {X : Cx} {pins : List (Addr × Obj)} {σ : St} {H : Hp} {s s' : Shared}
theorem Inv.env0 (I : Inv X pins σ H s) : Env0 X.prog X.w X.K X.mg X.base X.A X.stack s H :=
  ⟨I.ok.frames, I.ok.mod, I.bs, Nat.le_trans I.ok.bsz I.sz, I.stack, I.stkFree, I.hok, I.bare⟩
theorem Inv.after {Q : VK} {u : Value} (I : Inv X pins σ H s) (h : CE X.stack X.prog X.w H s Q u s') : EP X pins σ Q u s' := by
  obtain ⟨v, H', os, bare, un, hok, r, q⟩ := h
  obtain ⟨hh, g, d, t, os'⟩ := s'
  obtain rfl : os' = s.os := os
  exact ⟨v, H', I.call (h' := hh) (g' := g) (d' := d) (t' := t) (ch := []) un hok bare (fun b z => absurd z (by simp)), r, q⟩
end

def tCall (sp : Sp) (dvs : List V) (E : XK) (t : TA) : TE := fun σ H Q => t σ H fun vs H1 => sp (vs ++ dvs) H1 Q E

def Binds (K : PySem.W.Frag) (fd : FuncData) (ps : List Str) (ds : List Value) : Prop :=
  ∀ (s : Shared) (us : List Value), K.In s.heap → (us ++ ds).length = ps.length → BindsTo s fd ⟨us, []⟩ (ps.zip (us ++ ds))
theorem Binds.all {K : PySem.W.Frag} {fd : FuncData} {ps : List Str} (h : ∀ us : List Value, us.length = ps.length → bindArgs fd ⟨us, []⟩ = pure (ps.zip us)) : Binds K fd ps [] := fun s us _ hl => by
  rw [List.append_nil] at hl ⊢
  exact .of_eq (h us hl)

def Passes (CX : CXT) (X : Cx) (E : XK) : Prop := ∀ (pins : List (Addr × Obj)) (σ : St) (H : Hp) (s : Shared) (e : Value) (s' : Shared), Inv X pins σ H s → CX X.stack H s E e s' → X.xe e s'

section
variable {X : Cx} {CX : CXT} {k : Nat} {f C : Addr} {fd : FuncData} {ps : List Str} {sp : Sp} {dvs : List V} {ds : List Value} {E : XK} {x m : Str} {p pos apos : Pos} {e o : Expr} {es : List Expr} {ta : TE} {t : TA}

theorem run_fn {pins : List (Addr × Obj)} {σ : St} {H : Hp} {s : Shared} {Q : VK} {us : List Value} {vs : List V} (F : FnOk X.prog X.w X.K X.mg X.base CX k f fd ps sp) (hr : Room k X.A) (hb : Binds X.K fd ps ds) (hd : Vals dvs ds) (hx : Passes CX X E)
    (I : Inv X pins σ H s) (r : Vals vs us) (h : sp (vs ++ dvs) H Q E) : wpAny (model X.prog X.w) X.A (call (.ref f) us) (EP X pins σ Q) X.xe s := by
  have r2 : Vals (vs ++ dvs) (us ++ ds) := r.append hd
  have hl : (us ++ ds).length = ps.length := by rw [← r2.length]; exact F.len _ _ _ _ h
  refine wpAny_call (codeAny_mono (F.run X.A X.stack s H ⟨us, []⟩ (us ++ ds) (vs ++ dvs) Q E hr I.env0 (hb s us I.kIn hl) r2 h) fun r s' hq => ?_)
  cases r with
  | error e => exact hx pins σ H s e s' I hq
  | ok fl =>
    cases fl with
    | ret u => exact I.after hq
    | next => exact False.elim hq
    | brk => exact False.elim hq
    | cont => exact False.elim hq

theorem pe_call (F : FnOk X.prog X.w X.K X.mg X.base CX k f fd ps sp) (hr : Room k X.A) (hg : Gl X x) (hm : X.mg x = some (.ref f)) (hk : PySem.W.keepIn X.K (.ref f) = true) (hb : Binds X.K fd ps ds) (hd : Vals dvs ds) (hx : Passes CX X E)
    (ha : PA X (e :: es) t) (hdb : (x == ("__debug__" : Str)) = false := by decide) (he : starEach (e :: es) X.env = (false, eval e X.env) :: starEach es X.env := by rfl) (hpl : (backTo pos (starEach es X.env)).any (·.1) = false := by rfl) :
    PE X (.Call (.Name x p) (e :: es) [] pos) (tCall sp dvs E t) := by
  intro pins s σ H Q I h
  refine wpAny_Call_Name_kw (ld_glob I hg hm ?_ hdb)
  refine PySem.W.callWith_K (h₀ := X.base) I.ok.mod.kin hk (thn (ha pos pins s σ H _ I h) fun us s1 ⟨vs, H1, I1, r, q⟩ => ⟨I1.kIn, ?_⟩) he hpl
  exact run_fn F hr hb hd hx I1 r q


structure Mk (K : PySem.W.Frag) (C f : Addr) : Prop where
  makes : PySem.W.makesIn K C = true
  init : PySem.W.findIn K (.ref C) "__init__" = some (some (.ref f))
  fn : PySem.W.isFn K (.ref f) = true
  kp : PySem.W.keepIn K (.ref C) = true

end

section
variable {X : Cx} {CX : CXT} {k : Nat} {f C : Addr} {fd : FuncData} {ps ks : List Str} {sp : Sp} {E : XK} {x m : Str} {p pos apos kpos : Pos} {e o : Expr} {es : List Expr} {kws : List Keyword} {te ta : TE} {t tk : TA} {nm : Option Str}

structure KBinds (K : PySem.W.Frag) (fd : FuncData) (ps ks : List Str) (g : List Value → List Value → List Value) (gV : List V → List V → List V) : Prop where
  to : ∀ (s : Shared) (us ws : List Value), K.In s.heap → (g us ws).length = ps.length → BindsTo s fd ⟨us, ks.zip ws⟩ (ps.zip (g us ws))
  rel : ∀ {vs : List V} {us : List Value} {zs : List V} {ws : List Value}, Vals vs us → Vals zs ws → Vals (gV vs zs) (g us ws)
variable {g : List Value → List Value → List Value} {gV : List V → List V → List V}
end

structure FnScope (N P : List Str) (sc : Scope) : Prop where
  kind : sc.kind = .function
  co : sc.isCoroutine = false
  gen : sc.isGenerator = false
  nd : N.Nodup
  pre : N.take P.length = P
  par : ∀ x ∈ P, sc.names.lookup x = some .local ∨ sc.names.lookup x = some .cell
  nofree : ∀ y ∈ sc.names, y.2 ≠ .free

theorem bindL_out {kindOf : Str → Option NameKind} {x : Str} : ∀ {binds : List (Str × Value)} {m : Str → Option Value}, (∀ v, (x, v) ∉ binds) → bindL kindOf binds m x = m x
  | [], _, _ => rfl
  | (n, v) :: r, m, h => by
    unfold bindL
    rw [bindL_out fun w hw => h w (List.mem_cons_of_mem _ hw)]
    split
    · have : x ≠ n := by rintro rfl; exact h v List.mem_cons_self
      simp [this]
    · rfl
theorem bindC_out {kindOf : Str → Option NameKind} {x : Str} : ∀ {binds : List (Str × Value)} {m : Str → Option Value}, (∀ v, (x, v) ∉ binds) → bindC kindOf binds m x = m x
  | [], _, _ => rfl
  | (n, v) :: r, m, h => by
    unfold bindC
    rw [bindC_out fun w hw => h w (List.mem_cons_of_mem _ hw)]
    split
    · rfl
    · have : x ≠ n := by rintro rfl; exact h v List.mem_cons_self
      simp [this]
theorem bindL_get {kindOf : Str → Option NameKind} {x : Str} {v : Value} : ∀ {P : List Str} {vs : List Value} {i : Nat} {m : Str → Option Value}, P.Nodup → P[i]? = some x → vs[i]? = some v → kindOf x = some .local →
    bindL kindOf (P.zip vs) m x = some v
  | [], _, _, _, _, h, _, _ => by simp at h
  | _ :: _, [], _, _, _, _, h, _ => by simp at h
  | p :: P, w :: vs, 0, m, nd, h1, h2, hk => by
    simp at h1 h2; subst h1; subst h2
    show bindL kindOf ((p, w) :: P.zip vs) m p = _
    unfold bindL
    rw [bindL_out fun v hv => (List.nodup_cons.mp nd).1 (List.of_mem_zip hv).1, if_pos hk]
    simp
  | p :: P, w :: vs, i + 1, m, nd, h1, h2, hk => by
    show bindL kindOf ((p, w) :: P.zip vs) m x = _
    unfold bindL
    exact bindL_get (i := i) (List.nodup_cons.mp nd).2 (by simpa using h1) (by simpa using h2) hk
theorem bindC_get {kindOf : Str → Option NameKind} {x : Str} {v : Value} : ∀ {P : List Str} {vs : List Value} {i : Nat} {m : Str → Option Value}, P.Nodup → P[i]? = some x → vs[i]? = some v → kindOf x ≠ some .local →
    bindC kindOf (P.zip vs) m x = some v
  | [], _, _, _, _, h, _, _ => by simp at h
  | _ :: _, [], _, _, _, _, h, _ => by simp at h
  | p :: P, w :: vs, 0, m, nd, h1, h2, hk => by
    simp at h1 h2; subst h1; subst h2
    show bindC kindOf ((p, w) :: P.zip vs) m p = _
    unfold bindC
    rw [bindC_out fun v hv => (List.nodup_cons.mp nd).1 (List.of_mem_zip hv).1, if_neg hk]
    simp
  | p :: P, w :: vs, i + 1, m, nd, h1, h2, hk => by
    show bindC kindOf ((p, w) :: P.zip vs) m x = _
    unfold bindC
    exact bindC_get (i := i) (List.nodup_cons.mp nd).2 (by simpa using h1) (by simpa using h2) hk

def start (N : List Str) (vs : List V) : St := vs.map some ++ List.replicate (N.length - vs.length) none

def cxOf (CX : CXT) (P : Program) (w : World) (K : PySem.W.Frag) (mg : Str → Option Value) (base : Heap) (N : List Str) (qual : Str) (scope : Scope) (f : Addr) (cd : Value) (A : Around) (outer : List Env) (s : Shared) (H : Hp) (E : XK) : Cx where
  prog := P
  w := w
  K := K
  mg := mg
  base := base
  A := A.deeper (envOfC qual scope s.heap.objs.size f cd)
  N := N
  s₀ := s
  H₀ := H
  env := envOfC qual scope s.heap.objs.size f cd
  outer := outer
  stack := envOfC qual scope s.heap.objs.size f cd :: outer
  ex := []
  calm := true
  fn := fun _ => true
  pn := []
  xe := fun e s' => wpAny (model P w) (A.deeper (envOfC qual scope s.heap.objs.size f cd)) (leaving (envOfC qual scope s.heap.objs.size f cd) e) (fun _ s'' => CX outer H s E e s'') (fun e' s'' => CX outer H s E e' s'') s'

theorem cell_has {sc : Scope} {n : Nat} {x : Str} (h : sc.names.lookup x = some .cell) : ∃ c, (cellsFrom n sc.names []).lookup x = some c := by
  have q := PySem.W.cellsFrom_some sc.names n [] (.inl h)
  exact Option.isSome_iff_exists.mp q

theorem inv_start {CX : CXT} {P : Program} {w : World} {K : PySem.W.Frag} {mg : Str → Option Value} {base : Heap} {N ps : List Str} {qual : Str} {scope : Scope} {f : Addr} {cd : Value} {A : Around} {outer : List Env} {s s1 : Shared} {H : Hp} {E : XK} {us : List Value} {vs : List V}
    (S : FnScope N ps scope) (hd : A.handled = none) (e0 : Env0 P w K mg base A outer s H) (hl : vs.length = ps.length) (r : Vals vs us)
    (x : InCallC s s.heap.objs.size (bindL (envOfC qual scope s.heap.objs.size f cd).kindOf (ps.zip us) fun _ => none) (cellsFrom (s.heap.objs.size + 1) scope.names []) (bindC (envOfC qual scope s.heap.objs.size f cd).kindOf (ps.zip us) fun _ => none) s1) :
    Inv (cxOf CX P w K mg base N qual scope f cd A outer s H E) [] (start N vs) H s1 := by
  have hpl : ps.length ≤ N.length := by have := congrArg List.length S.pre; rw [List.length_take] at this; omega
  obtain ⟨h1, tk, rfl, hk⟩ := x.done
  have noA : ∀ b : Addr, b ∉ (cxOf CX P w K mg base N qual scope f cd A outer s H E).ex := fun b z => absurd (show b ∈ ([] : List Addr) from z) (by simp)
  refine ⟨⟨e0.mod, S.kind, rfl, rfl, Nat.le_refl _, fun y z c h1 h2 => ?_, fun y hy => ?_, fun y c _ h => ?_, fun _ => hd, Around.frames_deeper e0.frames, .inr ⟨rfl, rfl⟩, fun b z => absurd z (noA b), e0.bs, e0.bsz, fun b _ _ => noA b, fun b z => absurd z (noA b), e0.funs, e0.frf⟩,
    rfl, e0.bare, Un.kept hk, ⟨_, x.toInCall.ns, fun i y v h1 h2 h3 => ?_⟩, fun y c h => ⟨_, x.cell y c h⟩, e0.hok.fresh (Nat.le_refl _), fun y c h => ?_, fun p hp => absurd (show p ∈ ([] : List (Addr × Obj)) from hp) (by simp), e0.hok.kept hk, ?_⟩
  · exact name_of_addr x.apart (PySem.mem_of_lookup h1) (PySem.mem_of_lookup h2)
  · have hy : scope.names.lookup y = some .cell ∨ scope.names.lookup y = some .free := hy
    rcases hy with hy | hy
    · exact cell_has hy
    · exact absurd rfl (S.nofree _ (PySem.mem_of_lookup hy))
  · exact Nat.le_of_lt (x.above y c (PySem.mem_of_lookup h))
  · have hi : i < vs.length := by
      unfold start at h2
      by_cases hi : i < vs.length
      · exact hi
      · rw [List.getElem?_append_right (by simpa using hi)] at h2
        rw [List.getElem?_replicate] at h2
        split at h2 <;> cases h2
    have ha : vs[i]? = some v := by
      unfold start at h2
      rw [List.getElem?_append_left (by simpa using hi), List.getElem?_map] at h2
      cases e : vs[i]? with
      | none => rw [e] at h2; cases h2
      | some a => rw [e] at h2; cases h2; rfl
    obtain ⟨u, hu, rv⟩ := r.get ha
    have hp : ps[i]? = some y := by
      rw [← S.pre, List.getElem?_take_of_lt (by omega)]; exact h1
    have ndP : ps.Nodup := by rw [← S.pre]; exact S.nd.sublist (List.take_sublist _ _)
    refine ⟨u, rv, ?_⟩
    rcases S.par y (List.mem_of_getElem? hp) with k | k
    · exact .inl ⟨k, bindL_get ndP hp hu k⟩
    · obtain ⟨c, e⟩ := cell_has (n := s.heap.objs.size + 1) k
      refine .inr ⟨.inl k, c, e, ?_⟩
      have q := x.cell y c e
      rw [bindC_get ndP hp hu (by show scope.names.lookup y ≠ _; rw [k]; decide)] at q
      exact q
  · exact e0.hok.fresh (Nat.le_of_lt (x.above y c (PySem.mem_of_lookup h)))
  · unfold start
    show _ = N.length
    rw [List.length_append, List.length_map, List.length_replicate]
    omega

theorem fn_of {CX : CXT} {P : Program} {w : World} {K : PySem.W.Frag} {mg : Str → Option Value} {base : Heap} {k : Nat} {f : Addr} {name qual : Str} {params : Arguments} {body : List Stmt} {scope : Scope} {dV kV doc pm cdv ct oc : Value} {an od : Option Addr}
    {osl : Array (Option Value)} {N ps : List Str} {sp : Sp} (lk : K.lookup f = some ⟨oc, od, .func (PySem.W.fnOf name qual params body scope dV kV doc pm an cdv ct), osl⟩) (hcd : PySem.W.codeIn K cdv qual = true) (S : FnScope N ps scope)
    (len : ∀ vs H Q E, sp vs H Q E → vs.length = ps.length)
    (hbody : ∀ (A : Around) (outer : List Env) (s : Shared) (H : Hp) (vs : List V) (Q : VK) (E : XK), Room k (A.deeper (envOfC qual scope s.heap.objs.size f cdv)) → sp vs H Q E →
      ∃ t, PSs (cxOf CX P w K mg base N qual scope f cdv A outer s H E) body t ∧ t { nx := fun _ H' => Q .non H', rt := Q } (start N vs) H) :
    FnOk P w K mg base CX (k + 1) f (PySem.W.fnOf name qual params body scope dV kV doc pm an cdv ct) ps sp := by
  refine ⟨len, fun A outer s H args us vs Q E hr e0 hb r hsp => ?_⟩
  have hl := len _ _ _ _ hsp
  have KX : K.In s.heap := e0.mod.kin.keeps fun b o e => (e0.bs b o e).1
  have lim : s.heap.NoLimit := e0.mod.nolimit.keeps fun b o e => (e0.bs b o e).1
  have hkind : ∀ y ∈ ps.zip us, scope.names.lookup y.1 = some .local ∨ (scope.names.lookup y.1 = some .cell ∧ ((cellsFrom (s.heap.objs.size + 1) scope.names []).lookup y.1).isSome = true) := fun ⟨n, v⟩ hy => by
    rcases S.par n (List.of_mem_zip hy).1 with q | q
    · exact .inl q
    · exact .inr ⟨q, PySem.W.cellsFrom_some _ _ _ (.inl q)⟩
  refine codeAny_call_function hr.depth (KX _ _ lk) rfl S.co S.gen rfl (PySem.W.codeRec_of KX hcd) (hb _ _ _ _ ?_)
  refine wpAny_newFunctionEnv_cells S.kind hkind fun env he s1 x => ?_
  subst he
  refine ⟨lim.keeps x.toInCall.keep, codeAny_func ?_⟩
  obtain ⟨t, ht, hq⟩ := hbody A outer s H vs Q E (hr.deeper _) hsp
  have I : Inv (cxOf CX P w K mg base N qual scope f cdv A outer s H E) [] (start N vs) H s1 := inv_start S hr.hd e0 hl r x
  refine wpAny_mono (ht [] s1 (start N vs) H _ I hq) (fun fl s' hs => ?_) fun e s' hs => hs
  have fin : ∀ {σ' : St} {H' : Hp} {v : V} {u : Value}, Inv (cxOf CX P w K mg base N qual scope f cdv A outer s H E) [] σ' H' s' → RelV v u → Q v H' → CE outer P w H s Q u s' :=
    fun {σ' H' v u} J rv q => ⟨v, H', J.os, J.bare, J.base, J.hok, rv, q⟩
  cases fl with
  | ret u =>
    obtain ⟨v, σ', H', J, rv, q⟩ := hs
    exact fin J rv q
  | next =>
    obtain ⟨σ', H', J, q⟩ := hs
    exact fin (v := V.non) (u := Value.none) J rfl q
  | brk =>
    obtain ⟨_, _, _, q⟩ := hs
    exact False.elim q
  | cont =>
    obtain ⟨_, _, _, q⟩ := hs
    exact False.elim q
end L2

namespace L2
open PySem PySem.Spec PyProof.Rows
section
variable {X : Cx} {x : Str} {p pos : Pos} {e : Expr} {es : List Expr} {t : TA} {id T : String} {r : List V → Hp → VK → Prop}

def tCB (r : List V → Hp → VK → Prop) (t : TA) : TE := fun σ H Q => t σ H fun vs H1 => r vs H1 Q
theorem pe_callB (hc : CallR X (.builtin id) r) (hg : Gl X x) (hm : X.mg x = none) (hv : bootBuiltins x = some (.builtin id)) (ha : PA X (e :: es) t) (hn : x ≠ "__name__" := by decide) (hdb : (x == ("__debug__" : Str)) = false := by decide)
    (he : starEach (e :: es) X.env = (false, eval e X.env) :: starEach es X.env := by rfl) (hpl : (backTo pos (starEach es X.env)).any (·.1) = false := by rfl) : PE X (.Call (.Name x p) (e :: es) [] pos) (tCB r t) := by
  intro pins s σ H Q I h
  refine wpAny_Call_Name_kw (ld_blt I hg hm hv ?_ hn hdb)
  exact PyProof.Rows.callWith_builtin1 (thn (ha pos pins s σ H _ I h) fun us s1 ⟨vs, H1, I1, r1, q1⟩ => hc pins s1 σ H1 vs us Q I1 r1 q1) he hpl
theorem pe_callTy (hc : CallR X (.type T) r) (hg : Gl X x) (hm : X.mg x = none) (hv : bootBuiltins x = some (.type T)) (ha : PA X (e :: es) t) (hn : x ≠ "__name__" := by decide) (hdb : (x == ("__debug__" : Str)) = false := by decide)
    (he : starEach (e :: es) X.env = (false, eval e X.env) :: starEach es X.env := by rfl) (hpl : (backTo pos (starEach es X.env)).any (·.1) = false := by rfl) : PE X (.Call (.Name x p) (e :: es) [] pos) (tCB r t) := by
  intro pins s σ H Q I h
  refine wpAny_Call_Name_kw (ld_blt I hg hm hv ?_ hn hdb)
  exact PyProof.Rows.callWith_type1 (thn (ha pos pins s σ H _ I h) fun us s1 ⟨vs, H1, I1, r1, q1⟩ => hc pins s1 σ H1 vs us Q I1 r1 q1) he hpl
end
end L2

namespace HT
open PySem PyProof.Rows



section
open PySem.SeqAt
open PySem.AutoSeq1 (wpAny_loadPart')
open PySem.MeetsSeq PySem.MeetsSeq2 PySem.MeetsSeq3

end

section
variable {prog : Program} {w : World} {A : Around} {E : Value → Shared → Prop} {s : Shared}



def sIx (n d : Nat) : Option Int → Nat
  | none => d
  | some v => if v < 0 then (v + (n : Int)).toNat else min v.toNat n
theorem sIx_le (n d : Nat) (hd : d ≤ n) (o : Option Int) : sIx n d o ≤ n := by
  cases o with
  | none => exact hd
  | some v =>
    show (if v < 0 then (v + (n : Int)).toNat else min v.toNat n) ≤ n
    by_cases hv : v < 0
    · rw [if_pos hv]; omega
    · rw [if_neg hv]; exact Nat.min_le_right _ _
theorem clip_eq (v : Int) (n d : Nat) : (if v < 0 then max (v + (n : Int)) 0 else min v (n : Int)) = ((sIx n d (some v) : Nat) : Int) := by
  show (if v < 0 then max (v + (n : Int)) 0 else min v (n : Int)) = (((if v < 0 then (v + (n : Int)).toNat else min v.toNat n) : Nat) : Int)
  by_cases hv : v < 0
  · simp only [if_pos hv]; omega
  · simp only [if_neg hv]; omega
theorem adjust_gen (lo hi : Option Int) (n : Nat) : Builtin.Slice.sliceAdjust lo hi 1 (n : Int) = (((sIx n 0 lo : Nat) : Int), ((sIx n n hi : Nat) : Int)) := by
  have h1 : ¬ ((1 : Int) < 0) := by omega
  unfold Builtin.Slice.sliceAdjust
  simp only [h1, if_false]
  refine Prod.ext ?_ ?_
  · cases lo with
    | none => rfl
    | some v => exact clip_eq v n 0
  · cases hi with
    | none => rfl
    | some v => exact clip_eq v n n
theorem places_gen (i j : Nat) : Builtin.Slice.slicePlaces (i : Int) (j : Int) 1 = j - i := by
  unfold Builtin.Slice.slicePlaces
  have h1 : (1 : Int) > 0 := by omega
  simp only [h1, if_true, Int.ediv_one]
  split <;> omega
theorem slicePart_ {v : Value} {o : Option Int} {Q : Option Int → Shared → Prop} (p : IsPart v o) (h : Q o s) : wpAny (model prog w) A (Builtin.Slice.slicePartIndex v) Q E s := by
  cases p with
  | none => exact slicePart_none h
  | int i t => exact slicePart_int h
theorem sliceApplied_gen {sl : Addr} {vl vu : Value} {lo hi : Option Int} {n : Nat} {Q : Int × Int × Nat → Shared → Prop} (hs : s.heap.IsSliceOf sl vl vu .none) (pl : IsPart vl lo) (pu : IsPart vu hi)
    (h : Q (((sIx n 0 lo : Nat) : Int), 1, sIx n n hi - sIx n 0 lo) s) : wpAny (model prog w) A (Builtin.Slice.sliceApplied (.ref sl) (pure (n : Int))) Q E s := by
  obtain ⟨os, hos, hcs, hds⟩ := id hs
  unfold Builtin.Slice.sliceApplied Builtin.Slice.sliceFields
  refine wpAny_bind (wpAny_bind (wpAny_field hos hds (x := vl) rfl (wpAny_bind (wpAny_field hos hds (x := vu) rfl (wpAny_bind (wpAny_field hos hds (x := .none) rfl (wpAny_pure ?_)))))))
  refine wpAny_bind (slicePart_none ?_)
  show wpAny _ _ (if ((1 : Int) == 0) = true then _ else _) _ _ s
  rw [if_neg (by decide)]
  refine wpAny_bind (slicePart_ pl (wpAny_bind (slicePart_ pu (wpAny_bind (wpAny_pure ?_)))))
  show wpAny _ _ (match Builtin.Slice.sliceAdjust lo hi 1 (n : Int) with | (lo, hi) => pure (lo, (1 : Int), Builtin.Slice.slicePlaces lo hi 1)) _ _ s
  rw [adjust_gen lo hi n]
  show wpAny _ _ (pure (((sIx n 0 lo : Nat) : Int), (1 : Int), Builtin.Slice.slicePlaces ((sIx n 0 lo : Nat) : Int) ((sIx n n hi : Nat) : Int) 1)) _ _ s
  rw [places_gen]
  exact wpAny_pure h
theorem pick_gen (xs : Array Value) (i k : Nat) : ((List.range k).filterMap fun (m : Nat) => xs[((i : Int) + (m : Int) * 1).toNat]?).toArray = ((xs.toList.drop i).take k).toArray := by
  have e : (fun (m : Nat) => xs[((i : Int) + (m : Int) * 1).toNat]?) = fun m => xs[i + m]? := by
    funext m
    have : ((i : Int) + (m : Int) * 1).toNat = i + m := by omega
    rw [this]
  rw [e]
  have := pick_run xs i k
  rw [List.filterMap_map] at this
  have e2 : ((fun x => xs[x]?) ∘ fun x => i + x) = fun m => xs[i + m]? := rfl
  rw [e2] at this
  rw [this]

theorem getItem_tuple_cut {t sl : Addr} {items : Array Value} {vl vu : Value} {lo hi : Option Int} {Q : Value → Shared → Prop} (ht : IsTup s.heap t items) (hs : s.heap.IsSliceOf sl vl vu .none) (pl : IsPart vl lo) (pu : IsPart vu hi)
    (hw : ¬ (sIx items.size 0 lo = 0 ∧ sIx items.size items.size hi = items.size))
    (h : Q (.ref s.heap.objs.size) { s with heap := s.heap.push { cls := .type "tuple", data := .seq ((items.toList.drop (sIx items.size 0 lo)).take (sIx items.size items.size hi - sIx items.size 0 lo)).toArray } })
    (hsz : items.size ≤ sizeLine) : wpAny (model prog w) A (getItem (.ref t) (.ref sl)) Q E s := by
  have htake : sizeOk (.seq ((items.toList.drop (sIx items.size 0 lo)).take (sIx items.size items.size hi - sIx items.size 0 lo)).toArray) := by
    show ((items.toList.drop (sIx items.size 0 lo)).take (sIx items.size items.size hi - sIx items.size 0 lo)).toArray.size ≤ sizeLine
    rw [List.size_toArray, List.length_take, List.length_drop, Array.length_toList]
    omega
  have hj : sIx items.size items.size hi ≤ items.size := sIx_le _ _ (Nat.le_refl _) hi
  obtain ⟨os, hos, hcs, hds⟩ := id hs
  have hTs : s.TypeIs (.ref sl) "slice" := ⟨os, hos, hcs⟩
  unfold getItem
  try with_reducible refine wpAny_holding ?_
  first | refine wpAny_bind (wpAny_pure ?_) | skip
  refine wpAny_bind (wpAny_sequenceKey ht.typeIs (by decide) ?_)
  refine wpAny_bind (wpAny_callSpecial?_slot (name := Str.ofString "__getitem__") ht.typeIs PyProof.Rows.slot_tuple_getitem
    (wpAny_call_entry PyProof.Rows.slot_tuple_getitem ht.typeIs entry_tuple_getitem ?_ (args_tuple_getitem _ _)))
  show wpAny _ _ (Builtin.Tuple.tupleItemsOf (.ref t) >>= _) _ _ s
  refine wpAny_bind (tupleItemsOf_ ht ?_)
  refine wpAny_bind (wpAny_typeOf hTs ?_)
  rw [if_pos (by decide)]
  refine wpAny_bind (sliceApplied_gen hs pl pu ?_)
  have hno : ¬ ((((sIx items.size 0 lo : Nat) : Int) == 0 && (1 : Int) == 1 && (sIx items.size items.size hi - sIx items.size 0 lo) == items.size) = true) := by
    intro q
    rw [Bool.and_eq_true, Bool.and_eq_true] at q
    have q1 : ((sIx items.size 0 lo : Nat) : Int) = 0 := eq_of_beq q.1.1
    have q2 : sIx items.size items.size hi - sIx items.size 0 lo = items.size := eq_of_beq q.2
    exact hw ⟨by omega, by omega⟩
  show wpAny _ _ (if (((sIx items.size 0 lo : Nat) : Int) == 0 && (1 : Int) == 1 && (sIx items.size items.size hi - sIx items.size 0 lo) == items.size) = true then _ else _) _ _ s
  rw [if_neg hno, pick_gen]
  first
    | exact wpAny_bind (m := Builtin.Tuple.tupleExact _) (wpAny_newObj_type (wpAny_pure ⟨_, rfl, wpAny_pure h⟩) htake)
    | exact wpAny_bind (m := Builtin.Tuple.tupleExact _) (wpAny_newObj_type (wpAny_bind (wpAny_pure (wpAny_pure ⟨_, rfl, wpAny_pure h⟩))) htake)
    | exact wpAny_bind (wpAny_bind (m := Builtin.Tuple.tupleExact _) (wpAny_newObj_type (wpAny_pure (wpAny_pure ⟨_, rfl, wpAny_pure h⟩)) htake))
    | exact wpAny_bind (wpAny_bind (m := Builtin.Tuple.tupleExact _) (wpAny_newObj_type (wpAny_pure ⟨_, rfl, wpAny_pure h⟩) htake))
end
end HT

namespace L2
open PySem PySem.Spec PyProof.Rows

abbrev TO := St → Hp → (Option Int → Hp → Prop) → Prop
def PO (X : Cx) (e : Option Expr) (t : TO) : Prop :=
  ∀ (pins : List (Addr × Obj)) (s : Shared) (σ : St) (H : Hp) (Q : Option Int → Hp → Prop), Inv X pins σ H s → t σ H Q →
    wpAny (model X.prog X.w) X.A (evalPart e X.env) (fun u s' => ∃ o H', Inv X pins σ H' s' ∧ IsPart u o ∧ Q o H') X.xe s
def tNoPart : TO := fun _ H Q => Q none H
def tPart (t : TE) : TO := fun σ H Q => t σ H fun x H1 => ∃ i, x = .int i ∧ Q (some i) H1


section
variable {X : Cx} {e : Expr} {te : TE} {lo hi : Option Expr} {tl th : TO} {pos p2 : Pos}

theorem po_none : PO X none tNoPart := by
  intro pins s σ H Q I h
  rw [evalPart_none]
  exact wpAny_pure ⟨none, H, I, .none, h⟩
theorem po_some (h : PE X e te) : PO X (some e) (tPart te) := by
  intro pins s σ H Q I hw
  rw [evalPart_some]
  refine thn (h pins s σ H _ I hw) fun u s1 ⟨x, H1, I1, r1, q1⟩ => ?_
  obtain ⟨i, rfl, q⟩ := q1
  obtain ⟨t, rfl⟩ := r1
  exact ⟨some i, H1, I1, .int i t, q⟩

def SlR (X : Cx) (r : V → Option Int → Option Int → Hp → VK → Prop) : Prop :=
  ∀ (pins : List (Addr × Obj)) (s : Shared) (σ : St) (H : Hp) (x : V) (v vl vu : Value) (lo hi : Option Int) (sl : Addr) (Q : VK), Inv X pins σ H s → RelV x v → s.heap.IsSliceOf sl vl vu .none → IsPart vl lo → IsPart vu hi → r x lo hi H Q →
    ∃ T id, typeLookup (.type T) "__getitem__" = pure (some (.builtin id)) ∧ s.TypeIs v T ∧ wpAny (model X.prog X.w) X.A (getItem v (.ref sl)) (EP X pins σ Q) X.xe s
def tSl (r : V → Option Int → Option Int → Hp → VK → Prop) (te : TE) (tl th : TO) : TE := fun σ H Q => te σ H fun x H1 => tl σ H1 fun l H2 => th σ H2 fun u H3 => r x l u H3 Q
theorem pe_slice {r : V → Option Int → Option Int → Hp → VK → Prop} (hr : SlR X r) (he : PE X e te) (hl : PO X lo tl) (hu : PO X hi th) : PE X (.Subscript e (.Slice lo hi none p2) pos) (tSl r te tl th) := by
  intro pins s σ H Q I h
  refine Subscript_ (thn (he pins s σ H _ I h) fun v s1 ⟨x, H1, I1, r1, q1⟩ => ?_)
  refine wpAny_Slice (thn (hl pins s1 σ H1 _ I1 q1) fun vl s2 ⟨l, H2, I2, pl, q2⟩ => thn (hu pins s2 σ H2 _ I2 q2) fun vu s3 ⟨u, H3, I3, pu, q3⟩ => ?_)
  rw [evalPart_none]
  refine wpAny_pure ?_
  have I4 : Inv X pins σ H3 { s3 with heap := s3.heap.push { cls := .type "slice", data := .fields #[vl, vu, .none] } } := I3.kept (t' := s3.toks) fun b ob q => Heap.get?_push_of_some _ q
  obtain ⟨T, id, hT, ht, hg⟩ := hr pins { s3 with heap := s3.heap.push { cls := .type "slice", data := .fields #[vl, vu, .none] } } σ H3 x v vl vu l u s3.heap.objs.size Q I4 r1 (Heap.IsSliceOf.new ..) pl pu q3
  show wpAny (model X.prog X.w) X.A (subscriptTail e (.Slice lo hi none p2) v (.ref s3.heap.objs.size)) (EP X pins σ Q) X.xe { s3 with heap := s3.heap.push { cls := .type "slice", data := .fields #[vl, vu, .none] } }
  exact tail_any (ops := [.ref s3.heap.objs.size, v]) ht hT hg (by with_unfolding_all rfl)

def cutV (xs : List V) (lo hi : Option Int) : List V := (xs.drop (HT.sIx xs.length 0 lo)).take (HT.sIx xs.length xs.length hi - HT.sIx xs.length 0 lo)
theorem cutV_length (xs : List V) (lo hi : Option Int) : (cutV xs lo hi).length ≤ xs.length := by
  unfold cutV
  rw [List.length_take, List.length_drop]
  omega
def rSlT (K : PySem.W.Frag) : V → Option Int → Option Int → Hp → VK → Prop := fun x lo hi H Q => ∃ a xs, x = .ref a ∧ SqT K H a xs ∧
  ¬ (HT.sIx xs.length 0 lo = 0 ∧ HT.sIx xs.length xs.length hi = xs.length) ∧ ∀ p, H p = none → Q (.ref p) (upd H p (.tup (cutV xs lo hi)))
theorem sl_tup : SlR X (rSlT X.K) := by
  intro pins s σ H x v vl vu lo hi sl Q I rx hs pl pu h
  obtain ⟨a, xs, rfl, hx, hw, q⟩ := h
  cases rx
  obtain ⟨its, r, ht, hz⟩ := I.tuple hx
  have hlen : its.toArray.size = xs.length := by rw [List.size_toArray]; exact r.length.symm
  refine ⟨"tuple", _, PyProof.Rows.slot_tuple_getitem.lookup, ht.typeIs, ?_⟩
  refine HT.getItem_tuple_cut ht hs pl pu (by rw [hlen]; exact hw) ?_ (by rw [hlen]; exact hz)
  rw [hlen]
  refine ⟨.ref s.heap.objs.size, _, I.laid (t' := s.toks) (o := .tup (cutV xs lo hi)) (fun b ob q => Heap.get?_push_of_some _ q) (Nat.le_refl _) ?_, rfl, q _ (I.hok.fresh (Nat.le_refl _))⟩
  exact ⟨Nat.le_trans (cutV_length xs lo hi) hz, _, (r.drop (HT.sIx xs.length 0 lo)).take (HT.sIx xs.length xs.length hi - HT.sIx xs.length 0 lo), IsTup.new _ _⟩

end
end L2

namespace L2
open PySem PySem.Spec PyProof.Rows

def ixN (n : Nat) (i : Int) : Option Nat := if 0 ≤ i then (if i < n then some i.toNat else none) else if -(n : Int) ≤ i then some (i + n).toNat else none
def atI {α : Type} (xs : List α) (i : Int) : Option α := (ixN xs.length i).bind fun j => xs[j]?
theorem ixN_seq {n : Nat} {i : Int} {j : Nat} (h : ixN n i = some j) : seqIndex? i n = some j ∧ j < n ∧ -(n : Int) ≤ i ∧ i < n := by
  unfold ixN at h
  by_cases h0 : 0 ≤ i
  · rw [if_pos h0] at h
    by_cases h1 : i < n
    · rw [if_pos h1] at h
      have e : i.toNat = j := Option.some.inj h
      exact ⟨by rw [seqIndex_of h0 h1, e], by omega, by omega, h1⟩
    · rw [if_neg h1] at h; cases h
  · rw [if_neg h0] at h
    by_cases h1 : -(n : Int) ≤ i
    · rw [if_pos h1] at h
      have e : (i + n).toNat = j := Option.some.inj h
      exact ⟨by rw [seqIndex_neg (by omega) h1, e], by omega, h1, by omega⟩
    · rw [if_neg h1] at h; cases h
theorem atI_get {α : Type} {xs : List α} {i : Int} {v : α} (h : atI xs i = some v) : ∃ j, seqIndex? i xs.length = some j ∧ xs[j]? = some v ∧ j < xs.length ∧ -(xs.length : Int) ≤ i ∧ i < xs.length := by
  unfold atI at h
  cases e : ixN xs.length i with
  | none => rw [e] at h; cases h
  | some j =>
    rw [e] at h
    obtain ⟨h1, h2, h3, h4⟩ := ixN_seq e
    exact ⟨j, h1, h, h2, h3, h4⟩
theorem atI_nat {α : Type} {xs : List α} {j : Nat} {v : α} (h : xs[j]? = some v) : atI xs (j : Int) = some v := by
  have hj : j < xs.length := (List.getElem?_eq_some_iff.mp h).1
  have e : ixN xs.length (j : Int) = some j := by
    unfold ixN
    rw [if_pos (by omega), if_pos (by omega)]; simp
  unfold atI; rw [e]; exact h

def PlainIx (b : Expr) : Prop := ∀ o i, subscripted b false o i = operate [o, i] (getItem o i)
def IxR (X : Cx) (r : R2) : Prop :=
  ∀ (value slice : Expr) (pins : List (Addr × Obj)) (s : Shared) (σ : St) (H : Hp) (x y : V) (v u : Value) (Q : VK), Inv X pins σ H s → RelV x v → RelV y u → r x y H Q →
    subscripted slice false v u = operate [v, u] (getItem v u) → wpAny (model X.prog X.w) X.A (subscriptTail value slice v u) (EP X pins σ Q) X.xe s
def MtR (X : Cx) (id : String) (r : V → List V → Hp → VK → Prop) : Prop :=
  ∀ (pins : List (Addr × Obj)) (s : Shared) (σ : St) (H : Hp) (x : V) (xs : List V) (v : Value) (us : List Value) (Q : VK), Inv X pins σ H s → RelV x v → Vals xs us → r x xs H Q →
    wpAny (model X.prog X.w) X.A (call (.builtin id) (v :: us)) (EP X pins σ Q) X.xe s
section
variable {X : Cx} {a b : Expr} {ta tb : TE} {pos : Pos}
theorem pe_ix {r : R2} (hr : IxR X r) (ha : PE X a ta) (hb : PE X b tb) (hs : PlainIx b) : PE X (.Subscript a b pos) (tOp r ta tb) := by
  intro pins s σ H Q I h
  exact Subscript_ (binT ha hb I h fun v u s2 x y H2 I2 rx ry q => hr a b pins s2 σ H2 x y v u Q I2 rx ry q (hs _ _))

def rIxL (K : PySem.W.Frag) : R2 := fun x y H Q => ∃ p xs i v, x = .ref p ∧ y = .int i ∧ SqL K H p xs ∧ atI xs i = some v ∧ Q v H
def rIxT (K : PySem.W.Frag) : R2 := fun x y H Q => ∃ p xs i v, x = .ref p ∧ y = .int i ∧ SqT K H p xs ∧ atI xs i = some v ∧ Q v H
theorem ix_list : IxR X (rIxL X.K) := by
  intro value slice pins s σ H x y v u Q I rx ry h hs
  obtain ⟨p, xs, i, z, rfl, rfl, hq, he, q⟩ := h
  cases rx
  obtain ⟨t, rfl⟩ := ry
  obtain ⟨its, r, pl, hz⟩ := I.list hq
  obtain ⟨j, h1, h2, h3, h4, h5⟩ := atI_get he
  obtain ⟨w, ew, rw'⟩ := r.get h2
  have hl := r.length
  have hn := line63
  have fin : EP X pins σ Q w s := ⟨z, H, I, rw', q⟩
  by_cases h0 : 0 ≤ i
  · have hj : i.toNat = j := by
      rw [seqIndex_of h0 h5] at h1
      exact Option.some.inj h1
    exact item_listR pl.isList h0 (by omega) (by rw [hj]; simpa using ew) fin hs
  · have hj : (i + (its.toArray.size : Int)).toNat = j := by
      rw [seqIndex_neg (by omega) h4] at h1
      rw [List.size_toArray, ← hl]
      exact Option.some.inj h1
    exact subscriptTail_builtinR (x := w) pl.isList.typeIs slot_list_getitem.lookup
      (wpAny_getItem_list_neg (Q := fun r s' => r = w ∧ EP X pins σ Q r s') pl.isList (by omega) (by rw [List.size_toArray] <;> omega) (by omega) (by rw [hj]; simpa using ew) ⟨rfl, fin⟩) hs
theorem ix_tup : IxR X (rIxT X.K) := by
  intro value slice pins s σ H x y v u Q I rx ry h hs
  obtain ⟨p, xs, i, z, rfl, rfl, hq, he, q⟩ := h
  cases rx
  obtain ⟨t, rfl⟩ := ry
  obtain ⟨its, r, pl, hz⟩ := I.tuple hq
  obtain ⟨j, h1, h2, h3, h4, h5⟩ := atI_get he
  obtain ⟨w, ew, rw'⟩ := r.get h2
  have hl := r.length
  have hn := line63
  have fin : EP X pins σ Q w s := ⟨z, H, I, rw', q⟩
  exact subscriptTail_builtinR (x := w) pl.typeIs slot_tuple_getitem.lookup
    (getItem_tuple (j := j) (Q := fun r s' => r = w ∧ EP X pins σ Q r s') pl (by omega) (by omega) (by rw [List.size_toArray, ← hl]; exact h1) (by simpa using ew) ⟨rfl, fin⟩) hs

theorem mapSeq_set (its : List Value) (n j : Nat) (u : Value) : Obj.mapSeq (·.setIfInBounds j u) { cls := .type "list", data := .seq its.toArray n } = { cls := .type "list", data := .seq (its.set j u).toArray n } := by
  simp [Obj.mapSeq]
theorem Inv.lst {pins : List (Addr × Obj)} {σ : St} {H : Hp} {s : Shared} {p : Addr} {xs : List V} (I : Inv X pins σ H s) (h : H p = some (.lst xs)) :
    ∃ (its : List Value) (n : Nat), Vals xs its ∧ s.heap.get? p = some { cls := .type "list", data := .seq its.toArray n } ∧ xs.length ≤ sizeLine := by
  obtain ⟨z, its, n, r, e⟩ := I.hok p _ h
  exact ⟨its, n, r, e, z⟩
theorem Inv.lstUpd {pins : List (Addr × Obj)} {σ : St} {H : Hp} {s : Shared} {p : Addr} {xs ys : List V} {its its' : List Value} {n n' : Nat} {f : Obj → Obj} (I : Inv X pins σ H s) (h : H p = some (.lst xs))
    (ho : s.heap.get? p = some { cls := .type "list", data := .seq its.toArray n }) (hf : f { cls := .type "list", data := .seq its.toArray n } = { cls := .type "list", data := .seq its'.toArray n' }) (r : Vals ys its') (hz : ys.length ≤ sizeLine) (t : Nat) :
    Inv X pins σ (upd H p (.lst ys)) { s with heap := s.heap.update p f, toks := t } := by
  have e : (s.heap.update p f).get? p = some { cls := .type "list", data := .seq its'.toArray n' } := by
    rw [Heap.get?_update_self f ho (by rw [hf] <;> rfl), hf]
  refine I.write (x := p) (e := p) (by rw [h]; trivial) (.inl rfl) (fun b u hb q => (Heap.get?_update_other _ _ (Ne.symm hb)).trans q) ⟨_, e⟩ ?_
  exact ⟨hz, its', n', r, e⟩
def rSetL : V → V → V → Hp → (Hp → Prop) → Prop := fun o i v H Q => ∃ p xs k j, o = .ref p ∧ i = .int k ∧ H p = some (.lst xs) ∧ ixN xs.length k = some j ∧ Q (upd H p (.lst (xs.set j v)))
theorem set_list : PSet X rSetL := by
  intro pins s σ H o i v ov iv u Q I ro ri rv h
  obtain ⟨p, xs, k, j, rfl, rfl, hp, hj, q⟩ := h
  cases ro
  obtain ⟨t, rfl⟩ := ri
  obtain ⟨its, n, r, ho, hz⟩ := I.lst hp
  obtain ⟨h1, h2, h3, h4⟩ := ixN_seq hj
  have hl := r.length
  have hn := line63
  have I' : Inv X pins σ (upd H p (.lst (xs.set j v))) { s with heap := s.heap.update p (Obj.mapSeq (·.setIfInBounds j u)) } :=
    I.lstUpd hp ho (mapSeq_set its n j u) (r.set rv j) (by rw [List.length_set]; exact hz) s.toks
  by_cases h0 : 0 ≤ k
  · have hk : k.toNat = j := by
      rw [seqIndex_of h0 h4] at h1
      exact Option.some.inj h1
    exact PySem.W.ki_setAt ho h0 (by omega) (by rw [List.size_toArray, ← hl]; exact h4) (by rw [hk]; exact ⟨_, I', q⟩)
  · have hk : (k + (its.toArray.size : Int)).toNat = j := by
      rw [seqIndex_neg (by omega) h3] at h1
      rw [List.size_toArray, ← hl]
      exact Option.some.inj h1
    exact PySem.W.ki_setBack ho (by omega) (by rw [List.size_toArray, ← hl]; exact h3) (by omega) (by rw [hk]; exact ⟨_, I', q⟩)

theorem slice_bounds (lo hi : Option Int) (n : Nat) : (sliceBounds lo hi none n).1 = ((HT.sIx n 0 lo : Nat) : Int) ∧ (sliceBounds lo hi none n).2.1 = ((HT.sIx n n hi : Nat) : Int) ∧ (sliceBounds lo hi none n).2.2 = 1 := by
  refine ⟨?_, ?_, rfl⟩
  · cases lo with
    | none => simp [sliceBounds, HT.sIx]
    | some i =>
      simp only [sliceBounds, HT.sIx, Option.getD_none, show (1 : Int) > 0 by decide, if_true]
      by_cases h : i < 0
      · simp only [h, if_true] <;> omega
      · simp only [h, if_false] <;> omega
  · cases hi with
    | none => simp [sliceBounds, HT.sIx]
    | some i =>
      simp only [sliceBounds, HT.sIx, Option.getD_none, show (1 : Int) > 0 by decide, if_true]
      by_cases h : i < 0
      · simp only [h, if_true] <;> omega
      · simp only [h, if_false] <;> omega
theorem slicePick_cut (its : List Value) (lo hi : Option Int) : slicePick its.toArray lo hi none = ((its.drop (HT.sIx its.length 0 lo)).take (HT.sIx its.length its.length hi - HT.sIx its.length 0 lo)).toArray := by
  obtain ⟨h1, h2, h3⟩ := slice_bounds lo hi its.toArray.size
  unfold slicePick
  rw [h1, h2, h3]
  simp only [sliceRange_one, pick_run, List.size_toArray] <;> rfl
def rSlL (K : PySem.W.Frag) : V → Option Int → Option Int → Hp → VK → Prop := fun x lo hi H Q => ∃ a xs, x = .ref a ∧ SqL K H a xs ∧ ∀ p, H p = none → Q (.ref p) (upd H p (.lst (cutV xs lo hi)))
theorem sl_list : SlR X (rSlL X.K) := by
  intro pins s σ H x v vl vu lo hi sl Q I rx hs pl pu h
  obtain ⟨a, xs, rfl, hx, q⟩ := h
  cases rx
  obtain ⟨its, r, ht, hz⟩ := I.list hx
  have hlen := r.length
  refine ⟨"list", _, slot_list_getitem.lookup, ht.isList.typeIs, ?_⟩
  refine wpAny_getItem_list_slice ht.isList hs pl pu .none (by simp) ?_ (by rw [List.size_toArray] <;> omega)
  rw [slicePick_cut, ← hlen]
  refine ⟨.ref s.heap.objs.size, _, I.laid (t' := s.toks) (o := .lst (cutV xs lo hi)) (fun b ob q => Heap.get?_push_of_some _ q) (Nat.le_refl _) ?_, rfl, q _ (I.hok.fresh (Nat.le_refl _))⟩
  exact ⟨Nat.le_trans (cutV_length xs lo hi) hz, _, 0, (r.drop (HT.sIx xs.length 0 lo)).take (HT.sIx xs.length xs.length hi - HT.sIx xs.length 0 lo), Heap.get?_push_size _ rfl⟩

def flatV : V → Bool
  | .non => true
  | .bl _ => true
  | .int _ => true
  | .str _ => true
  | _ => false
def eqV : V → V → Bool
  | .non, .non => true
  | .bl a, .bl b => a == b
  | .bl a, .int b => (if a then 1 else 0) == b
  | .int a, .bl b => a == (if b then 1 else 0)
  | .int a, .int b => a == b
  | .str a, .str b => a == b
  | _, _ => false
theorem eqAt_V {A : Around} {s : Shared} {y x : V} {u v : Value} (ry : RelV y u) (rx : RelV x v) (fy : flatV y = true) (fx : flatV x = true) : SeqAt.EqAt A s u v (eqV y x) := by
  cases y with
  | non =>
    cases ry
    cases x with
    | non => cases rx; exact SeqAt.EqAt.same _
    | bl b => cases rx; exact SeqAt.EqAt.none_bool b
    | int b => obtain ⟨t, rfl⟩ := rx; exact SeqAt.EqAt.none_int b t
    | str b => obtain ⟨t, rfl⟩ := rx; exact SeqAt.EqAt.none_str b t
    | _ => exact absurd (show false = true from fx) Bool.false_ne_true
  | bl a =>
    cases ry
    cases x with
    | non => cases rx; exact SeqAt.EqAt.bool_none a
    | bl b => cases rx; exact SeqAt.EqAt.bool_bool a b
    | int b => obtain ⟨t, rfl⟩ := rx; exact SeqAt.EqAt.bool_int a b t
    | str b => obtain ⟨t, rfl⟩ := rx; exact SeqAt.EqAt.bool_str a b t
    | _ => exact absurd (show false = true from fx) Bool.false_ne_true
  | int a =>
    obtain ⟨t', rfl⟩ := ry
    cases x with
    | non => cases rx; exact SeqAt.EqAt.int_none a t'
    | bl b => cases rx; exact SeqAt.EqAt.int_bool a t' b
    | int b => obtain ⟨t, rfl⟩ := rx; exact SeqAt.EqAt.int_int a t' b t
    | str b => obtain ⟨t, rfl⟩ := rx; exact SeqAt.EqAt.int_str a t' b t
    | _ => exact absurd (show false = true from fx) Bool.false_ne_true
  | str a =>
    obtain ⟨t', rfl⟩ := ry
    cases x with
    | non => cases rx; exact SeqAt.EqAt.str_none a t'
    | bl b => cases rx; exact SeqAt.EqAt.str_bool a t' b
    | int b => obtain ⟨t, rfl⟩ := rx; exact SeqAt.EqAt.str_int a t' b t
    | str b => obtain ⟨t, rfl⟩ := rx; exact SeqAt.EqAt.str_str a t' b t
    | _ => exact absurd (show false = true from fx) Bool.false_ne_true
  | _ => exact absurd (show false = true from fy) Bool.false_ne_true
def eqU (x : V) (u : Value) : Bool := match u with
  | .none => eqV .non x
  | .bool b => eqV (.bl b) x
  | .int i _ => eqV (.int i) x
  | .str z _ => eqV (.str z) x
  | _ => false
theorem eqU_of {x y : V} {u : Value} (r : RelV y u) (f : flatV y = true) : eqU x u = eqV y x := by
  cases y with
  | non => cases r; rfl
  | bl b => cases r; rfl
  | int i => obtain ⟨t, rfl⟩ := r; rfl
  | str z => obtain ⟨t, rfl⟩ := r; rfl
  | _ => exact absurd (show false = true from f) Bool.false_ne_true
theorem any_eqU {x : V} : ∀ {xs : List V} {us : List Value}, Vals xs us → xs.all flatV = true → us.any (eqU x) = xs.any fun y => eqV y x
  | _, _, .nil, _ => rfl
  | y :: xs, u :: us, .cons r t, f => by
    rw [List.all_cons, Bool.and_eq_true] at f
    rw [List.any_cons, List.any_cons, eqU_of r f.1, any_eqU t f.2]
theorem mem_eqAt {A : Around} {s : Shared} {x : V} {v : Value} (rx : RelV x v) (fx : flatV x = true) : ∀ {xs : List V} {us : List Value}, Vals xs us → xs.all flatV = true → ∀ u ∈ us, SeqAt.EqAt A s u v (eqU x u)
  | _, _, .nil, _ => fun u hu => by cases hu
  | y :: xs, u :: us, .cons r t, f => fun u' hu => by
    rw [List.all_cons, Bool.and_eq_true] at f
    rcases List.mem_cons.mp hu with rfl | hu
    · rw [eqU_of r f.1]; exact eqAt_V r rx f.1 fx
    · exact mem_eqAt rx fx t f.2 u' hu
def inV (x : V) (xs : List V) : Bool := xs.any fun y => eqV y x
def rIn (K : PySem.W.Frag) (neg : Bool) : R2 := fun x y H Q => ∃ p xs, y = .ref p ∧ (SqL K H p xs ∨ SqT K H p xs) ∧ flatV x = true ∧ xs.all flatV = true ∧ Q (.bl (if neg then !inV x xs else inV x xs)) H
theorem op_in_seq : OpR X (compareOp .In) (rIn X.K false) := by
  intro pins s σ H x y v u Q I rx ry h
  obtain ⟨p, xs, rfl, hq, fx, fs, q⟩ := h
  cases ry
  rcases hq with hq | hq
  · obtain ⟨its, r, pl, hz⟩ := I.list hq
    refine SeqAt.in_listAt (eqU x) pl.isList (fun w hw => mem_eqAt rx fx r fs w (by simpa using hw)) ⟨.bl _, H, I, rfl, ?_⟩
    rw [show its.toArray.any (eqU x) = its.any (eqU x) by simp, any_eqU r fs]
    exact q
  · obtain ⟨its, r, pl, hz⟩ := I.tuple hq
    refine SeqAt.in_tupleAt (eqU x) pl (fun w hw => mem_eqAt rx fx r fs w (by simpa using hw)) ⟨.bl _, H, I, rfl, ?_⟩
    rw [show its.toArray.any (eqU x) = its.any (eqU x) by simp, any_eqU r fs]
    exact q

theorem call_len_seq : CallR X (.builtin "len") (fun xs H Q => ∃ p ys, xs = [.ref p] ∧ (SqL X.K H p ys ∨ SqT X.K H p ys) ∧ Q (.int ys.length) H) := by
  intro pins s σ H xs us Q I r h
  obtain ⟨p, ys, rfl, hq, q⟩ := h
  obtain ⟨u, rfl, rx⟩ := vals1 r
  cases rx
  have hn := line63
  rcases hq with hq | hq
  · obtain ⟨its, r', pl, hz⟩ := I.list hq
    have hlen := r'.length
    exact Calls.call_len_list pl.isList (by simp only [List.size_toArray] <;> omega) ⟨.int ys.length, H, I.tok _, ⟨s.toks + 1, by rw [List.size_toArray, hlen]⟩, q⟩
  · obtain ⟨its, r', pl, hz⟩ := I.tuple hq
    have hlen := r'.length
    exact len_tuple pl (by simp only [List.size_toArray] <;> omega) ⟨.int ys.length, H, I.tok _, ⟨s.toks + 1, by rw [List.size_toArray, hlen]⟩, q⟩

def tyV (K : PySem.W.Frag) (T : String) (x : V) (H : Hp) : Prop := match x with
  | .str _ => T = "str"
  | .int _ => T = "int"
  | .ref p => (T = "list" ∧ ∃ xs, SqL K H p xs) ∨ (T = "tuple" ∧ ∃ o, K.lookup p = some o ∧ o.cls = .type "tuple" ∧ o.dict = none) ∨
      (T = "dict" ∧ ((∃ kvs, H p = some (.dK kvs)) ∨ ∃ kvs, H p = some (.dT kvs))) ∨ (T = "set" ∧ ∃ S n, H p = some (.set S n))
  | _ => False
theorem tyV_is {pins : List (Addr × Obj)} {σ : St} {H : Hp} {s : Shared} {T : String} {x : V} {v : Value} (I : Inv X pins σ H s) (r : RelV x v) (ty : tyV X.K T x H) :
    s.TypeIs v T ∧ ∀ a, v = .ref a → ∃ ob, s.heap.get? a = some ob ∧ ob.dict = none := by
  cases x with
  | str z =>
    obtain ⟨t, rfl⟩ := r
    cases (show T = "str" from ty)
    exact ⟨typeIs_str s z t, fun _ e => nomatch e⟩
  | int i =>
    obtain ⟨t, rfl⟩ := r
    cases (show T = "int" from ty)
    exact ⟨typeIs_int s i t, fun _ e => nomatch e⟩
  | ref p =>
    cases r
    rcases ty with ⟨rfl, xs, hq⟩ | ⟨rfl, o, hk, hc, hd⟩ | ⟨rfl, hk⟩ | ⟨rfl, S, n, hk⟩
    · obtain ⟨its, _, pl, _⟩ := I.list hq
      refine ⟨pl.isList.typeIs, fun a e => ?_⟩
      cases e
      obtain ⟨o, n, e, c, hd, _⟩ := pl
      exact ⟨o, e, hd⟩
    · refine ⟨⟨o, I.kIn p o hk, hc⟩, fun a e => ?_⟩
      cases e
      exact ⟨o, I.kIn _ o hk, hd⟩
    · have z : ∃ o, s.heap.get? p = some o ∧ o.ExactDict := by
        rcases hk with ⟨kvs, hk⟩ | ⟨kvs, hk⟩
        · obtain ⟨_, _, _, _, o, _, _, e, ex, _⟩ := I.hok p _ hk
          exact ⟨o, e, ex⟩
        · obtain ⟨_, _, _, _, o, _, _, e, ex, _⟩ := I.hok p _ hk
          exact ⟨o, e, ex⟩
      obtain ⟨o, e, ex⟩ := z
      refine ⟨⟨o, e, ex.1⟩, fun a e2 => ?_⟩
      cases e2
      exact ⟨o, e, ex.2.1⟩
    · obtain ⟨o, _, _, _, e, ex, _⟩ := I.hok p _ hk
      refine ⟨⟨o, e, ex.1⟩, fun a e2 => ?_⟩
      cases e2
      exact ⟨o, e, ex.2.1⟩
  | _ => exact False.elim ty
def tBM (K : PySem.W.Frag) (T : String) (r : V → List V → Hp → VK → Prop) (to : TE) (t : TA) : TE := fun σ H Q => to σ H fun x H1 => tyV K T x H1 ∧ t σ H1 fun xs H2 => r x xs H2 Q
variable {o e : Expr} {es : List Expr} {to : TE} {t : TA} {name : Str} {apos cpos : Pos} {T id : String} {r : V → List V → Hp → VK → Prop}
theorem pe_bm (pa : PlainAttrs T) (slot : Slot T name id) (hty : typeOf (.builtin id) = pure (.type "method_descriptor")) (hm : MtR X id r) (ho : PE X o to) (ha : PA X (e :: es) t)
    (hbase : attributeBase o name X.env (eval o X.env) = eval o X.env := by rfl)
    (hfew : ((backTo cpos (starEach (e :: es) X.env)).all (fun x => !x.1) && (backToKw cpos (keywordEach [] X.env)).all (fun x => x.1.isSome)
      && decide ((e :: es).length + ([] : List Keyword).length + (if ([] : List Keyword).isEmpty then 0 else 1) < 30)) = true := by rfl)
    (hline : (apos.endLine == cpos.line) = true := by rfl) (hs : starEach (e :: es) X.env = (false, eval e X.env) :: starEach es X.env := by rfl) (hplain : (backTo cpos (starEach es X.env)).any (·.1) = false := by rfl) :
    PE X (.Call (.Attribute o name apos) (e :: es) [] cpos) (tBM X.K T r to t) := by
  intro pins s σ H Q I h
  refine wpAny_Call_method_late hbase hfew hline rfl (thn (ho pins s σ H _ I h) fun v s1 ⟨x, H1, I1, r1, ty, q1⟩ => ?_)
  obtain ⟨h1, h2⟩ := tyV_is I1 r1 ty
  refine ⟨T, id, pa, slot, hty, h1, h2, ?_⟩
  have hA := ha cpos pins s1 σ H1 _ I1 q1
  rw [hs] at hA ⊢
  refine Calls.callWith_builtin (by show (false || (backTo cpos (starEach es X.env)).any (·.1)) = false; rw [hplain] <;> rfl) (Calls.evalArgs_plain ?_)
  exact thn hA fun us s2 ⟨vs, H2, I2, r2, q2⟩ => hm pins s2 σ H2 x vs v us Q I2 r1 r2 q2
/- xs.append(e), list.index on a module's tuple .. are MtR facts of 06m -/
end
end L2

namespace L2
open PySem PySem.Spec PyProof.Rows

def MtM (X : Cx) (id : String) (r : V → List V → Hp → VK → Prop) : Prop :=
  ∀ (pins : List (Addr × Obj)) (s : Shared) (σ : St) (H : Hp) (x : V) (xs : List V) (v : Value) (us : List Value) (Q : VK), Inv X pins σ H s → RelV x v → Vals xs us → r x xs H Q →
    wpAny (model X.prog X.w) X.A (call (.builtin id) (v :: us)) (EP X pins σ Q) X.xe s

theorem Vals.one : ∀ {x : V} {us : List Value}, Vals [x] us → ∃ u, us = [u] ∧ RelV x u
  | _, _, .cons r .nil => ⟨_, rfl, r⟩

section
variable {X : Cx} {pins : List (Addr × Obj)} {σ : St} {H : Hp} {s : Shared} {l b : Addr} {xs ys zs : List V}

theorem Inv.lset {its its' : List Value} {n : Nat} {f : Array Value → Array Value} {t' : Nat} (I : Inv X pins σ H s) (hH : H l = some (.lst xs))
    (e : s.heap.get? l = some { cls := .type "list", data := .seq its.toArray n }) (hf : f its.toArray = its'.toArray) (hv : Vals ys its') (hz : ys.length ≤ sizeLine) :
    Inv X pins σ (upd H l (.lst ys)) { s with heap := s.heap.update l (Obj.mapSeq f), toks := t' } := by
  have q := PySem.IsL.update e f
  rw [hf] at q
  refine I.write (x := l) (e := l) (by rw [hH]; exact trivial) (.inl rfl) (fun b' u hb hu => (Heap.get?_update_other s.heap (Obj.mapSeq f) (Ne.symm hb)).trans hu) ⟨_, q⟩ ?_
  exact ⟨hz, its', _, hv, q⟩
theorem Inv.lnew {its : List Value} {t' : Nat} (I : Inv X pins σ H s) (hv : Vals ys its) (hz : ys.length ≤ sizeLine) :
    Inv X pins σ (upd H s.heap.objs.size (.lst ys)) { s with heap := s.heap.push { cls := .type "list", data := .seq its.toArray }, toks := t' } :=
  I.laid (fun _ _ q => Heap.get?_push_of_some _ q) (Nat.le_refl _) ⟨hz, its, 0, hv, Heap.get?_push_size _ rfl⟩
theorem Inv.fresh (I : Inv X pins σ H s) : H s.heap.objs.size = none := I.hok.fresh (Nat.le_refl _)
theorem Inv.lstM (I : Inv X pins σ H s) (hH : H l = some (.lst xs)) : xs.length ≤ sizeLine ∧ ∃ (its : List Value) (n : Nat), Vals xs its ∧ xs.length = its.length ∧ s.heap.get? l = some { cls := .type "list", data := .seq its.toArray n } := by
  obtain ⟨z, its, n, r, e⟩ := I.hok l _ hH
  exact ⟨z, its, n, r, r.length, e⟩

theorem notLongL {n : Nat} (h : n ≤ sizeLine) : Builtin.List.listTooLong n = false := by
  unfold Builtin.List.listTooLong
  exact decide_eq_false (by omega)
end

section
variable {X : Cx}

def rAppend : V → List V → Hp → VK → Prop := fun x vs H Q => ∃ l xs y, x = .ref l ∧ vs = [y] ∧ H l = some (.lst xs) ∧ xs.length < sizeLine ∧ Q .non (upd H l (.lst (xs ++ [y])))
theorem mt_append : MtM X "list.append" rAppend := by
  intro pins s σ H x vs v us Q I rx rv h
  obtain ⟨l, xs, y, rfl, rfl, hH, hz, q⟩ := h
  cases rx
  obtain ⟨u, rfl, ru⟩ := rv.one
  obtain ⟨z, its, n, r, hl, e⟩ := I.lstM hH
  refine call_meets F.slot_list_append ⟨_, e, rfl⟩ F.entry_list_append (F.args_list_append_2 _ _) (PySem.list_append l its.toArray n u (by rw [List.size_toArray]; omega)) ⟨e, ?_⟩
  refine ⟨.non, _, I.lset (its' := its ++ [u]) hH e (by simp) (r.append (.cons ru .nil)) ?_, rfl, q⟩
  rw [List.length_append, List.length_singleton]
  omega

def rExtend : V → List V → Hp → VK → Prop := fun x vs H Q => ∃ l b xs zs, x = .ref l ∧ vs = [.ref b] ∧ H l = some (.lst xs) ∧ H b = some (.lst zs) ∧ xs.length + zs.length ≤ sizeLine ∧ Q .non (upd H l (.lst (xs ++ zs)))
theorem mt_extend : MtM X "list.extend" rExtend := by
  intro pins s σ H x vs v us Q I rx rv h
  obtain ⟨l, b, xs, zs, rfl, rfl, hH, hB, hz, q⟩ := h
  cases rx
  obtain ⟨u, rfl, ru⟩ := rv.one
  cases ru
  obtain ⟨z, its, n, r, hl, e⟩ := I.lstM hH
  obtain ⟨z2, its2, n2, r2, hl2, e2⟩ := I.lstM hB
  have hsz : its.toArray.size + its2.toArray.size ≤ sizeLine := by rw [List.size_toArray, List.size_toArray]; omega
  have hlong : ¬ (!its.toArray.isEmpty && Builtin.List.listTooLong (its.toArray.size + its2.toArray.size)) = true := by
    rw [notLongL hsz, Bool.and_false]
    exact Bool.false_ne_true
  refine call_meets F.slot_list_extend ⟨_, e, rfl⟩ F.entry_list_extend (F.args_list_extend_2 _ _)
    (AutoSeq1.list_extend_list_list_0 l its.toArray n b its2.toArray n2 hlong (by rw [List.size_toArray]; omega) (by omega)) ⟨e, e2, ?_⟩
  refine ⟨.non, _, I.lset (its' := its ++ its2) hH e (by simp) (r.append r2) ?_, rfl, q⟩
  rw [List.length_append]
  omega





def rCat : R2 := fun x y H Q => ∃ l b xs zs, x = .ref l ∧ y = .ref b ∧ H l = some (.lst xs) ∧ H b = some (.lst zs) ∧ xs.length + zs.length ≤ sizeLine ∧ ∀ p, H p = none → Q (.ref p) (upd H p (.lst (xs ++ zs)))
theorem op_cat : OpR X (binaryOp .Add) rCat := by
  intro pins s σ H x y v u Q I rx ry h
  obtain ⟨l, b, xs, zs, rfl, rfl, hH, hB, hz, q⟩ := h
  cases rx
  cases ry
  obtain ⟨z, its, n, r, hl, e⟩ := I.lstM hH
  obtain ⟨z2, its2, n2, r2, hl2, e2⟩ := I.lstM hB
  refine PySem.P.add_list e e2 ?_ (by rw [List.size_toArray, List.size_toArray]; omega)
  have ea : its.toArray ++ its2.toArray = (its ++ its2).toArray := by simp
  rw [ea]
  exact ⟨.ref _, _, I.lnew (t' := s.toks) (r.append r2) (by rw [List.length_append]; omega), rfl, q _ I.fresh⟩

end

section
variable {prog : Program} {w : World} {A : Around} {E : Value → Shared → Prop} {s : Shared}
end

section
variable {X : Cx}
end
end L2

namespace Att
open PySem PySem.W PySem.Calls PyProof.Rows

theorem ints_of_wellAll {P : Params} {h : Heap} : ∀ (ns : List Int) (vs : List Value), WellAll P h vs (ns.map WData.int) → IntsAre vs ns := by
  intro ns
  induction ns with
  | nil =>
    intro vs w
    rw [List.map_nil] at w
    cases w
    exact .nil
  | cons n ns ih =>
    intro vs w
    rw [List.map_cons] at w
    cases w with
    | cons a b =>
      cases a
      exact .cons _ _ (ih _ b)

theorem script_of {l : OpenLaw} {n : Nat} (hn : l.most = some n) {P : Params} {h : Heap} {args : List WData} {vals : List Value}
    (hpre : l.row.toRowW.claim.pre args = true) (hwl : WellAll P h vals args) :
    ∃ a vs ns, vals = [Value.ref a] ∧ args = [WData.list (ns.map WData.int)] ∧ h.get? a = some { cls := .type "list", data := .seq vs.toArray } ∧ IntsAre vs ns ∧ ns.length ≤ n := by
  have hsh : WShape.hasAll [] args [.list .int] = true := (pre_splitW hpre).1
  have hc : l.pre.holds [] { args := args } = true := (pre_splitW hpre).2
  obtain ⟨d, r, rfl, h1, h2⟩ := hasAllW_cons hsh
  obtain rfl := hasAllW_nil h2
  obtain ⟨xs, rfl, h3⟩ := hasW_list h1
  obtain ⟨ns, rfl⟩ := items_int h3
  have hlen : ns.length ≤ n := by
    unfold OpenLaw.pre at hc
    have h4 : (WTm.not (.lt (.lit (.int (n : Int))) (.len (.arg 0)))).holds [] { args := [.list (ns.map .int)] } = true := by
      have h4 := (holds_andW hc).1
      rw [hn] at h4
      exact h4
    have h5 := condW_of h4 (w_not (w_lt w_lit (w_len_list (w_arg rfl))))
    rw [List.length_map] at h5
    refine Nat.le_of_not_lt fun q => ?_
    have q' : (n : Int) < ((ns.length : Nat) : Int) := by omega
    first
      | (rw [decide_eq_true q'] at h5; exact absurd h5 (by decide))
      | (simp at h5; omega)
  cases hwl with
  | cons w1 w2 =>
    cases w2
    cases w1 with
    | list ho hall => exact ⟨_, _, ns, rfl, rfl, ho, ints_of_wellAll ns _ hall, hlen⟩

theorem post_true (l : OpenLaw) (args : List WData) : l.row.toRowW.claim.post args (.bool true) args = true :=
  postW_of (r := l.row.toRowW) (X := (true == true))
    (show WShape.has [] (.bool true) .bool = true by first | rfl | decide | simp [WShape.has, WShape.arms, WShape.armsAll])
    (show (WTm.eq .res (.lit (.bool true))).value [] { args := args, res := some (.bool true), after := args } = some (.bool (true == true)) from w_eq_bool (w_res rfl) w_lit) rfl


theorem attach_call {l : OpenLaw} {n : Nat} {q : Program} {loose : List Str} {XP : (Str → Option Value) → Heap → Prop} {YP : World → Heap → Prop} {d : DefRec}
    (hn : l.most = some n) (hdf : d.params.defaults = [])
    (call : ∀ (w : World) (s₀ s₁ : Shared) (mg mb : Str → Option Value) (fa : Addr) (o : Obj) (pm cd doc : Value) (a : Addr) (vs : List Value) (ns : List Int),
      Ground q loose [] XP w s₀ mg mb s₁.heap → YP w s₁.heap →
      s₁.heap.get? fa = some o → o.data = .func (docDef d.name d.params d.body d.scope pm cd doc) → s₁.heap.CodeRec cd d.name → mg d.name = some (.ref fa) →
      s₁.heap.get? a = some { cls := .type "list", data := .seq vs.toArray } → IntsAre vs ns → ns.length ≤ n → s₁.gens = #[] →
      codeAny (model l.prog w) callerA (.call (.ref fa) ⟨[.ref a], []⟩) (fun r s' => r = .ok (.ret (.bool true)) ∧ OldK s₁.heap s'.heap ∧ s'.os = s₁.os ∧ AllBare s'.gens) s₁) :
    WalkO q loose XP YP l.row.toRowW d [] (fun f vs => PySem.call f vs) := by
  intro w s₀ s₁ mg mb G Y fa o pm cd doc dV kV ho hd hcd hD hmg hg args vals as hpre hlay hrd hwl hlo
  obtain rfl : dV = .none := Dflts.none hD hdf
  obtain rfl : kV = .none := Dflts.noKw hD
  obtain ⟨a, vs, ns, rfl, rfl, hobj, hints, hlen⟩ := script_of hn hpre hwl
  refine enter_call (codeAny_mono (call w s₀ s₁ mg mb fa o pm cd doc a vs ns G Y ho (fd_plain hd) hcd hmg hobj hints hlen hg) fun r s' hq => ?_)
  obtain ⟨rfl, h2, h3, h4⟩ := hq
  exact ⟨.inl ⟨.bool true, .bool true, [], rfl, fun _ => rfl, .bool true, post_true l _, fun _ => ⟨List.Pairwise.nil, fun _ hm => (nomatch hm)⟩⟩, h2, h3, h4⟩


section
variable {prog : Program} {w : World} {A : Around} {E : Value → Shared → Prop} {s : Shared} {K : Frag}






end
end Att

namespace L2
open PySem PySem.Spec PyProof.Rows

theorem vals_ints : ∀ {vs : List Value} {ns : List Int}, IntsAre vs ns → Vals (ns.map V.int) vs
  | _, _, .nil => .nil
  | _, _, .cons n t h => .cons ⟨t, rfl⟩ (vals_ints h)

def Only (H : Hp) : Prop := ∀ b, H b = none ∨ ∃ o xs, H b = some (.frz o (.lst xs))

theorem law_call {P : Program} {w : World} {K : PySem.W.Frag} {mg mb : Str → Option Value} {CX : CXT} {k : Nat} {fa a : Addr} {fd : FuncData} {x : Str} {sp : Sp} {s₁ : Shared} {vs : List Value} {ns : List Int}
    (KX : K.In s₁.heap) (hns : s₁.heap.Ns mainGlobals mg) (hb : s₁.heap.Ns builtinsNs mb) (hbb : ∀ x : Str, x ≠ "__name__" → mb x = bootBuiltins x) (hlim : s₁.heap.NoLimit) (hg : s₁.gens = #[])
    (ha : s₁.heap.get? a = some { cls := .type "list", data := .seq vs.toArray }) (hi : IntsAre vs ns) (hl : ns.length ≤ sizeLine) (hr : Room k callerA)
    (F : ∀ base : Heap, K.In base → base.Ns mainGlobals mg → FnOk P w K mg base CX k fa fd [x] sp) (hbind : ∀ (s : Shared) (u : Value), BindsTo s fd ⟨[u], []⟩ [(x, u)])
    (hsp : ∀ H : Hp, Only H → SqL K H a (ns.map V.int) → sp [.ref a] H (fun v _ => v = .bl true) fun _ _ _ => False)
    (hCX : ∀ H e s', CX [] H s₁ (fun _ _ _ => False) e s' → False) :
    codeAny (model P w) callerA (.call (.ref fa) ⟨[.ref a], []⟩) (fun r s' => r = .ok (.ret (.bool true)) ∧ OldK s₁.heap s'.heap ∧ s'.os = s₁.os ∧ AllBare s'.gens) s₁ := by
  have rv := vals_ints hi
  have lenV := hi.length
  -- from an abstract heap in which nothing but the script may be tracked
  have core : ∀ H : Hp, Only H → SqL K H a (ns.map V.int) → HOk P w H s₁.heap → (∀ b, H b ≠ none → b = a) → (H a ≠ none → K.lookup a = none) →
      codeAny (model P w) callerA (.call (.ref fa) ⟨[.ref a], []⟩) (fun r s' => r = .ok (.ret (.bool true)) ∧ OldK s₁.heap s'.heap ∧ s'.os = s₁.os ∧ AllBare s'.gens) s₁ := by
    intro H hO hS hok hA hK
    have base_of : ∀ {b : Addr} {o : Obj}, s₁.heap.get? b = some o → H b = none → (hidT s₁.heap H).get? b = some o := fun e n => hidT_get e n
    have noA : ∀ {b : Addr} {o : Obj} {es : Array DictEntry} {ep : Nat}, s₁.heap.get? b = some o → o.data = .dict es ep → H b = none := fun {b o es ep} e d => by
      cases q : H b with
      | none => rfl
      | some u =>
        have e' : b = a := hA b (by rw [q]; simp)
        subst e'
        rw [ha] at e; cases e
        have d' : Data.seq vs.toArray _ = Data.dict es ep := d
        cases d'
    have nsK : ∀ {b : Addr} {m : Str → Option Value}, s₁.heap.Ns b m → (hidT s₁.heap H).Ns b m := fun {b m} ⟨o, es, ep, e, d, r⟩ => ⟨o, es, ep, base_of e (noA e d), d, r⟩
    have hKb : K.In (hidT s₁.heap H) := fun b o e => base_of (KX b o e) (by
      cases q : H b with
      | none => rfl
      | some u =>
        have e' : b = a := hA b (by rw [q]; simp)
        subst e'
        rw [hK (by rw [q]; simp)] at e; cases e)
    have hM : Mod K mg (hidT s₁.heap H) := ⟨hKb, nsK hns, ⟨mb, nsK hb, hbb⟩, let ⟨mc, h1, h2⟩ := hlim; ⟨mc, nsK h1, h2⟩⟩
    have e0 : Env0 P w K mg (hidT s₁.heap H) callerA [] s₁ H := ⟨rfl, hM, fun b o e => of_hidT e, Nat.le_of_eq (hidT_size _ _), trivial, fun b hb => absurd (show b ∈ ([] : List Addr) from hb) (by simp), hok, .of_eq hg⟩
    refine codeAny_mono ((F _ hKb (nsK hns)).run callerA [] s₁ H ⟨[.ref a], []⟩ [.ref a] [.ref a] _ _ hr e0 (hbind s₁ (.ref a)) (.cons rfl .nil) (hsp H hO hS)) fun r s' h => ?_
    cases r with
    | error e => exact (hCX H e s' h).elim
    | ok fl =>
      cases fl with
      | next => exact False.elim h
      | brk => exact False.elim h
      | cont => exact False.elim h
      | ret u =>
        obtain ⟨v, H', os, bare, un, hok', r', q⟩ := h
        have q' : v = .bl true := q
        subst q'
        obtain rfl : u = Value.bool true := r'
        refine ⟨rfl, OldK.of_keep fun b o e => ?_, os, bare⟩
        cases q : H b with
        | none => exact un.keep b o e q (by intro z; exact absurd (show b ∈ ([] : List Addr) from z) (by simp)) (by simp)
        | some u =>
          rcases hO b with z | ⟨ob, xs, z⟩
          · rw [q] at z; cases z
          · have z2 := un.frzs b ob _ z
            obtain ⟨e1, _⟩ := hok b _ z
            obtain ⟨e2, _⟩ := hok' b _ z2
            rw [e] at e1; cases e1
            exact e2
  cases hk : K.lookup a with
  | some o =>
    -- the script is one of the module's own objects
    have e := KX a o hk
    rw [ha] at e
    cases e
    refine core (fun _ => none) (fun _ => .inl rfl) (.inr ⟨_, vs.toArray, _, hk, rfl, rfl, rfl, by rw [List.size_toArray, lenV]; exact hl, by simpa using rv⟩) (fun b u z => by have z' : (none : Option HO) = some u := z; cases z') (fun b z => absurd rfl z) fun z => absurd rfl z
  | none =>
    refine core (fun b => if b = a then some (.frz { cls := .type "list", data := .seq vs.toArray } (.lst (ns.map V.int))) else none) (fun b => ?_) (.inl (.inr ⟨{ cls := .type "list", data := .seq vs.toArray }, if_pos rfl⟩)) (fun b u z => ?_) (fun b z => ?_) fun _ => hk
    · by_cases hb : b = a
      · exact .inr ⟨_, _, if_pos hb⟩
      · exact .inl (if_neg hb)
    · by_cases hb : b = a
      · have z' := (if_pos hb).symm.trans z
        cases z'
        subst hb
        exact ⟨ha, by rw [List.length_map]; exact hl, vs, _, rv, ha⟩
      · have z' := (if_neg hb).symm.trans z
        cases z'
    · by_cases hb : b = a
      · exact hb
      · exact absurd (if_neg hb) z
end L2

namespace L2
open PySem PySem.Spec PyProof.Rows


theorem walk_of {l : PySem.W.OpenLaw} {n k : Nat} {q : Program} {loose : List Str} {XP : (Str → Option Value) → Heap → Prop} {YP : World → Heap → Prop} {d : DefRec} {K : Params → PySem.W.Frag} {CX : World → CXT} {sp : World → Sp} {x : Str}
    (hn : l.most = some n) (hn2 : n ≤ sizeLine) (hdf : d.params.defaults = []) (hr : Room k callerA)
    (hY : ∀ (w : World) (h : Heap), YP w h → (K w.params).In h)
    (F : ∀ (w : World) (mg : Str → Option Value) (fa : Addr) (h : Heap), (K w.params).In h → h.Ns mainGlobals mg → mg d.name = some (.ref fa) →
      ∃ fd : FuncData, (∀ (s : Shared) (u : Value), BindsTo s fd ⟨[u], []⟩ [(x, u)]) ∧
        ∀ base : Heap, (K w.params).In base → base.Ns mainGlobals mg → FnOk l.prog w (K w.params) mg base (CX w) k fa fd [x] (sp w))
    (hsp : ∀ (w : World) (H : Hp) (a : Addr) (ns : List Int), ns.length ≤ n → Only H → SqL (K w.params) H a (ns.map V.int) → sp w [.ref a] H (fun v _ => v = .bl true) fun _ _ _ => False)
    (hCX : ∀ (w : World) (H : Hp) (s : Shared) (e : Value) (s' : Shared), CX w [] H s (fun _ _ _ => False) e s' → False) :
    PySem.W.WalkO q loose XP YP l.row.toRowW d [] (fun f vs => PySem.call f vs) := by
  refine Att.attach_call hn hdf fun w s₀ s₁ mg mb fa o pm cd doc a vs ns G Y ho hd hcd hmg hobj hints hlen hg => ?_
  have KX := hY w _ Y
  obtain ⟨fd, hb, hF⟩ := F w mg fa _ KX G.T.g hmg
  exact law_call KX G.T.g G.T.b G.T.builtins G.T.nolimit hg hobj hints (Nat.le_trans hlen hn2) hr hF hb (fun H hO hS => hsp w H a ns hlen hO hS) fun H e s' => hCX w H s₁ e s'
end L2


namespace L2
open PySem PySem.Spec PyProof.Rows

def inClass (s : Stmt) (j : Nat) : Stmt := match s with
  | .ClassDef _ _ _ body _ _ _ _ _ _ _ => body.getD j (.Pass ⟨0, 0, 0, 0⟩)
  | _ => .Pass ⟨0, 0, 0, 0⟩
def defArgs (s : Stmt) : Arguments := match s with
  | .FunctionDef _ a _ _ _ _ _ _ _ _ => a
  | _ => { posonlyargs := [], args := [], vararg := none, kwonlyargs := [], kw_defaults := [], kwarg := none, defaults := [] }
def defBody (s : Stmt) : List Stmt := match s with
  | .FunctionDef _ _ b _ _ _ _ _ _ _ => b
  | _ => []
def defScope (s : Stmt) : Scope := match s with
  | .FunctionDef _ _ _ _ _ _ sc _ _ _ => sc
  | _ => { kind := .function, names := [], isGenerator := false, isCoroutine := false }

abbrev CX0 : CXT := fun _ _ _ _ _ _ => False
abbrev E0 : XK := fun _ _ _ => False
theorem pass0 {X : Cx} : Passes CX0 X E0 := fun _ _ _ _ _ _ _ h => h.elim

structure Fun (K : PySem.W.Frag) (x qual : Str) (st : Stmt) (f : Addr) (fd : FuncData) : Prop where
  ex : ∃ (oc : Value) (od : Option Addr) (kV doc pm : Value) (an : Option Addr) (cdv ct : Value) (osl : Array (Option Value)),
    fd = PySem.W.fnOf x qual (defArgs st) (defBody st) (defScope st) .none kV doc pm an cdv ct ∧ K.lookup f = some ⟨oc, od, .func fd, osl⟩ ∧ PySem.W.codeIn K cdv qual = true
  kp : PySem.W.keepIn K (.ref f) = true
section
variable {P : Program} {w : World} {K : PySem.W.Frag} {mg : Str → Option Value} {base : Heap}
theorem Fun.ok {x qual : Str} {st : Stmt} {f : Addr} {fd : FuncData} {N ps : List Str} {k : Nat} {sp : Sp} (F : Fun K x qual st f fd) (S : FnScope N ps (defScope st)) (len : ∀ vs H Q E, sp vs H Q E → vs.length = ps.length)
    (hbody : ∀ (cdv : Value) (A : Around) (outer : List Env) (s : Shared) (H : Hp) (vs : List V) (Q : VK) (E : XK), Room k (A.deeper (envOfC qual (defScope st) s.heap.objs.size f cdv)) → sp vs H Q E →
      ∃ t, PSs (cxOf CX0 P w K mg base N qual (defScope st) f cdv A outer s H E).nox (defBody st) t ∧ t { nx := fun _ H' => Q .non H', rt := Q } (start N vs) H) : FnOk P w K mg base CX0 (k + 1) f fd ps sp := by
  obtain ⟨oc, od, kV, doc, pm, an, cdv, ct, osl, rfl, lk, hcd⟩ := F.ex
  refine fn_of lk hcd S len fun A outer s H vs Q E hr hsp => ?_
  obtain ⟨t, h, q⟩ := hbody cdv A outer s H vs Q E hr hsp
  exact ⟨t, h.nox, q⟩
theorem Fun.binds {x qual : Str} {st : Stmt} {f : Addr} {fd : FuncData} {ps : List Str} (F : Fun K x qual st f fd)
    (h : ∀ (kV doc pm : Value) (an : Option Addr) (cdv ct : Value) (us : List Value), us.length = ps.length → bindArgs (PySem.W.fnOf x qual (defArgs st) (defBody st) (defScope st) .none kV doc pm an cdv ct) ⟨us, []⟩ = pure (ps.zip us)) : Binds K fd ps [] := by
  obtain ⟨oc, od, kV, doc, pm, an, cdv, ct, osl, rfl, lk, hcd⟩ := F.ex
  exact .all (h kV doc pm an cdv ct)
theorem fun_mk {x qual : Str} {st : Stmt} {f : Addr} {oc : Value} {od an : Option Addr} {osl : Array (Option Value)} {kV doc pm cdv ct : Value} (l : K.lookup f = some ⟨oc, od, .func (PySem.W.fnOf x qual (defArgs st) (defBody st) (defScope st) .none kV doc pm an cdv ct), osl⟩)
    (c : PySem.W.codeIn K cdv qual = true) (k : PySem.W.keepIn K (.ref f) = true) : Fun K x qual st f (PySem.W.fnOf x qual (defArgs st) (defBody st) (defScope st) .none kV doc pm an cdv ct) := ⟨⟨oc, od, kV, doc, pm, an, cdv, ct, osl, rfl, l, c⟩, k⟩
end
theorem hu_of {A : Around} {k : Nat} (hr : Room k A) : A.units + 1 < cLine := Nat.lt_of_le_of_lt (Nat.add_le_add_left (by decide : 1 ≤ 64) _) hr.units

section
variable {X : Cx}
theorem pv (i : Nat) {x : Str} {pos : Pos} (hN : X.N[i]? = some x := by rfl) (hv : Vis X.env.scope x := by first | exact Or.inl rfl | exact Or.inr (Or.inl rfl) | exact Or.inr (Or.inr rfl)) (hd : (x == ("__debug__" : Str)) = false := by decide)
    (hcd : (x == ("__classdict__" : Str)) = false := by decide) : PE X (.Name x pos) (tVar i) := pe_var hN hv hd hcd
end

theorem iteF {A B : Prop} (h : B) : if false = true then A else B := by
  rw [if_neg Bool.false_ne_true]
  exact h
theorem iteT {A B : Prop} (h : A) : if true = true then A else B := by
  rw [if_pos rfl]
  exact h
theorem ite2 {c A B : Prop} [Decidable c] (h1 : c → A) (h2 : ¬ c → B) : if c then A else B := by
  by_cases h : c
  · rw [if_pos h]
    exact h1 h
  · rw [if_neg h]
    exact h2 h

def Same (H H' : Hp) : Prop := ∀ b o, H b = some o → H' b = some o
theorem Same.refl (H : Hp) : Same H H := fun _ _ h => h
theorem Same.trans {H H1 H2 : Hp} (a : Same H H1) (b : Same H1 H2) : Same H H2 := fun c o h => b c o (a c o h)
theorem Same.free {H H' : Hp} (e : Same H H') {l : Addr} (h : H' l = Option.none) : H l = Option.none := by
  cases q : H l with
  | none => rfl
  | some o =>
    rw [e l o q] at h
    cases h
theorem Same.seq {K : PySem.W.Frag} {H H' : Hp} {a : Addr} {xs : List V} (e : Same H H') (h : SqL K H a xs) : SqL K H' a xs := by
  rcases h with (h | ⟨o, h⟩) | h
  · exact .inl (.inl (e _ _ h))
  · exact .inl (.inr ⟨o, e _ _ h⟩)
  · exact .inr h

end L2

set_option Elab.async false
set_option linter.all false
set_option maxRecDepth 100000
namespace L2
open PySem PySem.Spec PyProof.Rows
def notStar : Expr → Bool
  | .Starred _ _ => false
  | _ => true
theorem star_of {e : Expr} {es : List Expr} {env : Env} (h : notStar e = true) : starEach (e :: es) env = (false, eval e env) :: starEach es env := by
  cases e <;> first | rfl | cases h
theorem pa_consN {X : Cx} {e : Expr} {es : List Expr} {te : TE} {t : TA} (ha : PE X e te) (hr : PA X es t) (hs : notStar e = true := by rfl) : PA X (e :: es) (tCons te t) := pa_cons ha hr (star_of hs)
end L2

set_option Elab.async false
set_option linter.all false
set_option maxRecDepth 100000

namespace L2
open PySem PySem.Spec PyProof.Rows

theorem lookup_relabel_free {env : Env} : ∀ {names : List (Str × NameKind)} {x : Str}, names.lookup x = some .free →
    ((names.map fun (n, k) => if (k == NameKind.free && env.scope.kind == .function && env.kindOf n == some .cell) then (n, NameKind.cell) else (n, k)).lookup x = some .cell ∨
    (names.map fun (n, k) => if (k == NameKind.free && env.scope.kind == .function && env.kindOf n == some .cell) then (n, NameKind.cell) else (n, k)).lookup x = some .free)
  | [], _, h => by simp at h
  | (n, k) :: r, x, h => by
    have ih := @lookup_relabel_free env r x
    show (List.lookup x ((if (k == NameKind.free && env.scope.kind == .function && env.kindOf n == some .cell) = true then (n, NameKind.cell) else (n, k)) :: _) = _ ∨ List.lookup x ((if (k == NameKind.free && env.scope.kind == .function && env.kindOf n == some .cell) = true then (n, NameKind.cell) else (n, k)) :: _) = _)
    cases hx : x == n with
    | true =>
      simp only [List.lookup_cons, hx] at h
      cases h
      by_cases hc : (NameKind.free == NameKind.free && env.scope.kind == .function && env.kindOf n == some .cell) = true
      · rw [if_pos hc]; left; simp only [List.lookup_cons, hx]
      · rw [if_neg hc]; right; simp only [List.lookup_cons, hx]
    | false =>
      simp only [List.lookup_cons, hx] at h
      by_cases hc : (k == NameKind.free && env.scope.kind == .function && env.kindOf n == some .cell) = true
      · rw [if_pos hc]; simp only [List.lookup_cons, hx]; exact ih h
      · rw [if_neg hc]; simp only [List.lookup_cons, hx]; exact ih h
theorem lookup_relabel_inv {env : Env} : ∀ {names : List (Str × NameKind)} {x : Str}, (∀ y ∈ names, y.2 ≠ .cell) →
    ((names.map fun (n, k) => if (k == NameKind.free && env.scope.kind == .function && env.kindOf n == some .cell) then (n, NameKind.cell) else (n, k)).lookup x = some .cell ∨
    (names.map fun (n, k) => if (k == NameKind.free && env.scope.kind == .function && env.kindOf n == some .cell) then (n, NameKind.cell) else (n, k)).lookup x = some .free) →
    (x, NameKind.free) ∈ names
  | [], _, _, h => by simp at h
  | (n, k) :: r, x, hn, h => by
    have ih := @lookup_relabel_inv env r x (fun y hy => hn y (List.mem_cons_of_mem _ hy))
    have hk : k ≠ .cell := hn (n, k) List.mem_cons_self
    have h' : (List.lookup x ((if (k == NameKind.free && env.scope.kind == .function && env.kindOf n == some .cell) = true then (n, NameKind.cell) else (n, k)) :: r.map fun (n, k) => if (k == NameKind.free && env.scope.kind == .function && env.kindOf n == some .cell) then (n, NameKind.cell) else (n, k)) = some NameKind.cell ∨ List.lookup x ((if (k == NameKind.free && env.scope.kind == .function && env.kindOf n == some .cell) = true then (n, NameKind.cell) else (n, k)) :: r.map fun (n, k) => if (k == NameKind.free && env.scope.kind == .function && env.kindOf n == some .cell) then (n, NameKind.cell) else (n, k)) = some NameKind.free) := h
    cases hx : x == n with
    | true =>
      have e : x = n := eq_of_beq hx
      subst e
      by_cases hc : (k == NameKind.free && env.scope.kind == .function && env.kindOf x == some .cell) = true
      · have hkf : k = .free := by
          have := hc
          simp only [Bool.and_eq_true] at this
          exact eq_of_beq this.1.1
        subst hkf; exact List.mem_cons_self
      · rw [if_neg hc] at h'
        simp only [List.lookup_cons, hx] at h'
        rcases h' with h' | h'
        · cases h'; exact absurd rfl hk
        · cases h'; exact List.mem_cons_self
    | false =>
      refine List.mem_cons_of_mem _ (ih ?_)
      by_cases hc : (k == NameKind.free && env.scope.kind == .function && env.kindOf n == some .cell) = true
      · rw [if_pos hc] at h'; simp only [List.lookup_cons, hx] at h'; exact h'
      · rw [if_neg hc] at h'; simp only [List.lookup_cons, hx] at h'; exact h'

theorem closure_go {env : Env} (f : Str × NameKind → List (Str × Addr) → Sem (ForInStep (List (Str × Addr))))
    (h1 : ∀ n k r, (k == NameKind.free) = false → f (n, k) r = pure (.yield r)) (h2 : ∀ n c r, env.cells.lookup n = some c → f (n, .free) r = pure (.yield ((n, c) :: r))) :
    ∀ (l : List (Str × NameKind)) (acc : List (Str × Addr)), (∀ y ∈ l, y.2 = .free → ∃ c, env.cells.lookup y.1 = some c) → (∀ n c, acc.lookup n = some c → env.cells.lookup n = some c) →
      ∃ cl, forIn l acc f = pure cl ∧ (∀ n c, cl.lookup n = some c → env.cells.lookup n = some c) ∧ (∀ y ∈ l, y.2 = .free → ∃ c, cl.lookup y.1 = some c) ∧ ∀ n c, acc.lookup n = some c → ∃ c', cl.lookup n = some c'
  | [], acc, _, ha => ⟨acc, rfl, ha, ⟨fun y hy _ => absurd hy List.not_mem_nil, fun n c e => ⟨c, e⟩⟩⟩
  | (n, k) :: r, acc, hl, ha => by
    cases hk : k == NameKind.free with
    | false =>
      obtain ⟨cl, e, p1, p2, p3⟩ := closure_go f h1 h2 r acc (fun y hy => hl y (List.mem_cons_of_mem _ hy)) ha
      refine ⟨cl, ?_, p1, fun y hy hf => ?_, p3⟩
      · rw [List.forIn_cons, h1 n k acc hk, pure_bind]; exact e
      · rcases List.mem_cons.mp hy with rfl | hy
        · rw [show k = .free from hf] at hk; cases hk
        · exact p2 y hy hf
    | true =>
      have hkf : k = .free := eq_of_beq hk
      subst hkf
      obtain ⟨c, hc⟩ := hl (n, .free) List.mem_cons_self rfl
      have hc : env.cells.lookup n = some c := hc
      obtain ⟨cl, e, p1, p2, p3⟩ := closure_go f h1 h2 r ((n, c) :: acc) (fun y hy => hl y (List.mem_cons_of_mem _ hy)) (fun m d hm => by
        rw [List.lookup_cons] at hm
        cases hx : m == n with
        | true => rw [hx] at hm; cases hm; rw [eq_of_beq hx]; exact hc
        | false => rw [hx] at hm; exact ha m d hm)
      have here : ∃ c', cl.lookup n = some c' := p3 n c (by rw [List.lookup_cons]; simp)
      refine ⟨cl, ?_, p1, fun y hy hf => ?_, fun m d hm => ?_⟩
      · rw [List.forIn_cons, h2 n c acc hc, pure_bind]; exact e
      · rcases List.mem_cons.mp hy with rfl | hy
        · exact here
        · exact p2 y hy hf
      · cases hx : m == n with
        | true => rw [eq_of_beq hx]; exact here
        | false => exact p3 m d (by rw [List.lookup_cons, hx]; exact hm)
theorem closure_ex {scope : Scope} {env : Env} (h : ∀ y ∈ scope.names, y.2 = .free → ∃ c, env.cells.lookup y.1 = some c) :
    ∃ cl, closureFor scope env = pure cl ∧ (∀ n c, cl.lookup n = some c → env.cells.lookup n = some c) ∧ ∀ y ∈ scope.names, y.2 = .free → ∃ c, cl.lookup y.1 = some c := by
  obtain ⟨cl, e, p1, p2, _⟩ := closure_go (env := env) (fun x r => if (x.2 == NameKind.free) = true then (cellOf env x.1 >>= fun a => pure (ForInStep.yield ((x.1, a) :: r))) else pure (ForInStep.yield r))
    (fun n k r hk => by simp only [hk, Bool.false_eq_true, if_false]) (fun n c r hc => by simp only [cellOf, hc, beq_self_eq_true, if_true, pure_bind]) scope.names [] h (fun n c e => by simp at e)
  refine ⟨cl, ?_, p1, p2⟩
  rw [show closureFor scope env = (forIn scope.names [] (fun (x : Str × NameKind) (r : List (Str × Addr)) => if (x.2 == NameKind.free) = true then (cellOf env x.1 >>= fun a => pure (ForInStep.yield ((x.1, a) :: r))) else pure (ForInStep.yield r)) >>= fun cs => pure cs) from rfl, e, pure_bind]

section
variable {prog : Program} {w : World} {A : Around} {R : Result → Shared → Prop} {s : Shared}
theorem codeAny_compLoop_own {elt target iter : Expr} {scope : Scope} {pos : Pos} {it acc : Value} {env : Env} (I : Nat → Shared → Prop)
    (turn : ∀ n s, I n s → wpAny (model prog w) A (pyNext it) (fun r s1 => match r with
      | none => R (.ok .next) s1
      | some v => wpAny (model prog w) A (letOwnedTupleGo target it v) (fun _ s0 => wpAny (model prog w) A (assign target env v) (fun _ s2 => wpAny (model prog w) A (eval elt env) (fun x s3 =>
          wpAny (model prog w) A (call (.builtin "list.append") [acc, x]) (fun _ s4 => ∃ m, m < n ∧ I m s4) (notedBy (model prog w) A env fun e s' => R (.error e) s') s3)
          (notedBy (model prog w) A env fun e s' => R (.error e) s') s2) (notedBy (model prog w) A env fun e s' => R (.error e) s') s0) (notedBy (model prog w) A env fun e s' => R (.error e) s') s1) (notedBy (model prog w) A env fun e s' => R (.error e) s') s)
    (n : Nat) (h : I n s) :
    codeAny (model prog w) A (.compLoop (.ListComp elt [⟨target, iter, [], 0⟩] scope pos) 0 it acc env) R s := by
  refine codeAny_loop rfl I (fun n s hI => ?_) n h
  show wpAny _ _ ((compTurn (.ListComp elt [⟨target, iter, [], 0⟩] scope pos) 0 it acc env).onRaise (fun x => do noteFrame x env; theTreesLotGoes x)) _ _ s
  refine wpAny_noted ?_
  rw [compTurn_list1]
  refine wpAny_bind (wpAny_standAt (wpAny_bind (wpAny_mono (turn n s hI) (fun r s1 h1 => ?_) fun _ _ h' => h')))
  cases r with
  | none => exact wpAny_pure h1
  | some v =>
    refine wpAny_bind (wpAny_mono h1 (fun _ s0 h0 => ?_) fun _ _ h' => h')
    exact wpAny_bind (wpAny_mono h0 (fun _ s2 h2 => wpAny_bind (wpAny_bind (wpAny_mono h2 (fun x s3 h3 => wpAny_bind (wpAny_mono h3
      (fun _ s4 h4 => wpAny_pure (wpAny_pure ⟨rfl, h4⟩)) fun _ _ h' => h')) fun _ _ h' => h'))) fun _ _ h' => h')
end

def blkStart (own : Nat) (fv : List Nat) (σ : St) : St := List.replicate own none ++ fv.map fun j => (σ[j]?).getD none
def Cx.blk (X : Cx) (scope : Scope) (N' : List Str) (cl : List (Str × Addr)) (s3 : Shared) (H3 : Hp) (ex : List Addr) : Cx :=
  { X with N := N', s₀ := s3, H₀ := H3, env := compEnvC scope cl s3.heap.objs.size X.env, outer := X.stack, stack := X.stack, ex := ex, fn := fun _ => false, pn := [], xe := fun _ _ => False }
structure BlkScope (X : Cx) (scope : Scope) (N' : List Str) (own : Nat) (fv : List Nat) : Prop where
  kind : scope.kind = .function
  nocell : ∀ y ∈ scope.names, y.2 ≠ .cell
  names : ∀ y ∈ scope.names, y.2 = .local → scope.names.lookup y.1 = some .local
  free : ∀ y ∈ scope.names, y.2 = .free → X.env.kindOf y.1 = some .cell ∨ X.env.kindOf y.1 = some .free
  len : N'.length = own + fv.length
  fvs : ∀ i : Fin fv.length, ∃ x, N'[own + i.val]? = some x ∧ X.N[fv[i.val]]? = some x ∧ scope.names.lookup x = some .free ∧ (X.env.kindOf x = some .cell ∨ X.env.kindOf x = some .free)

theorem mem_of_lookup {x : Str} {k : NameKind} : ∀ {l : List (Str × NameKind)}, l.lookup x = some k → (x, k) ∈ l
  | [], h => by simp at h
  | (n, j) :: r, h => by
    rw [List.lookup_cons] at h
    cases hx : x == n with
    | true => rw [hx] at h; cases h; rw [eq_of_beq hx]; exact List.mem_cons_self
    | false => rw [hx] at h; exact List.mem_cons_of_mem _ (mem_of_lookup h)

section
variable {X : Cx} {scope : Scope} {N' : List Str} {own : Nat} {fv : List Nat} {cl : List (Str × Addr)} {pins : List (Addr × Obj)} {σ : St} {H2 : Hp} {s3 : Shared} {fp : List Addr} {h1 : Heap} {t1 : Nat} {m1 : Str → Option Value}
theorem blk_inv (sc : BlkScope X scope N' own fv) (I : Inv X pins σ H2 s3) (f : ∀ b ∈ fp, FpOk X pins H2 b) (fo : ∀ b ∈ fp, b < s3.heap.objs.size)
    (c1 : ∀ n c, cl.lookup n = some c → X.env.cells.lookup n = some c) (c2 : ∀ y ∈ scope.names, y.2 = .free → ∃ c, cl.lookup y.1 = some c)
    (hns : h1.Ns s3.heap.objs.size m1) (old : ∀ b o, s3.heap.get? b = some o → h1.get? b = some o) :
    Inv (X.blk scope N' cl s3 H2 fp) [] (blkStart own fv σ) H2 { s3 with heap := h1, toks := t1 } where
  ok := {
    mod := I.ok.mod
    kind := sc.kind
    glob := I.ok.glob
    blt := I.ok.blt
    above := Nat.le_refl _
    inj := fun x y c hx hy => I.ok.inj x y c (c1 x c hx) (c1 y c hy)
    has := fun x hx => c2 (x, .free) (lookup_relabel_inv (env := X.env) sc.nocell hx) rfl
    cab := fun x c h => nomatch h
    hd := I.ok.hd
    frames := I.ok.frames
    stk := .inl rfl
    exf := fun b hb => ⟨Nat.ne_of_lt (fo b hb), fun x c hc => (f b hb).2.2.2.2.1 x c (c1 x c hc)⟩
    bs := fun b o e => I.bs b o e
    bsz := Nat.le_trans I.ok.bsz I.sz
    noex := fun b o e hb => by
      rcases (f b hb).2.2.2.1 with h | h
      · exact I.ok.noex b o e h
      · exact Nat.lt_irrefl _ (Nat.lt_of_lt_of_le (Heap.lt_size e) (Nat.le_trans I.ok.bsz h))
    exfs := fun b hb hf => by
      rcases List.mem_cons.mp (I.stkSub b hf) with h | h
      · exact (f b hb).2.1 h
      · exact (f b hb).2.2.1 h
    funs := I.stack
    frf := I.stkFree }
  os := rfl
  bare := I.bare
  base := Un.kept old
  loc := by
    refine ⟨m1, hns, fun i x v hi hv _ => ?_⟩
    have hi' : N'[i]? = some x := hi
    unfold blkStart at hv
    by_cases hlt : i < own
    · rw [List.getElem?_append_left (by rw [List.length_replicate]; exact hlt), List.getElem?_replicate, if_pos hlt] at hv
      cases hv
    · rw [List.getElem?_append_right (by rw [List.length_replicate]; omega), List.length_replicate, List.getElem?_map] at hv
      cases hj : fv[i - own]? with
      | none => rw [hj] at hv; cases hv
      | some j =>
        rw [hj] at hv
        have hv' : (σ[j]?).getD none = some v := Option.some.inj hv
        have hσ : σ[j]? = some (some v) := by
          cases e : σ[j]? with
          | none => rw [e] at hv'; cases hv'
          | some o => rw [e] at hv'; simp only [Option.getD_some] at hv'; rw [hv']
        obtain ⟨hk, ej⟩ := List.getElem?_eq_some_iff.mp hj
        obtain ⟨y, y1, y2, y3, y4⟩ := sc.fvs ⟨i - own, hk⟩
        have e1 : own + (i - own) = i := by omega
        simp only [e1] at y1
        rw [hi'] at y1; cases y1
        simp only [ej] at y2
        obtain ⟨m3, hn3, hl3⟩ := I.loc
        obtain ⟨u, ru, lk⟩ := hl3 j x v y2 hσ (by rcases y4 with h | h; exact .inr (.inl h); exact .inr (.inr h))
        refine ⟨u, ru, .inr ⟨lookup_relabel_free y3, ?_⟩⟩
        rcases lk with ⟨h, _⟩ | ⟨_, c, hc, ic⟩
        · rcases y4 with h' | h' <;> rw [h] at h' <;> cases h'
        · obtain ⟨c', hc'⟩ := c2 (x, .free) (mem_of_lookup y3) rfl
          have : c' = c := by have := c1 x c' hc'; rw [hc] at this; exact (Option.some.inj this).symm
          subst this
          exact ⟨c', hc', ic.keeps old⟩
  cell := fun x c hc => let ⟨v, hv⟩ := I.cell x c (c1 x c hc); ⟨v, hv.keeps old⟩
  free := I.fresh
  freeC := fun x c hc => I.freeC x c (c1 x c hc)
  pin := fun p hp => nomatch hp
  hok := I.hok.kept old
  len := by
    show (blkStart own fv σ).length = N'.length
    unfold blkStart
    rw [List.length_append, List.length_replicate, List.length_map, sc.len]
end

def compWalk (J : It) (H1 : Hp) (σ0 : St) (g : TG) (te : TE) (Q : Addr → Hp → Prop) : Prop :=
  ∀ acc, H1 acc = none → ∃ W : Nat → Nat → St → Hp → Prop, (∃ m, W 0 m σ0 (upd H1 acc (.lst []))) ∧ ∀ i m σ' H', W i m σ' H' →
    (J.stop i H' ∧ Q acc H') ∨ (J.go i H' ∧ ∀ x H2, J.yld i H' x H2 → g x σ' H2 fun σ2 H3 => te σ2 H3 fun y H4 => ∃ ys, H4 acc = some (.lst ys) ∧ ys.length < sizeLine ∧ ∃ m', m' < m ∧ W (i + 1) m' σ2 (upd H4 acc (.lst (ys ++ [y]))))
def tComp (wi : TI) (own : Nat) (fv : List Nat) (g : TG) (te : TE) : TE := fun σ H Q => wi σ H fun J H1 => compWalk J H1 (blkStart own fv σ) g te fun acc H' => Q (.ref acc) H'

section
variable {X : Cx} {elt tg iter : Expr} {scope : Scope} {N' : List Str} {own : Nat} {fv : List Nat} {cl : List (Str × Addr)} {pins : List (Addr × Obj)} {σ : St} {H2 : Hp} {s2 : Shared} {fp : List Addr} {it : Addr} {tn : Nat → Heap → Prop} {J : It} {pos : Pos} {g : TG} {te : TE} {Q : Addr → Hp → Prop}
theorem comp_block (hc : X.calm = true) (sc : BlkScope X scope N' own fv) (I2 : Inv X pins σ H2 s2) (T : Turn X.prog X.w X.K tg J fp it tn) (st2 : tn 0 s2.heap) (f2 : ∀ b ∈ fp, FpOk X pins H2 b)
    (c1 : ∀ n c, cl.lookup n = some c → X.env.cells.lookup n = some c) (c2 : ∀ y ∈ scope.names, y.2 = .free → ∃ c, cl.lookup y.1 = some c)
    (hg : ∀ cl s3 H3 ex, PG (X.blk scope N' cl s3 H3 ex) tg g) (he : ∀ cl s3 H3 ex, PE (X.blk scope N' cl s3 H3 ex) elt te)
    (hq : compWalk J H2 (blkStart own fv σ) g te Q) {RR : Value → Addr → Result → Shared → Prop}
    (hRR : ∀ acc C s' H' m, Inv X pins σ H' s' → Q acc H' → s'.heap.Ns C m → H' C = none → C ≠ X.env.locals → X.s₀.heap.objs.size ≤ C → (∀ x c, X.env.cells.lookup x = some c → c ≠ C) → (∀ p ∈ X.pn ++ pins, p.1 ≠ C) → RR (.ref acc) C (.ok .next) s') :
    wpAny (model X.prog X.w) X.A (newList []) (fun acc s3 => wpAny (model X.prog X.w) X.A (newFunctionEnv scope X.env.globals cl [] X.env.qual none .none (some X.env)) (fun cenv s4 =>
      codeAny (model X.prog X.w) X.A (.compStart (.ListComp elt [⟨tg, iter, [], 0⟩] scope pos) 0 (.ref it) acc { cenv with scope := relabel scope X.env }) (RR acc cenv.locals) s4) X.xe s3) X.xe s2 := by
  refine wpAny_newObj_type (wpAny_newFunctionEnv sc.nocell (by intro y hy; simp at hy) (fun h1 hns hsb => ?_) sc.kind)
  dsimp only at hns hsb ⊢
  have I3 : Inv X pins σ (upd H2 s2.heap.objs.size (.lst [])) { s2 with heap := s2.heap.push { cls := .type "list", dict := none, data := .seq ([] : List Value).toArray } } := I2.lnew (t' := s2.toks) .nil (Nat.zero_le _)
  have hacc : H2 s2.heap.objs.size = none := I2.fresh
  obtain ⟨W, ⟨m0, w0⟩, turn⟩ := hq s2.heap.objs.size hacc
  have flt : ∀ b ∈ fp, b < s2.heap.objs.size := fun b hb => by
    obtain ⟨o, e, _⟩ := T.obj _ _ st2 b hb
    exact Heap.lt_size e
  have f3 : ∀ b ∈ fp, FpOk X pins (upd H2 s2.heap.objs.size (.lst [])) b := fun b hb => ⟨by rw [upd_ne (Nat.ne_of_lt (flt b hb))]; exact (f2 b hb).1, (f2 b hb).2⟩
  have st3 : tn 0 (s2.heap.push { cls := .type "list", dict := none, data := .seq ([] : List Value).toArray }) := T.keep _ _ _ st2 fun b _ o e => Heap.get?_push_of_some _ e
  generalize hs3 : ({ s2 with heap := s2.heap.push { cls := .type "list", dict := none, data := .seq ([] : List Value).toArray } } : Shared) = s3 at I3 
  have eh : s2.heap.push { cls := .type "list", dict := none, data := .seq ([] : List Value).toArray } = s3.heap := by rw [← hs3]
  rw [eh] at hns hsb st3
  have old : ∀ b o, s3.heap.get? b = some o → h1.get? b = some o := fun b o e => hsb.extBut b o (Nat.ne_of_lt (Heap.lt_size e)) (Heap.get?_push_of_some _ e)
  have fo3 : ∀ b ∈ fp, b < s3.heap.objs.size := fun b hb => by
    obtain ⟨o, e, _⟩ := T.obj _ _ st3 b hb
    exact Heap.lt_size e
  have est : ({ s2 with heap := h1, toks := s2.toks + ([] : List (Str × Value)).length } : Shared) = { s3 with heap := h1, toks := s3.toks } := by rw [← hs3]; rfl
  have I4 : Inv (X.blk scope N' cl s3 (upd H2 s2.heap.objs.size (.lst [])) fp) [] (blkStart own fv σ) (upd H2 s2.heap.objs.size (.lst [])) { s3 with heap := h1, toks := s3.toks } :=
    blk_inv sc I3 f3 fo3 c1 c2 hns old
  have st4 : tn 0 h1 := T.keep _ _ _ st3 fun b _ o e => old b o e
  have stat : ∀ {H' : Hp}, (∀ b ∈ fp, H' b = none) → ∀ b ∈ fp, FpOk (X.blk scope N' cl s3 (upd H2 s2.heap.objs.size (.lst [])) fp) [] H' b := fun hn b hb =>
    ⟨hn b hb, Nat.ne_of_lt (fo3 b hb), fun hf => by
      rcases List.mem_cons.mp (I3.stkSub b hf) with h | h
      · exact (f3 b hb).2.1 h
      · exact (f3 b hb).2.2.1 h, .inl hb, fun x c hc' => (f3 b hb).2.2.2.2.1 x c (c1 x c hc'), fun p hp => nomatch hp⟩
  have loop : ∀ s4 : Shared, s4 = { s3 with heap := h1, toks := s3.toks } →
      codeAny (model X.prog X.w) X.A (.compLoop (.ListComp elt [⟨tg, iter, [], 0⟩] scope pos) 0 (.ref it) (.ref s2.heap.objs.size) (compEnvC scope cl s3.heap.objs.size X.env)) (RR (.ref s2.heap.objs.size) s3.heap.objs.size) s4 := by
    rintro s4 rfl
    refine codeAny_compLoop_own (fun n s' => ∃ i σ' H', Inv (X.blk scope N' cl s3 (upd H2 s2.heap.objs.size (.lst [])) fp) [] σ' H' s' ∧ tn i s'.heap ∧ (∀ b ∈ fp, H' b = none) ∧ W i n σ' H') ?_ m0
      ⟨0, _, _, I4, st4, fun b hb => (f3 b hb).1, w0⟩
    rintro n s5 ⟨i, σ5, H5, I5, st5, fr5, w5⟩
    rcases turn i n σ5 H5 w5 with ⟨stop, q⟩ | ⟨go, step⟩
    · refine thn (T.done (X.blk scope N' cl s3 (upd H2 s2.heap.objs.size (.lst [])) fp) rfl rfl rfl hc i [] s5 σ5 H5 _ I5 (stat fr5) st5 stop) fun r s6 ⟨hr, I6⟩ => ?_
      subst hr
      obtain ⟨m6, hn6, _⟩ := I6.loc
      refine hRR _ _ s6 H5 m6 (I3.call' (ch := fp) I6.os I6.base I6.hok I6.bare fun b hb => ⟨(f3 b hb).2.2.2.1, (f3 b hb).2.1, (f3 b hb).2.2.2.2.1, (f3 b hb).2.2.2.2.2⟩) q hn6 I6.free (Nat.ne_of_gt I3.lt) I3.sz (fun x c hc' => ?_) fun p hp => ?_
      · obtain ⟨v, o, ho, _⟩ := I3.cell x c hc'
        exact Nat.ne_of_lt (Heap.lt_size ho)
      · exact Nat.ne_of_lt (Heap.lt_size (I3.pin p hp).1)
    · refine thn (T.item (X.blk scope N' cl s3 (upd H2 s2.heap.objs.size (.lst [])) fp) rfl rfl rfl hc i [] s5 σ5 H5 _ I5 (stat fr5) st5 go) fun r s6 ⟨u, hr, h6⟩ => ?_
      subst hr
      refine thn h6 fun _ s7 ⟨x, H7, I7, r7, y7, st7, fr7⟩ => ?_
      have I7' := I7.pinned (stat fr7) (T.obj _ _ st7)
      refine wpAny_mono (hg cl s3 _ fp _ s7 σ5 H7 x u _ I7' r7 (step x H7 y7)) (fun _ s8 ⟨σ8, H8, I8, q8⟩ => ?_) fun _ _ z => z.elim
      refine wpAny_mono (he cl s3 _ fp _ s8 σ8 H8 _ I8 q8) (fun v s9 ⟨y, H9, I9, r9, ys, e9, z9, m', hm', w9⟩ => ?_) fun _ _ z => z.elim
      refine wpAny_mono (mt_append (X := X.blk scope N' cl s3 (upd H2 s2.heap.objs.size (.lst [])) fp) _ s9 σ8 H9 (.ref s2.heap.objs.size) [y] (.ref s2.heap.objs.size) [v] (fun _ H' => ∃ m', m' < n ∧ W (i + 1) m' σ8 H') I9 rfl (.cons r9 .nil) ⟨_, ys, y, rfl, rfl, e9, z9, m', hm', w9⟩) (fun _ s10 ⟨_, H10, I10, _, m10, hm10, w10⟩ => ?_) fun _ _ z => z.elim
      refine ⟨m10, hm10, i + 1, σ8, H10, I10.unpinned (pl := pinsAt fp s7.heap), T.keep _ _ _ st7 fun b hb o e => (I10.pin (b, o) (List.mem_append_right _ (List.mem_append_right _ (mem_pinsAt hb e)))).1, fun b hb => ?_, w10⟩
      obtain ⟨o, e, d⟩ := T.obj _ _ st7 b hb
      exact (I10.pin (b, o) (List.mem_append_right _ (List.mem_append_right _ (mem_pinsAt hb e)))).2.1
  rw [est]
  rw [eh]
  exact codeAny_compStart_list (loop _ rfl) (T.self _ 0 _ _ _ st4 (loop _ rfl))

theorem pe_comp {wi : TI} (hc : X.calm = true) (sc : BlkScope X scope N' own fv) (hi : PI X tg iter wi)
    (hg : ∀ cl s3 H3 ex, PG (X.blk scope N' cl s3 H3 ex) tg g) (he : ∀ cl s3 H3 ex, PE (X.blk scope N' cl s3 H3 ex) elt te)
    (hs : ∀ x, foldedSetIterable iter X.env x = pure x := by intro _; rfl) : PE X (.ListComp elt [⟨tg, iter, [], 0⟩] scope pos) (tComp wi own fv g te) := by
  intro pins s σ H Q I h
  obtain ⟨cl, hcl, c1, c2⟩ := closure_ex (scope := scope) (env := X.env) fun y hy hf => I.ok.has _ (sc.free y hy hf)
  rw [eval_ListComp]
  refine wpAny_comprehension_free (use := none) rfl hs hcl sc.kind sc.names (thn (hi pins s σ H _ I h) fun v s1 h1 => thn h1 fun itv s2 h2 => ?_)
  obtain ⟨it, fp, tn, J, H2, e, I2, T, st2, f2, hq⟩ := h2
  subst e
  refine comp_block (RR := fun acc C => compPost (model X.prog X.w) X.A X.xe none (EP X pins σ Q) acc C) hc sc I2 T st2 f2 c1 c2 hg he hq ?_
  intro acc C s' H' m I' q hn hC hL h0 hcc hp
  exact ⟨m, hn, fun h' sb => ⟨.ref acc, H', I'.turned (t' := s'.toks) (fun b o hb e => sb.extBut b o hb e) hC hL (.inr h0) hcc hp, rfl, q⟩⟩

theorem ps_setComp {wi : TI} {i : Nat} {x : Str} {pos' spos : Pos} (hc : X.calm = true) (sc : BlkScope X scope N' own fv) (hN : X.N.Nodup) (hix : X.N[i]? = some x) (hx : Loc X.env.scope x) (hi : PI X tg iter wi)
    (hg : ∀ cl s3 H3 ex, PG (X.blk scope N' cl s3 H3 ex) tg g) (he : ∀ cl s3 H3 ex, PE (X.blk scope N' cl s3 H3 ex) elt te)
    (hsw : swapsWith (.ListComp elt [⟨tg, iter, [], 0⟩] scope pos) (some (.Name x pos')) spos.line X.env = pure true := by rfl)
    (hs : ∀ x, foldedSetIterable iter X.env x = pure x := by intro _; rfl)
    (hf : X.fn x = true ∨ X.env.scope.names.lookup x = some .local := by first | exact .inl rfl | exact .inr rfl | assumption) :
    PS X (.Assign [.Name x pos'] (.ListComp elt [⟨tg, iter, [], 0⟩] scope pos) spos) (tAsg (tComp wi own fv g te) (gName i)) := by
  intro pins s σ H D I h
  obtain ⟨cl, hcl, c1, c2⟩ := closure_ex (scope := scope) (env := X.env) fun y hy hf => I.ok.has _ (sc.free y hy hf)
  rw [exec_Assign_Name_used _ _ _ _ hsw]
  refine wpAny_bind (wpAny_standAt (wpAny_bind ?_))
  show wpAny _ X.A (do let _ ← comprehension (.ListComp elt [⟨tg, iter, [], 0⟩] scope pos) scope X.env _ (newList []) false (eval iter X.env) (some (assign (.Name x pos') X.env))) _ _ s
  refine wpAny_bind (wpAny_mono (wpAny_comprehension_free (use := some (assign (.Name x pos') X.env)) (Q := fun _ s' => SP X pins D .next s') rfl hs hcl sc.kind sc.names
    (thn (hi pins s σ H _ I h) fun v s1 h1 => thn h1 fun itv s2 h2 => ?_)) (fun _ s' hq => wpAny_pure (wpAny_pure hq)) fun _ _ e => e)
  obtain ⟨it, fp, tn, J, H2, e, I2, T, st2, f2, hq⟩ := h2
  subst e
  refine comp_block (RR := fun acc C => compPost (model X.prog X.w) X.A X.xe (some (assign (.Name x pos') X.env)) (fun _ s' => SP X pins D .next s') acc C) hc sc I2 T st2 f2 c1 c2 hg he hq ?_
  intro acc C s' H' m I' q hn hC hL h0 hcc hp
  show wpAny _ X.A (assign (.Name x pos') X.env (.ref acc)) _ _ _
  refine wpAny_assign_Name (store_ok2 I' hN hix hx (v := .ref acc) rfl (fun s'' I'' ⟨a, sb, ha⟩ => ?_) hf)
  have hCa : C ≠ a := by
    rcases ha with rfl | ha
    · exact hL
    · exact fun z => hcc x a ha z.symm
  refine ⟨m, hn.sameBut sb hCa, fun h' sb' => ⟨_, H', I''.turned (t' := s''.toks) (fun b o hb e => sb'.extBut b o hb e) hC hL (.inr h0) hcc hp, q⟩⟩
end
end L2

set_option Elab.async false
set_option linter.all false
set_option maxRecDepth 100000

namespace L2
open PySem PySem.Spec PyProof.Rows

section
variable {prog : Program} {w : World} {A : Around} {E : Value → Shared → Prop}
end
section
variable {X : Cx} {pos : Pos}


end

mutual
inductive Rep (K : PySem.W.Frag) (H : Hp) : V → PyData → Prop
  | non : Rep K H .non .none
  | bl (b : Bool) : Rep K H (.bl b) (.bool b)
  | int (i : Int) : Rep K H (.int i) (.int i)
  | str (x : Str) : Rep K H (.str x) (.str x)
  | lst {a : Addr} {xs : List V} {ds : List PyData} : SqL K H a xs → RepAll K H xs ds → Rep K H (.ref a) (.list ds)
  | tup {a : Addr} {xs : List V} {ds : List PyData} : SqT K H a xs → RepAll K H xs ds → Rep K H (.ref a) (.tuple ds)
inductive RepAll (K : PySem.W.Frag) (H : Hp) : List V → List PyData → Prop
  | nil : RepAll K H [] []
  | cons {x : V} {d : PyData} {xs : List V} {ds : List PyData} : Rep K H x d → RepAll K H xs ds → RepAll K H (x :: xs) (d :: ds)
end
mutual
theorem Rep.reads {X : Cx} {pins : List (Addr × Obj)} {σ : St} {H : Hp} {s : Shared} (I : Inv X pins σ H s) : ∀ {v : V} {d : PyData} {u : Value}, Rep X.K H v d → RelV v u → ∃ as, Reads s.heap u d as
  | _, _, _, .non, r => by cases r; exact ⟨_, .none⟩
  | _, _, _, .bl b, r => by cases r; exact ⟨_, .bool b⟩
  | _, _, _, .int i, r => by obtain ⟨t, rfl⟩ := r; exact ⟨_, .int i t⟩
  | _, _, _, .str x, r => by obtain ⟨t, rfl⟩ := r; exact ⟨_, .str x t⟩
  | _, _, _, .lst h q, r => by
    cases r
    obtain ⟨its, rv, pl, _⟩ := I.list h
    obtain ⟨as, ra⟩ := RepAll.reads I q rv
    obtain ⟨o, e, c, n, d⟩ := pl.isList
    exact ⟨_, .list e c d ra⟩
  | _, _, _, .tup h q, r => by
    cases r
    obtain ⟨its, rv, pl, _⟩ := I.tuple h
    obtain ⟨as, ra⟩ := RepAll.reads I q rv
    obtain ⟨o, e, c, n, d⟩ := pl
    exact ⟨_, .tuple e c d ra⟩
theorem RepAll.reads {X : Cx} {pins : List (Addr × Obj)} {σ : St} {H : Hp} {s : Shared} (I : Inv X pins σ H s) : ∀ {xs : List V} {ds : List PyData} {us : List Value}, RepAll X.K H xs ds → Vals xs us → ∃ as, ReadsAll s.heap us ds as
  | _, _, _, .nil, .nil => ⟨_, .nil⟩
  | _, _, _, .cons h q, .cons r rr => by
    obtain ⟨as, ra⟩ := Rep.reads I h r
    obtain ⟨bs, rb⟩ := RepAll.reads I q rr
    exact ⟨_, .cons ra rb⟩
end
section
variable {X : Cx}
def rEqD (K : PySem.W.Frag) (neg : Bool) : R2 := fun x y H Q => ∃ d e, Rep K H x d ∧ Rep K H y e ∧ d.canLay0 = true ∧ e.canLay0 = true ∧ d.depth ≤ 64 ∧ Q (.bl (if neg then !PyData.eqv d e else PyData.eqv d e)) H
theorem op_eqD (hu : X.A.units + 64 < cLine) : OpR X (compareOp .Eq) (rEqD X.K false) := by
  intro pins s σ H x y v u Q I rx ry h
  obtain ⟨d, e, rd, re, ld, le, dd, q⟩ := h
  obtain ⟨as, ra⟩ := rd.reads I rx
  obtain ⟨bs, rb⟩ := re.reads I ry
  exact SeqAt.compareEq_reads ra rb ld le (by omega) ⟨.bl _, H, I, rfl, q⟩
theorem op_neD (hu : X.A.units + 64 < cLine) : OpR X (compareOp .NotEq) (rEqD X.K true) := by
  intro pins s σ H x y v u Q I rx ry h
  obtain ⟨d, e, rd, re, ld, le, dd, q⟩ := h
  obtain ⟨as, ra⟩ := rd.reads I rx
  obtain ⟨bs, rb⟩ := re.reads I ry
  exact SeqAt.compareNe_reads ra rb ld le (by omega) ⟨.bl _, H, I, rfl, q⟩

theorem call_isi {T : String} : CallR X (.builtin "isinstance") (fun xs H Q => ∃ x t k, xs = [x, .ty T] ∧ TyOf X.K H x t ∧ PySem.W.kitOne X.K t (.type T) = some k ∧ Q (.bl k) H) := by
  intro pins s σ H xs us Q I r h
  obtain ⟨x, t, k, rfl, ty, e, q⟩ := h
  obtain ⟨u, w', rfl, r1, r2⟩ := vals2 r
  cases r2
  exact isinst_ok I r1 ty e fun tk => ⟨.bl k, H, I.tok _, rfl, q⟩
end
end L2

namespace L2
open PySem PySem.Spec PyProof.Rows
section
variable {X : Cx}
theorem op_isB : OpR X (compareOp .Is) (fun x y H Q => ∃ b c, x = .bl b ∧ y = .bl c ∧ Q (.bl (b == c)) H) := by
  intro pins s σ H x y v u Q I rx ry h
  obtain ⟨b, c, rfl, rfl, q⟩ := h
  cases rx
  cases ry
  refine wpAny_is_plain rfl (fin_bl I q ?_)
  cases b <;> cases c <;> rfl

def blkOk (sc0 : Scope) (N0 : List Str) (scope : Scope) (N' : List Str) (own : Nat) (fv : List Nat) : Bool :=
  decide (scope.kind = .function) && (scope.names.all fun y => decide (y.2 ≠ .cell)) && (scope.names.all fun y => decide (y.2 ≠ .local) || decide (scope.names.lookup y.1 = some .local)) &&
  (scope.names.all fun y => decide (y.2 ≠ .free) || (decide (sc0.names.lookup y.1 = some .cell) || decide (sc0.names.lookup y.1 = some .free))) && decide (N'.length = own + fv.length) &&
  ((List.range fv.length).all fun i => match N'[own + i]?, fv[i]? with
    | some x, some j => decide (N0[j]? = some x) && decide (scope.names.lookup x = some .free) && (decide (sc0.names.lookup x = some .cell) || decide (sc0.names.lookup x = some .free))
    | _, _ => false)
theorem blk_of {sc0 : Scope} {N0 : List Str} {scope : Scope} {N' : List Str} {own : Nat} {fv : List Nat} (h : blkOk sc0 N0 scope N' own fv = true) (h1 : X.env.scope = sc0) (h2 : X.N = N0) : BlkScope X scope N' own fv := by
  unfold blkOk at h
  simp only [Bool.and_eq_true, List.all_eq_true, decide_eq_true_eq, Bool.or_eq_true] at h
  obtain ⟨⟨⟨⟨⟨a1, a2⟩, a3⟩, a4⟩, a5⟩, a6⟩ := h
  refine ⟨a1, a2, fun y hy e => ?_, fun y hy e => ?_, a5, fun i => ?_⟩
  · rcases a3 y hy with z | z
    · exact absurd e z
    · exact z
  · rcases a4 y hy with z | z
    · exact absurd e z
    · show X.env.scope.names.lookup y.1 = _ ∨ X.env.scope.names.lookup y.1 = _
      rw [h1]; exact z
  · have := a6 i.val (List.mem_range.mpr i.isLt)
    split at this
    · rename_i x j e1 e2
      simp only [Bool.and_eq_true, decide_eq_true_eq, Bool.or_eq_true] at this
      refine ⟨x, e1, ?_, this.1.2, ?_⟩
      · have e3 : fv[i.val] = j := by
          have := List.getElem?_eq_getElem i.isLt
          rw [e2] at this; exact (Option.some.inj this).symm
        rw [h2, e3]; exact this.1.1
      · show X.env.scope.names.lookup x = _ ∨ X.env.scope.names.lookup x = _
        rw [h1]; exact this.2
    · cases this
end

theorem Same.put {H : Hp} {a : Addr} {o : HO} (h : H a = none) : Same H (upd H a o) := fun b u e => by
  rw [upd_ne (ne_of_none e h)]; exact e
end L2

namespace L2
open PySem PySem.Spec PyProof.Rows
section
variable {X : Cx} {e : Expr}
end
end L2

namespace L2
open PySem PySem.Spec PyProof.Rows
section
variable {X : Cx}
def CDivL (i j : Int) : Prop := 0 < j ∧ j < 2 ^ 512
theorem op_fdivL : OpR X (binaryOp .FloorDiv) (rI CDivL fun i j => .int (i / j)) := opI fun i j _ _ _ _ _ hc q => by
  have h0 := hc.1
  have h1 := hc.2
  refine floordiv_int (by omega) ?_ (.inl (PyProof.noPylong_of_log2 ?_))
  · rw [Int.fdiv_eq_ediv_of_nonneg i (by omega)]; exact q
  · have h2 : j.natAbs < 2 ^ 512 := by omega
    have h3 : j.natAbs ≠ 0 := by omega
    exact Nat.lt_trans ((Nat.log2_lt h3).mpr h2) (by decide)
end
end L2

namespace L2
open PySem PySem.Spec PyProof.Rows
section
variable {X : Cx} {K : PySem.W.Frag} {tg l : Expr} {tl : TE}
theorem ix_tupK (h : X.K = K := by rfl) : IxR X (rIxT K) := by subst h; exact ix_tup
end
end L2

set_option Elab.async false
set_option linter.all false
set_option maxRecDepth 100000

namespace L2
open PySem PySem.Spec PyProof.Rows
section
variable {X : Cx} {pins : List (Addr × Obj)} {σ : St} {H : Hp} {s : Shared} {h' : Heap} {t' : Nat} {fp : List Addr}
theorem Inv.turnedAll (I : Inv X pins σ H s) (hf : ∀ b ∈ fp, FpOk X pins H b) (k : ∀ b o, b ∉ fp → s.heap.get? b = some o → h'.get? b = some o) : Inv X pins σ H { s with heap := h', toks := t' } := by
  have nit : ∀ b u, H b = some u → b ∉ fp := fun b u e z => by rw [(hf b z).1] at e; cases e
  refine I.step (g' := s.gens) (d' := s.drawn) (ch := fp) (fun b hb => ⟨(hf b hb).2.2.2.1, (hf b hb).2.1, (hf b hb).2.2.2.2.1, (hf b hb).2.2.2.2.2⟩) (fun b o _ _ hc e _ => k b o hc e) (fun b o _ _ hc e _ => ⟨o.slots, k b o hc e⟩) (fun _ _ _ _ n => n)
    (fun b o hc e => ⟨o, k b o hc e⟩) (fun _ _ e => e) (fun _ _ _ e => e) (fun b ps e => ⟨#[], by rw [e]; simp⟩) (fun m hm => ?_) (fun b u e => ?_) I.bare
  · obtain ⟨o, es, ep, ho, r⟩ := hm
    exact ⟨o, es, ep, k _ o (fun z => (hf _ z).2.1 rfl) ho, r⟩
  · refine (I.hok b u e).stay (fun c v hc q => k c v ?_ q) (fun _ q => q) fun _ _ q => q
    rcases hc with z | z
    · rw [z]; exact nit b u e
    · exact nit c _ z
theorem Inv.turnedTup {T : Addr} {x y : V} {vx vy : Value} (I : Inv X pins σ H s) (hf : ∀ b ∈ fp, FpOk X pins H b) (hT : s.heap.objs.size ≤ T) (hp : IsPair h' T vx vy) (rx : RelV x vx) (ry : RelV y vy)
    (k : ∀ b o, b ∉ fp → s.heap.get? b = some o → h'.get? b = some o) : Inv X pins σ (upd H T (.tup [x, y])) { s with heap := h', toks := t' } := by
  have hn : H T = none := I.hok.fresh hT
  have sm : Same H (upd H T (.tup [x, y])) := fun b u e => by rw [upd_ne (ne_of_none e hn)]; exact e
  have nit : ∀ b u, H b = some u → b ∉ fp := fun b u e z => by rw [(hf b z).1] at e; cases e
  refine I.step (g' := s.gens) (d' := s.drawn) (ch := fp) (fun b hb => ⟨(hf b hb).2.2.2.1, (hf b hb).2.1, (hf b hb).2.2.2.2.1, (hf b hb).2.2.2.2.2⟩) (fun b o _ _ hc e _ => k b o hc e) (fun b o _ _ hc e _ => ⟨o.slots, k b o hc e⟩)
    (fun b o _ e n => by rw [upd_ne (Nat.ne_of_lt (Nat.lt_of_lt_of_le (Heap.lt_size e) hT))]; exact n)
    (fun b o hc e => ⟨o, k b o hc e⟩) (fun b xs e => sm b _ e) (fun b o u e => sm b _ e) (fun b ps e => ⟨#[], by rw [sm b _ e]; simp⟩) (fun m hm => ?_) (fun b u e => ?_) I.bare
  · obtain ⟨o, es, ep, ho, r⟩ := hm
    exact ⟨o, es, ep, k _ o (fun z => (hf _ z).2.1 rfl) ho, r⟩
  · by_cases hb : b = T
    · subst hb
      rw [upd_same] at e; cases e
      exact ⟨by show 2 ≤ sizeLine; rw [sizeLine_eq]; decide, [vx, vy], .cons rx (.cons ry .nil), ⟨_, hp, rfl, _, rfl⟩⟩
    · rw [upd_ne hb] at e
      refine (I.hok b u e).stay (fun c v hc q => k c v ?_ q) (fun c q => sm c _ q) fun c xs q => sm c _ q
      rcases hc with z | z
      · rw [z]; exact nit b u e
      · exact nit c _ z
end
section
variable {X : Cx} {K : PySem.W.Frag}
end

end L2

namespace L2
open PySem PySem.Spec PyProof.Rows
theorem pg_tupK {X : Cx} {K : PySem.W.Frag} {pos : Pos} {es : List Expr} {k : Nat} {t : TGs} {n : Nat} (hc : X.calm = true) (h : PGs X es t) (hK : X.K = K := by rfl)
    (hn : (assignEach es X.env).length = n := by rfl) (hst : (assignEach es X.env).findIdx? (·.1) = none := by rfl) : PG X (.Tuple es k pos) (gTup K n t) := by subst hK; exact pg_tup hc h hn hst
end L2

set_option Elab.async false
set_option linter.all false
set_option maxRecDepth 100000

namespace L2
open PySem PySem.Spec PyProof.Rows
def Ite (K : PySem.W.Frag) (a : Addr) : It :=
  ⟨fun i H => ∃ xs x, SqL K H a xs ∧ xs[i]? = some x,
   fun i H v H' => ∃ (T : Addr) (x : V), v = .ref T ∧ H T = none ∧ H' = upd H T (.tup [.int (i : Int), x]) ∧ (∀ xs, SqL K H a xs → xs[i]? = some x),
   fun i H => ∃ xs, SqL K H a xs ∧ xs.length ≤ i⟩
theorem turn_enum {P : Program} {w : World} {K : PySem.W.Frag} {elts : List Expr} {k0 : Nat} {pos : Pos} {e it l : Addr} (hne : e ≠ it) :
    Turn P w K (.Tuple elts k0 pos) (Ite K l) [e, it] e (fun i h => (∃ old, IsEnum h e it (i : Int) old) ∧ h.IsListIter it l i) where
  mem := by simp
  obj := fun i h st b hb => by
    obtain ⟨⟨old, he⟩, ⟨o1, e1, c1, d1⟩⟩ := st
    simp only [List.mem_cons, List.not_mem_nil, or_false] at hb
    rcases hb with rfl | rfl
    · exact ⟨_, he, fun v q => nomatch q⟩
    · exact ⟨o1, e1, fun v q => by rw [d1] at q; cases q⟩
  keep := fun i h h' st kp => by
    obtain ⟨⟨old, he⟩, h1⟩ := st
    exact ⟨⟨old, kp e (by simp) _ he⟩, h1.at fun o q => kp it (by simp) o q⟩
  item := by
    intro X hP hw hK hc i pins s σ H E I hf st hg
    subst hP hw hK
    obtain ⟨xs, x, hq1, hx⟩ := hg
    obtain ⟨its1, rv1, p1, _⟩ := I.list hq1
    obtain ⟨u1, hu1, ru1⟩ := rv1.get hx
    obtain ⟨⟨old, he⟩, h1⟩ := st
    refine wpAny_pyNext_enum_item he h1 p1.isList (x := u1) (by simpa using hu1) hne fun h' a1 a3 a5 a6 hk => ?_
    have kp : ∀ c o, c ∉ [e, it] → s.heap.get? c = some o → h'.get? c = some o := fun c o hc q => by
      simp only [List.mem_cons, List.not_mem_nil, or_false, not_or] at hc
      exact hk c o hc.1 hc.2 q
    have I1 : Inv X pins σ (upd H s.heap.objs.size (.tup [.int (i : Int), x])) { s with heap := h', toks := s.toks + 1 } := I.turnedTup (t' := s.toks + 1) hf (Nat.le_refl _) a5 ⟨_, rfl⟩ ru1 kp
    have nz : ∀ b ∈ [e, it], b ≠ s.heap.objs.size := fun b hb q => by
      simp only [List.mem_cons, List.not_mem_nil, or_false] at hb
      rcases hb with rfl | rfl
      · exact Nat.lt_irrefl _ (q ▸ Heap.lt_size he)
      · obtain ⟨_, e2, _⟩ := h1; exact Nat.lt_irrefl _ (q ▸ Heap.lt_size e2)
    have hf1 : ∀ b ∈ [e, it], FpOk X pins (upd H s.heap.objs.size (.tup [.int (i : Int), x])) b := fun b hb => ⟨by rw [upd_ne (nz b hb)]; exact (hf b hb).1, (hf b hb).2⟩
    refine ⟨.ref s.heap.objs.size, rfl, wpAny_letOwnedTupleGo_enum (s := { s with heap := h', toks := s.toks + 1 }) a1 fun h2' hz' hs' => ?_⟩
    have I2 : Inv X pins σ (upd H s.heap.objs.size (.tup [.int (i : Int), x])) { s with heap := h2', toks := s.toks + 1 } := I1.turnedAll (t' := s.toks + 1) hf1 fun c o hc q => hs'.extBut c o (fun z => hc (by simp [z])) q
    exact ⟨.ref s.heap.objs.size, _, I2, rfl, ⟨_, x, rfl, I.hok.fresh (Nat.le_refl _), rfl, fun xs' hx' => by rw [I.list_inj hx' hq1]; exact hx⟩,
      ⟨⟨_, by simpa using hz'⟩, a3.extBut hs'.extBut hne.symm⟩, fun b hb => (hf1 b hb).1⟩
  done := by
    intro X hP hw hK hc i pins s σ H E I hf st hg
    subst hP hw hK
    obtain ⟨xs, hq1, hl⟩ := hg
    obtain ⟨its1, rv1, p1, _⟩ := I.list hq1
    have l1 := rv1.length
    obtain ⟨⟨old, he⟩, h1⟩ := st
    refine wpAny_pyNext_enum_end (I.ok.hd hc) he h1 p1.isList (by simp; omega) fun h' hk => ⟨rfl, I.turnedAll (t' := s.toks) hf fun c o hc q => hk c o (fun z => hc (by simp [z])) q⟩
  self := fun _ _ _ _ _ st h => by obtain ⟨⟨old, he⟩, _⟩ := st; exact wpAny_pyIter_enum he h
section
variable {X : Cx} {K : PySem.W.Frag}
def iEnum (K : PySem.W.Frag) (ta : TA) : TI := fun σ H R => ta σ H fun vs H1 => ∃ (l : Addr) (xs : List V), vs = [.ref l] ∧ H1 l = some (.lst xs) ∧ R (Ite K l) H1
theorem pi_enum {elts : List Expr} {k0 : Nat} {tpos : Pos} {a : Expr} {ta : TA} {p pos : Pos} (hg : Gl X "enumerate") (hm : X.mg "enumerate" = none) (ha : PA X [a] ta) (hK : X.K = K := by rfl)
    (hs : starEach [a] X.env = [(false, eval a X.env)] := by rfl) : PI X (.Tuple elts k0 tpos) (.Call (.Name "enumerate" p) [a] [] pos) (iEnum K ta) := by
  subst hK
  intro pins s σ H R I h
  refine Call_ (ld_blt I hg hm (show bootBuiltins "enumerate" = some (.type "enumerate") by decide +kernel) (PyProof.Rows.callWith_type1 (thn (ha pos pins s σ H _ I h) fun us s1 ⟨vs, H1, I1, r1, q1⟩ => ?_) hs rfl))
  obtain ⟨l, xs, e, hx, q⟩ := q1
  subst e
  obtain ⟨u1, rfl, r2⟩ := vals1 r1
  have e1 : u1 = .ref l := r2
  subst e1
  obtain ⟨z, its, n, rv, el⟩ := I1.hok l _ hx
  refine call_enumerate_1 el fun h' hz hit _ hk => ?_
  refine wpAny_pyIter_enum hz ⟨_, [s1.heap.objs.size + 1, s1.heap.objs.size], _, Ite X.K l, H1, rfl, I1.kept (t' := s1.toks) hk, turn_enum (Nat.succ_ne_self _), ⟨⟨_, hz⟩, hit⟩, fun b hb => ?_, q⟩
  have hb' : s1.heap.objs.size ≤ b := by
    simp only [List.mem_cons, List.not_mem_nil, or_false] at hb
    rcases hb with rfl | rfl
    · exact Nat.le_succ _
    · exact Nat.le_refl _
  exact I1.fpOk hb' (I1.hok.fresh hb')
theorem for_enum {a : Addr} {xs : List V} {g : TG} {tb : TS} {D : Ends} {σ : St} {H : Hp} (Pv : Nat → St → Hp → Prop) (h0 : Pv 0 σ H) (hl : ∀ i σ H, i ≤ xs.length → Pv i σ H → SqL K H a xs)
    (hs : ∀ i x σ H T, xs[i]? = some x → Pv i σ H → H T = none → g (.ref T) σ (upd H T (.tup [.int (i : Int), x])) fun σ2 H2 => tb { D with nx := Pv (i + 1), ct := Pv (i + 1), bk := D.nx } σ2 H2) (hd : ∀ σ H, Pv xs.length σ H → D.nx σ H) :
    ∃ W : Nat → Nat → St → Hp → Prop, (∃ m, W 0 m σ H) ∧ ∀ i m σ H, W i m σ H →
      ((Ite K a).stop i H ∧ D.nx σ H) ∨ ((Ite K a).go i H ∧ ∃ N : St → Hp → Prop, (∀ σ' H', N σ' H' → ∃ m', m' < m ∧ W (i + 1) m' σ' H') ∧ ∀ x H', (Ite K a).yld i H x H' → g x σ H' fun σ2 H2 => tb { D with nx := N, ct := N, bk := D.nx } σ2 H2) := by
  refine ⟨fun i m σ H => m = xs.length - i ∧ i ≤ xs.length ∧ Pv i σ H, ⟨_, rfl, Nat.zero_le _, h0⟩, ?_⟩
  rintro i m σ H ⟨rfl, hi, hp⟩
  by_cases hlt : i < xs.length
  · refine .inr ⟨⟨xs, xs[i], hl i σ H hi hp, List.getElem?_eq_getElem hlt⟩, Pv (i + 1), fun σ' H' h' => ⟨xs.length - (i + 1), by omega, rfl, hlt, h'⟩, ?_⟩
    rintro x H' ⟨T, y, rfl, hT, rfl, hy⟩
    exact hs i y σ H T (hy xs (hl i σ H hi hp)) hp hT
  · have e : i = xs.length := by omega
    subst e
    exact .inl ⟨⟨xs, hl _ σ H hi hp, Nat.le_refl _⟩, hd σ H hp⟩


end
end L2

namespace L2
open PySem PySem.Spec PyProof.Rows
end L2




namespace L2
open PySem PySem.Spec PyProof.Rows

section
variable {κ : Type} [DecidableEq κ]
def valV (kvs : List (κ × V)) (k : κ) : Option V := (kvs.find? fun kv => decide (kv.1 = k)).map (·.2)
def putK (kvs : List (κ × V)) (k : κ) (v : V) : List (κ × V) :=
  if (kvs.any fun kv => decide (kv.1 = k)) = true then kvs.map (fun kv => if kv.1 = k then (kv.1, v) else kv) else kvs ++ [(k, v)]

theorem valV_pos {p : κ × V} {r : List (κ × V)} {k : κ} (e : p.1 = k) : valV (p :: r) k = some p.2 := by simp [valV, List.find?_cons, e]
theorem valV_neg {p : κ × V} {r : List (κ × V)} {k : κ} (e : ¬ p.1 = k) : valV (p :: r) k = valV r k := by simp [valV, List.find?_cons, e]
theorem valV_any (k : κ) : ∀ kvs : List (κ × V), (kvs.any fun kv => decide (kv.1 = k)) = (valV kvs k).isSome
  | [] => rfl
  | p :: r => by
    rw [List.any_cons]
    by_cases e : p.1 = k
    · simp only [valV_pos e, decide_eq_true e, Bool.true_or, Option.isSome_some]
    · rw [valV_neg e, decide_eq_false e, Bool.false_or]; exact valV_any k r
theorem valV_map (k j : κ) (y : V) : ∀ kvs : List (κ × V), valV (kvs.map fun kv => if kv.1 = k then (kv.1, y) else kv) j = (valV kvs j).map fun x => if j = k then y else x
  | [] => rfl
  | p :: r => by
    have ih := valV_map k j y r
    rw [List.map_cons]
    by_cases h : p.1 = k
    · rw [if_pos h]
      by_cases e : p.1 = j
      · rw [valV_pos (p := (p.1, y)) e, valV_pos e, Option.map_some, if_pos (e.symm.trans h)]
      · rw [valV_neg (p := (p.1, y)) e, valV_neg e, ih]
    · rw [if_neg h]
      by_cases e : p.1 = j
      · rw [valV_pos (p := p) e, valV_pos e, Option.map_some, if_neg (fun z => h (e.trans z))]
      · rw [valV_neg (p := p) e, valV_neg e, ih]
theorem valV_snoc (k j : κ) (y : V) : ∀ kvs : List (κ × V), valV kvs k = none → valV (kvs ++ [(k, y)]) j = if j = k then some y else valV kvs j
  | [], _ => by
    by_cases e : k = j
    · rw [if_pos e.symm]; exact valV_pos (p := (k, y)) e
    · rw [if_neg (fun z => e z.symm)]; exact valV_neg (p := (k, y)) e
  | p :: r, hn => by
    rw [List.cons_append]
    have hk : ¬ p.1 = k := fun z => by rw [valV_pos z] at hn; cases hn
    rw [valV_neg hk] at hn
    have ih := valV_snoc k j y r hn
    by_cases e : p.1 = j
    · rw [valV_pos e, valV_pos e, if_neg (fun z => hk (e.trans z))]
    · rw [valV_neg e, valV_neg e, ih]
theorem valV_put (kvs : List (κ × V)) (k j : κ) (y : V) : valV (putK kvs k y) j = if j = k then some y else valV kvs j := by
  unfold putK
  by_cases a : (kvs.any fun kv => decide (kv.1 = k)) = true
  · rw [if_pos a, valV_map]
    rw [valV_any] at a
    by_cases e : j = k
    · obtain ⟨x, hx⟩ := Option.isSome_iff_exists.mp a
      rw [if_pos e, e, hx, Option.map_some, if_pos rfl]
    · rw [if_neg e]
      cases valV kvs j with
      | none => rfl
      | some x => rw [Option.map_some, if_neg e]
  · rw [if_neg a]
    refine valV_snoc k j y kvs ?_
    rw [valV_any] at a
    cases q : valV kvs k with
    | none => rfl
    | some x => rw [q] at a; exact (a rfl).elim
theorem length_putK (kvs : List (κ × V)) (k : κ) (v : V) : (putK kvs k v).length ≤ kvs.length + 1 := by
  unfold putK
  split
  · rw [List.length_map]; omega
  · rw [List.length_append, List.length_cons, List.length_nil]; omega

theorem RelO.isSome_eq {o : Option V} {u : Option Value} (r : RelO o u) : o.isSome = u.isSome := by
  cases o with
  | none => cases u with
    | none => rfl
    | some _ => exact (show False from r).elim
  | some _ => cases u with
    | none => exact (show False from r).elim
    | some _ => rfl
theorem RelO.getD {o : Option V} {u : Option Value} {d : V} {d' : Value} (r : RelO o u) (rd : RelV d d') : RelV (o.getD d) (u.getD d') := by
  cases o with
  | none => cases u with
    | none => exact rd
    | some _ => exact (show False from r).elim
  | some _ => cases u with
    | none => exact (show False from r).elim
    | some _ => exact r

theorem KV.val {kvs : List (κ × V)} {vs : List (κ × Value)} (r : KV kvs vs) (k : κ) : RelO (valV kvs k) (valueAt vs k) := by
  unfold KV at r
  induction r with
  | nil => exact True.intro
  | @cons p q ps qs h t ih =>
    obtain ⟨h1, h2⟩ := h
    by_cases e : p.1 = k
    · have e' : q.1 = k := h1.symm.trans e
      have b : valueAt (q :: qs) k = some q.2 := by simp [valueAt, List.find?_cons, e']
      rw [valV_pos e, b]; exact h2
    · have e' : ¬ q.1 = k := fun z => e (h1.trans z)
      have b : valueAt (q :: qs) k = valueAt qs k := by simp [valueAt, List.find?_cons, e']
      rw [valV_neg e, b]; exact ih
theorem KV.any {kvs : List (κ × V)} {vs : List (κ × Value)} (r : KV kvs vs) (k : κ) : (kvs.any fun kv => decide (kv.1 = k)) = vs.any fun kv => decide (kv.1 = k) := by
  unfold KV at r
  induction r with
  | nil => rfl
  | cons h t ih => rw [List.any_cons, List.any_cons, ih, h.1]
theorem KV.repl {kvs : List (κ × V)} {vs : List (κ × Value)} (r : KV kvs vs) (k : κ) {y : V} {u : Value} (ry : RelV y u) :
    KV (kvs.map fun kv => if kv.1 = k then (kv.1, y) else kv) (vs.map fun kv => if kv.1 = k then (kv.1, u) else kv) := by
  unfold KV at r ⊢
  induction r with
  | nil => exact .nil
  | @cons p q ps qs h t ih =>
    rw [List.map_cons, List.map_cons]
    refine .cons ?_ ih
    obtain ⟨h1, h2⟩ := h
    by_cases e : p.1 = k
    · rw [if_pos e, if_pos (h1.symm.trans e)]; exact ⟨h1, ry⟩
    · rw [if_neg e, if_neg (fun z => e (h1.trans z))]; exact ⟨h1, h2⟩
theorem KV.put {kvs : List (κ × V)} {vs : List (κ × Value)} (r : KV kvs vs) (k : κ) {y : V} {u : Value} (ry : RelV y u) : KV (putK kvs k y) (stored vs k u) := by
  unfold putK stored
  rw [r.any k]
  by_cases e : (vs.any fun kv => decide (kv.1 = k)) = true
  · rw [if_pos e, if_pos e]; exact r.repl k ry
  · rw [if_neg e, if_neg e]; exact Paired.snoc r ⟨rfl, ry⟩
theorem KV.length {kvs : List (κ × V)} {vs : List (κ × Value)} (r : KV kvs vs) : kvs.length = vs.length := Paired.length r
end


theorem kV_is {P : Program} {w : World} {k : Key} {u : Value} (r : RelV (kV k) u) : (mixKind P w).is k u = true := by
  cases k with
  | inl i => obtain ⟨t, e⟩ := (show ∃ t, u = Value.int i t from r); subst e; exact mixKind_int P w i t
  | inr x => obtain ⟨t, e⟩ := (show ∃ t, u = Value.str x t from r); subst e; exact mixKind_str P w x t
theorem items_are {P : Program} {w : World} : ∀ {ks : List Key} {us : List Value}, Vals (ks.map kV) us → ItemsAre (mixKind P w) ks us
  | [], _, r => by rw [List.map_nil] at r; cases r; exact .nil
  | k :: ks, _, r => by
    rw [List.map_cons] at r
    cases r with
    | cons h t => exact .cons (kV_is h) (items_are t)

abbrev KT (H : Hp) : List (List Key × V) → List (List Key × Addr × Value) → Prop := Paired fun p q => p.1 = q.1 ∧ H q.2.1 = some (.tup (p.1.map kV)) ∧ RelV p.2 q.2.2
theorem KT.val {H : Hp} {kvs : List (List Key × V)} {xs : List (List Key × Addr × Value)} (r : KT H kvs xs) (k : List Key) : RelO (valV kvs k) ((atKey xs k).map (·.2)) := by
  induction r with
  | nil => exact True.intro
  | @cons p q ps qs h t ih =>
    obtain ⟨h1, _, h2⟩ := h
    by_cases e : p.1 = k
    · have e' : q.1 = k := h1.symm.trans e
      have b : atKey (q :: qs) k = some q.2 := by simp [atKey, List.find?_cons, e']
      rw [valV_pos e, b]; exact h2
    · have e' : ¬ q.1 = k := fun z => e (h1.trans z)
      have b : atKey (q :: qs) k = atKey qs k := by simp [atKey, List.find?_cons, e']
      rw [valV_neg e, b]; exact ih
theorem KT.repl {H : Hp} {kvs : List (List Key × V)} {xs : List (List Key × Addr × Value)} (r : KT H kvs xs) (k : List Key) {y : V} {u : Value} (ry : RelV y u) :
    KT H (kvs.map fun kv => if kv.1 = k then (kv.1, y) else kv) (xs.map (putAt k u)) := by
  induction r with
  | nil => exact .nil
  | @cons p q ps qs h t ih =>
    rw [List.map_cons, List.map_cons]
    refine .cons ?_ ih
    obtain ⟨h1, h2, h3⟩ := h
    unfold putAt
    by_cases e : p.1 = k
    · rw [if_pos e, if_pos (h1.symm.trans e)]; exact ⟨h1, h2, ry⟩
    · rw [if_neg e, if_neg (fun z => e (h1.trans z))]; exact ⟨h1, h2, h3⟩
theorem KT.put {H : Hp} {kvs : List (List Key × V)} {xs : List (List Key × Addr × Value)} (r : KT H kvs xs) (k : List Key) {b : Addr} {y : V} {u : Value} (hb : H b = some (.tup (k.map kV))) (ry : RelV y u) :
    KT H (putK kvs k y) (storedH xs k b u) := by
  have e : (kvs.any fun kv => decide (kv.1 = k)) = (atKey xs k).isSome := by
    rw [valV_any, (r.val k).isSome_eq, Option.isSome_map]
  unfold putK storedH
  rw [e]
  by_cases q : (atKey xs k).isSome = true
  · rw [if_pos q, if_pos q]; exact r.repl k ry
  · rw [if_neg q, if_neg q]; exact Paired.snoc r ⟨rfl, hb, ry⟩
theorem KT.keeps {H H' : Hp} {kvs : List (List Key × V)} {xs : List (List Key × Addr × Value)} (r : KT H kvs xs) (ht : ∀ b ys, H b = some (.tup ys) → H' b = some (.tup ys)) : KT H' kvs xs :=
  Paired.mapP r fun _ _ z => ⟨z.1, ht _ _ z.2.1, z.2.2⟩

section
variable {P : Program} {w : World} {H : Hp} {h : Heap} {a : Addr}
theorem rd_of {u : HO} (ok : HOk P w H h) (e : Rd H a u) : ObjOk P w H h a u := e.ok ok
theorem dk_rd {kvs : List (Key × V)} (ok : HOk P w H h) (e : Rd H a (.dK kvs)) : kvs.length ≤ sizeLine ∧ (a == sysModules) = false ∧ ∃ vs, KV kvs vs ∧ h.DictOf (mixKind P w) a vs :=
  show ObjOk P w H h a (.dK kvs) from rd_of ok e
theorem dk_of {kvs : List (Key × V)} (ok : HOk P w H h) (e : H a = some (.dK kvs)) : kvs.length ≤ sizeLine ∧ (a == sysModules) = false ∧ ∃ vs, KV kvs vs ∧ h.DictOf (mixKind P w) a vs := dk_rd ok (.inl e)
theorem key_of {ks : List Key} (ok : HOk P w H h) (e : H a = some (.tup (ks.map kV))) : (tupleKind (mixKind P w)).is h ks a := by
  obtain ⟨_, its, r, o, h1, h2, n, h3⟩ := (show ObjOk P w H h a (.tup (ks.map kV)) from ok a _ e)
  exact ⟨o, its.toArray, n, h1, h2, h3, by simpa using items_are r⟩
theorem dt_rd {kvs : List (List Key × V)} (ok : HOk P w H h) (e : Rd H a (.dT kvs)) : kvs.length ≤ sizeLine ∧ (a == sysModules) = false ∧
    ∃ xs, KT H kvs xs ∧ h.DictOfH (tupleKind (mixKind P w)) a xs := by
  obtain ⟨z, y, xs, r, o, es, ep, h1, h2, h3, h4, h5⟩ := (show ObjOk P w H h a (.dT kvs) from rd_of ok e)
  refine ⟨z, y, xs, r, o, es, ep, h1, h2, h3, h4, fun x hx => ?_, h5⟩
  have all : ∀ {l : List (List Key × V)} {m : List (List Key × Addr × Value)}, KT H l m → ∀ x ∈ m, (tupleKind (mixKind P w)).is h x.1 x.2.1 := by
    intro l m q
    induction q with
    | nil => intro x hx; exact nomatch hx
    | @cons p q ps qs hq t ih =>
      intro x hx
      rcases List.mem_cons.mp hx with e | hx
      · subst e
        exact key_of ok (by rw [← hq.1]; exact hq.2.1)
      · exact ih x hx
  exact all r x hx
theorem dt_of {kvs : List (List Key × V)} (ok : HOk P w H h) (e : H a = some (.dT kvs)) : kvs.length ≤ sizeLine ∧ (a == sysModules) = false ∧
    ∃ xs, KT H kvs xs ∧ h.DictOfH (tupleKind (mixKind P w)) a xs := dt_rd ok (.inl e)
end

def DGet (H : Hp) (a : Addr) (y : V) (r : Option V) : Prop :=
  (∃ kvs k, Rd H a (.dK kvs) ∧ y = kV k ∧ r = valV kvs k) ∨ ∃ kvs k b, Rd H a (.dT kvs) ∧ y = .ref b ∧ H b = some (.tup (k.map kV)) ∧ r = valV kvs k
def DPut (H : Hp) (a : Addr) (y v : V) (H' : Hp) : Prop :=
  (∃ kvs k, H a = some (.dK kvs) ∧ y = kV k ∧ kvs.length < sizeLine ∧ H' = upd H a (.dK (putK kvs k v))) ∨
  ∃ kvs k b, H a = some (.dT kvs) ∧ y = .ref b ∧ H b = some (.tup (k.map kV)) ∧ kvs.length < sizeLine ∧ H' = upd H a (.dT (putK kvs k v))
theorem DGet.k {H : Hp} {a : Addr} {kvs : List (Key × V)} {k : Key} (e : H a = some (.dK kvs)) : DGet H a (kV k) (valV kvs k) := .inl ⟨kvs, k, .inl e, rfl, rfl⟩
theorem DPut.k {H : Hp} {a : Addr} {kvs : List (Key × V)} {k : Key} {v : V} (e : H a = some (.dK kvs)) (hl : kvs.length < sizeLine) : DPut H a (kV k) v (upd H a (.dK (putK kvs k v))) := .inl ⟨kvs, k, e, rfl, hl, rfl⟩


section
variable {X : Cx} {pins : List (Addr × Obj)} {σ : St} {H : Hp} {s : Shared} {a : Addr} {y v : V} {u r : Value} {o : Option V} {A : Around} {E : Value → Shared → Prop}

theorem Inv.big (I : Inv X pins σ H s) : sysModules < s.heap.objs.size := by
  have h : mainGlobals < s.heap.objs.size := (I.mod.glob.keeps I.bk).lt
  exact Nat.lt_trans (by decide) h

theorem d_write {h' : Heap} {t' : Nat} {ob : HO} (I : Inv X pins σ H s) (mu : Mut (H a)) (hs : Heap.SameBut a s.heap h') (he : ∃ q, h'.get? a = some q) (new : ObjOk X.prog X.w (upd H a ob) h' a ob) :
    Inv X pins σ (upd H a ob) { s with heap := h', toks := t' } :=
  I.write (x := a) (e := a) mu (.inl rfl) (fun b q hb z => (hs.2 b hb).trans z) he new
theorem dk_new {P : Program} {w : World} {H' : Hp} {h' : Heap} {kvs : List (Key × V)} {vs : List (Key × Value)} (z : kvs.length ≤ sizeLine) (hd : (a == sysModules) = false) (rel : KV kvs vs) (dd : h'.DictOf (mixKind P w) a vs) :
    ObjOk P w H' h' a (.dK kvs) := ⟨z, hd, vs, rel, dd⟩
theorem d_setItem {H' : Hp} {Q : Unit → Shared → Prop} (hu : A.units + 1 < cLine) (I : Inv X pins σ H s) (g : DPut H a y v H') (ry : RelV y u) (rv : RelV v r) (h : ∀ s', Inv X pins σ H' s' → Q () s') :
    wpAny (model X.prog X.w) A (setItem (.ref a) u r) Q E s := by
  rcases g with ⟨kvs, k, e, ey, l, eH⟩ | ⟨kvs, k, b, e, ey, eb, l, eH⟩
  · subst ey eH
    obtain ⟨z, hd, vs, rel, dd⟩ := dk_of I.hok e
    have hz : vs.length ≤ sizeLine := by rw [← rel.length]; exact z
    have hl : (putK kvs k v).length ≤ sizeLine := by have := length_putK kvs k v; omega
    refine wpAny_setItem_pairs (hsz := hz) (kV_is ry) dd fun h' dd' hs => h _ ?_
    have he : ∃ q, h'.get? a = some q := let ⟨q, _, _, hq, _⟩ := dd'; ⟨q, hq⟩
    exact d_write I (by rw [e]; exact True.intro) hs he (dk_new hl hd (rel.put k rv) dd')
  · subst ey eH
    cases (show u = Value.ref b from ry)
    obtain ⟨z, hd, xs, rel, dd⟩ := dt_of I.hok e
    have hz : xs.length ≤ sizeLine := by rw [← Paired.length rel]; exact z
    have hl : (putK kvs k v).length ≤ sizeLine := by have := length_putK kvs k v; omega
    refine wpAny_setItem_heap (hsz := hz) (tupleKind_room_in1 hu) (key_of I.hok eb) dd fun h' dd' hs => h _ ?_
    obtain ⟨q, es, ep, hq, h2, h3, h4, _, h5⟩ := dd'
    refine d_write I (by rw [e]; exact True.intro) hs ⟨q, hq⟩ ⟨hl, hd, _, (rel.put k eb rv).keeps fun c ys ec => ?_, q, es, ep, hq, h2, h3, h4, h5⟩
    rw [upd_ne (ne_of ec e (fun z => nomatch z))]
    exact ec
end

section
variable {X : Cx} {pins : List (Addr × Obj)} {σ : St} {H : Hp} {s : Shared} {a : Addr} {kvs : List (Key × V)} {k : Key} {u : Value} {A : Around} {E : Value → Shared → Prop}
end




def sDPut (td ty tv : TE) : TS := fun D σ H => tv σ H fun v H1 => td σ H1 fun x H2 => ty σ H2 fun y H3 => ∃ a H4, x = .ref a ∧ DPut H3 a y v H4 ∧ D.nx σ H4

section
variable {X : Cx} {o i e value : Expr} {pos pos' tpos : Pos} {td ty tv : TE}
theorem ps_dput (hu : X.A.units + 1 < cLine) (ho : PE X o td) (hi : PE X i ty) (hv : PE X value tv) (hs : swapsWith value (some (.Subscript o i pos')) pos.line X.env = pure false) :
    PS X (.Assign [.Subscript o i pos'] value pos) (sDPut td ty tv) := by
  intro pins s σ H D I h
  refine wpAny_Assign_Subscript (thn (hv pins s σ H _ I h) fun r s1 ⟨v, H1, I1, rv, q1⟩ => thn (ho pins s1 σ H1 _ I1 q1) fun u s2 ⟨x, H2, I2, rx, q2⟩ => thn (hi pins s2 σ H2 _ I2 q2) fun iv s3 ⟨y, H3, I3, ry, a, H4, ex, g, q3⟩ => ?_) hs
  subst ex
  obtain rfl : u = Value.ref a := rx
  exact d_setItem hu I3 g ry rv fun s4 I4 => ⟨σ, H4, I4, q3⟩
end


theorem dk_empty {P : Program} {w : World} {H : Hp} (h : Heap) (hb : sysModules < h.objs.size) : ObjOk P w H (h.push { cls := .type "dict", data := .dict #[] }) h.objs.size (.dK []) :=
  ⟨Nat.zero_le _, beq_eq_false_iff_ne.mpr (Ne.symm (Nat.ne_of_lt hb)), [], .nil, Heap.DictOf.new h⟩
def tDNewK : TE := fun _ H Q => ∀ p, H p = none → Q (.ref p) (upd H p (.dK []))
section
variable {X : Cx} {pos : Pos}
theorem pe_dnewK : PE X (.Dict [] [] pos) tDNewK := fun pins s σ H Q I h =>
  wpAny_Dict_empty ⟨.ref s.heap.objs.size, _, I.laid (a := s.heap.objs.size) (o := .dK []) (t' := s.toks) (fun _ _ q => Heap.get?_push_of_some _ q) (Nat.le_refl _) (dk_empty s.heap I.big), rfl, h _ (I.hok.fresh (Nat.le_refl _))⟩
end

def tPairs : List (TE × TE) → St → Hp → (List (V × V) → Hp → Prop) → Prop
  | [], _, H, Q => Q [] H
  | (tk, tv) :: r, σ, H, Q => tk σ H fun x H1 => tv σ H1 fun y H2 => tPairs r σ H2 fun ps H3 => Q ((x, y) :: ps) H3
abbrev VV : List (V × V) → List (Value × Value) → Prop := Paired fun p q => RelV p.1 q.1 ∧ RelV p.2 q.2
def PPs (X : Cx) (pos : Pos) (keys : List (Option Expr)) (values : List Expr) (trs : List (TE × TE)) : Prop :=
  ∀ (pins : List (Addr × Obj)) (s : Shared) (σ : St) (H : Hp) (Q : List (V × V) → Hp → Prop), Inv X pins σ H s → tPairs trs σ H Q →
    wpAny (model X.prog X.w) X.A (evalPairs (pairTrees keys values X.env pos)) (fun vs s' => ∃ ps H', Inv X pins σ H' s' ∧ VV ps vs ∧ Q ps H') X.xe s
theorem pps_nil {X : Cx} {pos : Pos} : PPs X pos [] [] [] := fun pins s σ H Q I h => pairTrees_nil_walk ⟨[], H, I, .nil, h⟩
theorem pps_cons {X : Cx} {pos : Pos} {k v : Expr} {ks : List (Option Expr)} {vs : List Expr} {tk tv : TE} {trs : List (TE × TE)} (hk : PE X k tk) (hv : PE X v tv) (hr : PPs X pos ks vs trs) :
    PPs X pos (some k :: ks) (v :: vs) ((tk, tv) :: trs) := fun pins s σ H Q I h =>
  pairTrees_cons_walk (thn (hk pins s σ H _ I h) fun u s1 ⟨x, H1, I1, rx, q1⟩ => thn (hv pins s1 σ H1 _ I1 q1) fun w2 s2 ⟨y, H2, I2, ry, q2⟩ =>
    thn (hr pins s2 σ H2 _ I2 q2) fun ws s3 ⟨ps, H3, I3, rel, q3⟩ => ⟨(x, y) :: ps, H3, I3, .cons ⟨rx, ry⟩ rel, q3⟩)

def mergeK (kvs more : List (Key × V)) : List (Key × V) := more.foldl (fun acc kv => putK acc kv.1 kv.2) kvs
theorem KV.merge : ∀ {more : List (Key × V)} {rs : List (Key × Value)} {kvs : List (Key × V)} {vs : List (Key × Value)}, KV more rs → KV kvs vs → KV (mergeK kvs more) (merged vs rs) := by
  intro more rs kvs vs r
  unfold KV at r
  induction r generalizing kvs vs with
  | nil => intro q; exact q
  | @cons p q ps qs h t ih =>
    intro r0
    have e : KV (putK kvs p.1 p.2) (stored vs q.1 q.2) := by
      have := r0.put p.1 h.2
      rw [← h.1]; exact this
    exact ih e
theorem length_mergeK : ∀ (more kvs : List (Key × V)), (mergeK kvs more).length ≤ kvs.length + more.length
  | [], kvs => by show kvs.length ≤ kvs.length + 0; omega
  | p :: r, kvs => by
    have h1 := length_mergeK r (putK kvs p.1 p.2)
    have h2 := length_putK kvs p.1 p.2
    show (mergeK (putK kvs p.1 p.2) r).length ≤ _
    rw [List.length_cons]; omega
theorem carries_of {P : Program} {w : World} : ∀ {kvs : List (Key × V)} {ws : List (Value × Value)}, VV (kvs.map fun kv => (kV kv.1, kv.2)) ws → ∃ rs, Carries (mixKind P w) ws rs ∧ KV kvs rs
  | [], _, r => by rw [List.map_nil] at r; cases r; exact ⟨[], True.intro, .nil⟩
  | p :: kvs, _, r => by
    rw [List.map_cons] at r
    cases r with
    | @cons a b as bs h t =>
      obtain ⟨rs, c, q⟩ := carries_of (P := P) (w := w) t
      obtain ⟨b1, b2⟩ := b
      exact ⟨(p.1, b2) :: rs, ⟨kV_is h.1, rfl, c⟩, .cons ⟨rfl, h.2⟩ q⟩
def tDisp (trs : List (TE × TE)) : TE := fun σ H Q => ∀ p, H p = none → tPairs trs σ (upd H p (.dK [])) fun ps H2 => H2 p = some (.dK []) ∧ ∃ kvs : List (Key × V), ps = kvs.map (fun kv => (kV kv.1, kv.2)) ∧ kvs.length ≤ 15 ∧ Q (.ref p) (upd H2 p (.dK (mergeK [] kvs)))
theorem pe_disp {X : Cx} {pos : Pos} {keys : List (Option Expr)} {values : List Expr} {trs : List (TE × TE)} (h : PPs X pos keys values trs) (hall : keys.all (·.isSome) = true) (hl : keys.length = values.length) (h0 : keys ≠ [])
    (h15 : keys.length ≤ 15) : PE X (.Dict keys values pos) (tDisp trs) := by
  intro pins s σ H Q I q
  have hn := I.hok.fresh (Nat.le_refl s.heap.objs.size)
  have I1 := I.laid (a := s.heap.objs.size) (o := .dK []) (h' := s.heap.push { cls := .type "dict", data := .dict #[] }) (t' := s.toks) (fun _ _ q => Heap.get?_push_of_some _ q) (Nat.le_refl _) (dk_empty s.heap I.big)
  refine wpAny_Dict_walk (knd := mixKind X.prog X.w) hall hl h0 h15 (thn (h pins _ σ _ _ I1 (q _ hn)) fun ws s2 ⟨ps, H2, I2, rel, e, kvs, ep, lk, q2⟩ => ?_)
  subst ep
  obtain ⟨rs, c, rk⟩ := carries_of (P := X.prog) (w := X.w) rel
  obtain ⟨z, hd, vs0, r0, dd⟩ := dk_of I2.hok e
  cases r0
  refine ⟨rs, c, dd, fun h' dd' hs => ⟨.ref s.heap.objs.size, _, ?_, rfl, q2⟩⟩
  have hz : (mergeK [] kvs).length ≤ sizeLine := by
    have h1 := length_mergeK kvs []
    rw [List.length_nil] at h1
    rw [sizeLine_eq]; omega
  have he : ∃ q, h'.get? s.heap.objs.size = some q := let ⟨q, _, _, hq, _⟩ := dd'; ⟨q, hq⟩
  exact d_write I2 (by rw [e]; exact True.intro) hs he (dk_new hz hd (rk.merge .nil) dd')


structure M1 (X : Cx) (o : Expr) (m : Str) (apos : Pos) (e : Expr) (cpos : Pos) : Prop where
  base : attributeBase o m X.env (eval o X.env) = eval o X.env
  few : ((backTo cpos (starEach [e] X.env)).all (fun x => !x.1) && (backToKw cpos (keywordEach [] X.env)).all (fun x => x.1.isSome)
    && decide (([e] : List Expr).length + ([] : List Keyword).length + (if ([] : List Keyword).isEmpty then 0 else 1) < 30)) = true
  line : (apos.endLine == cpos.line) = true
  trees : backTo cpos (starEach [e] X.env) = [(false, eval e X.env)]
structure M2 (X : Cx) (o : Expr) (m : Str) (apos : Pos) (e f : Expr) (cpos : Pos) : Prop where
  base : attributeBase o m X.env (eval o X.env) = eval o X.env
  few : ((backTo cpos (starEach [e, f] X.env)).all (fun x => !x.1) && (backToKw cpos (keywordEach [] X.env)).all (fun x => x.1.isSome)
    && decide (([e, f] : List Expr).length + ([] : List Keyword).length + (if ([] : List Keyword).isEmpty then 0 else 1) < 30)) = true
  line : (apos.endLine == cpos.line) = true
  trees : backTo cpos (starEach [e, f] X.env) = [(false, eval e X.env), (false, eval f X.env)]

def IsD (H : Hp) (a : Addr) : Prop := (∃ kvs, Rd H a (.dK kvs)) ∨ ∃ kvs, Rd H a (.dT kvs)
theorem isD_at {X : Cx} {pins : List (Addr × Obj)} {σ : St} {H : Hp} {s : Shared} {a : Addr} (I : Inv X pins σ H s) (d : IsD H a) :
    s.TypeIs (.ref a) "dict" ∧ (∀ b, Value.ref a = .ref b → ∃ ob, s.heap.get? b = some ob ∧ ob.dict = none) ∧ (a == sysModules) = false := by
  rcases d with ⟨kvs, e⟩ | ⟨kvs, e⟩
  · obtain ⟨_, hd, vs, _, dd⟩ := dk_rd I.hok e
    refine ⟨dd.typeIs, fun b q => ?_, hd⟩
    cases q
    obtain ⟨ob, _, _, h1, h2, _⟩ := dd
    exact ⟨ob, h1, h2.2.1⟩
  · obtain ⟨_, hd, xs, _, dd⟩ := dt_rd I.hok e
    refine ⟨dd.typeIs, fun b q => ?_, hd⟩
    cases q
    obtain ⟨ob, _, _, h1, h2, _⟩ := dd
    exact ⟨ob, h1, h2.2.1⟩

section
variable {X : Cx} {pins : List (Addr × Obj)} {σ : St} {H : Hp} {s : Shared} {a : Addr} {y d : V} {u r : Value} {o : Option V} {A : Around} {E : Value → Shared → Prop}
theorem d_get1 {Q : Value → Shared → Prop} (hu : A.units + 1 < cLine) (I : Inv X pins σ H s) (g : DGet H a y o) (ry : RelV y u) (h : ∀ w' s', Inv X pins σ H s' → RelV (o.getD .non) w' → Q w' s') :
    wpAny (model X.prog X.w) A (call (.builtin "dict.get") [.ref a, u]) Q E s := by
  rcases g with ⟨kvs, k, e, ey, l⟩ | ⟨kvs, k, b, e, ey, eb, l⟩
  · subst ey
    obtain ⟨z, hd, vs, rel, dd⟩ := dk_rd I.hok e
    refine call_meetsIn PySem.F.slot_dict_get dd.typeIs PySem.F.entry_dict_get (PySem.F.args_dict_get_2 _ _) (meets_dict_get (mixKind X.prog X.w) a (kV_is ry) hd) ⟨_, dd.mapOf, h _ _ (I.tok _) ?_⟩
    rw [l]
    exact (rel.val k).getD rfl
  · subst ey
    cases (show u = Value.ref b from ry)
    obtain ⟨z, hd, xs, rel, dd⟩ := dt_rd I.hok e
    refine call_meetsIn PySem.F.slot_dict_get dd.typeIs PySem.F.entry_dict_get (PySem.F.args_dict_get_2 _ _) (meetsH_dict_get (tupleKind (mixKind X.prog X.w)) a b hd) ⟨tupleKind_room_in1 hu, k, xs, key_of I.hok eb, dd, h _ _ (I.tok _) ?_⟩
    rw [l]
    exact (rel.val k).getD rfl
theorem d_get2 {Q : Value → Shared → Prop} (hu : A.units + 1 < cLine) (I : Inv X pins σ H s) (g : DGet H a y o) (ry : RelV y u) (rd : RelV d r) (h : ∀ w' s', Inv X pins σ H s' → RelV (o.getD d) w' → Q w' s') :
    wpAny (model X.prog X.w) A (call (.builtin "dict.get") [.ref a, u, r]) Q E s := by
  rcases g with ⟨kvs, k, e, ey, l⟩ | ⟨kvs, k, b, e, ey, eb, l⟩
  · subst ey
    obtain ⟨z, hd, vs, rel, dd⟩ := dk_rd I.hok e
    refine call_meetsIn PySem.F.slot_dict_get dd.typeIs PySem.F.entry_dict_get (PySem.F.args_dict_get_3 _ _ _) (meets_dict_get_default (mixKind X.prog X.w) a (kV_is ry) hd r) ⟨_, dd.mapOf, h _ _ (I.tok _) ?_⟩
    rw [l]
    exact (rel.val k).getD rd
  · subst ey
    cases (show u = Value.ref b from ry)
    obtain ⟨z, hd, xs, rel, dd⟩ := dt_rd I.hok e
    refine call_meetsIn PySem.F.slot_dict_get dd.typeIs PySem.F.entry_dict_get (PySem.F.args_dict_get_3 _ _ _) (meetsH_dict_get_default (tupleKind (mixKind X.prog X.w)) a b hd r) ⟨tupleKind_room_in1 hu, k, xs, key_of I.hok eb, dd, h _ _ (I.tok _) ?_⟩
    rw [l]
    exact (rel.val k).getD rd
end

def tDGet1 (td ty : TE) : TE := fun σ H Q => td σ H fun x H1 => ∃ a, x = .ref a ∧ IsD H1 a ∧ ty σ H1 fun y H2 => ∃ o, DGet H2 a y o ∧ Q (o.getD .non) H2
def tDGet2 (td ty tx : TE) : TE := fun σ H Q => td σ H fun x H1 => ∃ a, x = .ref a ∧ IsD H1 a ∧ ty σ H1 fun y H2 => tx σ H2 fun z H3 => ∃ o, DGet H3 a y o ∧ Q (o.getD z) H3
section
variable {X : Cx} {o e f : Expr} {apos cpos : Pos} {td ty tx : TE}
theorem pe_dget1 (hu : X.A.units + 1 < cLine) (ho : PE X o td) (he : PE X e ty) (m : M1 X o "get" apos e cpos) : PE X (.Call (.Attribute o "get" apos) [e] [] cpos) (tDGet1 td ty) := by
  intro pins s σ H Q I h
  refine wpAny_Call_method m.base m.few m.line PySem.F.plainAttrs_dict PySem.F.slot_dict_get PySem.F.type_dict_get (thn (ho pins s σ H _ I h) fun u s1 ⟨x, H1, I1, rx, a, ex, d, q1⟩ => ?_)
  subst ex
  obtain rfl : u = Value.ref a := rx
  obtain ⟨t1, t2, _⟩ := isD_at I1 d
  refine ⟨t1, t2, ?_⟩
  rw [m.trees]
  refine Calls.callWith_builtin rfl (Calls.evalArgs_plain (Calls.spliced_cons (thn (he pins s1 σ H1 _ I1 q1) fun iv s2 ⟨y, H2, I2, ry, ov, g, q2⟩ => Calls.spliced_nil ?_)))
  exact d_get1 hu I2 g ry fun w' s3 I3 rw' => ⟨_, H2, I3, rw', q2⟩
theorem pe_dget2 (hu : X.A.units + 1 < cLine) (ho : PE X o td) (he : PE X e ty) (hf : PE X f tx) (m : M2 X o "get" apos e f cpos) : PE X (.Call (.Attribute o "get" apos) [e, f] [] cpos) (tDGet2 td ty tx) := by
  intro pins s σ H Q I h
  refine wpAny_Call_method m.base m.few m.line PySem.F.plainAttrs_dict PySem.F.slot_dict_get PySem.F.type_dict_get (thn (ho pins s σ H _ I h) fun u s1 ⟨x, H1, I1, rx, a, ex, d, q1⟩ => ?_)
  subst ex
  obtain rfl : u = Value.ref a := rx
  obtain ⟨t1, t2, _⟩ := isD_at I1 d
  refine ⟨t1, t2, ?_⟩
  rw [m.trees]
  refine Calls.callWith_builtin rfl (Calls.evalArgs_plain (Calls.spliced_cons (thn (he pins s1 σ H1 _ I1 q1) fun iv s2 ⟨y, H2, I2, ry, q2⟩ =>
    Calls.spliced_cons (thn (hf pins s2 σ H2 _ I2 q2) fun fv s3 ⟨z, H3, I3, rz, ov, g, q3⟩ => Calls.spliced_nil ?_))))
  exact d_get2 hu I3 g ry rz fun w' s4 I4 rw' => ⟨_, H3, I4, rw', q3⟩
end

section
variable {X : Cx} {pins : List (Addr × Obj)} {σ : St} {H : Hp} {s : Shared} {a : Addr} {kvs : List (Key × V)} {A : Around} {E : Value → Shared → Prop}
end


section
variable {X : Cx} {pins : List (Addr × Obj)} {σ : St} {H : Hp} {s : Shared} {a : Addr} {y : V} {u : Value} {A : Around} {E : Value → Shared → Prop}
end
end L2



set_option Elab.async false
set_option linter.all false
set_option maxRecDepth 100000

namespace L2
open PySem PySem.Spec PyProof.Rows
section
variable {prog : Program} {w : World} {A : Around} {R : Result → Shared → Prop} {s : Shared}
theorem codeAny_compLoop_ownIf {elt target iter c : Expr} {scope : Scope} {pos : Pos} {it acc : Value} {env : Env} (I : Nat → Shared → Prop)
    (turn : ∀ n s, I n s → wpAny (model prog w) A (pyNext it) (fun r s1 => match r with
      | none => R (.ok .next) s1
      | some v => wpAny (model prog w) A (letOwnedTupleGo target it v) (fun _ s0 => wpAny (model prog w) A (assign target env v) (fun _ s2 => wpAny (model prog w) A (isTrue c env (eval c env)) (fun ok s3 =>
          if ok = true then wpAny (model prog w) A (eval elt env) (fun x s4 =>
            wpAny (model prog w) A (call (.builtin "list.append") [acc, x]) (fun _ s5 => ∃ m, m < n ∧ I m s5) (notedBy (model prog w) A env fun e s' => R (.error e) s') s4) (notedBy (model prog w) A env fun e s' => R (.error e) s') s3
          else ∃ m, m < n ∧ I m s3)
          (notedBy (model prog w) A env fun e s' => R (.error e) s') s2) (notedBy (model prog w) A env fun e s' => R (.error e) s') s0) (notedBy (model prog w) A env fun e s' => R (.error e) s') s1) (notedBy (model prog w) A env fun e s' => R (.error e) s') s)
    (n : Nat) (h : I n s) :
    codeAny (model prog w) A (.compLoop (.ListComp elt [⟨target, iter, [c], 0⟩] scope pos) 0 it acc env) R s := by
  refine codeAny_loop rfl I (fun n s hI => ?_) n h
  show wpAny _ _ ((compTurn (.ListComp elt [⟨target, iter, [c], 0⟩] scope pos) 0 it acc env).onRaise (fun x => do noteFrame x env; theTreesLotGoes x)) _ _ s
  refine wpAny_noted ?_
  rw [compTurn_list]
  refine wpAny_bind (wpAny_standAt (wpAny_bind (wpAny_mono (turn n s hI) (fun r s1 h1 => ?_) fun _ _ h' => h')))
  cases r with
  | none => exact wpAny_pure h1
  | some v =>
    refine wpAny_bind (wpAny_mono h1 (fun _ s0 h0 => ?_) fun _ _ h' => h')
    refine wpAny_bind (wpAny_mono h0 (fun _ s2 h2 => wpAny_bind (wpAny_mono (wpAny_tests_one h2) (fun ok s3 h3 => ?_) fun _ _ h' => h')) fun _ _ h' => h')
    cases ok with
    | false => exact wpAny_pure ⟨rfl, h3⟩
    | true =>
      exact wpAny_bind (wpAny_bind (wpAny_mono h3 (fun x s4 h4 => wpAny_bind (wpAny_mono h4 (fun _ s5 h5 => wpAny_pure (wpAny_pure ⟨rfl, h5⟩)) fun _ _ h' => h')) fun _ _ h' => h'))
end

def compWalkIf (J : It) (H1 : Hp) (σ0 : St) (g : TG) (tt : TT) (te : TE) (Q : Addr → Hp → Prop) : Prop :=
  ∀ acc, H1 acc = none → ∃ W : Nat → Nat → St → Hp → Prop, (∃ m, W 0 m σ0 (upd H1 acc (.lst []))) ∧ ∀ i m σ' H', W i m σ' H' →
    (J.stop i H' ∧ Q acc H') ∨ (J.go i H' ∧ ∀ x H2, J.yld i H' x H2 → g x σ' H2 fun σ2 H3 => tt σ2 H3 fun b H3' => if b = true then te σ2 H3' fun y H4 => ∃ ys, H4 acc = some (.lst ys) ∧ ys.length < sizeLine ∧ ∃ m', m' < m ∧ W (i + 1) m' σ2 (upd H4 acc (.lst (ys ++ [y])))
      else ∃ m', m' < m ∧ W (i + 1) m' σ2 H3')
def tCompIf (wi : TI) (own : Nat) (fv : List Nat) (g : TG) (tt : TT) (te : TE) : TE := fun σ H Q => wi σ H fun J H1 => compWalkIf J H1 (blkStart own fv σ) g tt te fun acc H' => Q (.ref acc) H'

section
variable {X : Cx} {elt tg iter c : Expr} {scope : Scope} {N' : List Str} {own : Nat} {fv : List Nat} {cl : List (Str × Addr)} {pins : List (Addr × Obj)} {σ : St} {H2 : Hp} {s2 : Shared} {fp : List Addr} {it : Addr} {tn : Nat → Heap → Prop} {J : It} {pos : Pos} {g : TG} {tt : TT} {te : TE} {Q : Addr → Hp → Prop}
theorem comp_blockIf (hc : X.calm = true) (sc : BlkScope X scope N' own fv) (I2 : Inv X pins σ H2 s2) (T : Turn X.prog X.w X.K tg J fp it tn) (st2 : tn 0 s2.heap) (f2 : ∀ b ∈ fp, FpOk X pins H2 b)
    (c1 : ∀ n c, cl.lookup n = some c → X.env.cells.lookup n = some c) (c2 : ∀ y ∈ scope.names, y.2 = .free → ∃ c, cl.lookup y.1 = some c)
    (hg : ∀ cl s3 H3 ex, PG (X.blk scope N' cl s3 H3 ex) tg g) (ht : ∀ cl s3 H3 ex, PT (X.blk scope N' cl s3 H3 ex) c tt) (he : ∀ cl s3 H3 ex, PE (X.blk scope N' cl s3 H3 ex) elt te)
    (hq : compWalkIf J H2 (blkStart own fv σ) g tt te Q) {RR : Value → Addr → Result → Shared → Prop}
    (hRR : ∀ acc C s' H' m, Inv X pins σ H' s' → Q acc H' → s'.heap.Ns C m → H' C = none → C ≠ X.env.locals → X.s₀.heap.objs.size ≤ C → (∀ x c, X.env.cells.lookup x = some c → c ≠ C) → (∀ p ∈ X.pn ++ pins, p.1 ≠ C) → RR (.ref acc) C (.ok .next) s') :
    wpAny (model X.prog X.w) X.A (newList []) (fun acc s3 => wpAny (model X.prog X.w) X.A (newFunctionEnv scope X.env.globals cl [] X.env.qual none .none (some X.env)) (fun cenv s4 =>
      codeAny (model X.prog X.w) X.A (.compStart (.ListComp elt [⟨tg, iter, [c], 0⟩] scope pos) 0 (.ref it) acc { cenv with scope := relabel scope X.env }) (RR acc cenv.locals) s4) X.xe s3) X.xe s2 := by
  refine wpAny_newObj_type (wpAny_newFunctionEnv sc.nocell (by intro y hy; simp at hy) (fun h1 hns hsb => ?_) sc.kind)
  dsimp only at hns hsb ⊢
  have I3 : Inv X pins σ (upd H2 s2.heap.objs.size (.lst [])) { s2 with heap := s2.heap.push { cls := .type "list", dict := none, data := .seq ([] : List Value).toArray } } := I2.lnew (t' := s2.toks) .nil (Nat.zero_le _)
  have hacc : H2 s2.heap.objs.size = none := I2.fresh
  obtain ⟨W, ⟨m0, w0⟩, turn⟩ := hq s2.heap.objs.size hacc
  have flt : ∀ b ∈ fp, b < s2.heap.objs.size := fun b hb => by
    obtain ⟨o, e, _⟩ := T.obj _ _ st2 b hb
    exact Heap.lt_size e
  have f3 : ∀ b ∈ fp, FpOk X pins (upd H2 s2.heap.objs.size (.lst [])) b := fun b hb => ⟨by rw [upd_ne (Nat.ne_of_lt (flt b hb))]; exact (f2 b hb).1, (f2 b hb).2⟩
  have st3 : tn 0 (s2.heap.push { cls := .type "list", dict := none, data := .seq ([] : List Value).toArray }) := T.keep _ _ _ st2 fun b _ o e => Heap.get?_push_of_some _ e
  generalize hs3 : ({ s2 with heap := s2.heap.push { cls := .type "list", dict := none, data := .seq ([] : List Value).toArray } } : Shared) = s3 at I3 
  have eh : s2.heap.push { cls := .type "list", dict := none, data := .seq ([] : List Value).toArray } = s3.heap := by rw [← hs3]
  rw [eh] at hns hsb st3
  have old : ∀ b o, s3.heap.get? b = some o → h1.get? b = some o := fun b o e => hsb.extBut b o (Nat.ne_of_lt (Heap.lt_size e)) (Heap.get?_push_of_some _ e)
  have fo3 : ∀ b ∈ fp, b < s3.heap.objs.size := fun b hb => by
    obtain ⟨o, e, _⟩ := T.obj _ _ st3 b hb
    exact Heap.lt_size e
  have est : ({ s2 with heap := h1, toks := s2.toks + ([] : List (Str × Value)).length } : Shared) = { s3 with heap := h1, toks := s3.toks } := by rw [← hs3]; rfl
  have I4 : Inv (X.blk scope N' cl s3 (upd H2 s2.heap.objs.size (.lst [])) fp) [] (blkStart own fv σ) (upd H2 s2.heap.objs.size (.lst [])) { s3 with heap := h1, toks := s3.toks } :=
    blk_inv sc I3 f3 fo3 c1 c2 hns old
  have st4 : tn 0 h1 := T.keep _ _ _ st3 fun b _ o e => old b o e
  have stat : ∀ {H' : Hp}, (∀ b ∈ fp, H' b = none) → ∀ b ∈ fp, FpOk (X.blk scope N' cl s3 (upd H2 s2.heap.objs.size (.lst [])) fp) [] H' b := fun hn b hb =>
    ⟨hn b hb, Nat.ne_of_lt (fo3 b hb), fun hf => by
      rcases List.mem_cons.mp (I3.stkSub b hf) with h | h
      · exact (f3 b hb).2.1 h
      · exact (f3 b hb).2.2.1 h, .inl hb, fun x c hc' => (f3 b hb).2.2.2.2.1 x c (c1 x c hc'), fun p hp => nomatch hp⟩
  have loop : ∀ s4 : Shared, s4 = { s3 with heap := h1, toks := s3.toks } →
      codeAny (model X.prog X.w) X.A (.compLoop (.ListComp elt [⟨tg, iter, [c], 0⟩] scope pos) 0 (.ref it) (.ref s2.heap.objs.size) (compEnvC scope cl s3.heap.objs.size X.env)) (RR (.ref s2.heap.objs.size) s3.heap.objs.size) s4 := by
    rintro s4 rfl
    refine codeAny_compLoop_ownIf (fun n s' => ∃ i σ' H', Inv (X.blk scope N' cl s3 (upd H2 s2.heap.objs.size (.lst [])) fp) [] σ' H' s' ∧ tn i s'.heap ∧ (∀ b ∈ fp, H' b = none) ∧ W i n σ' H') ?_ m0
      ⟨0, _, _, I4, st4, fun b hb => (f3 b hb).1, w0⟩
    rintro n s5 ⟨i, σ5, H5, I5, st5, fr5, w5⟩
    rcases turn i n σ5 H5 w5 with ⟨stop, q⟩ | ⟨go, step⟩
    · refine thn (T.done (X.blk scope N' cl s3 (upd H2 s2.heap.objs.size (.lst [])) fp) rfl rfl rfl hc i [] s5 σ5 H5 _ I5 (stat fr5) st5 stop) fun r s6 ⟨hr, I6⟩ => ?_
      subst hr
      obtain ⟨m6, hn6, _⟩ := I6.loc
      refine hRR _ _ s6 H5 m6 (I3.call' (ch := fp) I6.os I6.base I6.hok I6.bare fun b hb => ⟨(f3 b hb).2.2.2.1, (f3 b hb).2.1, (f3 b hb).2.2.2.2.1, (f3 b hb).2.2.2.2.2⟩) q hn6 I6.free (Nat.ne_of_gt I3.lt) I3.sz (fun x c hc' => ?_) fun p hp => ?_
      · obtain ⟨v, o, ho, _⟩ := I3.cell x c hc'
        exact Nat.ne_of_lt (Heap.lt_size ho)
      · exact Nat.ne_of_lt (Heap.lt_size (I3.pin p hp).1)
    · refine thn (T.item (X.blk scope N' cl s3 (upd H2 s2.heap.objs.size (.lst [])) fp) rfl rfl rfl hc i [] s5 σ5 H5 _ I5 (stat fr5) st5 go) fun r s6 ⟨u, hr, h6⟩ => ?_
      subst hr
      refine thn h6 fun _ s7 ⟨x, H7, I7, r7, y7, st7, fr7⟩ => ?_
      have I7' := I7.pinned (stat fr7) (T.obj _ _ st7)
      refine wpAny_mono (hg cl s3 _ fp _ s7 σ5 H7 x u _ I7' r7 (step x H7 y7)) (fun _ s8 ⟨σ8, H8, I8, q8⟩ => ?_) fun _ _ z => z.elim
      refine wpAny_mono (ht cl s3 _ fp _ s8 σ8 H8 _ I8 q8) (fun ok s8' ⟨H8', I8', q8'⟩ => ?_) fun _ _ z => z.elim
      have gone : ∀ {H10 : Hp} {s10 : Shared}, Inv (X.blk scope N' cl s3 (upd H2 s2.heap.objs.size (.lst [])) fp) ([] ++ pinsAt fp s7.heap) σ8 H10 s10 → ∀ m10, m10 < n → W (i + 1) m10 σ8 H10 →
          ∃ m, m < n ∧ ∃ i σ' H', Inv (X.blk scope N' cl s3 (upd H2 s2.heap.objs.size (.lst [])) fp) [] σ' H' s10 ∧ tn i s10.heap ∧ (∀ b ∈ fp, H' b = none) ∧ W i m σ' H' := fun {H10 s10} I10 m10 hm10 w10 => by
        refine ⟨m10, hm10, i + 1, σ8, H10, I10.unpinned (pl := pinsAt fp s7.heap), T.keep _ _ _ st7 fun b hb o e => (I10.pin (b, o) (List.mem_append_right _ (List.mem_append_right _ (mem_pinsAt hb e)))).1, fun b hb => ?_, w10⟩
        obtain ⟨o, e, d⟩ := T.obj _ _ st7 b hb
        exact (I10.pin (b, o) (List.mem_append_right _ (List.mem_append_right _ (mem_pinsAt hb e)))).2.1
      cases ok with
      | false =>
        obtain ⟨m', hm', w9⟩ := Eq.mp (if_neg Bool.false_ne_true) q8'
        exact Eq.mpr (if_neg Bool.false_ne_true) (gone I8' m' hm' w9)
      | true =>
        refine Eq.mpr (if_pos rfl) ?_
        refine wpAny_mono (he cl s3 _ fp _ s8' σ8 H8' _ I8' (Eq.mp (if_pos rfl) q8')) (fun v s9 ⟨y, H9, I9, r9, ys, e9, z9, m', hm', w9⟩ => ?_) fun _ _ z => z.elim
        exact wpAny_mono (mt_append (X := X.blk scope N' cl s3 (upd H2 s2.heap.objs.size (.lst [])) fp) _ s9 σ8 H9 (.ref s2.heap.objs.size) [y] (.ref s2.heap.objs.size) [v] (fun _ H' => ∃ m', m' < n ∧ W (i + 1) m' σ8 H') I9 rfl (.cons r9 .nil) ⟨_, ys, y, rfl, rfl, e9, z9, m', hm', w9⟩) (fun _ s10 ⟨_, H10, I10, _, m10, hm10, w10⟩ => gone I10 m10 hm10 w10) fun _ _ z => z.elim
  rw [est]
  rw [eh]
  exact codeAny_compStart_list (loop _ rfl) (T.self _ 0 _ _ _ st4 (loop _ rfl))

theorem pe_compIf {wi : TI} (hc : X.calm = true) (sc : BlkScope X scope N' own fv) (hi : PI X tg iter wi)
    (hg : ∀ cl s3 H3 ex, PG (X.blk scope N' cl s3 H3 ex) tg g) (ht : ∀ cl s3 H3 ex, PT (X.blk scope N' cl s3 H3 ex) c tt) (he : ∀ cl s3 H3 ex, PE (X.blk scope N' cl s3 H3 ex) elt te)
    (hs : ∀ x, foldedSetIterable iter X.env x = pure x := by intro _; rfl) : PE X (.ListComp elt [⟨tg, iter, [c], 0⟩] scope pos) (tCompIf wi own fv g tt te) := by
  intro pins s σ H Q I h
  obtain ⟨cl, hcl, c1, c2⟩ := closure_ex (scope := scope) (env := X.env) fun y hy hf => I.ok.has _ (sc.free y hy hf)
  rw [eval_ListComp]
  refine wpAny_comprehension_free (use := none) rfl hs hcl sc.kind sc.names (thn (hi pins s σ H _ I h) fun v s1 h1 => thn h1 fun itv s2 h2 => ?_)
  obtain ⟨it, fp, tn, J, H2, e, I2, T, st2, f2, hq⟩ := h2
  subst e
  refine comp_blockIf (RR := fun acc C => compPost (model X.prog X.w) X.A X.xe none (EP X pins σ Q) acc C) hc sc I2 T st2 f2 c1 c2 hg ht he hq ?_
  intro acc C s' H' m I' q hn hC hL h0 hcc hp
  exact ⟨m, hn, fun h' sb => ⟨.ref acc, H', I'.turned (t' := s'.toks) (fun b o hb e => sb.extBut b o hb e) hC hL (.inr h0) hcc hp, rfl, q⟩⟩
end
end L2
namespace L2
open PySem PySem.Spec PyProof.Rows
end L2


set_option Elab.async false
set_option linter.all false
set_option maxRecDepth 100000

namespace L2
open PySem PySem.Spec PyProof.Rows
section
variable {X : Cx} {K : PySem.W.Frag}
inductive TyS (H : Hp) : V → String → Prop where
  | int (i : Int) : TyS H (.int i) "int"
  | str (x : Str) : TyS H (.str x) "str"
  | tup {a : Addr} {xs : List V} (e : H a = some (.tup xs)) : TyS H (.ref a) "tuple"
end
end L2
namespace L2
open PySem PySem.Spec PyProof.Rows
section
variable {X : Cx} {K : PySem.W.Frag}
end
end L2







set_option Elab.async false
set_option linter.all false
set_option maxRecDepth 100000
namespace L2
open PySem PySem.Spec PyProof.Rows
section
variable {X : Cx} {elt tg iter c : Expr} {scope : Scope} {N' : List Str} {own : Nat} {fv : List Nat} {pos : Pos} {g : TG} {tt : TT} {te : TE}
theorem ps_setCompIf {wi : TI} {i : Nat} {x : Str} {pos' spos : Pos} (hc : X.calm = true) (sc : BlkScope X scope N' own fv) (hN : X.N.Nodup) (hix : X.N[i]? = some x) (hx : Loc X.env.scope x) (hi : PI X tg iter wi)
    (hg : ∀ cl s3 H3 ex, PG (X.blk scope N' cl s3 H3 ex) tg g) (ht : ∀ cl s3 H3 ex, PT (X.blk scope N' cl s3 H3 ex) c tt) (he : ∀ cl s3 H3 ex, PE (X.blk scope N' cl s3 H3 ex) elt te)
    (hsw : swapsWith (.ListComp elt [⟨tg, iter, [c], 0⟩] scope pos) (some (.Name x pos')) spos.line X.env = pure true := by rfl)
    (hs : ∀ x, foldedSetIterable iter X.env x = pure x := by intro _; rfl)
    (hf : X.fn x = true ∨ X.env.scope.names.lookup x = some .local := by first | exact .inl rfl | exact .inr rfl | assumption) :
    PS X (.Assign [.Name x pos'] (.ListComp elt [⟨tg, iter, [c], 0⟩] scope pos) spos) (tAsg (tCompIf wi own fv g tt te) (gName i)) := by
  intro pins s σ H D I h
  obtain ⟨cl, hcl, c1, c2⟩ := closure_ex (scope := scope) (env := X.env) fun y hy hf => I.ok.has _ (sc.free y hy hf)
  rw [exec_Assign_Name_used _ _ _ _ hsw]
  refine wpAny_bind (wpAny_standAt (wpAny_bind ?_))
  show wpAny _ X.A (do let _ ← comprehension (.ListComp elt [⟨tg, iter, [c], 0⟩] scope pos) scope X.env _ (newList []) false (eval iter X.env) (some (assign (.Name x pos') X.env))) _ _ s
  refine wpAny_bind (wpAny_mono (wpAny_comprehension_free (use := some (assign (.Name x pos') X.env)) (Q := fun _ s' => SP X pins D .next s') rfl hs hcl sc.kind sc.names
    (thn (hi pins s σ H _ I h) fun v s1 h1 => thn h1 fun itv s2 h2 => ?_)) (fun _ s' hq => wpAny_pure (wpAny_pure hq)) fun _ _ e => e)
  obtain ⟨it, fp, tn, J, H2, e, I2, T, st2, f2, hq⟩ := h2
  subst e
  refine comp_blockIf (RR := fun acc C => compPost (model X.prog X.w) X.A X.xe (some (assign (.Name x pos') X.env)) (fun _ s' => SP X pins D .next s') acc C) hc sc I2 T st2 f2 c1 c2 hg ht he hq ?_
  intro acc C s' H' m I' q hn hC hL h0 hcc hp
  show wpAny _ X.A (assign (.Name x pos') X.env (.ref acc)) _ _ _
  refine wpAny_assign_Name (store_ok2 I' hN hix hx (v := .ref acc) rfl (fun s'' I'' ⟨a, sb, ha⟩ => ?_) hf)
  have hCa : C ≠ a := by
    rcases ha with rfl | ha
    · exact hL
    · exact fun z => hcc x a ha z.symm
  refine ⟨m, hn.sameBut sb hCa, fun h' sb' => ⟨_, H', I''.turned (t' := s''.toks) (fun b o hb e => sb'.extBut b o hb e) hC hL (.inr h0) hcc hp, q⟩⟩
end
end L2

set_option Elab.async false
set_option linter.all false
set_option maxRecDepth 100000
namespace L2
open PySem PySem.Spec PyProof.Rows
abbrev bmV : List Value := [.type "ValueError", .type "Exception", .type "BaseException", .type "object"]
def xcMro (K : PySem.W.Frag) (C : Addr) : List Value := match K.lookup C with
  | some ⟨_, _, .cls cd, _⟩ => cd.mro.drop 1
  | _ => []
theorem frs_in {l : List Env} : ∀ env ∈ l, ∀ a, env.frame = some a → a ∈ frs l := fun env he a hf => List.mem_filterMap.mpr ⟨env, he, hf⟩
theorem un_fly {fs : List Addr} {H H' : Hp} {h h1 h2 B : Heap} (u : Un fs [] H H' h h1) (cl : ∀ b o, h.get? b = some o → b ∉ fs → (∃ o', B.get? b = some o') ∧ (H b = none → B.get? b = some o)) (hB : ∀ b o, B.get? b = some o → h2.get? b = some o) (us : h1.UpToSlots h2)
    (hf : ∀ b ∈ fs, H b = none ∧ ∀ o, h1.get? b = some o → ∀ vs, o.data ≠ .fields vs) : Un fs [] H H' h h2 where
  keep := fun b o e n hb _ => hB _ _ ((cl b o e hb).2 n)
  slot := fun b o e n hb hx => by
    obtain ⟨sl, e1⟩ := u.slot b o e n hb hx
    obtain ⟨sl2, e2⟩ := us b _ e1 ((hf b hb).2 _ e1)
    exact ⟨sl2, e2⟩
  free := u.free
  there := fun b o e hx => by
    by_cases hb : b ∈ fs
    · obtain ⟨sl, e1⟩ := u.slot b o e (hf b hb).1 hb hx
      obtain ⟨sl2, e2⟩ := us b _ e1 ((hf b hb).2 _ e1)
      exact ⟨_, e2⟩
    · obtain ⟨o', e1⟩ := (cl b o e hb).1
      exact ⟨o', hB _ _ e1⟩
  tups := u.tups
  frzs := u.frzs
  tbls := u.tbls
section
variable {P : Program} {w : World} {K : PySem.W.Frag} {mg : Str → Option Value} {base : Heap} {N : List Str} {qual : Str} {scope : Scope} {f : Addr} {cd : Value} {A : Around} {outer : List Env} {s0 : Shared} {H0 : Hp} {E : XK}
end
section
variable {X : Cx} {x : Str} {C : Addr} {E : XK} {np cpos pos : Pos}
end
end L2

set_option Elab.async false
set_option linter.all false
set_option maxRecDepth 100000
namespace L2
open PySem PySem.Spec PyProof.Rows
def XcOb (h : Heap) (C : Addr) (bm : List Value) : Prop := ∃ N nm q bs hdct sn sub ab col dd k0 k1 k2 k3 k5 newId, h.get? C = some (excClassObj nm q C N bs bm hdct sn sub ab col dd k0 k1 k2 k3 k5 newId)
abbrev XcOk (K : PySem.W.Frag) (C : Addr) : Prop := PySem.W.ktsIn K C "BaseException" = true
theorem xc_ob {K : PySem.W.Frag} {h : Heap} {C : Addr} (X : K.In h) (ok : XcOk K C) : XcOb h C (xcMro K C) ∧ (xcMro K C).contains (.type "BaseException") = true := by
  revert ok
  unfold XcOk PySem.W.ktsIn xcMro
  cases ek : K.lookup C with
  | none => intro ok; cases ok
  | some ob =>
    obtain ⟨c0, dd, dt, slots⟩ := ob
    cases dt with
    | cls cd =>
      obtain ⟨cnm, cbs, cmro, cns, cqn, chd, csn, csub, cab, ccol, cdel⟩ := cd
      intro ok
      split at ok
      · rename_i dd' cd' sl' heq
        cases heq
        split at ok
        · rename_i C1 tl a0 a1 a2 a3 nid a5 em es
          dsimp only at em ok
          simp only [Bool.and_eq_true, beq_iff_eq, Bool.not_eq_true'] at ok
          obtain ⟨⟨⟨r1, r3⟩, r4⟩, r5⟩ := ok
          subst r1 r3 em
          have er : slots = #[a0, a1, a2, a3, some (.builtin nid), a5] := by
            cases slots with
            | mk ls => exact congrArg Array.mk es
          subst er
          exact ⟨⟨cns, cnm, cqn, cbs, chd, csn, csub, cab, ccol, dd, a0, a1, a2, a3, a5, nid, X _ _ ek⟩, r4⟩
        · cases ok
      · cases ok
    | _ =>
      intro ok
      exfalso
      split at ok
      · rename_i heq; cases heq
      · cases ok
theorem exc_match {M : Model} {A : Around} {E : Value → Shared → Prop} {s : Shared} {ea C CT : Addr} {ob : Obj} {bm bmT : List Value} {Q : Bool → Shared → Prop} (xC : XcOb s.heap C bm) (xT : XcOb s.heap CT bmT) (ke : s.heap.get? ea = some ob) (kc : ob.cls = .ref C)
    (kb : bmT.contains (.type "BaseException") = true) (kin : (Value.ref C :: bm).contains (.ref CT) = true) (hq : Q true s) : wpAny M A (excMatches (.ref ea) (.ref CT)) Q E s := by
  obtain ⟨hp, g, d, tk, os⟩ := s
  obtain ⟨N, nm, q, bs, hdct, sn, sub, ab, col, dd, k0, k1, k2, k3, k5, nid, kC⟩ := xC
  obtain ⟨N', nm', q', bs', hdct', sn', sub', ab', col', dd', l0, l1, l2, l3, l5, nid', kT⟩ := xT
  have kb' : (Value.ref CT :: bmT).contains (.type "BaseException") = true := by rw [List.contains_cons, kb, Bool.or_true]
  have kt := tc_notTuple
  unfold excMatches
  repeat (first | (with_reducible refine wpAny_loadPart_at ke ?_; rw [kc]) | with_reducible refine wpAny_loadPart_at kT ?_ | (with_reducible refine wpAny_isSubtype_exc kT ?_; rw [kb']) | (with_reducible refine wpAny_isSubtype_exc kC ?_; rw [kin]) | wp_step)
  exact hq
abbrev Cx.mark (X : Cx) (ea : Addr) : Cx := { X with A := X.A.mark (some (.ref ea)), calm := false, xe := fun _ _ => False }
abbrev Cx.held (X : Cx) (pn : List (Addr × Obj)) (xe : Value → Shared → Prop) : Cx := { X with pn := pn, xe := xe }
theorem mark_frames (A : Around) (v : Option Value) : (A.mark v).frames = A.frames := by cases A; rfl
section
variable {X : Cx} {pins : List (Addr × Obj)} {σ : St} {H : Hp} {s : Shared} {ea : Addr} {xe : Value → Shared → Prop}
theorem Inv.mark (I : Inv X pins σ H s) (ea : Addr) : Inv (X.mark ea) pins σ H s :=
  ⟨⟨I.ok.mod, I.ok.kind, I.ok.glob, I.ok.blt, I.ok.above, I.ok.inj, I.ok.has, I.ok.cab, (fun z => by cases z), (mark_frames _ _).trans I.ok.frames, I.ok.stk, I.ok.exf, I.ok.bs, I.ok.bsz, I.ok.noex, I.ok.exfs, I.ok.funs, I.ok.frf⟩, I.os, I.bare, I.base, I.loc, I.cell, I.free, I.freeC, I.pin, I.hok, I.len⟩
theorem Inv.unmark (ok : X.Ok) (I : Inv (X.mark ea) pins σ H s) : Inv X pins σ H s := ⟨ok, I.os, I.bare, I.base, I.loc, I.cell, I.free, I.freeC, I.pin, I.hok, I.len⟩
theorem Inv.held (I : Inv X pins σ H s) : Inv (X.held (X.pn ++ pins) xe) [] σ H s :=
  ⟨⟨I.ok.mod, I.ok.kind, I.ok.glob, I.ok.blt, I.ok.above, I.ok.inj, I.ok.has, I.ok.cab, I.ok.hd, I.ok.frames, I.ok.stk, I.ok.exf, I.ok.bs, I.ok.bsz, I.ok.noex, I.ok.exfs, I.ok.funs, I.ok.frf⟩, I.os, I.bare, I.base, I.loc, I.cell, I.free, I.freeC, fun p hp => I.pin p (by simpa using hp), I.hok, I.len⟩
theorem Inv.unheld {pins' : List (Addr × Obj)} (ok : X.Ok) (I : Inv (X.held (X.pn ++ pins) xe) pins' σ H s) : Inv X pins σ H s :=
  ⟨ok, I.os, I.bare, I.base, I.loc, I.cell, I.free, I.freeC, fun p hp => I.pin p (List.mem_append_left _ hp), I.hok, I.len⟩
end
def goneEnds (i : Nat) (D : Ends) : Ends where
  nx := fun σ H => D.nx (σ.set i none) H
  bk := fun σ H => D.bk (σ.set i none) H
  ct := fun σ H => D.ct (σ.set i none) H
  rt := D.rt
def CaughtBy (K : PySem.W.Frag) (CT : Addr) (cls : Value) : Prop := ∃ C, cls = .ref C ∧ XcOk K C ∧ (Value.ref C :: xcMro K C).contains (.ref CT) = true
section
variable {X : Cx} {x n : Str} {i : Nat} {CT : Addr} {np hpos pos : Pos} {body suite : List Stmt} {b0 : Stmt} {tb : (St → XK) → TS} {th : TS}
theorem name_gone {pins : List (Addr × Obj)} {σ : St} {H : Hp} {s : Shared} {A : Around} {E : Value → Shared → Prop} {M : Model} {Q : Unit → Shared → Prop} (I : Inv X pins σ H s) (hN : X.N.Nodup) (hi : X.N[i]? = some n) (hl : X.env.kindOf n = some .local)
    (q : ∀ s', Inv X pins (σ.set i none) H s' → Q () s') : wpAny M A (do bindName X.env n .none; unbindBehindTheSuite X.env n hpos) Q E s := by
  obtain ⟨m, hn, hm⟩ := id I.loc
  have hcls : (X.env.scope.kind == .class || (X.env.scope.kind == .module && X.env.locals != X.env.globals)) = false := by rw [I.ok.kind]; rfl
  refine wpAny_nameGoes_keeps hl hn hcls fun h' v hn' sb => q _ ?_
  have k : ∀ b o, b ≠ X.env.locals → s.heap.get? b = some o → h'.get? b = some o := fun b o hb e => sb.extBut b o hb e
  have Lz : ∀ b o, X.s₀.heap.get? b = some o → b ≠ X.env.locals := fun b o e z => by
    have h1 := Heap.lt_size e
    have h2 := I.ok.above
    rw [z] at h1
    exact absurd (Nat.lt_of_lt_of_le h1 h2) (Nat.lt_irrefl _)
  obtain ⟨oL, esL, epL, eL, _⟩ := id hn
  obtain ⟨oL', esL', epL', eL', _⟩ := id hn'
  have hx0 : ∀ b, b ∈ X.ex → b ≠ X.env.locals := fun b hb => (I.ok.exf b hb).1
  refine ⟨I.ok, I.os, I.bare, ?_, ⟨_, hn', fun j y v' h1 h2 h3 => ?_⟩, fun y c e => ?_, I.free, I.freeC, fun p hp => ?_, fun a o e => ?_, by rw [List.length_set]; exact I.len⟩
  · exact {
      keep := fun b o e n hb hx => k b o (Lz b o e) (I.base.keep b o e n hb hx)
      slot := fun b o e n hb hx => by
        obtain ⟨sl, e1⟩ := I.base.slot b o e n hb hx
        exact ⟨sl, k _ _ (Lz b o e) e1⟩
      free := I.base.free
      there := fun b o e hx => by
        obtain ⟨o', e1⟩ := I.base.there b o e hx
        exact ⟨o', k _ _ (Lz b o e) e1⟩
      tups := I.base.tups
      frzs := I.base.frzs
      tbls := I.base.tbls }
  · have hj : j ≠ i := fun z => by
      subst z
      rw [List.getElem?_set] at h2
      rw [if_pos rfl] at h2
      split at h2 <;> cases h2
    rw [List.getElem?_set_ne (Ne.symm hj)] at h2
    obtain ⟨u, r, hk⟩ := hm j y v' h1 h2 h3
    refine ⟨u, r, ?_⟩
    have hyn : y ≠ n := fun z => hj (nodup_ix hN (by rw [h1, z]) hi)
    rcases hk with ⟨k1, k2⟩ | ⟨k1, c, k2, k3⟩
    · exact .inl ⟨k1, by show (if y = n then v else m y) = _; rw [if_neg hyn]; exact k2⟩
    · refine .inr ⟨k1, c, k2, ?_⟩
      obtain ⟨oc, ec, r⟩ := k3
      exact ⟨oc, k _ _ (I.cne y c k2) ec, r⟩
  · obtain ⟨v', oc, ec, r⟩ := I.cell y c e
    exact ⟨v', oc, k _ _ (I.cne y c e) ec, r⟩
  · obtain ⟨p1, p2, p3, p4, p5⟩ := I.pin p hp
    exact ⟨k _ _ p3 p1, p2, p3, p4, p5⟩
  · refine (I.hok a o e).stay (fun b u hb q => k b u (fun z => ?_) q) (fun _ q => q) fun _ _ q => q
    have hf := I.free
    rcases hb with r | r
    · rw [← r, z, hf] at e; cases e
    · rw [z, hf] at r; cases r
end
end L2

set_option Elab.async false
set_option linter.all false
set_option maxRecDepth 100000
namespace L2
open PySem PySem.Spec PyProof.Rows
theorem ObjOk.there {P : Program} {w : World} {H : Hp} {h : Heap} {a : Addr} {o : HO} (x : ObjOk P w H h a o) : ∃ ob, h.get? a = some ob := by
  cases o with
  | lst xs => obtain ⟨_, _, _, _, e⟩ := x; exact ⟨_, e⟩
  | tup xs => obtain ⟨_, _, _, ob, e, _⟩ := x; exact ⟨ob, e⟩
  | dK kvs => obtain ⟨_, _, _, _, ob, _, _, e, _⟩ := x; exact ⟨ob, e⟩
  | dT kvs => obtain ⟨_, _, _, _, ob, _, _, e, _⟩ := x; exact ⟨ob, e⟩
  | set S n => obtain ⟨ob, _, _, _, e, _⟩ := x; exact ⟨ob, e⟩
  | ins C dx fs => obtain ⟨_, _, _, e, _⟩ := x; exact ⟨_, e⟩
  | own y => exact x
  | xd fs => obtain ⟨_, ⟨ob, _, _, e, _⟩, _⟩ := x; exact ⟨ob, e⟩
  | rng lo hi => obtain ⟨_, _, _, e⟩ := x; exact ⟨_, e⟩
  | frz ob u => obtain ⟨e, _⟩ := x; exact ⟨_, e⟩
  | tbl ps => exact ⟨_, show h.get? a = some _ from x⟩
  | met f y => exact ⟨_, show h.get? a = some _ from x⟩
  | ext φ => exact x.2.1
theorem Inv.track {X : Cx} {pins : List (Addr × Obj)} {σ : St} {H : Hp} {s : Shared} {ea : Addr} {o : HO} (I : Inv X pins σ H s) (hn : H ea = none) (h0 : ∀ ob, X.s₀.heap.get? ea ≠ some ob) (hL : ea ≠ X.env.locals) (hc : ∀ y c, X.env.cells.lookup y = some c → c ≠ ea)
    (hp : ∀ p ∈ X.pn ++ pins, p.1 ≠ ea) (new : ObjOk X.prog X.w (upd H ea o) s.heap ea o) : Inv X pins σ (upd H ea o) s where
  ok := I.ok
  os := I.os
  bare := I.bare
  base := {
    keep := I.base.keep
    slot := I.base.slot
    free := fun b ob e n hx => by
      have hb : b ≠ ea := fun z => h0 ob (z ▸ e)
      rw [upd_ne hb]; exact I.base.free b ob e n hx
    there := I.base.there
    tups := fun b xs e => by have := I.base.tups b xs e; rw [upd_ne (ne_of_none this hn)]; exact this
    frzs := fun b ob u e => by have := I.base.frzs b ob u e; rw [upd_ne (ne_of_none this hn)]; exact this
    tbls := fun b p e => by
      obtain ⟨m, e1⟩ := I.base.tbls b p e
      exact ⟨m, by rw [upd_ne (ne_of_none e1 hn)]; exact e1⟩ }
  loc := I.loc
  cell := I.cell
  free := by rw [upd_ne (Ne.symm hL)]; exact I.free
  freeC := fun y c e => by rw [upd_ne (hc y c e)]; exact I.freeC y c e
  pin := fun p hp' => by
    obtain ⟨p1, p2, p3⟩ := I.pin p hp'
    exact ⟨p1, by rw [upd_ne (hp p hp')]; exact p2, p3⟩
  hok := fun b u e => by
    by_cases hb : b = ea
    · subst hb; rw [upd_same] at e; cases e; exact new
    · rw [upd_ne hb] at e
      exact (I.hok b u e).stay (fun _ _ _ q => q) (fun c q => by rw [upd_ne (ne_of_none q hn)]; exact q) fun c xs q => by rw [upd_ne (ne_of_none q hn)]; exact q
  len := I.len
def tryXe (X : Cx) (pins : List (Addr × Obj)) (D : Ends) (hdl : List ExceptHandler) : Value → Shared → Prop := fun e s1 => wpAny (model X.prog X.w) X.A (noteFrame e X.env) (fun _ s2 => wpAny (model X.prog X.w) X.A (setFlight e none) (fun _ s3 => wpAny (model X.prog X.w) X.A (handleBy e X.env hdl) (SP X pins D) X.xe s3) X.xe s2) X.xe s1
section
variable {X : Cx} {x n : Str} {i : Nat} {CT : Addr} {np hpos pos : Pos} {body suite : List Stmt} {b0 : Stmt} {tb : (St → XK) → TS} {th : TS}
end
end L2


set_option Elab.async false
set_option linter.all false
set_option maxRecDepth 100000
namespace L2
open PySem PySem.Spec PyProof.Rows
section
variable {X : Cx}
end
theorem PS.nox {X : Cx} {st : Stmt} {t : TS} (h : PS X.nox st t) : PS X st t := fun pins s σ H D I hw =>
  wpAny_mono (h pins s σ H D (I.wish _) hw) (fun _ _ q => q.unwish) fun _ _ z => False.elim z
section
variable {P : Program} {w : World} {K : PySem.W.Frag} {mg : Str → Option Value} {base : Heap}
end
section
variable {X : Cx} {k : Nat} {f C : Addr} {fd : FuncData} {ps : List Str} {sp : Sp} {x m : Str} {p pos apos : Pos} {e o : Expr} {es : List Expr} {ta : TE} {t : TA} {W : St → XK}
end
end L2

set_option Elab.async false
set_option linter.all false
set_option maxRecDepth 100000
namespace L2
open PySem PySem.Spec PyProof.Rows
section
variable {X : Cx}
def repS (x : Str) (n : Int) : Str := if n < 1 then Str.empty else if (n == 1 || x.length == 0) = true then x else ⟨(List.replicate n.toNat x.cps).foldl (· ++ ·) #[]⟩
theorem fold_size (c : Array Nat) : ∀ (m : Nat) (a : Array Nat), ((List.replicate m c).foldl (· ++ ·) a).size = a.size + m * c.size
  | 0, a => by simp
  | m + 1, a => by
    rw [List.replicate_succ, List.foldl_cons, fold_size c m, Array.size_append, Nat.succ_mul]; omega
theorem repS_len (x : Str) (n : Int) : (repS x n).length ≤ x.length * n.toNat := by
  unfold repS
  split
  · exact Nat.zero_le _
  · split
    · rename_i h1 h2
      have : 1 ≤ n.toNat := by omega
      exact Nat.le_mul_of_pos_right _ this
    · show ((List.replicate n.toNat x.cps).foldl (· ++ ·) #[]).size ≤ _
      rw [fold_size, Nat.mul_comm]
      show 0 + x.cps.size * n.toNat ≤ x.cps.size * n.toNat
      omega
theorem op_rep_str : OpR X (binaryOp .Mult) (fun x y H Q => ∃ z n, x = .str z ∧ y = .int n ∧ -1000 ≤ n ∧ n ≤ 1000 ∧ z.length ≤ 1000 ∧ Q (.str (repS z n)) H) := by
  intro pins s σ H x y v u Q I rx ry h
  obtain ⟨z, n, rfl, rfl, h1, h2, h3, q⟩ := h
  obtain ⟨t, rfl⟩ := rx
  obtain ⟨t', rfl⟩ := ry
  have sl := sizeLine_eq
  have hz : z.length * n.toNat ≤ 1000 * 1000 := Nat.mul_le_mul h3 (by omega)
  refine P.mul_str (by simp; omega) (fun a b => ?_) (fun a b => ?_) ?_
  · have h5 : (1000 : Int) ≤ (2 ^ 63 - 1) / n := by
      rw [Int.le_ediv_iff_mul_le (by omega)]
      omega
    omega
  · unfold Builtin.Str.tooLong; simp; omega
  · have fin : ∀ (u : Tok) (tk : Nat), EP X pins σ Q (.str (repS z n) u) { s with toks := tk } := fun u tk => ⟨.str _, H, I.tok _, ⟨_, rfl⟩, q⟩
    have hl := repS_len z n
    unfold repS at fin hl
    split
    · rename_i hn
      rw [if_pos hn] at fin hl
      exact ⟨by omega, fin _ _⟩
    · rename_i hn
      rw [if_neg hn] at fin hl
      split
      · rename_i hb
        rw [if_pos hb] at fin
        exact fin t s.toks
      · rename_i hb
        rw [if_neg hb] at fin hl
        exact ⟨by omega, fin _ _⟩
theorem sl_str : SlR X (fun x lo hi H Q => ∃ z, x = .str z ∧ z.length ≤ sizeLine ∧ Q (.str (PySem.Txt.slice z lo hi)) H) := by
  intro pins s σ H x v vl vu lo hi sl Q I rx hs pl pu h
  obtain ⟨z, rfl, hz, q⟩ := h
  obtain ⟨t, rfl⟩ := rx
  refine ⟨"str", _, F.slot_str_getitem.lookup, typeIs_str _ _ _, ?_⟩
  have fin : ∀ (u : Tok) (tk : Nat), EP X pins σ Q (.str (PySem.Txt.slice z lo hi) u) { s with toks := tk } := fun u tk => ⟨.str _, H, I.tok _, ⟨_, rfl⟩, q⟩
  obtain ⟨o, e1, e2, e3⟩ := hs
  cases pl with
  | none =>
    cases pu with
    | none => exact wpAny_getItem_str_slice (l := none) (u := none) (st := none) ⟨o, e1, e2, e3⟩ rfl (post_val_or_str ⟨Nat.le_trans (PySem.Txt.slice_le z _ _) hz, fun t' k => fin t' k⟩)
    | int j uj => exact wpAny_getItem_str_slice (l := none) (u := some (j, uj)) (st := none) ⟨o, e1, e2, e3⟩ rfl (post_val_or_str ⟨Nat.le_trans (PySem.Txt.slice_le z _ _) hz, fun t' k => fin t' k⟩)
  | int i ui =>
    cases pu with
    | none => exact wpAny_getItem_str_slice (l := some (i, ui)) (u := none) (st := none) ⟨o, e1, e2, e3⟩ rfl (post_val_or_str ⟨Nat.le_trans (PySem.Txt.slice_le z _ _) hz, fun t' k => fin t' k⟩)
    | int j uj => exact wpAny_getItem_str_slice (l := some (i, ui)) (u := some (j, uj)) (st := none) ⟨o, e1, e2, e3⟩ rfl (post_val_or_str ⟨Nat.le_trans (PySem.Txt.slice_le z _ _) hz, fun t' k => fin t' k⟩)
end
end L2




set_option Elab.async false
set_option linter.all false
set_option maxRecDepth 100000
namespace L2
open PySem PySem.W
section
variable {prog : Program} {w : World} {A : Around} {E : Value → Shared → Prop} {h : Heap} {g : Array GenState} {d : Drawn} {t : Nat} {os : OsState} {a C : Addr} {o : Obj} {K : PySem.W.Frag}
structure XcIs (K : PySem.W.Frag) (C : Addr) : Prop where
  ga : findIn K (.ref C) "__getattribute__" = some (some (.builtin "BaseException.__getattribute__"))
  gt : findIn K (.ref C) "__getattr__" = some none
  cl : findIn K (.ref C) "__class__" = some (some (.builtin "object.__class__"))
  be : mroIn K C (.type "BaseException") = some true
  ob : mroIn K C (.type "object") = some true
theorem xget {R : Result → Shared → Prop} (F : XcIs K C) (X : K.In h) (hx : h.get? a = some o) (hc : o.cls = .ref C) (hq : R (.ok (.ret (.ref C))) ⟨h, g, d, t, os⟩) :
    codeAny (model prog w) A (.call (.builtin "getset_descriptor.__get__") ⟨[.builtin "object.__class__", .ref a, .ref C], []⟩) R ⟨h, g, d, t, os⟩ := by
  have hT5 : (⟨h, g, d, t, os⟩ : Shared).TypeIs (.builtin "object.__class__") "getset_descriptor" := PySem.F.typeOf_object_class
  have Ls : Looks (model prog w) h (isSubtype (.ref C) (.type (".".intercalate ("object.__class__".cutAt '.').dropLast))) true := by rw [PySem.F.owner_object_class]; exact looks_mroIn X F.ob
  refine codeAny_call_builtin PySem.F.slot_gs_get.plain PySem.F.entry_gs_get (PySem.F.slot_gs_get.check _ _ _ _ _ _ _ _ hT5 (PySem.F.args_gs_get _ _ _) ?_)
  repeat (any_goals (first | assumption | (with_reducible refine wpAny_loadPart_at hx ?_; rw [hc]) | (with_reducible refine Looks.at Ls ?_) | wp_step))
  refine ⟨Code.quiet_builtin _ (by decide +kernel), codeAny_builtin PySem.F.entry_object_class ?_⟩
  repeat (any_goals (first | assumption | (with_reducible refine wpAny_loadPart_at hx ?_; rw [hc]) | wp_step))
theorem xentry {tk : Tok} {Q : Fin → Shared → Prop} (F : XcIs K C) (X : K.In h) (hx : h.get? a = some o) (hc : o.cls = .ref C) (hq : Q (.done (.ret (.ref C))) ⟨h, g, d, t, os⟩) :
    wpAny (model prog w) A (Builtin.«object.__getattribute__» ⟨[.ref a, .str "__class__" tk], []⟩) Q E ⟨h, g, d, t, os⟩ := by
  have hT5 : (⟨h, g, d, t, os⟩ : Shared).TypeIs (.builtin "object.__class__") "getset_descriptor" := PySem.F.typeOf_object_class
  have f5 := PySem.F.typeOf_object_class
  have f6 := PySem.F.slot_gs_get.lookup
  have f7 := PySem.F.slot_gs_set.lookup
  have L1 := looks_findIn (M := model prog w) X F.cl
  repeat (any_goals (first | assumption | (with_reducible refine wpAny_loadPart_at hx ?_; rw [hc]) | with_reducible refine Looks.at L1 ?_ | wp_step))
  refine xget F X hx hc ?_
  repeat (any_goals (first | assumption | wp_step))
theorem xcheck {nameV : Value} {Q : Unit → Shared → Prop} (F : XcIs K C) (X : K.In h) (hx : h.get? a = some o) (hc : o.cls = .ref C) (hq : Q () ⟨h, g, d, t, os⟩) : wpAny (model prog w) A (checkBuiltinCall "BaseException.__getattribute__" ⟨[.ref a, nameV], []⟩) Q E ⟨h, g, d, t, os⟩ := by
  have hk : builtinKind "BaseException.__getattribute__" = some .slot := by decide +kernel
  have hsplit : splitId "BaseException.__getattribute__" = some ("BaseException", "__getattribute__") := by decide +kernel
  have Ls := looks_mroIn (M := model prog w) X F.be
  have ha := PySem.F.args_bexc_ga (.ref a) nameV
  simp only [checkBuiltinCall, hk, hsplit]
  refine wpAny_bind ?_
  · unfold isInstance
    repeat (first | (with_reducible refine wpAny_loadPart_at hx ?_; rw [hc]) | (with_reducible refine Looks.at Ls ?_) | wp_step)
    exact hq
theorem bexc_plain : plainId "BaseException.__getattribute__" = true := by decide +kernel
theorem xcall {tk : Tok} {R : Result → Shared → Prop} (F : XcIs K C) (X : K.In h) (hx : h.get? a = some o) (hc : o.cls = .ref C) (hq : R (.ok (.ret (.ref C))) ⟨h, g, d, t, os⟩) :
    codeAny (model prog w) A (.call (.builtin "BaseException.__getattribute__") ⟨[.ref a, .str "__class__" tk], []⟩) R ⟨h, g, d, t, os⟩ :=
  codeAny_call_builtin bexc_plain PySem.F.entry_bexc_ga (xcheck F X hx hc (xentry F X hx hc hq))
theorem xby {tk : Tok} {Q : Value → Shared → Prop} (S : Slot "ValueError" "__getattribute__" "BaseException.__getattribute__") (F : XcIs K C) (X : K.In h) (hx : h.get? a = some o) (hc : o.cls = .ref C) (hq : Q (.ref C) ⟨h, g, d, t, os⟩) :
    wpAny (model prog w) A (getAttrBy (.ref a) (.str "__class__" tk) false) Q E ⟨h, g, d, t, os⟩ := by
  have f3 := S.bind (.ref a)
  have hx2 : (Value.builtin "BaseException.__getattribute__" == Value.builtin "object.__getattribute__") = false := by decide +kernel
  have hx1 : (onTheHeap (Value.ref C) && Value.builtin "BaseException.__getattribute__" == Value.builtin "object.__getattribute__") = false := by rw [hx2]; rfl
  have L1 := looks_findIn (M := model prog w) X F.ga
  have L2 := looks_findIn (M := model prog w) X F.gt
  repeat (any_goals (first | assumption | (with_reducible refine wpAny_loadPart_at hx ?_; rw [hc]) | with_reducible refine Looks.at L1 ?_ | with_reducible refine Looks.at L2 ?_ | wp_step))
  refine xcall F X hx hc ?_
  repeat (any_goals (first | assumption | wp_step))
theorem xattr {Q : Option Value → Shared → Prop} (S : Slot "ValueError" "__getattribute__" "BaseException.__getattribute__") (F : XcIs K C) (X : K.In h) (hx : h.get? a = some o) (hc : o.cls = .ref C) (hq : Q (some (.ref C)) ⟨h, g, d, t + 1, os⟩) :
    wpAny (model prog w) A (getAttr? (.ref a) "__class__") Q E ⟨h, g, d, t, os⟩ := by
  unfold getAttr? getAttrBy?
  repeat (any_goals (first | assumption | with_reducible apply xby S F X hx hc | wp_step))
theorem kitx_exc {ea : Addr} (F : XcIs K C) : KitX K (.ref ea) (.ref C) (fun h => ∃ o, h.get? ea = some o ∧ o.cls = .ref C) where
  ty := fun M h _ ⟨o, h1, h2⟩ => h2 ▸ (Looks.ld h1).andThen .now
  it := fun _ _ X _ => by
    obtain ⟨cdD, hcD, _⟩ := Option.bind_eq_some_iff.mp F.be
    unfold clsIn at hcD
    split at hcD
    · rename_i c' d' cd' sl' ho
      intro A' Q' E' s' k q
      unfold isType loadHead
      exact wpAny_bind (wpAny_loadPart (k _ _ (X _ _ ho)) (wpAny_pure q))
    · cases hcD
  ne := fun h tp dd its n sl X htp => by
    obtain ⟨cdD, hcD, _⟩ := Option.bind_eq_some_iff.mp F.be
    refine Bool.eq_false_iff.mpr fun q => ?_
    have e : C = tp := Value.ref.inj (beq_iff_eq.mp q)
    subst e
    unfold clsIn at hcD
    split at hcD
    · rename_i c' d' cd' sl' ho
      have z := (X _ _ ho).symm.trans htp
      cases z
    · cases hcD
  ca := fun {_ _ _ _ _ s} X ⟨o, h1, h2⟩ k => by
    obtain ⟨h, g, d, t, os⟩ := s
    exact xattr PySem.F.attr_ValueError.ga F X h1 h2 k
end
section
variable {X : Cx}
theorem vals_refs : ∀ {as : List Addr} {us : List Value}, Vals (as.map V.ref) us → us = as.map Value.ref
  | [], _, .nil => rfl
  | a :: as, _, .cons r t => by
    cases r
    rw [vals_refs t]; rfl
end
end L2



set_option Elab.async false
set_option linter.all false
set_option maxRecDepth 100000
namespace L2
open PySem PySem.Spec PyProof.Rows
theorem compIf_lst {K : PySem.W.Frag} {a : Addr} {xs : List V} {H1 : Hp} {fvals : St} {tt : TT} {te : TE} {Q : Addr → Hp → Prop} (Pv : Addr → Nat → Hp → Prop) (hl : ∀ acc i H, Pv acc i H → SqL K H a xs)
    (h0 : ∀ acc, H1 acc = none → Pv acc 0 (upd H1 acc (.lst [])))
    (step : ∀ (acc : Addr) (i : Nat) (x : V) (H : Hp) (m : Nat) (W : Nat → Hp → Prop), xs[i]? = some x → Pv acc i H → (∀ H2, Pv acc (i + 1) H2 → ∃ m', m' < m ∧ W m' H2) →
      tt (some x :: fvals) H fun b H' => if b = true then te (some x :: fvals) H' fun y H4 => ∃ ys, H4 acc = some (.lst ys) ∧ ys.length < sizeLine ∧ ∃ m', m' < m ∧ W m' (upd H4 acc (.lst (ys ++ [y]))) else ∃ m', m' < m ∧ W m' H')
    (q : ∀ acc H', H1 acc = none → Pv acc xs.length H' → Q acc H') :
    compWalkIf (Itl K a) H1 (none :: fvals) (gName 0) tt te Q := by
  intro acc hacc
  refine ⟨fun i m σ' H' => m = xs.length - i ∧ i ≤ xs.length ∧ (∃ o1, σ' = o1 :: fvals) ∧ Pv acc i H', ⟨_, rfl, Nat.zero_le _, ⟨none, rfl⟩, h0 acc hacc⟩, ?_⟩
  rintro i m σ' H' ⟨rfl, hi, ⟨o1, rfl⟩, pv⟩
  by_cases hlt : i < xs.length
  · have hxi : xs[i]? = some xs[i] := List.getElem?_eq_getElem hlt
    refine .inr ⟨⟨xs, _, hl _ _ _ pv, hxi⟩, ?_⟩
    rintro v H2 ⟨rfl, hx⟩
    have hxx := hx xs (hl _ _ _ pv)
    exact step acc i v H2 (xs.length - i) (fun m' H'' => m' = xs.length - (i + 1) ∧ i + 1 ≤ xs.length ∧ (∃ p1, some v :: fvals = p1 :: fvals) ∧ Pv acc (i + 1) H'') hxx pv fun H3 e3 => ⟨xs.length - (i + 1), by omega, rfl, hlt, ⟨_, rfl⟩, e3⟩
  · have e : i = xs.length := by omega
    subst e
    exact .inl ⟨⟨xs, hl _ _ _ pv, Nat.le_refl _⟩, q acc H' hacc pv⟩
theorem compIf_ttp {K : PySem.W.Frag} {a : Addr} {xs : List V} {H1 : Hp} {fvals : St} {tt : TT} {te : TE} {Q : Addr → Hp → Prop} (Pv : Addr → Nat → Hp → Prop) (hl : ∀ acc i H, Pv acc i H → SqT K H a xs)
    (h0 : ∀ acc, H1 acc = none → Pv acc 0 (upd H1 acc (.lst [])))
    (step : ∀ (acc : Addr) (i : Nat) (x : V) (H : Hp) (m : Nat) (W : Nat → Hp → Prop), xs[i]? = some x → Pv acc i H → (∀ H2, Pv acc (i + 1) H2 → ∃ m', m' < m ∧ W m' H2) →
      tt (some x :: fvals) H fun b H' => if b = true then te (some x :: fvals) H' fun y H4 => ∃ ys, H4 acc = some (.lst ys) ∧ ys.length < sizeLine ∧ ∃ m', m' < m ∧ W m' (upd H4 acc (.lst (ys ++ [y]))) else ∃ m', m' < m ∧ W m' H')
    (q : ∀ acc H', H1 acc = none → Pv acc xs.length H' → Q acc H') :
    compWalkIf (Itt K a) H1 (none :: fvals) (gName 0) tt te Q := by
  intro acc hacc
  refine ⟨fun i m σ' H' => m = xs.length - i ∧ i ≤ xs.length ∧ (∃ o1, σ' = o1 :: fvals) ∧ Pv acc i H', ⟨_, rfl, Nat.zero_le _, ⟨none, rfl⟩, h0 acc hacc⟩, ?_⟩
  rintro i m σ' H' ⟨rfl, hi, ⟨o1, rfl⟩, pv⟩
  by_cases hlt : i < xs.length
  · have hxi : xs[i]? = some xs[i] := List.getElem?_eq_getElem hlt
    refine .inr ⟨⟨xs, _, hl _ _ _ pv, hxi⟩, ?_⟩
    rintro v H2 ⟨rfl, hx⟩
    have hxx := hx xs (hl _ _ _ pv)
    exact step acc i v H2 (xs.length - i) (fun m' H'' => m' = xs.length - (i + 1) ∧ i + 1 ≤ xs.length ∧ (∃ p1, some v :: fvals = p1 :: fvals) ∧ Pv acc (i + 1) H'') hxx pv fun H3 e3 => ⟨xs.length - (i + 1), by omega, rfl, hlt, ⟨_, rfl⟩, e3⟩
  · have e : i = xs.length := by omega
    subst e
    exact .inl ⟨⟨xs, hl _ _ _ pv, Nat.le_refl _⟩, q acc H' hacc pv⟩
theorem comp_tup3 {K : PySem.W.Frag} {a : Addr} {xs : List V} {H1 : Hp} {fvals : St} {te : TE} {Q : Addr → Hp → Prop} (Pv : Addr → Nat → Hp → Prop) (hl : ∀ acc i H, Pv acc i H → SqL K H a xs)
    (h0 : ∀ acc, H1 acc = none → Pv acc 0 (upd H1 acc (.lst [])))
    (tup : ∀ (acc : Addr) (i : Nat) (x : V) (H : Hp), xs[i]? = some x → Pv acc i H → ∃ (T : Addr) (x1 x2 x3 : V), x = .ref T ∧ H T = some (.tup [x1, x2, x3]))
    (step : ∀ (acc : Addr) (i : Nat) (T : Addr) (x1 x2 x3 : V) (H : Hp) (R : VK), xs[i]? = some (.ref T) → H T = some (.tup [x1, x2, x3]) → Pv acc i H → (∀ v H2, (∃ ys, H2 acc = some (.lst ys) ∧ ys.length < sizeLine ∧ Pv acc (i + 1) (upd H2 acc (.lst (ys ++ [v])))) → R v H2) → te (some x1 :: some x2 :: some x3 :: fvals) H R)
    (q : ∀ acc H', H1 acc = none → Pv acc xs.length H' → Q acc H') :
    compWalk (Itl K a) H1 (none :: none :: none :: fvals) (gTup K 3 (gCons (gName 0) (gCons (gName 1) (gCons (gName 2) gNil)))) te Q := by
  intro acc hacc
  refine ⟨fun i m σ' H' => m = xs.length - i ∧ i ≤ xs.length ∧ (∃ o1 o2 o3, σ' = o1 :: o2 :: o3 :: fvals) ∧ Pv acc i H', ⟨_, rfl, Nat.zero_le _, ⟨none, none, none, rfl⟩, h0 acc hacc⟩, ?_⟩
  rintro i m σ' H' ⟨rfl, hi, ⟨o1, o2, o3, rfl⟩, pv⟩
  by_cases hlt : i < xs.length
  · have hxi : xs[i]? = some xs[i] := List.getElem?_eq_getElem hlt
    refine .inr ⟨⟨xs, _, hl _ _ _ pv, hxi⟩, ?_⟩
    rintro v H2 ⟨rfl, hx⟩
    have hxx := hx xs (hl _ _ _ pv)
    obtain ⟨T, x1, x2, x3, rfl, hT⟩ := tup acc i v H2 hxx pv
    refine ⟨T, _, rfl, SqT.of hT, rfl, _, _, rfl, _, _, rfl, _, _, rfl, rfl, ?_⟩
    exact step acc i T x1 x2 x3 _ _ hxx hT pv fun u H3 ⟨ys, e1, e2, e3⟩ => ⟨ys, e1, e2, xs.length - (i + 1), by omega, rfl, hlt, ⟨_, _, _, rfl⟩, e3⟩
  · have e : i = xs.length := by omega
    subst e
    exact .inl ⟨⟨xs, hl _ _ _ pv, Nat.le_refl _⟩, q acc H' hacc pv⟩
end L2

set_option Elab.async false
set_option linter.all false
set_option maxRecDepth 100000
namespace L2
open PySem PySem.Spec PyProof.Rows
section
variable {X : Cx}
inductive TyL (H : Hp) : V → String → Prop where
  | s {x : V} {t : String} : TyS H x t → TyL H x t
  | lst {a : Addr} {xs : List V} (e : H a = some (.lst xs)) : TyL H (.ref a) "list"
end
theorem comp_tup2 {K : PySem.W.Frag} {a : Addr} {xs : List V} {H1 : Hp} {fvals : St} {te : TE} {Q : Addr → Hp → Prop} (Pv : Addr → Nat → Hp → Prop) (hl : ∀ acc i H, Pv acc i H → SqL K H a xs)
    (h0 : ∀ acc, H1 acc = none → Pv acc 0 (upd H1 acc (.lst [])))
    (tup : ∀ (acc : Addr) (i : Nat) (x : V) (H : Hp), xs[i]? = some x → Pv acc i H → ∃ (T : Addr) (x1 x2 : V), x = .ref T ∧ H T = some (.tup [x1, x2]))
    (step : ∀ (acc : Addr) (i : Nat) (T : Addr) (x1 x2 : V) (H : Hp) (R : VK), xs[i]? = some (.ref T) → H T = some (.tup [x1, x2]) → Pv acc i H → (∀ v H2, (∃ ys, H2 acc = some (.lst ys) ∧ ys.length < sizeLine ∧ Pv acc (i + 1) (upd H2 acc (.lst (ys ++ [v])))) → R v H2) → te (some x1 :: some x2 :: fvals) H R)
    (q : ∀ acc H', H1 acc = none → Pv acc xs.length H' → Q acc H') :
    compWalk (Itl K a) H1 (none :: none :: fvals) (gTup K 2 (gCons (gName 0) (gCons (gName 1) gNil))) te Q := by
  intro acc hacc
  refine ⟨fun i m σ' H' => m = xs.length - i ∧ i ≤ xs.length ∧ (∃ o1 o2, σ' = o1 :: o2 :: fvals) ∧ Pv acc i H', ⟨_, rfl, Nat.zero_le _, ⟨none, none, rfl⟩, h0 acc hacc⟩, ?_⟩
  rintro i m σ' H' ⟨rfl, hi, ⟨o1, o2, rfl⟩, pv⟩
  by_cases hlt : i < xs.length
  · have hxi : xs[i]? = some xs[i] := List.getElem?_eq_getElem hlt
    refine .inr ⟨⟨xs, _, hl _ _ _ pv, hxi⟩, ?_⟩
    rintro v H2 ⟨rfl, hx⟩
    have hxx := hx xs (hl _ _ _ pv)
    obtain ⟨T, x1, x2, rfl, hT⟩ := tup acc i v H2 hxx pv
    refine ⟨T, _, rfl, SqT.of hT, rfl, _, _, rfl, _, _, rfl, rfl, ?_⟩
    exact step acc i T x1 x2 _ _ hxx hT pv fun u H3 ⟨ys, e1, e2, e3⟩ => ⟨ys, e1, e2, xs.length - (i + 1), by omega, rfl, hlt, ⟨_, _, rfl⟩, e3⟩
  · have e : i = xs.length := by omega
    subst e
    exact .inl ⟨⟨xs, hl _ _ _ pv, Nat.le_refl _⟩, q acc H' hacc pv⟩
end L2

set_option Elab.async false
set_option linter.all false
set_option maxRecDepth 100000
namespace L2
open PySem PySem.Spec PyProof.Rows
inductive KD {α : Type} : Sem α → Prop
  | pure (a : α) : KD (.pure a)
  | raise (e : Value) : KD (.raise e)
  | unsupported (w : String) : KD (.unsupported w)
  | rule {t : String} {k : Unit → Sem α} : KD (k ()) → KD (.rule t k)
  | at {p : Pos} {k : Unit → Sem α} : KD (k ()) → KD (.at p k)
  | load {a : Addr} {p : Option Value} {k : Obj → Sem α} : (∀ o, KD (k o)) → KD (.load a p k)
  | update {a : Addr} {p : Option Value} {f : Obj → Obj} {k : Unit → Sem α} : (∀ o, (f o).dict = o.dict ∧ (f o).isFreed = o.isFreed) → KD (k ()) → KD (.update a p f k)
  | alloc {o : Obj} {k : Addr → Sem α} : (∀ a, KD (k a)) → KD (.alloc o k)
  | stack {k : List (Code × Pos) → Sem α} : (∀ l, KD (k l)) → KD (.stack k)
theorem KD.bind {α β : Type} {m : Sem α} {f : α → Sem β} (h : KD m) (hf : ∀ a, KD (f a)) : KD (m >>= f) := by
  show KD (m.bind f)
  induction h with
  | pure a => exact hf a
  | raise e => exact .raise e
  | unsupported w => exact .unsupported w
  | rule _ ih => exact .rule ih
  | «at» _ ih => exact .at ih
  | load _ ih => exact .load ih
  | update hu _ ih => exact .update hu ih
  | alloc _ ih => exact .alloc ih
  | stack _ ih => exact .stack ih
def DKeep (s s' : Shared) : Prop := ∀ b o, s.heap.get? b = some o → ∃ o', s'.heap.get? b = some o' ∧ o'.dict = o.dict
theorem DKeep.refl (s : Shared) : DKeep s s := fun _ o e => ⟨o, e, rfl⟩
theorem DKeep.trans {s s1 s2 : Shared} (a : DKeep s s1) (b : DKeep s1 s2) : DKeep s s2 := fun x o e => by
  obtain ⟨o1, e1, d1⟩ := a x o e
  obtain ⟨o2, e2, d2⟩ := b x o1 e1
  exact ⟨o2, e2, d2.trans d1⟩
theorem dk_update {s : Shared} {a : Addr} {f : Obj → Obj} (hf : ∀ o, (f o).dict = o.dict ∧ (f o).isFreed = o.isFreed) : DKeep s { s with heap := s.heap.update a f } := fun b o e => by
  by_cases hb : a = b
  · subst hb
    exact ⟨f o, Heap.get?_update_self f e (by rw [(hf o).2]; exact (Heap.get?_some_iff.mp e).2), (hf o).1⟩
  · exact ⟨o, (Heap.get?_update_other _ _ hb).trans e, rfl⟩
theorem KD.wp {α : Type} {M : Model} {Γ : PySem.Ctx} {t : Sem α} (h : KD t) : ∀ {Q : α → Pos → Shared → Prop} {E : Value → Pos → Shared → Prop} {p : Pos} {s : Shared}, Sem.wp M Γ t Q E p s → Sem.wp M Γ t (fun a p' s' => Q a p' s' ∧ DKeep s s') E p s := by
  induction h with
  | pure a => intro Q E p s q; rw [Sem.wp] at q ⊢; exact ⟨q, DKeep.refl s⟩
  | raise e => intro Q E p s q; rw [Sem.wp] at q ⊢; exact q
  | unsupported w => intro Q E p s q; rw [Sem.wp] at q; exact q.elim
  | rule _ ih => intro Q E p s q; rw [Sem.wp] at q ⊢; exact ih q
  | «at» _ ih => intro Q E p s q; rw [Sem.wp] at q ⊢; exact ih q
  | load _ ih =>
    intro Q E p s q
    rw [Sem.wp] at q ⊢
    obtain ⟨o, e, q⟩ := q
    exact ⟨o, e, ih o q⟩
  | update hu _ ih =>
    intro Q E p s q
    rw [Sem.wp] at q ⊢
    exact ⟨q.1, Sem.wp_mono M Γ _ (fun a p' s' z => ⟨z.1, (dk_update hu).trans z.2⟩) (fun _ _ _ z => z) _ _ (ih q.2)⟩
  | alloc _ ih =>
    intro Q E p s q
    rw [Sem.wp] at q ⊢
    exact Sem.wp_mono M Γ _ (fun a p' s' z => ⟨z.1, fun b o e => z.2 b o (Heap.get?_push_of_some _ e)⟩) (fun _ _ _ z => z) _ _ (ih _ q)
  | stack _ ih => intro Q E p s q; rw [Sem.wp] at q ⊢; exact ih _ q
theorem KD.any {α : Type} {M : Model} {A : Around} {t : Sem α} {Q : α → Shared → Prop} {E : Value → Shared → Prop} {s : Shared} (h : KD t) (q : wpAny M A t Q E s) : wpAny M A t (fun a s' => Q a s' ∧ DKeep s s') E s := fun Γ p hΓ => h.wp (q Γ p hΓ)
theorem kd_fieldsOf (v : Value) : KD (fieldsOf v) := by
  unfold fieldsOf
  cases v <;> first | exact .unsupported _ | skip
  refine KD.bind (.load fun o => .pure o) fun o => ?_
  cases o.data <;> first | exact .pure _ | exact .unsupported _
theorem kd_field (v : Value) (i : Nat) : KD (field v i) := by
  unfold field
  refine KD.bind (kd_fieldsOf v) fun vs => ?_
  split
  · exact .pure _
  · exact .unsupported _
theorem mapFields_keeps (g : Array Value → Array Value) (o : Obj) : (Obj.mapFields g o).dict = o.dict ∧ (Obj.mapFields g o).isFreed = o.isFreed := by
  obtain ⟨c, d, dt, sl⟩ := o
  cases dt <;> exact ⟨rfl, rfl⟩
theorem kd_setField (v : Value) (i : Nat) (x : Value) : KD (setField v i x) := by
  unfold setField
  cases v <;> first | exact .unsupported _ | skip
  unfold updateField
  refine KD.bind (.load fun o => .pure o) fun o => ?_
  cases o.data <;> first | exact .unsupported _ | skip
  dsimp only
  split
  · exact .update (mapFields_keeps _) (.pure _)
  · exact .unsupported _
theorem kd_setFlight (e : Value) (f : Option Addr) : KD (setFlight e f) := by
  unfold setFlight
  refine KD.bind (kd_field e 1) fun tb => ?_
  split
  · exact kd_setField _ _ _
  · exact .pure _
theorem kd_entryPlace (f : Addr) (b : Bool) : KD (entryPlaceOf f b) := by
  unfold entryPlaceOf
  refine KD.bind (.stack fun l => .pure l) fun acts => ?_
  split
  · exact .pure _
  · exact .pure _
theorem kd_ite {α : Type} {c : Prop} [Decidable c] {x y : Sem α} (hx : KD x) (hy : KD y) : KD (if c then x else y) := by
  split
  · exact hx
  · exact hy
theorem kd_newFields (ty : String) (vs : List Value) : KD (newFields ty vs) := by
  have last : KD (newObjAsIs (.type ty) (.fields vs.toArray)) := by
    unfold newObjAsIs
    exact KD.bind (.alloc fun a => .pure a) fun a => .pure _
  unfold newFields newObj
  dsimp only
  exact kd_ite (KD.bind (.unsupported _) fun _ => last) last
theorem kd_behind (env : Env) (outer : List Env) : KD (behindIsImport env outer) := by
  unfold behindIsImport
  exact kd_ite (.pure _) (kd_ite (.pure _) (KD.bind (kd_field _ _) fun _ => .pure _))
theorem kd_kept (env : Env) (b : Bool) (l : List Env) : KD (keptBack env b l) := by
  cases l with
  | nil =>
    unfold keptBack
    refine kd_ite (.pure _) ?_
    refine KD.bind ?_ fun _ => .pure _
    unfold underTheClaimsCaller
    exact KD.bind (.stack fun l => .pure l) fun _ => .pure _
  | cons c r => unfold keptBack; exact .pure _
theorem kd_ready : ∀ l : List Env, KD (readyFrames l)
  | [] => by unfold readyFrames; exact .pure _
  | env :: outer => by
    unfold readyFrames
    split
    · refine KD.bind (.load fun o => .pure o) fun o => ?_
      exact kd_ite (.pure _) (KD.bind (kd_behind env outer) fun b => KD.bind (kd_kept env b outer) fun v => KD.bind (.update (fun o => ⟨rfl, by cases o; rename_i d _; cases d <;> rfl⟩) (.pure _)) fun _ => kd_ready outer)
    · exact .unsupported _
theorem kd_frameOf (env : Env) : KD (PySem.frameOf env) := by
  unfold PySem.frameOf
  refine KD.bind ?_ fun l => ?_
  · unfold frameEnvs
    exact KD.bind (.stack fun l => .pure l) fun _ => .pure _
  refine KD.bind ?_ fun o => ?_
  · unfold frameObject
    split
    · exact .pure _
    · exact KD.bind (kd_ready _) fun _ => .pure _
  · split
    · exact .pure _
    · exact .unsupported _
theorem kd_noteFrame (e : Value) (env : Env) : KD (noteFrame e env) := by
  unfold noteFrame
  split
  · refine KD.bind (kd_field e 1) fun head => ?_
    refine kd_ite (KD.bind (kd_field head 3) fun x => kd_ite (.pure _) (KD.bind (kd_setField _ _ _) fun _ => ?_)) ?_
    · exact KD.bind (kd_frameOf env) fun _ => KD.bind (kd_entryPlace _ _) fun _ => KD.bind (kd_newFields _ _) fun _ => kd_setField _ _ _
    · exact KD.bind (kd_frameOf env) fun _ => KD.bind (kd_entryPlace _ _) fun _ => KD.bind (kd_newFields _ _) fun _ => kd_setField _ _ _
  · exact .unsupported _
theorem kd_leaving (env : Env) (e : Value) : KD (leaving env e) := by
  unfold leaving
  exact KD.bind (kd_noteFrame e env) fun _ => kd_setFlight e none
end L2

set_option Elab.async false
set_option linter.all false
set_option maxRecDepth 100000
namespace L2
open PySem PySem.Spec PyProof.Rows
def DictIs (h : Heap) (e : Addr) (od : Option Addr) : Prop := ∃ o, h.get? e = some o ∧ o.dict = od
theorem DictIs.keep {s s' : Shared} {e : Addr} {od : Option Addr} (h : DictIs s.heap e od) (k : DKeep s s') : DictIs s'.heap e od := by
  obtain ⟨o, e1, d1⟩ := h
  obtain ⟨o', e2, d2⟩ := k _ _ e1
  exact ⟨o', e2, d2.trans d1⟩
def CX2 (P : Program) (w : World) : CXT := fun outer H s E e s' => ∃ (ea : Addr) (cls a0 : Value) (B : Heap) (H' : Hp) (od : Option Addr), e = .ref ea ∧ s'.os = s.os ∧ AllBare s'.gens ∧ HOk P w H' B ∧ Heap.FlyingW B outer ea cls a0 s'.heap ∧
  Un (frs outer) [] H H' s.heap s'.heap ∧ (∀ b o, s.heap.get? b = some o → b ∉ frs outer → (∃ o', B.get? b = some o') ∧ (H b = none → B.get? b = some o)) ∧ DictIs s'.heap ea od ∧ E cls od H'
def XN (e : Addr) (o : Obj) : HO := .ext fun h => h.get? e = some o
theorem xn_ok {P : Program} {w : World} {H : Hp} {h : Heap} {e : Addr} {o : Obj} (he : h.get? e = some o) : ObjOk P w H h e (XN e o) := ⟨he, ⟨o, he⟩, fun _ _ z k => k _ z⟩
theorem xn_get {P : Program} {w : World} {H : Hp} {h : Heap} (ok : HOk P w H h) {e : Addr} {o : Obj} (he : H e = some (XN e o)) : h.get? e = some o := (ok e _ he).1
def drp (H : Hp) (e : Addr) : Hp := fun b => if b = e then none else H b
theorem drp_ne {H : Hp} {e b : Addr} (h : b ≠ e) : drp H e b = H b := by unfold drp; rw [if_neg h]
theorem drp_same {H : Hp} {e : Addr} : drp H e e = none := by unfold drp; rw [if_pos rfl]
def RaisesX (X : Cx) (E : XK) : Prop := ∀ (pins : List (Addr × Obj)) (σ : St) (H : Hp) (s : Shared) (e : Addr) (oe : Obj) (vs : Array Value) (a0 : Value), Inv X pins σ H s → H e = some (XN e oe) → (∀ ob, X.s₀.heap.get? e ≠ some ob) → oe.data = .fields vs → vs[1]? = some .none → vs[0]? = some a0 → E oe.cls oe.dict (drp H e) → X.xe (.ref e) s
section
variable {P : Program} {w : World} {K : PySem.W.Frag} {mg : Str → Option Value} {base : Heap} {N : List Str} {qual : Str} {scope : Scope} {f : Addr} {cd : Value} {A : Around} {outer : List Env} {s0 : Shared} {H0 : Hp} {E : XK}
theorem own_above2 {pins : List (Addr × Obj)} {σ : St} {H : Hp} {s : Shared} (I : Inv (cxOf (CX2 P w) P w K mg base N qual scope f cd A outer s0 H0 E) pins σ H s) {b : Addr} {o : Obj} (e : s0.heap.get? b = some o) (hb : b ∉ frs outer) : b ∉ frs (envOfC qual scope s0.heap.objs.size f cd :: outer) := fun z => by
  rcases List.mem_cons.mp (I.stkSub b z) with h | h
  · have h1 : b = s0.heap.objs.size := h
    have h2 := Heap.lt_size e
    rw [h1] at h2
    exact absurd h2 (Nat.lt_irrefl _)
  · exact hb h
theorem raises2 : RaisesX (cxOf (CX2 P w) P w K mg base N qual scope f cd A outer s0 H0 E) E := by
  intro pins σ H s e oe vs a0 I he new hd h1 h0 q
  have hst := I.stack
  have hobj := xn_get I.hok he
  have hef : e ∉ frs (envOfC qual scope s0.heap.objs.size f cd :: outer) := fun hb => by
    obtain ⟨_, o', e1, e2⟩ := hst.mem hb
    rw [hobj] at e1; cases e1
    exact e2 vs hd
  have hB : ∀ b o, s.heap.get? b = some o → b ∉ frs (envOfC qual scope s0.heap.objs.size f cd :: outer) → b ≠ e → (PySem.W.hideAll s.heap (e :: frs (envOfC qual scope s0.heap.objs.size f cd :: outer))).get? b = some o := fun b o eb nb ne => PySem.W.hideAll_get _ eb (fun z => (List.mem_cons.mp z).elim ne nb)
  have dI : DictIs s.heap e oe.dict := ⟨oe, hobj, rfl⟩
  have lv : wpAny (model P w) (A.deeper (envOfC qual scope s0.heap.objs.size f cd)) (leaving (envOfC qual scope s0.heap.objs.size f cd) (.ref e)) (fun _ s2 => ∃ h2, s2 = { s with heap := h2 } ∧ Heap.LeftW (PySem.W.hideAll s.heap (e :: frs (envOfC qual scope s0.heap.objs.size f cd :: outer))) (envOfC qual scope s0.heap.objs.size f cd :: outer) e oe.cls a0 s.heap h2) (fun e' s'' => CX2 P w outer H0 s0 E e' s'') s :=
    wpAny_leaving_firstW (L := s0.heap.objs.size) I.ok.frames (PySem.W.funFrames_hide hst fun env hE a ha => List.mem_cons_of_mem _ (frs_in env hE a ha)) rfl hobj (fun b o q => PySem.W.of_hideAll _ q) (PySem.W.hideAll_none _ List.mem_cons_self) hd h1 h0 fun h2 x => ⟨h2, rfl, x⟩
  refine wpAny_mono ((kd_leaving _ _).any lv) (fun _ s2 z => ?_) fun _ _ z => z
  obtain ⟨⟨h2, rfl, k1, ⟨_, _, k2⟩, k3, k4⟩, dk⟩ := z
  have cl : ∀ b o, s0.heap.get? b = some o → b ∉ frs outer → (∃ o', (PySem.W.hideAll s.heap (e :: frs (envOfC qual scope s0.heap.objs.size f cd :: outer))).get? b = some o') ∧ (H0 b = none → (PySem.W.hideAll s.heap (e :: frs (envOfC qual scope s0.heap.objs.size f cd :: outer))).get? b = some o) := fun b o eb hb => by
    have nb := own_above2 I eb hb
    have ne : b ≠ e := fun z => new o (z ▸ eb)
    obtain ⟨o', e1⟩ := I.base.there b o eb (fun z => nomatch z)
    exact ⟨⟨o', hB _ _ e1 nb ne⟩, fun n => hB _ _ (I.base.keep b o eb n hb (fun z => nomatch z)) nb ne⟩
  have unD : Un (frs outer) [] H0 (drp H e) s0.heap s.heap := {
    keep := I.base.keep
    slot := I.base.slot
    free := fun b o eb n hx => by
      have ne : b ≠ e := fun z => new o (z ▸ eb)
      rw [drp_ne ne]
      exact I.base.free b o eb n hx
    there := I.base.there
    tups := fun b xs eb => by
      have := I.base.tups b xs eb
      rw [drp_ne (ne_of this he (by intro z; cases z))]; exact this
    frzs := fun b o u eb => by
      have := I.base.frzs b o u eb
      rw [drp_ne (ne_of this he (by intro z; cases z))]; exact this
    tbls := fun b p eb => by
      obtain ⟨m1, e1⟩ := I.base.tbls b p eb
      exact ⟨m1, by rw [drp_ne (ne_of e1 he (by intro z; cases z))]; exact e1⟩ }
  refine ⟨e, oe.cls, a0, _, drp H e, oe.dict, rfl, I.os, I.bare, fun a o ea => ?_, ⟨k1, PySem.W.hideAll_none _ List.mem_cons_self, k2, k3⟩, un_fly (h1 := s.heap) unD cl k1 k4 (fun b hb => ⟨I.ok.frf b hb, fun o eo => ?_⟩), cl, dI.keep dk, q⟩
  · have hae : a ≠ e := fun z => by rw [z, drp_same] at ea; cases ea
    rw [drp_ne hae] at ea
    refine (I.hok a o ea).stay (fun b u hb q => hB b u q (fun z => ?_) (fun z => ?_)) (fun b q => ?_) (fun b xs q => ?_)
    · have hn := I.stkFree b z
      rcases hb with r | r
      · rw [r, ea] at hn; cases hn
      · rw [hn] at r; cases r
    · rcases hb with r | r
      · exact hae (r.symm.trans z)
      · rw [z, he] at r; cases r
    · rw [drp_ne (ne_of q he (by intro z; cases z))]; exact q
    · rw [drp_ne (ne_of q he (by intro z; cases z))]; exact q
  · obtain ⟨_, o', e1, e2⟩ := hst.mem (List.mem_cons_of_mem _ hb)
    rw [e1] at eo; cases eo
    exact e2
end
end L2

set_option Elab.async false
set_option linter.all false
set_option maxRecDepth 100000
namespace L2
open PySem PySem.Spec PyProof.Rows
def XOd (cls : Value) (od : Option Addr) (ea : Addr) : HO := .ext fun h => ∃ o, h.get? ea = some o ∧ o.cls = cls ∧ o.dict = od ∧ ∃ vs, o.data = .fields vs
theorem xod_ok {P : Program} {w : World} {H : Hp} {h : Heap} {ea : Addr} {cls : Value} {od : Option Addr} {o : Obj} {vs : Array Value} (e : h.get? ea = some o) (c : o.cls = cls) (d : o.dict = od) (dt : o.data = .fields vs) : ObjOk P w H h ea (XOd cls od ea) :=
  ⟨⟨o, e, c, d, vs, dt⟩, ⟨o, e⟩, fun h1 h2 ⟨o', e', r⟩ k => ⟨o', k _ e', r⟩⟩
def tTryV (K : PySem.W.Frag) (CT : Addr) (i : Nat) (th : TS) (D : Ends) : St → XK := fun σ cls od H => CaughtBy K CT cls ∧ ∀ ea, H ea = none → th (goneEnds i D) (σ.set i (some (.ref ea))) (upd H ea (XOd cls od ea))
def tTry2 (K : PySem.W.Frag) (CT : Addr) (i : Nat) (tb : (St → XK) → TS) (th : TS) : TS := fun D σ H => tb (tTryV K CT i th D) D σ H
def PassesV (X : Cx) (xe : Value → Shared → Prop) (W : St → XK) : Prop := ∀ (pins : List (Addr × Obj)) (σ : St) (H : Hp) (s : Shared) (e : Value) (s' : Shared), Inv X pins σ H s → CX2 X.prog X.w X.stack H s (W σ) e s' → xe e s'
section
variable {X : Cx} {x n : Str} {i : Nat} {CT : Addr} {np hpos pos : Pos} {body suite : List Stmt} {b0 : Stmt} {tb : (St → XK) → TS} {th : TS}
theorem try_key2 {pins : List (Addr × Obj)} {D : Ends} (ok : X.Ok) (hst : X.stack = X.env :: X.outer) (hfr : X.env.frame = some X.env.locals) (hex : X.ex = []) (hN : X.N.Nodup) (hi : X.N[i]? = some n) (hl : X.env.kindOf n = some .local) (hlo : Loc X.env.scope n)
    (hf : X.fn n = true ∨ X.env.scope.names.lookup n = some .local) (hg : Gl X x) (hm : X.mg x = some (.ref CT)) (hT : XcOk X.K CT) (hs : ∀ ea, PSs (X.mark ea) (b0 :: suite) th) (hd : (x == ("__debug__" : Str)) = false) :
    PassesV (X.held (X.pn ++ pins) (tryXe X pins D [.ExceptHandler (some (.Name x np)) (some n) (b0 :: suite) hpos])) (tryXe X pins D [.ExceptHandler (some (.Name x np)) (some n) (b0 :: suite) hpos]) (tTryV X.K CT i th D) := by
  rintro pins' σ1 H1 s1 e s2 I1 ⟨ea, cls, a0, B, H2, od, rfl, os, bare, hok, fly, un, cl, dI, ⟨C, rfl, kC, kin⟩, hth⟩
  have fly' : Heap.FlyingW B (X.env :: X.outer) ea (.ref C) a0 s2.heap := hst ▸ fly
  have J1 : Inv X pins σ1 H1 s1 := I1.unheld ok
  have hfn : ∀ b ∈ frs X.stack, H1 b = none ∧ ∀ o, s2.heap.get? b = some o → ∀ vs, o.data ≠ .fields vs := fun b hb => ⟨J1.stkFree b hb, fun o eo => by
    obtain ⟨_, o', e1, e2⟩ := fly.2.2.1.mem hb
    rw [e1] at eo; cases eo
    exact e2⟩
  have Hea : H2 ea = none := by
    cases q : H2 ea with
    | none => rfl
    | some u =>
      obtain ⟨ob, e1⟩ := (hok ea u q).there
      rw [fly.2.1] at e1; cases e1
  -- the exception is none of what stood ahead of the call
  have new1 : ∀ ob, s1.heap.get? ea ≠ some ob := fun ob e1 => by
    by_cases hb : ea ∈ frs X.stack
    · obtain ⟨oe, vs, e2, _, e3, _⟩ := fly.first
      exact (hfn ea hb).2 oe e2 vs e3
    · obtain ⟨⟨o', e2⟩, _⟩ := cl ea ob e1 hb
      rw [fly.2.1] at e2; cases e2
  have inv : ∀ h', (∀ b o, B.get? b = some o → h'.get? b = some o) → s2.heap.UpToSlots h' → Inv X pins σ1 H2 { s2 with heap := h' } := fun h' hB us =>
    Inv.call' (s' := { s2 with heap := h' }) (ch := []) J1 os (un_fly un cl hB us hfn) (hok.kept hB) bare fun b z => nomatch z
  unfold tryXe
  have lk : wpAny (model X.prog X.w) X.A (noteFrame (.ref ea) X.env) (fun _ s3 => ∃ h4, s3 = { s2 with heap := h4 } ∧ Heap.HeldW B (X.env :: X.outer) ea (.ref C) a0 X.env.locals h4 ∧ s2.heap.UpToSlots h4) X.xe s2 :=
    wpAny_looks_onW (L := X.env.locals) (ok.frames.trans (congrArg some hst)) hfr fly' fun h4 held4 us4 => ⟨h4, rfl, held4, us4⟩
  refine wpAny_mono ((kd_noteFrame _ _).any lk) (fun _ s3 z => ?_) fun _ _ z => z
  obtain ⟨⟨h4, rfl, held4, us4⟩, dk4⟩ := z
  have dI4 := dI.keep dk4
  have ld : wpAny (model X.prog X.w) X.A (setFlight (.ref ea) none) (fun _ s3 => ∃ h5, s3 = { s2 with heap := h5 } ∧ Heap.FlyingW B (X.env :: X.outer) ea (.ref C) a0 h5 ∧ h4.UpToSlots h5) X.xe { s2 with heap := h4 } :=
    wpAny_landsW (s := { s2 with heap := h4 }) held4 fun h5 fly5 us5 => ⟨h5, rfl, fly5, us5⟩
  refine wpAny_mono ((kd_setFlight _ _).any ld) (fun _ s3 z => ?_) fun _ _ z => z
  obtain ⟨⟨h5, rfl, fly5, us5⟩, dk5⟩ := z
  have dI5 := dI4.keep dk5
  have us25 := us4.trans us5
  have I5 := inv h5 fly5.1 us25
  obtain ⟨oe, vs, hoe, hoec, hoed, _⟩ := fly5.first
  refine wpAny_handleBy_cons (codeAny_handlers_test (ld_glob (I5.mark ea) hg hm (exc_match (C := C) (CT := CT) (xc_ob I5.kIn kC).1 (xc_ob I5.kIn hT).1 hoe hoec (xc_ob I5.kIn hT).2 kin ?_) hd)) (by intro q; cases q)
  refine codeAny_handlers_suite_as ?_
  refine wpAny_mono ((kd_setFlight _ _).any (lands_againW (s := { s2 with heap := h5 }) (Q := fun _ s3 => ∃ h6, s3 = { s2 with heap := h6 } ∧ Heap.FlyingW B (X.env :: X.outer) ea (.ref C) a0 h6 ∧ h5.UpToSlots h6) fly5 fun h6 fly6 us6 => ⟨h6, rfl, fly6, us6⟩)) (fun _ s3 z => ?_) fun _ _ z => z
  obtain ⟨⟨h6, rfl, fly6, us6⟩, dk6⟩ := z
  obtain ⟨ox6, hox6, hod6⟩ := dI5.keep dk6
  have I6 := inv h6 fly6.1 (us25.trans us6)
  obtain ⟨oe6, vs6, hoe6, hoec6, hoed6, _⟩ := fly6.first
  have hdd6 : oe6.dict = od := by
    have hox6' : h6.get? ea = some ox6 := hox6
    rw [hoe6] at hox6'; cases hox6'; exact hod6
  have I7 : Inv X pins σ1 (upd H2 ea (XOd (.ref C) od ea)) { s2 with heap := h6 } := by
    refine I6.track Hea (fun ob e1 => ?_) (fun z => ?_) (fun y c e1 z => ?_) (fun p hp z => ?_) (xod_ok hoe6 hoec6 hdd6 hoed6)
    · obtain ⟨o', e2⟩ := J1.base.there ea ob e1 (by rw [hex]; exact List.not_mem_nil)
      exact new1 o' e2
    · obtain ⟨m, ⟨oL, es, ep, eL, edL, _⟩, _⟩ := id I6.loc
      rw [← z] at eL
      have eL' : h6.get? ea = some oL := eL
      rw [hoe6] at eL'; cases eL'
      rw [hoed6] at edL; cases edL
    · obtain ⟨v, oc, ec, r⟩ := J1.cell y c e1
      exact new1 oc (z ▸ ec)
    · obtain ⟨p1, _⟩ := J1.pin p hp
      exact new1 p.2 (z ▸ p1)
  refine store_ok I7 hN hi hlo (v := .ref ea) rfl (fun s7 J7 => ?_) hf
  refine wpAny_mono (hs ea pins s7 _ _ (goneEnds i D) (J7.mark ea) (hth ea Hea)) (fun f s8 q8 => ?_) fun _ _ z => z.elim
  cases f with
  | next =>
    obtain ⟨σ9, H9, I9, q9⟩ := q8
    exact name_gone (I9.unmark ok) hN hi hl fun s' I' => ⟨_, _, I', q9⟩
  | brk =>
    obtain ⟨σ9, H9, I9, q9⟩ := q8
    exact name_gone (I9.unmark ok) hN hi hl fun s' I' => ⟨_, _, I', q9⟩
  | cont =>
    obtain ⟨σ9, H9, I9, q9⟩ := q8
    exact name_gone (I9.unmark ok) hN hi hl fun s' I' => ⟨_, _, I', q9⟩
  | ret u =>
    obtain ⟨v, σ9, H9, I9, r, q9⟩ := q8
    exact name_gone (I9.unmark ok) hN hi hl fun s' I' => ⟨v, _, _, I', r, q9⟩
theorem ps_tryAs2 (hst : X.stack = X.env :: X.outer) (hfr : X.env.frame = some X.env.locals) (hex : X.ex = []) (hN : X.N.Nodup) (hi : X.N[i]? = some n) (hl : X.env.kindOf n = some .local) (hlo : Loc X.env.scope n)
    (hg : Gl X x) (hm : X.mg x = some (.ref CT)) (hT : XcOk X.K CT) (hb : ∀ pn xe W, PassesV (X.held pn xe) xe W → PSs (X.held pn xe) body (tb W)) (hs : ∀ ea, PSs (X.mark ea) (b0 :: suite) th)
    (hf : X.fn n = true ∨ X.env.scope.names.lookup n = some .local := by first | exact .inl rfl | exact .inr rfl | assumption) (hd : (x == ("__debug__" : Str)) = false := by decide) :
    PS X (.Try body [.ExceptHandler (some (.Name x np)) (some n) (b0 :: suite) hpos] [] [] pos) (tTry2 X.K CT i tb th) := by
  intro pins s σ H D I h
  refine wpAny_Try_except ?_
  refine wpAny_mono (hb (X.pn ++ pins) (tryXe X pins D [.ExceptHandler (some (.Name x np)) (some n) (b0 :: suite) hpos]) (tTryV X.K CT i th D) (try_key2 I.ok hst hfr hex hN hi hl hlo hf hg hm hT hs hd) [] s σ H D I.held h) (fun f s1 hq => ?_) fun e s1 he => he
  have ok := I.ok
  cases f with
  | next =>
    obtain ⟨σ', H', I', q⟩ := hq
    exact wpAny_execs_nil ⟨σ', H', I'.unheld ok, q⟩
  | brk => obtain ⟨σ', H', I', q⟩ := hq; exact ⟨σ', H', I'.unheld ok, q⟩
  | cont => obtain ⟨σ', H', I', q⟩ := hq; exact ⟨σ', H', I'.unheld ok, q⟩
  | ret u => obtain ⟨v, σ', H', I', r, q⟩ := hq; exact ⟨v, σ', H', I'.unheld ok, r, q⟩
end
end L2

set_option Elab.async false
set_option linter.all false
set_option maxRecDepth 100000
namespace L2
open PySem PySem.W
structure XcA (K : PySem.W.Frag) (C : Addr) (name : Str) : Prop where
  ga : findIn K (.ref C) "__getattribute__" = some (some (.builtin "BaseException.__getattribute__"))
  gt : findIn K (.ref C) "__getattr__" = some none
  na : findIn K (.ref C) name = some none
  be : mroIn K C (.type "BaseException") = some true
  hd : hasDictIn K C = true
section
variable {prog : Program} {w : World} {A : Around} {E : Value → Shared → Prop} {h : Heap} {g : Array GenState} {d : Drawn} {t : Nat} {os : OsState} {a C dx : Addr} {o : Obj} {K : PySem.W.Frag} {name : Str} {v : Value} {mA : Str → Option Value} {vs : Array Value}
theorem yentry {tk : Tok} {Q : Fin → Shared → Prop} (F : XcA K C name) (X : K.In h) (hx : h.get? a = some o) (hc : o.cls = .ref C) (hdt : o.data = .fields vs) (hdx : o.dict = some dx) (hns : h.Ns dx mA) (hv : mA name = some v) (hq : Q (.done (.ret v)) ⟨h, g, d, t, os⟩) :
    wpAny (model prog w) A (Builtin.«object.__getattribute__» ⟨[.ref a, .str name tk], []⟩) Q E ⟨h, g, d, t, os⟩ := by
  have L1 := looks_findIn (M := model prog w) X F.na
  obtain ⟨cd, hcd, hd'⟩ := any_some F.hd
  have L2 := looks_clsIn (M := model prog w) X hcd
  repeat (first | (with_reducible refine wpAny_loadPart_at hx ?_; rw [hc]) | with_reducible refine Looks.at L1 ?_ | wp_step)
  rw [hdt]
  unfold PySem.instanceDict
  repeat (first | (with_reducible refine wpAny_loadPart_at hx ?_; rw [hc]) | with_reducible refine Looks.at L2 ?_ | wp_step)
  rw [hdx]
  repeat (first | (with_reducible refine wpAny_nsGet hns ?_; rw [hv]) | wp_step)
  exact hq
theorem ycheck {nameV : Value} {Q : Unit → Shared → Prop} (F : XcA K C name) (X : K.In h) (hx : h.get? a = some o) (hc : o.cls = .ref C) (hq : Q () ⟨h, g, d, t, os⟩) : wpAny (model prog w) A (checkBuiltinCall "BaseException.__getattribute__" ⟨[.ref a, nameV], []⟩) Q E ⟨h, g, d, t, os⟩ := by
  have hk : builtinKind "BaseException.__getattribute__" = some .slot := by decide +kernel
  have hsplit : splitId "BaseException.__getattribute__" = some ("BaseException", "__getattribute__") := by decide +kernel
  have Ls := looks_mroIn (M := model prog w) X F.be
  have ha := PySem.F.args_bexc_ga (.ref a) nameV
  simp only [checkBuiltinCall, hk, hsplit]
  refine wpAny_bind ?_
  · unfold isInstance
    repeat (first | (with_reducible refine wpAny_loadPart_at hx ?_; rw [hc]) | (with_reducible refine Looks.at Ls ?_) | wp_step)
    exact hq
theorem yby {tk : Tok} {fill expr : Bool} {Q : Value → Shared → Prop} (S : Slot "ValueError" "__getattribute__" "BaseException.__getattribute__") (F : XcA K C name) (X : K.In h) (hx : h.get? a = some o) (hc : o.cls = .ref C) (hdt : o.data = .fields vs) (hdx : o.dict = some dx) (hns : h.Ns dx mA) (hv : mA name = some v)
    (hq : wpAny (model prog w) A (handedOut v) Q E ⟨h, g, d, t, os⟩) : wpAny (model prog w) A (getAttrBy (.ref a) (.str name tk) fill expr) Q E ⟨h, g, d, t, os⟩ := by
  have f3 := S.bind (.ref a)
  have hx0 : (expr && onTheHeap (Value.builtin "BaseException.__getattribute__")) = false := by cases expr <;> rfl
  have hx2 : (Value.builtin "BaseException.__getattribute__" == Value.builtin "object.__getattribute__") = false := by decide +kernel
  have hx1 : (onTheHeap (Value.ref C) && Value.builtin "BaseException.__getattribute__" == Value.builtin "object.__getattribute__") = false := by rw [hx2]; rfl
  have L1 := looks_findIn (M := model prog w) X F.ga
  have L2 := looks_findIn (M := model prog w) X F.gt
  repeat (any_goals (first | assumption | (with_reducible refine wpAny_loadPart_at hx ?_; rw [hc]) | with_reducible refine Looks.at L1 ?_ | with_reducible refine Looks.at L2 ?_ | wp_step))
  refine codeAny_call_builtin bexc_plain PySem.F.entry_bexc_ga (ycheck F X hx hc (yentry F X hx hc hdt hdx hns hv ?_))
  repeat (any_goals (first | assumption | wp_step))
end
end L2

set_option Elab.async false
set_option linter.all false
set_option maxRecDepth 100000
namespace L2
open PySem PySem.W Builtin Builtin.ObjectAttr
abbrev bmE : List Value := [.type "ValueError", .type "Exception", .type "BaseException", .type "object"]
def refsThen : List Value → Bool
  | .ref _ :: l => refsThen l
  | l => l == bmE
theorem refs_pass {self : Value} (SF : StoreFacts "ValueError" bmE "object.__setattr__" "object") : ∀ {l : List Value}, refsThen l = true → refuseLoop self "__setattr__" l = pure ()
  | [], h => by cases h
  | .ref C :: l, h => by
    rw [refuseLoop_ref]
    exact refs_pass SF (l := l) h
  | .type T :: l, h => by
    have e : (.type T :: l : List Value) = bmE := beq_iff_eq.mp h
    rw [e]; exact SF.passes self
  | .none :: l, h => by have e : (.none :: l : List Value) = bmE := beq_iff_eq.mp h; cases e
  | .bool _ :: l, h => by have e : (.bool _ :: l : List Value) = bmE := beq_iff_eq.mp h; cases e
  | .int _ _ :: l, h => by have e : (.int _ _ :: l : List Value) = bmE := beq_iff_eq.mp h; cases e
  | .float _ _ :: l, h => by have e : (.float _ _ :: l : List Value) = bmE := beq_iff_eq.mp h; cases e
  | .str _ _ :: l, h => by have e : (.str _ _ :: l : List Value) = bmE := beq_iff_eq.mp h; cases e
  | .bytes _ _ :: l, h => by have e : (.bytes _ _ :: l : List Value) = bmE := beq_iff_eq.mp h; cases e
  | .builtin _ :: l, h => by have e : (.builtin _ :: l : List Value) = bmE := beq_iff_eq.mp h; cases e
  | .notImplemented :: l, h => by have e : (.notImplemented :: l : List Value) = bmE := beq_iff_eq.mp h; cases e
  | .ellipsis :: l, h => by have e : (.ellipsis :: l : List Value) = bmE := beq_iff_eq.mp h; cases e
structure XcS (K : PySem.W.Frag) (C : Addr) (name : Str) : Prop where
  sa : findIn K (.ref C) "__setattr__" = some (some (.builtin "object.__setattr__"))
  na : findIn K (.ref C) name = some none
  ob : mroIn K C (.type "object") = some true
  hd : hasDictIn K C = true
  mr : (clsIn K C).any (fun cd => refsThen cd.mro) = true
section
variable {prog : Program} {w : World} {A : Around} {E : Value → Shared → Prop} {h : Heap} {g : Array GenState} {d : Drawn} {t : Nat} {os : OsState} {x C : Addr} {o : Obj} {K : PySem.W.Frag} {name : Str} {v : Value} {vs : Array Value}
theorem yst_entry {tk : Tok} {Q : Fin → Shared → Prop} (F : XcS K C name) (X : K.In h) (hx : h.get? x = some o) (hc : o.cls = .ref C) (hdt : o.data = .fields vs) (hdn : o.dict = none)
    (hq : ∀ h' tk', h'.get? x = some { o with dict := some h.objs.size } → h'.Ns1 h.objs.size (fun y => if y = name then some v else none) → (∀ b u, b ≠ x → h.get? b = some u → h'.get? b = some u) → Q (.done (.ret .none)) ⟨h', g, d, tk', os⟩) :
    wpAny (model prog w) A (Builtin.«object.__setattr__» ⟨[.ref x, .str name tk, v], []⟩) Q E ⟨h, g, d, t, os⟩ := by
  obtain ⟨cd, hcd, hmr⟩ := any_some F.mr
  obtain ⟨cd2, hcd2, hd'⟩ := any_some F.hd
  obtain rfl : cd = cd2 := by rw [hcd] at hcd2; exact Option.some.inj hcd2
  have hpass := refs_pass (self := .ref x) PySem.F.store_ValueError hmr
  have L1 := looks_findIn (M := model prog w) X F.na
  have L2 := looks_clsIn (M := model prog w) X hcd
  have hm : Looks (model prog w) h (mroOf (.ref C)) cd.mro := (looks_clsIn X hcd).andThen .now
  unfold Builtin.«object.__setattr__»
  repeat (first | rw [refuse_eq] | rw [hpass] | (with_reducible refine wpAny_loadPart_at hx ?_; rw [hc]) | with_reducible refine Looks.at hm ?_ | with_reducible refine Looks.at L1 ?_ | with_reducible refine Looks.at L2 ?_ | wp_step)
  rw [hdn, hdt, if_neg (by simp [typeHasDict])]
  have hx₁ : (h.push { cls := .type "dict", data := .dict #[] }).get? x = some o := Heap.get?_push_of_some _ hx
  have hxs : x ≠ h.objs.size := Nat.ne_of_lt (Heap.lt_size hx)
  refine wpAny_bind (wpAny_alloc' ?_)
  refine wpAny_bind (wpAny_update' hx₁ ?_)
  refine wpAny_pure ?_
  have hgd : ((h.push { cls := .type "dict", data := .dict #[] }).update x fun o => { cls := o.cls, dict := some h.objs.size, data := o.data, slots := o.slots }).get? h.objs.size = some { cls := .type "dict", data := .dict #[] } :=
    (Heap.get?_update_ne _ _ _ _ hxs.symm).trans (Heap.get?_push_at rfl rfl)
  have hnd : ((h.push { cls := .type "dict", data := .dict #[] }).update x fun o => { cls := o.cls, dict := some h.objs.size, data := o.data, slots := o.slots }).Ns h.objs.size (fun _ => none) :=
    ⟨_, #[], _, hgd, rfl, fun e he => absurd he (by simp), fun _ => rfl⟩
  show wpAny _ _ (storeInDict h.objs.size (.str name tk) name v) _ _ _
  unfold storeInDict newKeyGuard
  refine wpAny_bind (wpAny_pure (wpAny_bind (wpAny_nsSet1 (Heap.Ns1.of_empty hnd) fun h' hn' hs => ?_)))
  obtain ⟨oD, esD, epD, hoD, hdD, hcD⟩ := hn'.count (Within.cons name v Within.nil)
  refine wpAny_bind (wpAny_lookBehind hoD (by rw [hdD]; exact pastItsLine_dict (Nat.le_trans hcD (by rw [List.length_cons, List.length_nil, sizeLine_eq]; omega))) ?_)
  wp_walk
  refine hq h' _ ?_ hn' fun b ob hbx hb => ?_
  · refine (hs.2 x hxs).trans (Heap.get?_update_self _ hx₁ ?_)
    have hfr := (Heap.get?_some_iff.mp hx).2
    obtain ⟨oc, od, odt, osl⟩ := o
    cases odt <;> first | rfl | exact hfr
  · exact (hs.2 b (Nat.ne_of_lt (Heap.lt_size hb))).trans ((Heap.get?_update_ne _ _ _ _ hbx).trans (Heap.get?_push_of_some _ hb))
theorem yst {s : Shared} {Q : Unit → Shared → Prop} (F : XcS K C name) (X : K.In s.heap) (hx : s.heap.get? x = some o) (hc : o.cls = .ref C) (hdt : o.data = .fields vs) (hdn : o.dict = none)
    (hq : ∀ h' tk', h'.get? x = some { o with dict := some s.heap.objs.size } → h'.Ns1 s.heap.objs.size (fun y => if y = name then some v else none) → (∀ b u, b ≠ x → s.heap.get? b = some u → h'.get? b = some u) → Q () { s with heap := h', toks := tk' }) :
    wpAny (model prog w) A (setAttr (.ref x) name v) Q E s := by
  have I : InstAt s.heap x o C none := ⟨hx, hc, by unfold notCls; rw [hdt], by rw [hdn]; trivial⟩
  have SF := PySem.F.store_ValueError
  refine set_plain X I F.sa ?_
  obtain ⟨h, g, d, t, os⟩ := s
  have sub : Looks (model prog w) h (isInstance (.ref x) (.type "object")) true := I.type.andThen (looks_mroIn X F.ob)
  refine codeAny_call_builtin SF.slot.plain SF.entry (@check_slot (model prog w) _ _ ⟨h, g, d, t + 1, os⟩ "object.__setattr__" "object" "__setattr__" (.ref x) [.str name t, v] [] _ SF.kind SF.split sub (SF.args (.ref x) (.str name t) v) ?_)
  exact yst_entry F X hx hc hdt hdn fun h' tk' a b c => hq h' tk' a b c
end
end L2

set_option Elab.async false
set_option linter.all false
set_option maxRecDepth 100000
namespace L2
open PySem PySem.Spec PyProof.Rows
def sXset (K : PySem.W.Frag) (ta tv : TE) (f : Str) : TS := fun D σ H => tv σ H fun y H1 => ta σ H1 fun x H2 => ∃ (a C : Addr) (o : Obj) (vs : Array Value), x = .ref a ∧ H2 a = some (XN a o) ∧ o.cls = .ref C ∧ o.data = .fields vs ∧ o.dict = none ∧ XcS K C f ∧
  ∀ dx, H2 dx = none → D.nx σ (upd (upd H2 a (XN a { o with dict := some dx })) dx (.xd [(f, y)]))
def tXa (K : PySem.W.Frag) (ta : TE) (f : Str) : TE := fun σ H Q => ta σ H fun x H1 => ∃ (a C dx : Addr) (fs : List (Str × V)) (v : V), x = .ref a ∧ H1 a = some (XOd (.ref C) (some dx) a) ∧ XcA K C f ∧ H1 dx = some (.xd fs) ∧ fs.lookup f = some v ∧ Q v H1
section
variable {X : Cx} {o e value : Expr} {f : Str} {pos pos' tpos : Pos} {ta tv : TE}
theorem ps_xset (hex : X.ex = []) (ha : PE X o ta) (hv : PE X value tv) (hs : swapsWith value (some (.Attribute o f pos')) pos.line X.env = pure false) : PS X (.Assign [.Attribute o f pos'] value pos) (sXset X.K ta tv f) := by
  intro pins s σ H D I h
  refine plainObj_wpAny_Assign_Attribute (thn (hv pins s σ H _ I h) fun u s1 ⟨y, H1, I1, ry, q⟩ => thn (ha pins s1 σ H1 _ I1 q) fun ov s2 ⟨x, H2, I2, rx, a, C, ob, vs, ex, ea, hc, hdt, hdn, F, q2⟩ => ?_) hs
  subst ex
  obtain rfl : ov = Value.ref a := rx
  have hx := xn_get I2.hok ea
  refine yst F I2.kIn hx hc hdt hdn fun h' tk' g1 g2 g3 => ?_
  have fr := I2.hok.fresh (Nat.le_refl s2.heap.objs.size)
  have non : ∀ u, s2.heap.get? s2.heap.objs.size ≠ some u := fun u z => absurd (Heap.lt_size z) (Nat.lt_irrefl _)
  have dxa : s2.heap.objs.size ≠ a := fun z => non _ (z ▸ hx)
  have I3 : Inv X pins σ (upd H2 a (XN a { ob with dict := some s2.heap.objs.size })) { s2 with heap := h', toks := tk' } :=
    I2.write (x := a) (e := a) (by rw [ea]; exact True.intro) (.inl rfl) g3 ⟨_, g1⟩ (xn_ok g1)
  have I4 : Inv X pins σ (upd (upd H2 a (XN a { ob with dict := some s2.heap.objs.size })) s2.heap.objs.size (.xd [(f, y)])) { s2 with heap := h', toks := tk' } := by
    refine I3.track (by rw [upd_ne dxa]; exact fr) (fun u z => ?_) (fun z => ?_) (fun n c ec z => ?_) (fun p hp z => ?_) ?_
    · obtain ⟨u', e1⟩ := I2.base.there _ u z (by rw [hex]; exact List.not_mem_nil)
      exact non u' e1
    · obtain ⟨m, ⟨oL, es, ep, eL, _⟩, _⟩ := id I2.loc
      exact non _ (z ▸ eL)
    · obtain ⟨v', oc, e1, _⟩ := I2.cell n c ec
      exact non _ (z ▸ e1)
    · exact non _ (z ▸ (I2.pin p hp).1)
    · refine ⟨_, g2, fun g => ?_⟩
      show RelO (([(f, y)] : List (Str × V)).lookup g) (if g = f then some u else none)
      rw [List.lookup_cons]
      by_cases hg : g = f
      · rw [if_pos hg, hg, beq_self_eq_true]; exact ry
      · rw [if_neg hg, show (g == f) = false from beq_eq_false_iff_ne.mpr hg]; exact True.intro
  exact ⟨σ, _, I4, q2 _ fr⟩
theorem yattr {prog : Program} {w : World} {A : Around} {E : Value → Shared → Prop} {s : Shared} {a C dx : Addr} {ob : Obj} {K : PySem.W.Frag} {name : Str} {v : Value} {mA : Str → Option Value} {vs : Array Value} {Q : Value → Shared → Prop} (F : XcA K C name) (XK : K.In s.heap) (hx : s.heap.get? a = some ob) (hc : ob.cls = .ref C) (hdt : ob.data = .fields vs) (hdx : ob.dict = some dx) (hns : s.heap.Ns dx mA) (hv : mA name = some v) (hh : handedOut v = pure v)
    (hq : Q v { s with toks := s.toks + 1 }) : wpAny (model prog w) A (getAttr (.ref a) name true) Q E s := by
  obtain ⟨h, g, d, t, os⟩ := s
  have hq2 : wpAny (model prog w) A (handedOut v) Q E ⟨h, g, d, t + 1, os⟩ := by rw [hh]; exact wpAny_pure hq
  unfold getAttr
  repeat (any_goals (first | assumption | with_reducible apply yby PySem.F.attr_ValueError.ga F XK hx hc hdt hdx hns hv | wp_step))
theorem pe_xa (he : PE X e ta) (hb : attributeBase e f X.env (eval e X.env) = eval e X.env) : PE X (.Attribute e f pos) (tXa X.K ta f) := by
  intro pins s σ H Q I h
  refine attr_of hb (thn (he pins s σ H _ I h) fun u s1 ⟨x, H1, I1, rx, a, C, dx, fs, v, ex, ea, F, ed, hl, q⟩ => ?_)
  subst ex
  obtain rfl : u = Value.ref a := rx
  obtain ⟨ob, h1, h2, h3, vs, h4⟩ := (I1.hok a _ ea).1
  obtain ⟨mA, hn, hr⟩ := (show ObjOk X.prog X.w H1 s1.heap dx (.xd fs) from I1.hok dx _ ed)
  have r := hr f
  rw [hl] at r
  cases em : mA f with
  | none => rw [em] at r; exact absurd r (by intro z; cases z)
  | some w0 =>
    rw [em] at r
    have r : RelV v w0 := r
    exact yattr F I1.kIn h1 h2 h4 h3 hn.ns em (PySem.W.handedOut_of (handed_of r)) ⟨v, H1, I1.tok _, r, q⟩
end
end L2

set_option Elab.async false
set_option linter.all false
set_option maxRecDepth 100000
namespace L2
open PySem
section
variable {prog : Program} {w : World} {A : Around} {E : Value → Shared → Prop} {h : Heap} {g : Array GenState} {d : Drawn} {t : Nat} {os : OsState}
variable {nm q : Str} {C N : Addr} {bs bm bmB : List Value} {hdct : Bool} {sn : List Str} {sub : List Value} {ab : Bool} {col : Option Bool} {dd : Option Addr} {k0 k1 k2 k3 k5 : Option Value} {B newId initId : String}
theorem tcall_initT (F : ExcBaseFacts B newId initId bmB) (T : OwnTail h bmB bm) {mN : Str → Option Value} {rest : List Value} {fI : Addr} {oI : Obj} {Q : Fin → Shared → Prop}
    (hC : h.get? C = some (excClassObj nm q C N bs bm hdct sn sub ab col dd k0 k1 k2 k3 k5 newId)) (hn : h.Ns N mN) (hi : mN "__init__" = some (.ref fI)) (hfI : h.get? fI = some oI) (hfc : oI.cls = .type "function")
    (hq : ∀ h' e, Heap.MadeExcOf h h' e (.ref C) rest → wpAny (model prog w) A (call (.ref fI) (.ref e :: rest)) (fun r s' => r = .none ∧ Q (.done (.ret (.ref e))) s') E ⟨h', g, d, t, os⟩) (hrest : rest.length ≤ sizeLine) :
    wpAny (model prog w) A (Builtin.«type.__call__» ⟨.ref C :: rest, []⟩) Q E ⟨h, g, d, t, os⟩ := by
  repeat (first | with_reducible refine wpAny_loadPart_at hC ?_ | with_reducible refine wpAny_madeBy_exc hC ?_ | wp_step)
  refine codeAny_call_builtin_code (Code.quiet_builtin _ F.quiet) (wpAny_check_new_subU F F.hasB T hC ?_)
  refine codeAny_exc_new_subU F F.hasB F T hC ?_ hrest
  show wpAny _ _ _ _ _ _
  have keep : ∀ b o, h.get? b = some o → ((h.push { cls := .type "tuple", data := .seq rest.toArray }).push { cls := .ref C, data := .fields #[.ref h.objs.size, .none, .none, .none, .bool false, .none] }).get? b = some o := fun b o e => Heap.get?_push_of_some _ (Heap.get?_push_of_some _ e)
  have hC1 := keep _ _ hC
  have hf1 := keep _ _ hfI
  have hn1 := hn.keeps keep
  have T1 := T.keeps keep
  have hget : ((h.push { cls := .type "tuple", data := .seq rest.toArray }).push { cls := .ref C, data := .fields #[.ref h.objs.size, .none, .none, .none, .bool false, .none] }).get? (h.objs.size + 1) = some
      { cls := .ref C, data := .fields #[.ref h.objs.size, .none, .none, .none, .bool false, .none] } := by heap_get
  have hcC : (Value.ref C :: bm).contains (.ref C) = true := by simp
  unfold isInstance
  repeat (first | with_reducible refine wpAny_loadPart_at hget ?_ | (with_reducible refine wpAny_isSubtype_exc hC1 ?_; rw [hcC]) | wp_step)
  show wpAny _ _ (typeLookup (.ref C) _) _ _ _
  refine wpAny_typeLookup_tail hC1 hn1 T1 F.mroIs F.init.lookup ?_
  rw [hi]
  refine wpAny_holding (wpAny_bind ?_)
  unfold bindSpecial
  refine wpAny_bind (wpAny_typeOf (T := "function") ⟨_, hf1, hfc⟩ ?_)
  rw [if_pos (by decide)]
  refine wpAny_pure (wpAny_bind (wpAny_mono (hq _ (h.objs.size + 1) ⟨keep, Heap.get?_none_of_le (Nat.le_succ _), h.objs.size, hget, Heap.get?_none_of_le (Nat.le_refl _), ?_⟩) (fun r s' hr => ?_) fun _ _ x => x))
  · exact Heap.get?_push_of_some _ (Heap.get?_push_at rfl rfl)
  · obtain ⟨rfl, hQ⟩ := hr
    wp_walk
    exact hQ
theorem call_initT (F : ExcBaseFacts B newId initId bmB) (T : OwnTail h bmB bm) {mN : Str → Option Value} {rest : List Value} {fI : Addr} {oI : Obj} {Q : Value → Shared → Prop}
    (hC : h.get? C = some (excClassObj nm q C N bs bm hdct sn sub ab col dd k0 k1 k2 k3 k5 newId)) (hn : h.Ns N mN) (hi : mN "__init__" = some (.ref fI)) (hfI : h.get? fI = some oI) (hfc : oI.cls = .type "function")
    (hq : ∀ h' e, Heap.MadeExcOf h h' e (.ref C) rest → wpAny (model prog w) (A.under (.builtin "type.__call__" ⟨.ref C :: rest, []⟩)) (call (.ref fI) (.ref e :: rest)) (fun r s' => r = .none ∧ Q (.ref e) s') E ⟨h', g, d, t, os⟩) (hrest : rest.length ≤ sizeLine) :
    wpAny (model prog w) A (call (.ref C) rest) Q E ⟨h, g, d, t, os⟩ := by
  have f1 := tc_lookup
  have f2 := tc_bind (.ref C)
  have hT : (⟨h, g, d, t, os⟩ : Shared).TypeIs (.ref C) "type" := ⟨_, hC, rfl⟩
  refine wpAny_call (codeAny_of_tree ?_)
  show wpAny _ _ (callAny (.ref C) _) _ _ _
  repeat (any_goals (first | assumption | with_reducible refine wpAny_loadPart_at hC ?_ | wp_step))
  refine ⟨rfl, ?_⟩
  refine codeAny_call_builtin_at (Code.quiet_builtin _ (by decide +kernel)) entry_typeCall (wpAny_check_type_call_sub hC (tcall_initT F T hC hn hi hfI hfc (fun h' e hm => ?_) hrest))
  exact hq h' e hm
end
end L2

set_option Elab.async false
set_option linter.all false
set_option maxRecDepth 100000
namespace L2
open PySem PySem.Spec PyProof.Rows
def xinIn (K : PySem.W.Frag) (C fI : Addr) : Bool := match K.lookup C with
  | some ⟨.type "type", _, .cls cd, sl⟩ => (match cd.mro, sl.toList with
    | .ref C' :: bm, [_, _, _, _, some (.builtin n), _] => C' == C && n == "ValueError.__new__" && !cd.hasDel && PySem.W.tailIn K bmV bm && PySem.W.nsOkIn K cd.ns && PySem.W.nsIn K cd.ns "__init__" == some (some (.ref fI))
    | _, _ => false)
  | _ => false
def XiAt (h : Heap) (C fI : Addr) (bm : List Value) : Prop := ∃ N nm q bs hdct sn sub ab col dd k0 k1 k2 k3 k5 mN, h.get? C = some (excClassObj nm q C N bs bm hdct sn sub ab col dd k0 k1 k2 k3 k5 "ValueError.__new__") ∧ h.Ns N mN ∧ mN "__init__" = some (.ref fI) ∧ OwnTail h bmV bm
theorem ns_some_of {K : PySem.W.Frag} {h : Heap} {N : Addr} {m : Str → Option Value} {n : Str} {v : Value} (X : K.In h) (G : h.Ns N m) (e : PySem.W.nsIn K N n = some (some v)) : m n = some v := by
  obtain ⟨o, es, ep, ho, hd, _, hf⟩ := G
  unfold PySem.W.nsIn at e
  split at e
  · rename_i q
    have := X _ _ q
    rw [ho] at this
    cases this
    cases hd
    split at e
    · rename_i he
      cases e
      rw [← hf]
      unfold nsFind findBy
      rw [← Array.find?_toList, he]
      rfl
    · split at e <;> cases e
  · cases e
theorem xi_at {K : PySem.W.Frag} {h : Heap} {C fI : Addr} (X : K.In h) (ok : xinIn K C fI = true) : XiAt h C fI (xcMro K C) := by
  revert ok
  unfold xinIn xcMro
  cases ek : K.lookup C with
  | none => intro ok; cases ok
  | some ob =>
    obtain ⟨c0, dd, dt, slots⟩ := ob
    cases dt with
    | cls cd =>
      obtain ⟨cnm, cbs, cmro, cns, cqn, chd, csn, csub, cab, ccol, cdel⟩ := cd
      intro ok
      split at ok
      · rename_i dd' cd' sl' heq
        cases heq
        split at ok
        · rename_i C1 tl a0 a1 a2 a3 nid a5 em es
          dsimp only at em ok
          simp only [Bool.and_eq_true, beq_iff_eq, Bool.not_eq_true'] at ok
          obtain ⟨⟨⟨⟨⟨r1, r2⟩, r3⟩, r4⟩, r5⟩, r6⟩ := ok
          subst r1 r2 r3 em
          have er : slots = #[a0, a1, a2, a3, some (.builtin "ValueError.__new__"), a5] := by
            cases slots with
            | mk ls => exact congrArg Array.mk es
          subst er
          have G : h.Ns cns (h.nsMap cns) := .of_isNs (PySem.W.isNs_of_in X r5)
          exact ⟨cns, cnm, cqn, cbs, chd, csn, csub, cab, ccol, dd, a0, a1, a2, a3, a5, _, X _ _ ek, G, ns_some_of X G r6, PySem.W.tail_of_in X r4⟩
        · cases ok
      · cases ok
    | _ =>
      intro ok
      exfalso
      split at ok
      · rename_i heq; cases heq
      · cases ok
def excNew (C t : Addr) : Obj := { cls := .ref C, data := .fields #[.ref t, .none, .none, .none, .bool false, .none] }
structure MkX (K : PySem.W.Frag) (C f : Addr) : Prop where
  xin : xinIn K C f = true
  fn : PySem.W.isFn K (.ref f) = true
  kp : PySem.W.keepIn K (.ref C) = true
def tMakeX (C : Addr) (sp : Sp) (E : XK) (t : TA) : TE := fun σ H Q => t σ H fun vs H1 => ∀ e tt, H1 e = none → sp (.ref e :: vs) (upd H1 e (XN e (excNew C tt))) (fun v H2 => v = .non ∧ Q (.ref e) H2) E
section
variable {X : Cx} {CX : CXT} {k : Nat} {f C : Addr} {fd : FuncData} {ps : List Str} {sp : Sp} {E : XK} {x : Str} {p pos : Pos} {e : Expr} {es : List Expr} {t : TA}
theorem run_makeX {pins : List (Addr × Obj)} {σ : St} {H : Hp} {s : Shared} {Q : VK} {us : List Value} {vs : List V} (hex : X.ex = []) (M : MkX X.K C f) (F : FnOk X.prog X.w X.K X.mg X.base CX k f fd ps sp) (hr : Room (k + 1) X.A) (hb : Binds X.K fd ps [])
    (hx : Passes CX X E) (I : Inv X pins σ H s) (r : Vals vs us) (hul : us.length ≤ sizeLine)
    (h : ∀ e tt, H e = none → sp (.ref e :: vs) (upd H e (XN e (excNew C tt))) (fun v H2 => v = .non ∧ Q (.ref e) H2) E) :
    wpAny (model X.prog X.w) X.A (call (.ref C) us) (EP X pins σ Q) X.xe s := by
  obtain ⟨N, nm, q, bs, hdct, sn, sub, ab, col, dd, k0, k1, k2, k3, k5, mN, hO, hN, hni, hT⟩ := xi_at I.kIn M.xin
  obtain ⟨oI, hoI, hcI⟩ : ∃ oI, s.heap.get? f = some oI ∧ oI.cls = .type "function" := by
    have e := beq_iff_eq.mp M.fn
    unfold PySem.W.typeIn at e
    obtain ⟨oI, e1, e2⟩ := Option.map_eq_some_iff.mp e
    exact ⟨oI, I.kIn _ _ e1, e2⟩
  obtain ⟨hh, g, d, tk, os⟩ := s
  refine call_initT PySem.F.excBase_ValueError hT hO hN hni hoI hcI (fun h' e hm => ?_) hul
  obtain ⟨tt, he, htn, ht⟩ := hm.there
  have Hn : H e = none := by
    cases z : H e with
    | none => rfl
    | some u =>
      obtain ⟨ob, e1⟩ := (I.hok e u z).there
      have := hm.new
      rw [e1] at this; cases this
  have gone : ∀ u, hh.get? e ≠ some u := fun u z => by have := hm.new; rw [z] at this; cases this
  have I1 : Inv X pins σ H ⟨h', g, d, tk, os⟩ := I.un (Un.kept hm.keeps) (I.hok.kept hm.keeps)
  have I2 : Inv X pins σ (upd H e (XN e (excNew C tt))) ⟨h', g, d, tk, os⟩ := by
    refine I1.track Hn (fun u z => ?_) (fun z => ?_) (fun n c ec z => ?_) (fun pp hp z => ?_) (xn_ok he)
    · obtain ⟨u', e1⟩ := I.base.there _ u z (by rw [hex]; exact List.not_mem_nil)
      exact gone u' e1
    · obtain ⟨m, ⟨oL, es, ep, eL, _⟩, _⟩ := id I.loc
      exact gone _ (z ▸ eL)
    · obtain ⟨v', oc, e1, _⟩ := I.cell n c ec
      exact gone _ (z ▸ e1)
    · exact gone _ (z ▸ (I.pin pp hp).1)
  have hq := h e tt Hn
  have r2 : Vals (V.ref e :: vs) (Value.ref e :: us) := .cons rfl r
  have hl : (Value.ref e :: us ++ []).length = ps.length := by
    have e := r2.length
    rw [F.len _ _ _ _ hq] at e
    rw [List.append_nil]; exact e.symm
  refine wpAny_call (codeAny_mono (F.run _ X.stack _ _ ⟨Value.ref e :: us, []⟩ (Value.ref e :: us ++ []) _ _ E (hr.make C us []) (I2.env0.make C us []) (hb _ (Value.ref e :: us) I2.kIn hl) (by rw [List.append_nil]; exact r2) hq) fun r s' hq' => ?_)
  cases r with
  | error e => exact hx pins σ _ _ e s' I2 hq'
  | ok fl =>
    cases fl with
    | ret u =>
      obtain ⟨v, H', I3, rv, ev, q3⟩ := I2.after hq'
      subst ev
      exact ⟨rv, ⟨V.ref e, H', I3, rfl, q3⟩⟩
    | next => exact False.elim hq'
    | brk => exact False.elim hq'
    | cont => exact False.elim hq'
theorem pe_makeX (hex : X.ex = []) (M : MkX X.K C f) (F : FnOk X.prog X.w X.K X.mg X.base CX k f fd ps sp) (hr : Room (k + 1) X.A) (hg : Gl X x) (hm : X.mg x = some (.ref C)) (hb : Binds X.K fd ps []) (hx : Passes CX X E)
    (ha : PA X [e] t) (hdb : (x == ("__debug__" : Str)) = false := by decide) (he : starEach [e] X.env = (false, eval e X.env) :: starEach [] X.env := by rfl) (hpl : (backTo pos (starEach [] X.env)).any (·.1) = false := by rfl)
    (ht1 : ∀ σ H Q, t σ H Q → t σ H fun vs H' => vs.length ≤ 1000 ∧ Q vs H') :
    PE X (.Call (.Name x p) [e] [] pos) (tMakeX C sp E t) := by
  intro pins s σ H Q I h
  refine wpAny_Call_Name_kw (ld_glob I hg hm ?_ hdb)
  refine PySem.W.callWith_K (h₀ := X.base) I.ok.mod.kin M.kp (thn (ha pos pins s σ H _ I (ht1 _ _ _ h)) fun us s1 ⟨vs, H1, I1, r, hv, q⟩ => ⟨I1.kIn, ?_⟩) he hpl
  exact run_makeX hex M F hr hb hx I1 r (by rw [List.nil_append, ← r.length, sizeLine_eq]; omega) q
theorem raise_walk {M : Model} {A : Around} {E' : Value → Shared → Prop} {env : Env} {s : Shared} {y : Sem Value} {Q : Flow → Shared → Prop} {bm : List Value}
    (hbase : bm.contains (.type "BaseException") = true) (hh : A.handled = none)
    (h : wpAny M A y (fun v s1 => ∃ ea tt od sl, v = .ref ea ∧ XcOb s1.heap C bm ∧ s1.heap.get? ea = some { cls := .ref C, dict := od, data := .fields #[.ref tt, .none, .none, .none, .bool false, .none], slots := sl } ∧ E' (.ref ea) s1) E' s) :
    wpAny M A (raiseStmt env (some y) none) Q E' s := by
  have hcB : (Value.ref C :: bm).contains (.type "BaseException") = true := by rw [List.contains_cons, hbase, Bool.or_true]
  unfold raiseStmt
  refine wpAny_bind (wpAny_mono h (fun v s1 h1 => ?_) fun _ _ x => x)
  obtain ⟨ea, tt, od, sl, rfl, ⟨N, nm, q, bs, hdct, sn, sub, ab, col, dd, k0, k1, k2, k3, k5, newId, hC⟩, he, hE⟩ := h1
  obtain ⟨hp, g, d, tk, os⟩ := s1
  repeat (first | with_reducible refine wpAny_loadPart_at he ?_ | with_reducible refine wpAny_loadPart_at hC ?_ | (with_reducible refine wpAny_isSubtype_exc hC ?_; rw [hcB]) | wp_step)
  exact wpAny_raiseNew_none hh hE
def sRaiseX (X : Cx) (C : Addr) (E : XK) (te : TE) : TS := fun _ σ H => te σ H fun v H1 => ∃ ea tt od sl, v = .ref ea ∧ H1 ea = some (XN ea { cls := .ref C, dict := od, data := .fields #[.ref tt, .none, .none, .none, .bool false, .none], slots := sl }) ∧ X.H₀ ea = none ∧ E (.ref C) od (drp H1 ea)
theorem ps_raiseX {fI : Addr} {te : TE} {call : Expr} (hex : X.ex = []) (hc : X.calm = true) (hC : xinIn X.K C fI = true) (hx : RaisesX X E) (he : PE X call te)
 : PS X (.Raise (some call) none pos) (sRaiseX X C E te) := by
  intro pins s σ H D I h
  obtain ⟨N, nm, q, bs, hdct, sn, sub, ab, col, dd, k0, k1, k2, k3, k5, mN, hO, hN, hni, hT⟩ := xi_at I.kIn hC
  rw [arm_exec_Raise]
  refine wpAny_bind (wpAny_standAt (raise_walk (C := C) (bm := xcMro X.K C) (hT.hasType PySem.F.excBase_ValueError.hasBase) (I.ok.hd hc) ?_))
  refine wpAny_bind (wpAny_mono (he pins s σ H _ I h) (fun v s1 h1 => wpAny_bind (wpAny_standAt (wpAny_pure ?_))) fun _ _ z => z)
  obtain ⟨v', H1, I1, rv, ea, tt, od, sl, ev, eH, e0, q1⟩ := h1
  subst ev
  obtain rfl : v = Value.ref ea := rv
  obtain ⟨N', nm', q', bs', hdct', sn', sub', ab', col', dd', l0, l1, l2, l3, l5, mN', hO', _⟩ := xi_at I1.kIn hC
  have hobj := xn_get I1.hok eH
  refine ⟨ea, tt, od, sl, rfl, ⟨N', nm', q', bs', hdct', sn', sub', ab', col', dd', l0, l1, l2, l3, l5, _, hO'⟩, hobj, hx pins σ H1 s1 ea _ _ _ I1 eH (fun ob z => ?_) rfl rfl rfl q1⟩
  have := I1.base.free ea ob z e0 (by rw [hex]; exact List.not_mem_nil)
  rw [eH] at this; cases this
end
end L2

set_option Elab.async false
set_option linter.all false
set_option maxRecDepth 100000
namespace L2
open PySem PySem.W
section
variable {X : Cx}
theorem xod_at {pins : List (Addr × Obj)} {σ : St} {H : Hp} {s : Shared} {ea C : Addr} {od : Option Addr} (I : Inv X pins σ H s) (he : H ea = some (XOd (.ref C) od ea)) : ∃ o, s.heap.get? ea = some o ∧ o.cls = .ref C := by
  obtain ⟨⟨o, e, c, _⟩, _⟩ := (show ObjOk X.prog X.w H s.heap ea (XOd (.ref C) od ea) from I.hok ea _ he)
  exact ⟨o, e, c⟩
theorem call_isyO : CallR X (.builtin "isinstance") (fun xs H Q => ∃ (ea C CT : Addr) (od : Option Addr) (k : Bool), xs = [.ref ea, .ref CT] ∧ H ea = some (XOd (.ref C) od ea) ∧ XcIs X.K C ∧ kitOne X.K (.ref C) (.ref CT) = some k ∧ Q (.bl k) H) := by
  intro pins s σ H xs us Q I r h
  obtain ⟨ea, C, CT, od, k, rfl, he, F, hk, q⟩ := h
  obtain ⟨u, w', rfl, r1, r2⟩ := vals2 r
  cases r1; cases r2
  exact kia_one (kitx_exc F) I.kIn (xod_at I he) hk (fun z => nomatch z) fun tk => ⟨.bl k, H, I.tok _, rfl, q⟩
theorem call_isyB {T : String} : CallR X (.builtin "isinstance") (fun xs H Q => ∃ (ea C : Addr) (od : Option Addr) (k : Bool), xs = [.ref ea, .ty T] ∧ H ea = some (XOd (.ref C) od ea) ∧ XcIs X.K C ∧ kitOne X.K (.ref C) (.type T) = some k ∧ Q (.bl k) H) := by
  intro pins s σ H xs us Q I r h
  obtain ⟨ea, C, od, k, rfl, he, F, hk, q⟩ := h
  obtain ⟨u, w', rfl, r1, r2⟩ := vals2 r
  cases r1; cases r2
  exact kia_one (kitx_exc F) I.kIn (xod_at I he) hk (fun z => nomatch z) fun tk => ⟨.bl k, H, I.tok _, rfl, q⟩
theorem call_isyT : CallR X (.builtin "isinstance") (fun xs H Q => ∃ (ea C p : Addr) (od : Option Addr) (Cs : List Addr) (k : Bool), xs = [.ref ea, .ref p] ∧ H ea = some (XOd (.ref C) od ea) ∧ XcIs X.K C ∧ H p = some (.tup (Cs.map V.ref)) ∧ kitAny X.K (.ref C) (Cs.map Value.ref) = some k ∧ Q (.bl k) H) := by
  intro pins s σ H xs us Q I r h
  obtain ⟨ea, C, p, od, Cs, k, rfl, he, F, hp, hk, q⟩ := h
  obtain ⟨u, w', rfl, r1, r2⟩ := vals2 r
  cases r1; cases r2
  obtain ⟨its, rv, pl, _⟩ := I.tuple (SqT.of hp)
  have pl' : s.heap.IsTuple p its.toArray := pl
  obtain ⟨⟨cls, dd, data, sl⟩, ho, hc, n, hd⟩ := id pl'
  simp only at hc hd
  subst hc hd
  rw [vals_refs rv] at ho
  exact kia_tup (kitx_exc F) I.kIn (xod_at I he) ho hk (fun z => nomatch z) fun tk => ⟨.bl k, H, I.tok _, rfl, q⟩
end
end L2
namespace L2
open PySem PySem.Spec PyProof.Rows
section
variable {P : Program} {w : World} {K : PySem.W.Frag} {mg : Str → Option Value} {base : Heap}
theorem Fun.ok2 {x qual : Str} {st : Stmt} {f : Addr} {fd : FuncData} {N ps : List Str} {k : Nat} {sp : Sp} (F : Fun K x qual st f fd) (S : FnScope N ps (defScope st)) (len : ∀ vs H Q E, sp vs H Q E → vs.length = ps.length)
    (hbody : ∀ (cdv : Value) (A : Around) (outer : List Env) (s : Shared) (H : Hp) (vs : List V) (Q : VK) (E : XK), Room k (A.deeper (envOfC qual (defScope st) s.heap.objs.size f cdv)) → sp vs H Q E →
      ∃ t, PSs (cxOf (CX2 P w) P w K mg base N qual (defScope st) f cdv A outer s H E) (defBody st) t ∧ t { nx := fun _ H' => Q .non H', rt := Q } (start N vs) H) : FnOk P w K mg base (CX2 P w) (k + 1) f fd ps sp := by
  obtain ⟨oc, od, kV, doc, pm, an, cdv, ct, osl, rfl, lk, hcd⟩ := F.ex
  exact fn_of lk hcd S len fun A outer s H vs Q E hr hsp => hbody cdv A outer s H vs Q E hr hsp
end
section
variable {X : Cx} {k : Nat} {f C : Addr} {fd : FuncData} {ps : List Str} {sp : Sp} {x m : Str} {p pos apos : Pos} {e o : Expr} {es : List Expr} {ta : TE} {t : TA} {W : St → XK}
theorem run_fnV {pins : List (Addr × Obj)} {σ : St} {H : Hp} {s : Shared} {Q : VK} {E : XK} {us : List Value} {vs : List V} (F : FnOk X.prog X.w X.K X.mg X.base (CX2 X.prog X.w) k f fd ps sp) (hr : Room k X.A) (hb : Binds X.K fd ps []) (hx : ∀ e s', CX2 X.prog X.w X.stack H s E e s' → X.xe e s')
    (I : Inv X pins σ H s) (r : Vals vs us) (h : sp vs H Q E) : wpAny (model X.prog X.w) X.A (call (.ref f) us) (EP X pins σ Q) X.xe s := by
  have hl : us.length = ps.length := by rw [← r.length]; exact F.len _ _ _ _ h
  have hb' := hb s us I.kIn (by rw [List.append_nil]; exact hl)
  rw [List.append_nil] at hb'
  refine wpAny_call (codeAny_mono (F.run X.A X.stack s H ⟨us, []⟩ us vs Q E hr I.env0 hb' r h) fun r s' hq => ?_)
  cases r with
  | error e => exact hx e s' hq
  | ok fl =>
    cases fl with
    | ret u => exact I.after hq
    | next => exact False.elim hq
    | brk => exact False.elim hq
    | cont => exact False.elim hq
def tCallV (sp : Sp) (W : St → XK) (t : TA) : TE := fun σ H Q => t σ H fun vs H1 => sp vs H1 Q (W σ)
theorem pe_callV (F : FnOk X.prog X.w X.K X.mg X.base (CX2 X.prog X.w) k f fd ps sp) (hr : Room k X.A) (hg : Gl X x) (hm : X.mg x = some (.ref f)) (hk : PySem.W.keepIn X.K (.ref f) = true) (hb : Binds X.K fd ps []) (hx : PassesV X X.xe W)
    (ha : PA X (e :: es) t) (hdb : (x == ("__debug__" : Str)) = false := by decide) (he : starEach (e :: es) X.env = (false, eval e X.env) :: starEach es X.env := by rfl) (hpl : (backTo pos (starEach es X.env)).any (·.1) = false := by rfl) :
    PE X (.Call (.Name x p) (e :: es) [] pos) (tCallV sp W t) := by
  intro pins s σ H Q I h
  refine wpAny_Call_Name_kw (ld_glob I hg hm ?_ hdb)
  refine PySem.W.callWith_K (h₀ := X.base) I.ok.mod.kin hk (thn (ha pos pins s σ H _ I h) fun us s1 ⟨vs, H1, I1, r, q⟩ => ⟨I1.kIn, ?_⟩) he hpl
  exact run_fnV F hr hb (fun e s' hc => hx pins σ H1 s1 e s' I1 hc) I1 r q
end
end L2

set_option Elab.async false
set_option linter.all false
set_option maxRecDepth 100000
namespace L2
open PySem PySem.W
section
variable {X : Cx} {K : PySem.W.Frag}
theorem call_isyOK (h : X.K = K := by rfl) : CallR X (.builtin "isinstance") (fun xs H Q => ∃ (ea C CT : Addr) (od : Option Addr) (k : Bool), xs = [.ref ea, .ref CT] ∧ H ea = some (XOd (.ref C) od ea) ∧ XcIs K C ∧ kitOne K (.ref C) (.ref CT) = some k ∧ Q (.bl k) H) := by subst h; exact call_isyO
theorem call_isyBK {T : String} (h : X.K = K := by rfl) : CallR X (.builtin "isinstance") (fun xs H Q => ∃ (ea C : Addr) (od : Option Addr) (k : Bool), xs = [.ref ea, .ty T] ∧ H ea = some (XOd (.ref C) od ea) ∧ XcIs K C ∧ kitOne K (.ref C) (.type T) = some k ∧ Q (.bl k) H) := by subst h; exact call_isyB
theorem call_isyTK (h : X.K = K := by rfl) : CallR X (.builtin "isinstance") (fun xs H Q => ∃ (ea C p : Addr) (od : Option Addr) (Cs : List Addr) (k : Bool), xs = [.ref ea, .ref p] ∧ H ea = some (XOd (.ref C) od ea) ∧ XcIs K C ∧ H p = some (.tup (Cs.map V.ref)) ∧ kitAny K (.ref C) (Cs.map Value.ref) = some k ∧ Q (.bl k) H) := by subst h; exact call_isyT
theorem pe_xaK {e : Expr} {f : Str} {ta : TE} {pos : Pos} (he : PE X e ta) (hb : attributeBase e f X.env (eval e X.env) = eval e X.env) (h : X.K = K := by rfl) : PE X (.Attribute e f pos) (tXa K ta f) := by subst h; exact pe_xa he hb
end
end L2

set_option Elab.async false
set_option linter.all false
set_option maxRecDepth 100000
namespace L2
open PySem PySem.Spec PyProof.Rows
section
variable {X : Cx} {pos : Pos}
def tPar3 (i j k : Nat) (ta : TA) : TS := fun D σ H => ta σ H fun vs H1 => ∃ v w z, vs = [v, w, z] ∧ D.nx (((σ.set i (some v)).set j (some w)).set k (some z)) H1
theorem ps_par3 {i j k : Nat} {x y z : Str} {a b c : Expr} {ta : TA} {px py pz pt : Pos} {kt k2 pt2} (hc : X.calm = true) (hN : X.N.Nodup) (hi : X.N[i]? = some x) (hj : X.N[j]? = some y) (hk : X.N[k]? = some z) (hij : i ≠ j) (hik : i ≠ k) (hjk : j ≠ k)
    (hx : X.env.scope.names.lookup x = some .local) (hy : X.env.scope.names.lookup y = some .local) (hz : X.env.scope.names.lookup z = some .local) (ha : PA X [a, b, c] ta)
    (hw : swappedStores [.Tuple [.Name x px, .Name y py, .Name z pz] kt pt] (.Tuple [a, b, c] k2 pt2) X.env = pure (some [x, y, z]) := by rfl)
    (hs : swapsWithSole [.Tuple [.Name x px, .Name y py, .Name z pz] kt pt] (.Tuple [a, b, c] k2 pt2) pos.line X.env = pure false := by rfl) :
    PS X (.Assign [.Tuple [.Name x px, .Name y py, .Name z pz] kt pt] (.Tuple [a, b, c] k2 pt2) pos) (tPar3 i j k ta) := by
  intro pins s σ H D I h
  rw [exec_Assign_arm]
  refine wpAny_bind (wpAny_standAt ?_)
  rw [hs]
  refine wpAny_bind (wpAny_pure ?_)
  rw [if_neg (by decide)]
  refine wpAny_bind (Tuple_ (thn (ha _ pins s σ H _ I h) fun us s1 ⟨vs, H1, I1, r1, q1⟩ => ?_))
  obtain ⟨v, w, t, e1, q1⟩ := q1
  subst e1
  obtain ⟨u1, u2, u3, rfl, rv, rw', rt⟩ : ∃ u1 u2 u3, us = [u1, u2, u3] ∧ RelV v u1 ∧ RelV w u2 ∧ RelV t u3 := by
    cases r1 with
    | cons p q =>
      cases q with
      | cons p' q' =>
        cases q' with
        | cons p'' q'' =>
          cases q''
          exact ⟨_, _, _, rfl, p, p', p''⟩
  refine wpAny_newObj_type ?_ (by show 3 ≤ sizeLine; decide)
  have I2 : Inv X pins σ H1 { s1 with heap := s1.heap.push { cls := .type "tuple", data := .seq [u1, u2, u3].toArray } } := I1.kept (t' := s1.toks) fun b o e => Heap.get?_push_of_some _ e
  rw [hw]
  refine wpAny_bind (wpAny_pure ?_)
  show wpAny (model X.prog X.w) X.A (do rule "assign.swapped-stores"; let items ← unpackItems (.ref s1.heap.objs.size) 3 none; assignInOrder [fun v => bindName X.env z v, fun v => bindName X.env y v, fun v => bindName X.env x v] items.reverse; pure Flow.next) _ _ _
  refine wpAny_bind (wpAny_rule (wpAny_bind (unpackItems_tuple (items := #[u1, u2, u3]) (I.ok.hd hc) (IsTup.new s1.heap _) fun h' hx' => ?_)))
  have I3 := I2.kept (h' := h') (t' := s1.toks) fun b o e => hx' b o (Nat.ne_of_lt (Heap.lt_size e)) e
  show wpAny _ _ (assignInOrder [fun v => bindName X.env z v, fun v => bindName X.env y v, fun v => bindName X.env x v] [u3, u2, u1] >>= fun _ => pure Flow.next) _ _ _
  refine wpAny_bind (assignInOrder_cons (wpAny_bindName (store_ok I3 hN hk (.inl hz) rt (fun s2 I4 => ?_) (.inr hz))))
  refine assignInOrder_cons (wpAny_bindName (store_ok I4 hN hj (.inl hy) rw' (fun s3 I5 => ?_) (.inr hy)))
  refine assignInOrder_cons (wpAny_bindName (store_ok I5 hN hi (.inl hx) rv (fun s4 I6 => assignInOrder_nil (wpAny_pure ?_)) (.inr hx)))
  rw [List.set_comm (some w) (some v) (Ne.symm hij), List.set_comm (some t) (some v) (Ne.symm hik), List.set_comm (some t) (some w) (Ne.symm hjk)] at I6
  exact ⟨_, H1, I6, q1⟩
end
end L2

set_option Elab.async false
set_option linter.all false
set_option maxRecDepth 100000
set_option maxHeartbeats 4000000
namespace K45
open PySem L2
def top (i : Nat) : Stmt := PySem.Challenge.pw_gatetown_k45_programs_looked_over.main.body.getD i (.Pass ⟨0, 0, 0, 0⟩)
abbrev s_BadKind___init__ : Stmt := inClass (top 4) 0
abbrev s_kinds_of : Stmt := top 11
abbrev s_joined_kind : Stmt := top 12
abbrev s_kind_by : Stmt := top 13
abbrev s_fits : Stmt := top 14
abbrev s_with_inner : Stmt := top 15
abbrev s_statements : Stmt := top 16
abbrev s_looked : Stmt := top 17
abbrev s_law_cell_at : Stmt := top 19
abbrev s_law_mixed : Stmt := top 20
abbrev s_law_tap : Stmt := top 21
abbrev s_law_next : Stmt := top 22
abbrev s_law_number : Stmt := top 23
abbrev s_law_expr : Stmt := top 24
abbrev s_law_titles : Stmt := top 25
abbrev s_law_vars : Stmt := top 26
abbrev s_law_of : Stmt := top 27
abbrev s_law_num : Stmt := top 28
abbrev s_law_flag : Stmt := top 29
abbrev s_law_fitting : Stmt := top 30
abbrev s_law_fitting_body : Stmt := top 31
abbrev s_law_fitting_tree : Stmt := top 32
abbrev s_law_kind : Stmt := top 33
abbrev s_law_fits : Stmt := top 34
abbrev s_law_first : Stmt := top 35
abbrev s_law_due : Stmt := top 36
abbrev s_law_odd : Stmt := top 37
abbrev s_law_exchanged : Stmt := top 38
abbrev s_law_right : Stmt := top 39
abbrev s_law : Stmt := top 40
structure NetD where
  ins : Int
  keeps : Int
  gates : List (Int × Int)
  nexts : List Int
  outs : List Int
def GateAt (H : Hp) (v : V) (p : Int × Int) : Prop := ∃ q, v = .ref q ∧ H q = some (.tup [.int p.1, .int p.2])
structure NetAt (H : Hp) (v : V) (N : NetD) : Prop where
  ex : ∃ (p g n o : Addr) (gs : List V), v = .ref p ∧ H p = some (.tup [.int N.ins, .int N.keeps, .ref g, .ref n, .ref o]) ∧ H g = some (.lst gs) ∧ Paired (GateAt H) gs N.gates ∧
    H n = some (.lst (N.nexts.map V.int)) ∧ H o = some (.lst (N.outs.map V.int))
  sm : N.gates.length ≤ 1000 ∧ N.nexts.length ≤ 1000 ∧ N.outs.length ≤ 1000

structure Fn (K : PySem.W.Frag) (mg : Str → Option Value) (x : Str) (st : Stmt) (ps : List Str) (a : Addr) (fd : FuncData) : Prop where
  F : Fun K x x st a fd
  m : mg x = some (.ref a)
  b : Binds K fd ps []
structure Bt (mg : Str → Option Value) : Prop where
  b_len : mg "len" = none
  b_range : mg "range" = none
  b_list : mg "list" = none
  b_isinstance : mg "isinstance" = none
  b_int : mg "int" = none
  b_tuple : mg "tuple" = none
  b_bool : mg "bool" = none
  b_enumerate : mg "enumerate" = none
  b_ValueError : mg "ValueError" = none
structure Ct (K : PySem.W.Frag) (mg : Str → Option Value) : Prop where
theorem cmul_l {i j : Int} (h1 : -18446744073709551616 < i) (h2 : i < 18446744073709551616) : CMul i j := .inl ⟨by omega, by omega⟩
theorem cpow_of {i j : Int} (h0 : 0 ≤ j) (h1 : j ≤ 1000000) (h2 : -18446744073709551616 < i) (h3 : i < 18446744073709551616) : CPow i j := ⟨h0, h1, by omega⟩
structure Small (N : NetD) : Prop where
  g : N.gates.length ≤ 900
  n : N.nexts.length ≤ 100
  o : N.outs.length ≤ 100
  i : N.ins ≤ 100
section
variable {X : Cx}
end
structure Rg (ss r : List Int) : Prop where
  len : r.length = ss.length
  bd : ∀ (j : Nat) (s : Int), ss[j]? = some s → 0 ≤ r.getD j 0 ∧ r.getD j 0 < s
def Kl (l : Addr) (H H' : Hp) : Prop := ∀ b o, H b = some o → b ≠ l → H' b = some o
theorem Kl.one {l : Addr} {o : HO} {H : Hp} : Kl l H (upd H l o) := fun b o' e n => by rw [upd_ne n]; exact e
theorem Kl.same {l : Addr} {H0 H H' : Hp} (s : Same H0 H) (n : H0 l = none) (k : Kl l H H') : Same H0 H' := fun b o e => k b o (s b o e) (ne_of_none e n)
end K45

set_option Elab.async false
set_option linter.all false
set_option maxRecDepth 100000
set_option maxHeartbeats 4000000
namespace K45
open PySem L2
theorem itDP {c : Prop} [Decidable c] {A B : Prop} (e : c) (h : A) : if decide c = true then A else B := by rw [if_pos (decide_eq_true e)]; exact h
theorem itDN {c : Prop} [Decidable c] {A B : Prop} (e : ¬ c) (h : B) : if decide c = true then A else B := by rw [if_neg fun z => e (of_decide_eq_true z)]; exact h
theorem Kl.trans {l : Addr} {H H1 H2 : Hp} (a : Kl l H H1) (b : Kl l H1 H2) : Kl l H H2 := fun x o e n => b x o (a x o e n) n
theorem Kl.of {l : Addr} {H H' : Hp} (s : Same H H') : Kl l H H' := fun _ _ e _ => s _ _ e
structure Tp where
  x : Int
  f : Int
  c : Nat
def TapIs (H : Hp) (a : Addr) (t : Tp) : Prop := H a = some (.lst [.int t.x, .int t.f, .int (t.c : Int)])
theorem TapIs.same {H H' : Hp} (s : Same H H') {a : Addr} {t : Tp} (h : TapIs H a t) : TapIs H' a t := s _ _ h
def mixM (n k : Int) : Int :=
  ((((n % 1000000007 + 7 * k + 1) * 48271 % 2147483647) * (((n % 1000000007 + 7 * k + 1) * 48271 % 2147483647) % 1009 + k + 3) % 998244353) * 69621 + ((n % 1000000007 + 7 * k + 1) * 48271 % 2147483647)) % 2147483629
def tapM (c : Int) : Tp := ⟨c / 2, if c < 10 ^ 18 then 1 else 0, 0⟩
def nextM (t : Tp) (size : Int) : Int × Tp := if t.f = 1 then (mixM t.x (5 + ((t.c : Int) + 1)) % size, ⟨t.x, t.f, t.c + 1⟩) else (t.x % size, ⟨t.x / size, t.f, t.c + 1⟩)
theorem next_bd (t : Tp) {size : Int} (h : 0 < size) : 0 ≤ (nextM t size).1 ∧ (nextM t size).1 < size := by
  unfold nextM
  split
  · exact ⟨Int.emod_nonneg _ (by omega), Int.emod_lt_of_pos _ h⟩
  · exact ⟨Int.emod_nonneg _ (by omega), Int.emod_lt_of_pos _ h⟩
theorem next_c (t : Tp) (size : Int) : (nextM t size).2.c = t.c + 1 := by
  unfold nextM
  split <;> rfl
def numberM (t : Tp) : Int × Tp := if (nextM t 6).1 = 5 then nextM (nextM t 6).2 4096 else (([0, 1, 7, 4095, 10] : List Int).getD (nextM t 6).1.toNat 0, (nextM t 6).2)
theorem number_c (t : Tp) : (numberM t).2.c ≤ t.c + 2 := by
  unfold numberM
  split
  · rw [next_c, next_c]; omega
  · show (nextM t 6).2.c ≤ _; rw [next_c]; omega
abbrev cMax : Nat := 90000000000000
def sp_mix : Sp := fun vs H Q _ => ∃ (c k : Int), vs = [.int c, .int k] ∧ 0 ≤ k ∧ k ≤ 1000000000000000 ∧ Q (.int (mixM c k)) H
def sp_tap : Sp := fun vs H Q _ => ∃ (c : Int), vs = [.int c] ∧ ∀ (l : Addr) (H' : Hp), H l = none → Same H H' → TapIs H' l (tapM c) → Q (.ref l) H'
def sp_next : Sp := fun vs H Q _ => ∃ (a : Addr) (t : Tp) (size : Int), vs = [.ref a, .int size] ∧ TapIs H a t ∧ t.c ≤ cMax ∧ 0 < size ∧ size < 1000000 ∧ ∀ (H' : Hp), Kl a H H' → TapIs H' a (nextM t size).2 → Q (.int (nextM t size).1) H'
def sp_number : Sp := fun vs H Q _ => ∃ (a : Addr) (t : Tp), vs = [.ref a] ∧ TapIs H a t ∧ t.c + 1 ≤ cMax ∧ ∀ (H' : Hp), Kl a H H' → TapIs H' a (numberM t).2 → Q (.int (numberM t).1) H'
theorem next_go {H : Hp} {a : Addr} {x fl : Int} {c : Nat} {q : Hp → Prop} (h : ∀ H1, Kl a H H1 → H1 a = some (.lst [V.int x, V.int fl, V.int ((c : Int) + 1)]) → q H1) : q (upd H a (.lst ([V.int x, V.int fl, V.int (c : Int)].set 2 (V.int ((c : Int) + 1))))) := h _ Kl.one upd_same
abbrev Q0 (K : PySem.W.Frag) (mg : Str → Option Value) := Fn K mg "_law_mixed" s_law_mixed ["_law_number_here", "_law_k"]
abbrev Q1 (K : PySem.W.Frag) (mg : Str → Option Value) := Fn K mg "_law_next" s_law_next ["_law_tap_here", "_law_size"]
abbrev Q2 (K : PySem.W.Frag) (mg : Str → Option Value) := Fn K mg "_law_number" s_law_number ["_law_tap_here"]
abbrev Q3 (K : PySem.W.Frag) (mg : Str → Option Value) := Fn K mg "_law_expr" s_law_expr ["_law_tap_here", "_law_names", "_law_deep"]
abbrev Q4 (K : PySem.W.Frag) (mg : Str → Option Value) := Fn K mg "_law_titles" s_law_titles ["_law_tap_here", "_law_many"]
abbrev Q5 (K : PySem.W.Frag) (mg : Str → Option Value) := Fn K mg "_law_of" s_law_of ["_law_told", "_law_kind_here"]
abbrev Q6 (K : PySem.W.Frag) (mg : Str → Option Value) := Fn K mg "_law_num" s_law_num ["_law_tap_here", "_law_told", "_law_deep"]
abbrev Q7 (K : PySem.W.Frag) (mg : Str → Option Value) := Fn K mg "_law_flag" s_law_flag ["_law_tap_here", "_law_told", "_law_deep"]
abbrev Q8 (K : PySem.W.Frag) (mg : Str → Option Value) := Fn K mg "kind_by" s_kind_by ["kinds", "expr"]
abbrev Q9 (K : PySem.W.Frag) (mg : Str → Option Value) := Fn K mg "joined_kind" s_joined_kind ["kinds", "expr"]
abbrev Q10 (K : PySem.W.Frag) (mg : Str → Option Value) := Fn K mg "_law_kind" s_law_kind ["_law_told", "_law_expr_here"]
abbrev Q11 (K : PySem.W.Frag) (mg : Str → Option Value) := Fn K mg "with_inner" s_with_inner ["body"]
abbrev Q12 (K : PySem.W.Frag) (mg : Str → Option Value) := Fn K mg "kinds_of" s_kinds_of ["variables"]
abbrev Q13 (K : PySem.W.Frag) (mg : Str → Option Value) := Fn K mg "fits" s_fits ["kinds", "statement"]
abbrev Q14 (K : PySem.W.Frag) (mg : Str → Option Value) := Fn K mg "statements" s_statements ["tree"]
abbrev Q15 (K : PySem.W.Frag) (mg : Str → Option Value) := Fn K mg "looked" s_looked ["tree"]
abbrev Q16 (K : PySem.W.Frag) (mg : Str → Option Value) := Fn K mg "_law_first" s_law_first ["_law_told", "_law_body", "_law_number_here"]
abbrev Q17 (K : PySem.W.Frag) (mg : Str → Option Value) := Fn K mg "_law_fits" s_law_fits ["_law_told", "_law_one"]
abbrev Q18 (K : PySem.W.Frag) (mg : Str → Option Value) := Fn K mg "_law_fitting_body" s_law_fitting_body ["_law_tap_here", "_law_told", "_law_parts", "_law_deep"]
abbrev Q19 (K : PySem.W.Frag) (mg : Str → Option Value) := Fn K mg "_law_fitting" s_law_fitting ["_law_tap_here", "_law_told", "_law_parts", "_law_deep"]
abbrev Q20 (K : PySem.W.Frag) (mg : Str → Option Value) := Fn K mg "_law_odd" s_law_odd ["_law_tap_here", "_law_told"]
abbrev Q21 (K : PySem.W.Frag) (mg : Str → Option Value) := Fn K mg "_law_exchanged" s_law_exchanged ["_law_tap_here", "_law_told", "_law_body"]
abbrev Q22 (K : PySem.W.Frag) (mg : Str → Option Value) := Fn K mg "_law_cell_at" s_law_cell_at ["_law_script", "_law_k"]
abbrev Q23 (K : PySem.W.Frag) (mg : Str → Option Value) := Fn K mg "_law_tap" s_law_tap ["_law_cell"]
abbrev Q24 (K : PySem.W.Frag) (mg : Str → Option Value) := Fn K mg "_law_vars" s_law_vars ["_law_tap_here", "_law_most"]
abbrev Q25 (K : PySem.W.Frag) (mg : Str → Option Value) := Fn K mg "_law_fitting_tree" s_law_fitting_tree ["_law_script", "_law_at"]
abbrev Q26 (K : PySem.W.Frag) (mg : Str → Option Value) := Fn K mg "_law_due" s_law_due ["_law_tree"]
abbrev Q27 (K : PySem.W.Frag) (mg : Str → Option Value) := Fn K mg "_law_right" s_law_right ["_law_tree", "_law_due_here"]
section
variable {P : Program} {w : World} {K : PySem.W.Frag} {mg : Str → Option Value} {base : Heap}
local macro_rules | `(tactic| walk_at "sd") => `(tactic| ((try dsimp only); first | omega | decide | exact cmul_l (by omega) (by omega) | exact cmul_r (by omega) (by omega) | exact ⟨by omega, by omega⟩ | exact cpow_of (by omega) (by omega) (by omega) (by omega) | (split <;> omega)))
local macro_rules | `(tactic| walk_at "rd") => `(tactic| repeat (first | refine ⟨_, rfl, ?_⟩ | refine ⟨_, _, rfl, rfl, ?_⟩ | refine And.intro (by walk_at "sd") ?_))
theorem sc_law_mixed : FnScope ["_law_number_here", "_law_k", "_law_once", "_law_twice"] ["_law_number_here", "_law_k"] (defScope s_law_mixed) := ⟨rfl, rfl, rfl, by decide +kernel, rfl, by decide +kernel, by decide +kernel⟩
theorem ok_law_mixed {f : Addr} {fd : FuncData} (F : Fun K "_law_mixed" "_law_mixed" s_law_mixed f fd) : FnOk P w K mg base CX0 1 f fd ["_law_number_here", "_law_k"] sp_mix := by
  refine F.ok sc_law_mixed (fun vs H Q E h => ?_) (fun cdv A outer s H vs Q E hr h => ?_)
  · obtain ⟨c, k, rfl, _⟩ := h; rfl
  · obtain ⟨c, k, rfl, h0, h1, q⟩ := h
    refine ⟨_, (pss_cons (ps_set (i := 2) sc_law_mixed.nd rfl (Or.inl rfl) (pe_op op_mod (pe_op op_mul (pe_op op_add (pe_op op_add (pe_op op_mod (pv 0) pe_int) (pe_op op_mul pe_int (pv 1))) pe_int) pe_int) pe_int))
      (pss_cons (ps_set (i := 3) sc_law_mixed.nd rfl (Or.inl rfl) (pe_op op_mod (pe_op op_mul (pv 2) (pe_op op_add (pe_op op_add (pe_op op_mod (pv 2) pe_int) (pv 1)) pe_int)) pe_int))
      (pss_one (ps_ret (pe_op op_mod (pe_op op_add (pe_op op_mul (pv 3) pe_int) (pv 2)) pe_int))))), ?_⟩
    walk_at "rd"
    exact q
theorem sc_law_tap : FnScope ["_law_cell"] ["_law_cell"] (defScope s_law_tap) := ⟨rfl, rfl, rfl, by decide +kernel, rfl, by decide +kernel, by decide +kernel⟩
theorem ok_law_tap {f : Addr} {fd : FuncData} (F : Fun K "_law_tap" "_law_tap" s_law_tap f fd) (T : Bt mg) : FnOk P w K mg base CX0 1 f fd ["_law_cell"] sp_tap := by
  refine F.ok sc_law_tap (fun vs H Q E h => ?_) (fun cdv A outer s H vs Q E hr h => ?_)
  · obtain ⟨c, rfl, _⟩ := h; rfl
  · obtain ⟨c, rfl, q⟩ := h
    have hs : sizeLine = 16777216 := sizeLine_eq
    refine ⟨_, (pss_one (ps_ret (pe_lst (pa_consN (pe_op op_fdiv (pv 0) pe_int) (pa_consN (pe_callTy call_int1 rfl T.b_int (by decide +kernel) (pa_consN (pe_cmpR op_lt (pv 0) (pe_op op_pow pe_int pe_int) (nomark _)) pa_nil)) (pa_consN pe_int pa_nil)))))), ?_⟩
    refine ⟨_, rfl, _, _, rfl, rfl, ⟨by decide, by decide⟩, _, rfl, _, _, rfl, rfl, cpow_of (by decide) (by decide) (by decide) (by decide), _, _, rfl, rfl, .inr ⟨_, rfl, (by show 3 ≤ sizeLine; omega), fun l hl => q l _ hl (Same.put hl) ?_⟩⟩
    show upd _ _ _ l = some (.lst [.int (c / 2), .int (if c < 10 ^ 18 then 1 else 0), .int ((0 : Nat) : Int)])
    rw [upd_same]
    by_cases h : c < 10 ^ 18
    · simp [h]
    · simp [h]
theorem sc_law_next : FnScope ["_law_tap_here", "_law_size", "_law_found"] ["_law_tap_here", "_law_size"] (defScope s_law_next) := ⟨rfl, rfl, rfl, by decide +kernel, rfl, by decide +kernel, by decide +kernel⟩
theorem ok_law_next {f f1 : Addr} {fd d1 : FuncData} (F : Fun K "_law_next" "_law_next" s_law_next f fd) (z10 : Q0 K mg f1 d1) : FnOk P w K mg base CX0 2 f fd ["_law_tap_here", "_law_size"] sp_next := by
  have G_law_mixed := ok_law_mixed (P := P) (w := w) (mg := mg) (base := base) z10.F
  refine F.ok sc_law_next (fun vs H Q E h => ?_) (fun cdv A outer s H vs Q E hr h => ?_)
  · obtain ⟨a, t, size, rfl, _⟩ := h; rfl
  · obtain ⟨a, ⟨x, fl, c⟩, size, rfl, ea, hc, h0, h1, q⟩ := h
    have ea : H a = some (.lst [.int x, .int fl, .int (c : Int)]) := ea
    have hc : c ≤ 90000000000000 := hc
    refine ⟨_, (pss_cons (ps_asg (pe_op op_add (pe_ix ix_list (pv 0) pe_int (fun _ _ => rfl)) pe_int) (pg_sub (pv 0) pe_int set_list))
      (pss_cons (ps_if (pt_cmpR op_eq (pe_ix ix_list (pv 0) pe_int (fun _ _ => rfl)) pe_int (nomark _))
        (pss_one (ps_ret (pe_op op_mod (pe_call G_law_mixed (hr.mono (by decide)) rfl z10.m z10.F.kp z10.b .nil pass0 (pa_consN (pe_ix ix_list (pv 0) pe_int (fun _ _ => rfl)) (pa_consN (pe_op op_add pe_int (pe_ix ix_list (pv 0) pe_int (fun _ _ => rfl))) pa_nil))) (pv 1))))
        pss_nil)
      (pss_cons (ps_set (i := 2) sc_law_next.nd rfl (Or.inl rfl) (pe_op op_mod (pe_ix ix_list (pv 0) pe_int (fun _ _ => rfl)) (pv 1)))
      (pss_cons (ps_asg (pe_op op_fdivL (pe_ix ix_list (pv 0) pe_int (fun _ _ => rfl)) (pv 1)) (pg_sub (pv 0) pe_int set_list))
      (pss_one (ps_ret (pv 2))))))), ?_⟩
    refine ⟨_, rfl, a, _, _, _, rfl, rfl, SqL.of ea, rfl, _, _, rfl, rfl, _, rfl, a, _, _, _, rfl, rfl, ea, rfl, ?_⟩
    refine next_go (q := fun H1 => _) (x := x) (fl := fl) (c := c) (H := H) (a := a) ?_
    intro H1 k1 e1
    refine ⟨_, rfl, a, _, _, _, rfl, rfl, SqL.of e1, rfl, rfl, _, rfl, ite2 (fun h => ?_) (fun h => ?_)⟩
    · have hf : fl = 1 := V.int.inj (of_decide_eq_true h)
      have hN : nextM ⟨x, fl, c⟩ size = (mixM x (5 + ((c : Int) + 1)) % size, ⟨x, fl, c + 1⟩) := by unfold nextM; rw [if_pos hf]
      rw [hN] at q
      refine ⟨_, rfl, a, _, _, _, rfl, rfl, SqL.of e1, rfl, _, rfl, a, _, _, _, rfl, rfl, SqL.of e1, rfl, _, _, rfl, rfl, x, _, rfl, by omega, by omega, ⟨_, rfl, _, _, rfl, rfl, h0, q H1 k1 e1⟩⟩
    · have hf : ¬ fl = 1 := fun z => h (decide_eq_true (congrArg V.int z))
      have hN : nextM ⟨x, fl, c⟩ size = (x % size, ⟨x / size, fl, c + 1⟩) := by unfold nextM; rw [if_neg hf]
      rw [hN] at q
      refine ⟨_, rfl, a, _, _, _, rfl, rfl, SqL.of e1, rfl, _, rfl, _, _, rfl, rfl, h0, ?_⟩
      refine ⟨_, rfl, a, _, _, _, rfl, rfl, SqL.of e1, rfl, _, rfl, _, _, rfl, rfl, ⟨h0, by omega⟩, _, rfl, a, _, _, _, rfl, rfl, e1, rfl, ?_⟩
      exact ⟨_, rfl, q _ (k1.trans Kl.one) upd_same⟩
theorem sc_law_number : FnScope ["_law_tap_here", "_law_way"] ["_law_tap_here"] (defScope s_law_number) := ⟨rfl, rfl, rfl, by decide +kernel, rfl, by decide +kernel, by decide +kernel⟩
theorem ok_law_number {f f1 f2 : Addr} {fd d1 d2 : FuncData} (F : Fun K "_law_number" "_law_number" s_law_number f fd) (z10 : Q0 K mg f1 d1) (z0 : Q1 K mg f2 d2) : FnOk P w K mg base CX0 3 f fd ["_law_tap_here"] sp_number := by
  have z19 := ok_law_next (P := P) (w := w) (mg := mg) (base := base) z0.F z10
  refine F.ok sc_law_number (fun vs H Q E h => ?_) (fun cdv A outer s H vs Q E hr h => ?_)
  · obtain ⟨a, t, rfl, _⟩ := h; rfl
  · obtain ⟨a, t, rfl, ta, hc, q⟩ := h
    have hs : sizeLine = 16777216 := sizeLine_eq
    have hc : t.c + 1 ≤ 90000000000000 := hc
    unfold numberM at q
    have b6 := next_bd t (size := 6) (by decide)
    have c6 := next_c t 6
    refine ⟨_, (pss_cons (ps_set (i := 1) sc_law_number.nd rfl (Or.inl rfl) (pe_call z19 (hr.mono (by decide)) rfl z0.m z0.F.kp z0.b .nil pass0 (pa_consN (pv 0) (pa_consN pe_int pa_nil))))
      (pss_cons (ps_if (pt_cmpR op_eq (pv 1) pe_int (nomark _))
        (pss_one (ps_ret (pe_call z19 (hr.mono (by decide)) rfl z0.m z0.F.kp z0.b .nil pass0 (pa_consN (pv 0) (pa_consN pe_int pa_nil)))))
        pss_nil)
      (pss_one (ps_ret (pe_ix ix_list (pe_lst (pa_consN pe_int (pa_consN pe_int (pa_consN pe_int (pa_consN pe_int (pa_consN pe_int pa_nil)))))) (pv 1) (fun _ _ => rfl)))))), ?_⟩
    refine ⟨_, rfl, a, t, 6, rfl, ta, by show t.c ≤ 90000000000000; omega, by decide, by decide, fun H1 k1 t1 => ?_⟩
    obtain ⟨v, t', e⟩ : ∃ v t', nextM t 6 = (v, t') := ⟨_, _, rfl⟩
    rw [e] at q b6 c6 t1 ⊢
    refine ⟨_, rfl, rfl, _, rfl, ite2 (fun h5 => ?_) (fun h5 => ?_)⟩
    · have hv : v = 5 := V.int.inj (of_decide_eq_true h5)
      rw [if_pos hv] at q
      exact ⟨_, rfl, a, t', 4096, rfl, t1, by show t'.c ≤ 90000000000000; have c6 : t'.c = t.c + 1 := c6; omega, by decide, by decide, fun H2 k2 t2 => q H2 (k1.trans k2) t2⟩
    · have hv : v ≠ 5 := fun z => h5 (decide_eq_true (congrArg V.int z))
      rw [if_neg hv] at q
      refine ⟨(by show 5 ≤ sizeLine; omega), fun L hL => ?_⟩
      have b6 : 0 ≤ v ∧ v < 6 := b6
      have hv5 : v = 0 ∨ v = 1 ∨ v = 2 ∨ v = 3 ∨ v = 4 := by omega
      have hr : atI [V.int 0, V.int 1, V.int 7, V.int 4095, V.int 10] v = some (.int (([0, 1, 7, 4095, 10] : List Int).getD v.toNat 0)) := by
        rcases hv5 with rfl | rfl | rfl | rfl | rfl <;> rfl
      have y := Same.put (o := .lst [V.int 0, V.int 1, V.int 7, V.int 4095, V.int 10]) hL
      exact ⟨_, rfl, L, _, _, _, rfl, rfl, SqL.of upd_same, hr, q _ (k1.trans (Kl.of y)) (t1.same y)⟩
end
def sp_cell (K : PySem.W.Frag) : Sp := fun vs H Q _ => ∃ (a : Addr) (ns : List Int) (k : Nat), vs = [.ref a, .int (k : Int)] ∧ SqL K H a (ns.map V.int) ∧ Q (.int (ns.getD k 0)) H
section
variable {P : Program} {w : World} {K : PySem.W.Frag} {mg : Str → Option Value} {base : Heap}
theorem sc_law_cell_at : FnScope ["_law_script", "_law_k"] ["_law_script", "_law_k"] (defScope s_law_cell_at) := ⟨rfl, rfl, rfl, by decide +kernel, rfl, by decide +kernel, by decide +kernel⟩
theorem ok_law_cell_at {f : Addr} {fd : FuncData} (F : Fun K "_law_cell_at" "_law_cell_at" s_law_cell_at f fd) (T : Bt mg) : FnOk P w K mg base CX0 1 f fd ["_law_script", "_law_k"] (sp_cell K) := by
  refine F.ok sc_law_cell_at (fun vs H Q E h => ?_) (fun cdv A outer s H vs Q E hr h => ?_)
  · obtain ⟨a, ns, k, rfl, _⟩ := h; rfl
  · obtain ⟨a, ns, k, rfl, hq, q⟩ := h
    refine ⟨_, (pss_cons (ps_if (pt_cmpR op_lt (pv 1) (pe_callB call_len_seq rfl T.b_len (by decide +kernel) (pa_consN (pv 0) pa_nil)) (nomark _))
        (pss_one (ps_ret (pe_ix ix_list (pv 0) (pv 1) (fun _ _ => rfl))))
        pss_nil)
      (pss_one (ps_ret pe_int))), ?_⟩
    refine ⟨_, rfl, _, rfl, a, _, rfl, .inl hq, _, _, rfl, rfl, _, rfl, ite2 (fun h => ?_) (fun h => ?_)⟩
    · have hk : (k : Int) < (((ns.map V.int).length : Nat) : Int) := of_decide_eq_true h
      rw [List.length_map] at hk
      have hk : k < ns.length := by omega
      have e : ns.getD k 0 = ns[k] := by rw [List.getD_eq_getElem?_getD, List.getElem?_eq_getElem hk]; rfl
      rw [e] at q
      exact ⟨_, rfl, _, rfl, a, _, _, _, rfl, rfl, hq, atI_nat (by rw [List.getElem?_map, List.getElem?_eq_getElem hk]; rfl), q⟩
    · have hk : ¬ (k : Int) < (((ns.map V.int).length : Nat) : Int) := fun z => h (decide_eq_true z)
      rw [List.length_map] at hk
      have e : ns.getD k 0 = 0 := by rw [List.getD_eq_getElem?_getD, List.getElem?_eq_none (by omega)]; rfl
      rw [e] at q
      exact q
end
end K45

set_option Elab.async false
set_option linter.all false
set_option maxRecDepth 100000
set_option maxHeartbeats 4000000
namespace K45
open PySem L2
inductive Ex where
  | num (i : Int)
  | nam (x : Str)
  | flg (b : Bool)
  | pl (x : Str) (e : Ex)
  | nt (e : Ex)
  | bin (o : Str) (a b : Ex)
def ExAt (H : Hp) : Ex → V → Prop
  | .num i, v => ∃ a, v = .ref a ∧ H a = some (.tup [.str "num", .int i])
  | .nam x, v => ∃ a, v = .ref a ∧ H a = some (.tup [.str "name", .str x])
  | .flg b, v => ∃ a, v = .ref a ∧ H a = some (.tup [.str "flag", .bl b])
  | .pl x e, v => ∃ a u, v = .ref a ∧ H a = some (.tup [.str "at", .str x, u]) ∧ ExAt H e u
  | .nt e, v => ∃ a u, v = .ref a ∧ H a = some (.tup [.str "not", u]) ∧ ExAt H e u
  | .bin o e1 e2, v => ∃ a u1 u2, v = .ref a ∧ H a = some (.tup [.str o, u1, u2]) ∧ ExAt H e1 u1 ∧ ExAt H e2 u2
def ops5 : List Str := ["+", "-", "&", "<", "="]
def Ex.Ok : Ex → Prop
  | .nam x => PyData.strOk x = true
  | .pl x e => PyData.strOk x = true ∧ e.Ok
  | .nt e => e.Ok
  | .bin o a b => o ∈ ops5 ∧ a.Ok ∧ b.Ok
  | _ => True
def Ex.dep : Ex → Nat
  | .pl _ e => e.dep + 1
  | .nt e => e.dep + 1
  | .bin _ a b => max a.dep b.dep + 1
  | _ => 0
theorem ExAt.keep {H H' : Hp} (k : ∀ (b : Addr) (xs : List V), H b = some (.tup xs) → H' b = some (.tup xs)) : ∀ {e : Ex} {v : V}, ExAt H e v → ExAt H' e v
  | .num i, v, ⟨a, e, h⟩ => ⟨a, e, k _ _ h⟩
  | .nam x, v, ⟨a, e, h⟩ => ⟨a, e, k _ _ h⟩
  | .flg b, v, ⟨a, e, h⟩ => ⟨a, e, k _ _ h⟩
  | .pl x e, v, ⟨a, u, e1, h, r⟩ => ⟨a, u, e1, k _ _ h, ExAt.keep k r⟩
  | .nt e, v, ⟨a, u, e1, h, r⟩ => ⟨a, u, e1, k _ _ h, ExAt.keep k r⟩
  | .bin o e1 e2, v, ⟨a, u1, u2, e3, h, r1, r2⟩ => ⟨a, u1, u2, e3, k _ _ h, ExAt.keep k r1, ExAt.keep k r2⟩
theorem ExAt.same {H H' : Hp} (s : Same H H') {e : Ex} {v : V} (h : ExAt H e v) : ExAt H' e v := h.keep fun _ _ z => s _ _ z
theorem rep_strs (K : PySem.W.Frag) (H : Hp) : ∀ ss : List Str, RepAll K H (ss.map V.str) (ss.map PyData.str)
  | [] => .nil
  | x :: r => .cons (.str x) (rep_strs K H r)
theorem lay_strs : ∀ {ss : List Str}, (∀ x ∈ ss, PyData.strOk x = true) → PyData.canLayAll0 (ss.map PyData.str) = true
  | [], _ => rfl
  | x :: r, h => by
    show (PyData.strOk x && PyData.canLayAll0 (r.map PyData.str)) = true
    rw [lay_strs fun y hy => h y (List.mem_cons_of_mem _ hy), h x List.mem_cons_self]; rfl
theorem dep_strs : ∀ ss : List Str, PyData.depthAll (ss.map PyData.str) ≤ 0
  | [] => Nat.le_refl _
  | x :: r => by
    show max 0 (PyData.depthAll (r.map PyData.str)) ≤ 0
    have := dep_strs r; omega
theorem eqv_empty {ss : List Str} (h : 0 < ss.length) : PyData.eqv (.list (ss.map PyData.str)) (.list []) = false := by
  cases ss with
  | nil => cases h
  | cons x r => rfl
theorem str_ix {ss : List Str} {i : Int} (h0 : 0 ≤ i) (h1 : i < (ss.length : Int)) : ss.getD i.toNat "" ∈ ss ∧ atI (ss.map V.str) i = some (.str (ss.getD i.toNat "")) := by
  obtain ⟨j, rfl⟩ : ∃ j : Nat, i = (j : Int) := ⟨i.toNat, by omega⟩
  have hj : j < ss.length := by omega
  rw [Int.toNat_natCast, List.getD_eq_getElem?_getD, List.getElem?_eq_getElem hj]
  exact ⟨List.getElem_mem hj, atI_nat (by rw [List.getElem?_map, List.getElem?_eq_getElem hj]; rfl)⟩
def opAt (i : Int) : Str := ⟨#[("+-&<=" : Str).cps[i.toNat]?.getD 0]⟩
theorem op_at {i : Int} (h0 : 0 ≤ i) (h1 : i < 5) : ∃ c : Nat, ("+-&<=" : Str).cps[i.toNat]? = some c ∧ (⟨#[c]⟩ : Str) = opAt i ∧ opAt i ∈ ops5 := by
  have : i = 0 ∨ i = 1 ∨ i = 2 ∨ i = 3 ∨ i = 4 := by omega
  rcases this with rfl | rfl | rfl | rfl | rfl
  · exact ⟨43, by decide +kernel, by decide +kernel, by decide +kernel⟩
  · exact ⟨45, by decide +kernel, by decide +kernel, by decide +kernel⟩
  · exact ⟨38, by decide +kernel, by decide +kernel, by decide +kernel⟩
  · exact ⟨60, by decide +kernel, by decide +kernel, by decide +kernel⟩
  · exact ⟨61, by decide +kernel, by decide +kernel, by decide +kernel⟩
theorem op_len : (("+-&<=" : Str).length : Nat) = 5 := by decide +kernel
theorem Kl.tup {l : Addr} {H H' : Hp} {xs : List V} (el : H l = some (.lst xs)) (k : Kl l H H') : ∀ (b : Addr) (ys : List V), H b = some (.tup ys) → H' b = some (.tup ys) := fun b ys e => k b _ e (ne_of e el (by intro z; cases z))
theorem ExAt.kl {l : Addr} {H H' : Hp} {xs : List V} (el : H l = some (.lst xs)) (k : Kl l H H') {e : Ex} {v : V} (h : ExAt H e v) : ExAt H' e v := h.keep (Kl.tup el k)
def exB (rec : Tp → Ex × Tp) (names : List Str) (wy : Int) (t : Tp) : Ex × Tp :=
  if wy = 0 then (.num (numberM t).1, (numberM t).2)
  else if wy = 1 then (.nam (names.getD (nextM t names.length).1.toNat ""), (nextM t names.length).2)
  else if wy = 2 then (.flg (decide (V.int (nextM t 2).1 = V.int 1)), (nextM t 2).2)
  else if wy = 3 then (.pl (names.getD (nextM t names.length).1.toNat "") (rec (nextM t names.length).2).1, (rec (nextM t names.length).2).2)
  else if wy = 4 then (.nt (rec t).1, (rec t).2)
  else (.bin (opAt (nextM t 5).1) (rec (nextM t 5).2).1 (rec (rec (nextM t 5).2).2).1, (rec (rec (nextM t 5).2).2).2)
def exprM (names : List Str) : Nat → Tp → Ex × Tp
  | 0, t => exB (fun t => (.num 0, t)) names ((nextM t 9).1 % 3) (nextM t 9).2
  | n + 1, t => exB (exprM names n) names (if 60 < (nextM t 9).2.c then (nextM t 9).1 % 3 else (nextM t 9).1) (nextM t 9).2
def bd (n : Nat) : Nat := 5 * 2 ^ n
theorem bd_succ (n : Nat) : bd (n + 1) = 2 * bd n := by unfold bd; rw [Nat.pow_succ]; omega
theorem bd_pos (n : Nat) : 5 ≤ bd n := by unfold bd; have := Nat.one_le_two_pow (n := n); omega
theorem exB_c {rec : Tp → Ex × Tp} {names : List Str} {b : Nat} (hr : ∀ t, (rec t).2.c + 2 ≤ t.c + b) (hb : 5 ≤ b) (wy : Int) (t : Tp) : (exB rec names wy t).2.c + 3 ≤ t.c + 2 * b := by
  unfold exB
  split
  · have := number_c t; show (numberM t).2.c + 3 ≤ _; omega
  split
  · show (nextM t _).2.c + 3 ≤ _; rw [next_c]; omega
  split
  · show (nextM t _).2.c + 3 ≤ _; rw [next_c]; omega
  split
  · have := hr (nextM t names.length).2; rw [next_c] at this; show (rec _).2.c + 3 ≤ _; omega
  split
  · have := hr t; show (rec _).2.c + 3 ≤ _; omega
  · have h1 := hr (nextM t 5).2
    have h2 := hr (rec (nextM t 5).2).2
    rw [next_c] at h1
    show (rec _).2.c + 3 ≤ _; omega
theorem exB_c0 {rec : Tp → Ex × Tp} {names : List Str} {wy : Int} (h0 : 0 ≤ wy) (h : wy < 3) (t : Tp) : (exB rec names wy t).2.c ≤ t.c + 2 := by
  unfold exB
  split
  · exact number_c t
  split
  · show (nextM t _).2.c ≤ _; rw [next_c]; omega
  split
  · show (nextM t _).2.c ≤ _; rw [next_c]; omega
  · omega
theorem expr_c (names : List Str) : ∀ (n : Nat) (t : Tp), (exprM names n t).2.c + 2 ≤ t.c + bd n
  | 0, t => by
    have := exB_c0 (rec := fun t => (.num 0, t)) (names := names) (wy := (nextM t 9).1 % 3) (Int.emod_nonneg _ (by decide)) (Int.emod_lt_of_pos _ (by decide)) (nextM t 9).2
    rw [next_c] at this
    show (exB _ _ _ _).2.c + 2 ≤ t.c + 5
    omega
  | n + 1, t => by
    have := exB_c (names := names) (expr_c names n) (bd_pos n) (if 60 < (nextM t 9).2.c then (nextM t 9).1 % 3 else (nextM t 9).1) (nextM t 9).2
    rw [next_c t 9] at this
    rw [bd_succ]
    show (exB _ _ _ _).2.c + 2 ≤ _
    rw [next_c t 9]
    omega
end K45

set_option Elab.async false
set_option linter.all false
set_option maxRecDepth 100000
set_option maxHeartbeats 4000000
namespace K45
open PySem L2
structure EOk (n : Nat) (e : Ex) : Prop where
  ok : e.Ok
  dep : e.dep ≤ n
theorem exB_ok {rec : Tp → Ex × Tp} {names : List Str} {m : Nat} (h0 : 0 < names.length) (hn : names.length < 1000000) (hok : ∀ x ∈ names, PyData.strOk x = true) {wy : Int} (hw0 : 0 ≤ wy) (hrec : wy < 3 ∨ ∀ t, EOk m (rec t).1 ) (t : Tp) : EOk (m + 1) (exB rec names wy t).1 := by
  have nm := fun t : Tp => hok _ (str_ix (ss := names) (i := (nextM t names.length).1) (next_bd t (by omega)).1 (next_bd t (by omega)).2).1
  have hrec : ¬ wy < 3 → ∀ t, EOk m (rec t).1 := fun h => hrec.resolve_left h
  unfold exB
  split
  · exact ⟨trivial, Nat.zero_le _⟩
  split
  · exact ⟨nm t, Nat.zero_le _⟩
  split
  · exact ⟨trivial, Nat.zero_le _⟩
  have h3 := hrec (by omega)
  split
  · have := h3 (nextM t names.length).2
    exact ⟨⟨nm t, this.ok⟩, Nat.succ_le_succ this.dep⟩
  split
  · have := h3 t
    exact ⟨this.ok, Nat.succ_le_succ this.dep⟩
  · have a1 := h3 (nextM t 5).2
    have a2 := h3 (rec (nextM t 5).2).2
    obtain ⟨_, _, _, oo⟩ := op_at (next_bd t (size := 5) (by decide)).1 (next_bd t (size := 5) (by decide)).2
    exact ⟨⟨oo, a1.ok, a2.ok⟩, by show max _ _ + 1 ≤ m + 1; have := a1.dep; have := a2.dep; omega⟩
theorem exB_ok0 {rec : Tp → Ex × Tp} {names : List Str} (h0 : 0 < names.length) (hn : names.length < 1000000) (hok : ∀ x ∈ names, PyData.strOk x = true) {wy : Int} (hw0 : 0 ≤ wy) (hw : wy < 3) (t : Tp) : EOk 0 (exB rec names wy t).1 := by
  have nm := fun t : Tp => hok _ (str_ix (ss := names) (i := (nextM t names.length).1) (next_bd t (by omega)).1 (next_bd t (by omega)).2).1
  unfold exB
  split
  · exact ⟨trivial, Nat.zero_le _⟩
  split
  · exact ⟨nm t, Nat.zero_le _⟩
  split
  · exact ⟨trivial, Nat.zero_le _⟩
  · omega
theorem expr_ok {names : List Str} (h0 : 0 < names.length) (hn : names.length < 1000000) (hok : ∀ x ∈ names, PyData.strOk x = true) : ∀ (n : Nat) (t : Tp), EOk n (exprM names n t).1
  | 0, t => exB_ok0 h0 hn hok (Int.emod_nonneg _ (by decide)) (Int.emod_lt_of_pos _ (by decide)) _
  | n + 1, t => exB_ok (m := n) h0 hn hok (by have := next_bd t (size := 9) (by decide); split; exact Int.emod_nonneg _ (by decide); exact this.1) (.inr (expr_ok h0 hn hok n)) _
def sp_expr (n : Nat) : Sp := fun vs H Q _ => ∃ (a nl : Addr) (names : List Str) (t : Tp), vs = [.ref a, .ref nl, .int (n : Int)] ∧ TapIs H a t ∧ t.c + bd n ≤ cMax ∧ H nl = some (.lst (names.map V.str)) ∧ 0 < names.length ∧ names.length ≤ 1000 ∧ (∀ x ∈ names, PyData.strOk x = true) ∧ a ≠ nl ∧
  ∀ (v : V) (H' : Hp), Kl a H H' → TapIs H' a (exprM names n t).2 → ExAt H' (exprM names n t).1 v → Q v H'
section
variable {P : Program} {w : World} {K : PySem.W.Frag} {mg : Str → Option Value} {base : Heap}
theorem sc_law_expr : FnScope ["_law_tap_here", "_law_names", "_law_deep", "_law_way", "_law_op", "_law_one"] ["_law_tap_here", "_law_names", "_law_deep"] (defScope s_law_expr) := ⟨rfl, rfl, rfl, by decide +kernel, rfl, by decide +kernel, by decide +kernel⟩
theorem expr_B {n : Nat} {prev : Sp} {rec : List Str → Tp → Ex × Tp} {f f1 f2 f3 : Addr} {fd d1 d2 d3 : FuncData} (T : Bt mg) (z10 : Q0 K mg f1 d1) (z0 : Q1 K mg f2 d2) (z11 : Q2 K mg f3 d3) (z17 : Q3 K mg f fd)
    (hp : n = 0 ∨ ∃ m, n = m + 1 ∧ prev = sp_expr m ∧ rec = fun names => exprM names m) (z46 : FnOk P w K mg base CX0 (n + 3) f fd ["_law_tap_here", "_law_names", "_law_deep"] prev) {cdv : Value} {A : Around} {outer : List Env} {s : Shared} {H : Hp} {E : XK} (hr : Room (n + 3) (A.deeper (PyProof.Rows.envOfC "_law_expr" (defScope s_law_expr) s.heap.objs.size f cdv))) :
    ∃ u, PSs (cxOf CX0 P w K mg base ["_law_tap_here", "_law_names", "_law_deep", "_law_way", "_law_op", "_law_one"] "_law_expr" (defScope s_law_expr) f cdv A outer s H E).nox ((defBody s_law_expr).drop 2) u ∧
      ∀ (D : Ends) (v4 v5 : Option V) (a nl : Addr) (names : List Str) (t : Tp) (wy : Int) (H : Hp), TapIs H a t → t.c + bd n ≤ cMax + 1 → H nl = some (.lst (names.map V.str)) → 0 < names.length → names.length ≤ 1000 → (∀ x ∈ names, PyData.strOk x = true) → a ≠ nl → 0 ≤ wy → wy < 9 → (n = 0 → wy < 3) →
        (∀ (v : V) (H' : Hp), Kl a H H' → TapIs H' a (exB (rec names) names wy t).2 → ExAt H' (exB (rec names) names wy t).1 v → D.rt v H') →
        u D [some (.ref a), some (.ref nl), some (.int (n : Int)), some (.int wy), v4, v5] H := by
  have z19 := ok_law_next (P := P) (w := w) (mg := mg) (base := base) z0.F z10
  have G_law_number := ok_law_number (P := P) (w := w) (base := base) z11.F z10 z0
  refine ⟨_, (pss_cons (ps_if (PW.pt (pw_or (pt_cmpR op_eq (pv 3) pe_int (nomark _)) (pw_or1 (PW.pt (pw_and (pt_cmpR op_eq (pv 3) pe_int (nomark _)) (pw_and1 (pt_cmpR (op_eqD (hr.units)) (pv 1) (pe_lst pa_nil) (nomark _))))))))
        (pss_one (ps_ret (pe_tup (pa_consN pe_str (pa_consN (pe_call G_law_number (hr.mono (by omega)) rfl z11.m z11.F.kp z11.b .nil pass0 (pa_consN (pv 0) pa_nil)) pa_nil)))))
        pss_nil)
      (pss_cons (ps_if (pt_cmpR op_eq (pv 3) pe_int (nomark _))
        (pss_one (ps_ret (pe_tup (pa_consN pe_str (pa_consN (pe_ix ix_list (pv 1) (pe_call z19 (hr.mono (by omega)) rfl z0.m z0.F.kp z0.b .nil pass0 (pa_consN (pv 0) (pa_consN (pe_callB call_len_seq rfl T.b_len (by decide +kernel) (pa_consN (pv 1) pa_nil)) pa_nil))) (fun _ _ => rfl)) pa_nil)))))
        pss_nil)
      (pss_cons (ps_if (pt_cmpR op_eq (pv 3) pe_int (nomark _))
        (pss_one (ps_ret (pe_tup (pa_consN pe_str (pa_consN (pe_cmpR op_eq (pe_call z19 (hr.mono (by omega)) rfl z0.m z0.F.kp z0.b .nil pass0 (pa_consN (pv 0) (pa_consN pe_int pa_nil))) pe_int (nomark _)) pa_nil)))))
        pss_nil)
      (pss_cons (ps_if (PW.pt (pw_and (pt_cmpR op_eq (pv 3) pe_int (nomark _)) (pw_and1 (pt_cmpR (op_neD (hr.units)) (pv 1) (pe_lst pa_nil) (nomark _)))))
        (pss_one (ps_ret (pe_tup (pa_consN pe_str (pa_consN (pe_ix ix_list (pv 1) (pe_call z19 (hr.mono (by omega)) rfl z0.m z0.F.kp z0.b .nil pass0 (pa_consN (pv 0) (pa_consN (pe_callB call_len_seq rfl T.b_len (by decide +kernel) (pa_consN (pv 1) pa_nil)) pa_nil))) (fun _ _ => rfl)) (pa_consN (pe_call z46 (hr.mono (by omega)) rfl z17.m z17.F.kp z17.b .nil pass0 (pa_consN (pv 0) (pa_consN (pv 1) (pa_consN (pe_op op_sub (pv 2) pe_int) pa_nil)))) pa_nil))))))
        pss_nil)
      (pss_cons (ps_if (pt_cmpR op_eq (pv 3) pe_int (nomark _))
        (pss_one (ps_ret (pe_tup (pa_consN pe_str (pa_consN (pe_call z46 (hr.mono (by omega)) rfl z17.m z17.F.kp z17.b .nil pass0 (pa_consN (pv 0) (pa_consN (pv 1) (pa_consN (pe_op op_sub (pv 2) pe_int) pa_nil)))) pa_nil)))))
        pss_nil)
      (pss_cons (ps_set (i := 4) sc_law_expr.nd rfl (Or.inl rfl) (pe_item_str pe_str (pe_call z19 (hr.mono (by omega)) rfl z0.m z0.F.kp z0.b .nil pass0 (pa_consN (pv 0) (pa_consN pe_int pa_nil))) (fun _ _ => rfl)))
      (pss_cons (ps_set (i := 5) sc_law_expr.nd rfl (Or.inl rfl) (pe_call z46 (hr.mono (by omega)) rfl z17.m z17.F.kp z17.b .nil pass0 (pa_consN (pv 0) (pa_consN (pv 1) (pa_consN (pe_op op_sub (pv 2) pe_int) pa_nil)))))
      (pss_one (ps_ret (pe_tup (pa_consN (pv 4) (pa_consN (pv 5) (pa_consN (pe_call z46 (hr.mono (by omega)) rfl z17.m z17.F.kp z17.b .nil pass0 (pa_consN (pv 0) (pa_consN (pv 1) (pa_consN (pe_op op_sub (pv 2) pe_int) pa_nil)))) pa_nil))))))))))))), ?_⟩
  intro D v4 v5 a nl names t wy H ta hc en hn0 hn1 hok han w0 w1 wn q
  have hs : sizeLine = 16777216 := sizeLine_eq
  have b5 := bd_pos n
  have cm : cMax = 90000000000000 := rfl
  have ndn : PyData.depthAll (names.map PyData.str) + 1 ≤ 64 := by have := dep_strs names; omega
  have two : 2 ≤ sizeLine := by omega
  have hlen : (((names.map V.str).length : Nat) : Int) = (names.length : Int) := by rw [List.length_map]
  unfold exB at q
  refine ⟨_, rfl, rfl, _, rfl, ite2 (fun h0 => ?_) (fun h0 => ?_)⟩
  · have hw : wy = 0 := V.int.inj (of_decide_eq_true h0)
    rw [if_pos hw] at q
    refine iteT ⟨_, rfl, a, t, rfl, ta, by omega, fun H1 k1 t1 => ⟨two, fun p hp => ?_⟩⟩
    exact q _ _ (k1.trans (Kl.of (Same.put hp))) (t1.same (Same.put hp)) ⟨p, rfl, upd_same⟩
  have hw0 : wy ≠ 0 := fun z => h0 (decide_eq_true (congrArg V.int z))
  rw [if_neg hw0] at q
  refine ⟨_, rfl, rfl, _, rfl, ite2 (fun h1 => ?_) (fun h1 => ?_)⟩
  · have hw1 : wy = 1 := V.int.inj (of_decide_eq_true h1)
    rw [if_pos hw1] at q
    refine ⟨_, rfl, Nat.zero_le _, fun l0 hl0 => ?_⟩
    have y0 := Same.put (o := .lst []) hl0
    refine ⟨.list (names.map PyData.str), .list [], .lst (SqL.of (y0 _ _ en)) (rep_strs K _ names), .lst (SqL.of upd_same) .nil, lay_strs hok, rfl, ndn, _, rfl, ?_⟩
    rw [eqv_empty hn0]
    generalize upd H l0 (.lst []) = H1 at y0 ⊢
    refine iteF ⟨_, rfl, rfl, _, rfl, itDP (congrArg V.int hw1) ?_⟩
    refine ⟨_, rfl, _, rfl, _, rfl, nl, _, rfl, .inl (SqL.of (y0 _ _ en)), ?_⟩
    rw [hlen]
    refine ⟨a, t, _, rfl, ta.same y0, by omega, by omega, by omega, fun H2 k2 t2 => ?_⟩
    obtain ⟨_, ex⟩ := str_ix (ss := names) (next_bd t (size := names.length) (by omega)).1 (next_bd t (by omega)).2
    refine ⟨nl, _, _, _, rfl, rfl, SqL.of (k2 _ _ (y0 _ _ en) han.symm), ex, two, fun p hp => ?_⟩
    exact q _ _ (((Kl.of y0).trans k2).trans (Kl.of (Same.put hp))) (t2.same (Same.put hp)) ⟨p, rfl, upd_same⟩
  have hw1 : wy ≠ 1 := fun z => h1 (decide_eq_true (congrArg V.int z))
  rw [if_neg hw1] at q
  refine iteF ⟨_, rfl, rfl, _, rfl, itDN (fun z => hw1 (V.int.inj z)) ?_⟩
  refine ⟨_, rfl, rfl, _, rfl, ite2 (fun h2 => ?_) (fun h2 => ?_)⟩
  · have hw2 : wy = 2 := V.int.inj (of_decide_eq_true h2)
    rw [if_pos hw2] at q
    refine ⟨_, rfl, a, t, 2, rfl, ta, by omega, by decide, by decide, fun H2 k2 t2 => ⟨rfl, two, fun p hp => ?_⟩⟩
    exact q _ _ (k2.trans (Kl.of (Same.put hp))) (t2.same (Same.put hp)) ⟨p, rfl, upd_same⟩
  have hw2 : wy ≠ 2 := fun z => h2 (decide_eq_true (congrArg V.int z))
  rw [if_neg hw2] at q
  rcases hp with h | ⟨m, rfl, rfl, rfl⟩
  · have := wn h; omega
  have bs := bd_succ m
  have bm := bd_pos m
  have ec := expr_c names m
  have em : [V.ref a, V.ref nl, V.int (((m + 1 : Nat) : Int) - 1)] = [V.ref a, V.ref nl, V.int (m : Int)] := by
    rw [show ((m + 1 : Nat) : Int) - 1 = (m : Int) by omega]
  have tl : ∀ {Hx : Hp} {tx : Tp}, TapIs Hx a tx → ∃ zs, Hx a = some (.lst zs) := fun h => ⟨_, h⟩
  refine ⟨_, rfl, rfl, _, rfl, ite2 (fun h3 => ?_) (fun h3 => ?_)⟩
  · have hw3 : wy = 3 := V.int.inj (of_decide_eq_true h3)
    rw [if_pos hw3] at q
    refine ⟨_, rfl, Nat.zero_le _, fun l0 hl0 => ?_⟩
    have y0 := Same.put (o := .lst []) hl0
    refine ⟨.list (names.map PyData.str), .list [], .lst (SqL.of (y0 _ _ en)) (rep_strs K _ names), .lst (SqL.of upd_same) .nil, lay_strs hok, rfl, ndn, _, rfl, ?_⟩
    rw [eqv_empty hn0]
    generalize upd H l0 (.lst []) = H1 at y0 ⊢
    refine iteT ⟨_, rfl, _, rfl, _, rfl, nl, _, rfl, .inl (SqL.of (y0 _ _ en)), ?_⟩
    rw [hlen]
    refine ⟨a, t, _, rfl, ta.same y0, by omega, by omega, by omega, fun H2 k2 t2 => ?_⟩
    obtain ⟨_, ex⟩ := str_ix (ss := names) (next_bd t (size := names.length) (by omega)).1 (next_bd t (by omega)).2
    have k02 := (Kl.of (l := a) y0).trans k2
    have cn := next_c t names.length
    refine ⟨nl, _, _, _, rfl, rfl, SqL.of (k02 _ _ en han.symm), ex, ?_⟩
    refine ⟨_, rfl, _, rfl, _, rfl, _, _, rfl, rfl, a, nl, names, _, em, t2, by omega, k02 _ _ en han.symm, hn0, hn1, hok, han, fun v' H3 k3 t3 he => ⟨(by show 3 ≤ sizeLine; omega), fun p hp => ?_⟩⟩
    exact q _ _ ((k02.trans k3).trans (Kl.of (Same.put hp))) (t3.same (Same.put hp)) ⟨p, _, rfl, upd_same, he.same (Same.put hp)⟩
  have hw3 : wy ≠ 3 := fun z => h3 (decide_eq_true (congrArg V.int z))
  rw [if_neg hw3] at q
  refine iteF ⟨_, rfl, rfl, _, rfl, ite2 (fun h4 => ?_) (fun h4 => ?_)⟩
  · have hw4 : wy = 4 := V.int.inj (of_decide_eq_true h4)
    rw [if_pos hw4] at q
    refine ⟨_, rfl, _, rfl, _, rfl, _, _, rfl, rfl, a, nl, names, t, em, ta, by omega, en, hn0, hn1, hok, han, fun v' H3 k3 t3 he => ⟨two, fun p hp => ?_⟩⟩
    exact q _ _ (k3.trans (Kl.of (Same.put hp))) (t3.same (Same.put hp)) ⟨p, _, rfl, upd_same, he.same (Same.put hp)⟩
  have hw4 : wy ≠ 4 := fun z => h4 (decide_eq_true (congrArg V.int z))
  rw [if_neg hw4] at q
  refine ⟨_, rfl, a, t, 5, rfl, ta, by omega, by decide, by decide, fun H2 k2 t2 => ?_⟩
  obtain ⟨ch, hch, hop, _⟩ := op_at (next_bd t (size := 5) (by decide)).1 (next_bd t (size := 5) (by decide)).2
  have cn := next_c t 5
  have bn := next_bd t (size := 5) (by decide)
  refine ⟨_, (nextM t 5).1, ch, rfl, rfl, bn.1, by omega, by rw [op_len]; omega, hch, ?_⟩
  rw [hop]
  refine ⟨_, rfl, _, rfl, _, rfl, _, _, rfl, rfl, a, nl, names, _, em, t2, by omega, k2 _ _ en han.symm, hn0, hn1, hok, han, fun va H3 k3 t3 ha => ?_⟩
  have c3 := ec (nextM t 5).2
  refine ⟨_, rfl, _, rfl, _, rfl, _, rfl, _, rfl, _, _, rfl, rfl, a, nl, names, _, em, t3, by omega, k3 _ _ (k2 _ _ en han.symm) han.symm, hn0, hn1, hok, han, fun vb H4 k4 t4 hb => ⟨(by show 3 ≤ sizeLine; omega), fun p hp => ?_⟩⟩
  exact q _ _ (((k2.trans k3).trans k4).trans (Kl.of (Same.put hp))) (t4.same (Same.put hp)) ⟨p, _, _, rfl, upd_same, (ha.kl t3 k4).same (Same.put hp), hb.same (Same.put hp)⟩
theorem expr_step {n : Nat} {prev : Sp} {rec : List Str → Tp → Ex × Tp} {f f1 f2 f3 : Addr} {fd d1 d2 d3 : FuncData} (T : Bt mg) (z10 : Q0 K mg f1 d1) (z0 : Q1 K mg f2 d2) (z11 : Q2 K mg f3 d3) (z17 : Q3 K mg f fd)
    (hp : n = 0 ∨ ∃ m, n = m + 1 ∧ prev = sp_expr m ∧ rec = fun names => exprM names m) (hrec : n = 0 → rec = fun _ t => (.num 0, t)) (z46 : FnOk P w K mg base CX0 (n + 3) f fd ["_law_tap_here", "_law_names", "_law_deep"] prev) : FnOk P w K mg base CX0 (n + 4) f fd ["_law_tap_here", "_law_names", "_law_deep"] (sp_expr n) := by
  have z19 := ok_law_next (P := P) (w := w) (mg := mg) (base := base) z0.F z10
  refine z17.F.ok (k := n + 3) sc_law_expr (fun vs H Q E h => ?_) (fun cdv A outer s H vs Q E hr h => ?_)
  · obtain ⟨a, nl, names, t, rfl, _⟩ := h; rfl
  · obtain ⟨a, nl, names, t, rfl, ta, hc, en, hn0, hn1, hok, han, q⟩ := h
    obtain ⟨uB, hB, kB⟩ := expr_B (P := P) (w := w) (base := base) (f := f) (cdv := cdv) (outer := outer) (H := H) (E := E) (rec := rec) T z10 z0 z11 z17 hp z46 hr
    refine ⟨_, (pss_cons (ps_set (i := 3) sc_law_expr.nd rfl (Or.inl rfl) (pe_call z19 (hr.mono (by omega)) rfl z0.m z0.F.kp z0.b .nil pass0 (pa_consN (pv 0) (pa_consN pe_int pa_nil))))
      (pss_cons (ps_if (PW.pt (pw_or (pt_cmpR op_eq (pv 2) pe_int (nomark _)) (pw_or1 (pt_cmpR op_gt (pe_ix ix_list (pv 0) pe_int (fun _ _ => rfl)) pe_int (nomark _)))))
        (pss_one (ps_set (i := 3) sc_law_expr.nd rfl (Or.inl rfl) (pe_op op_mod (pv 3) pe_int)))
        pss_nil)
      hB)), ?_⟩
    have b5 := bd_pos n
    have cm : cMax = 90000000000000 := rfl
    refine ⟨_, rfl, a, t, 9, rfl, ta, by omega, by decide, by decide, fun H1 k1 t1 => ?_⟩
    have bn := next_bd t (size := 9) (by decide)
    have cn := next_c t 9
    have en1 := k1 _ _ en han.symm
    have hE : exprM names n t = exB (rec names) names (if n = 0 ∨ 60 < (nextM t 9).2.c then (nextM t 9).1 % 3 else (nextM t 9).1) (nextM t 9).2 := by
      rcases hp with rfl | ⟨m, rfl, _, rfl⟩
      · rw [hrec rfl, if_pos (.inl rfl)]; rfl
      · show exB _ _ (if 60 < (nextM t 9).2.c then (nextM t 9).1 % 3 else (nextM t 9).1) _ = _
        by_cases h : 60 < (nextM t 9).2.c
        · rw [if_pos h, if_pos (.inr h)]
        · rw [if_neg h, if_neg (fun z => z.elim (by omega) h)]
    rw [hE] at q
    obtain ⟨wy, t', e⟩ : ∃ v t', nextM t 9 = (v, t') := ⟨_, _, rfl⟩
    rw [e] at q bn cn t1 ⊢
    have cn : t'.c = t.c + 1 := cn
    have bn : 0 ≤ wy ∧ wy < 9 := bn
    have go : ∀ wz : Int, wz = (if n = 0 ∨ 60 < t'.c then wy % 3 else wy) → 0 ≤ wz → wz < 9 → (n = 0 → wz < 3) → uB { nx := fun _ H' => Q .non H', rt := Q } [some (.ref a), some (.ref nl), some (.int (n : Int)), some (.int wz), none, none] H1 := fun wz hz h0 h9 h3 =>
      kB _ _ _ a nl names t' wz H1 t1 (by omega) en1 hn0 hn1 hok han h0 h9 h3 fun v H' k' tt he => q v H' (k1.trans k') (by rw [hz] at tt; exact tt) (by rw [hz] at he; exact he)
    have m3 : 0 ≤ wy % 3 ∧ wy % 3 < 3 := ⟨Int.emod_nonneg _ (by decide), Int.emod_lt_of_pos _ (by decide)⟩
    refine ⟨_, rfl, rfl, _, rfl, ite2 (fun h0 => ?_) (fun h0 => ?_)⟩
    · have hn : n = 0 := by have := V.int.inj (of_decide_eq_true h0); omega
      exact iteT ⟨_, rfl, _, _, rfl, rfl, (by show (0 : Int) < 3; decide), go _ (by rw [if_pos (.inl hn)]) m3.1 (by omega) (fun _ => m3.2)⟩
    · have hn : n ≠ 0 := fun z => h0 (decide_eq_true (by rw [z]; rfl))
      refine ⟨_, rfl, a, _, _, _, rfl, rfl, SqL.of t1, rfl, _, _, rfl, rfl, _, rfl, ite2 (fun h1 => ?_) (fun h1 => ?_)⟩
      · have h1 : (60 : Int) < (t'.c : Int) := of_decide_eq_true h1
        exact ⟨_, rfl, _, _, rfl, rfl, (by show (0 : Int) < 3; decide), go _ (by rw [if_pos (.inr (by omega))]) m3.1 (by omega) (fun _ => m3.2)⟩
      · have h1 : ¬ (60 : Int) < (t'.c : Int) := fun z => h1 (decide_eq_true z)
        exact go wy (by rw [if_neg (fun z => z.elim hn (fun y => h1 (by omega)))]) bn.1 bn.2 (fun z => absurd z hn)
theorem ok_law_expr {f f1 f2 f3 : Addr} {fd d1 d2 d3 : FuncData} (T : Bt mg) (z10 : Q0 K mg f1 d1) (z0 : Q1 K mg f2 d2) (z11 : Q2 K mg f3 d3) (z17 : Q3 K mg f fd) :
    ∀ n : Nat, FnOk P w K mg base CX0 (n + 4) f fd ["_law_tap_here", "_law_names", "_law_deep"] (sp_expr n)
  | 0 => expr_step (rec := fun _ t => (.num 0, t)) T z10 z0 z11 z17 (.inl rfl) (fun _ => rfl) (z17.F.ok (k := 2) (sp := fun _ _ _ _ => False) sc_law_expr (fun _ _ _ _ h => h.elim) (fun _ _ _ _ _ _ _ _ _ h => h.elim))
  | n + 1 => expr_step (rec := fun names => exprM names n) T z10 z0 z11 z17 (.inr ⟨n, rfl, rfl, rfl⟩) (fun h => by omega) (ok_law_expr T z10 z0 z11 z17 n)
end
end K45

set_option Elab.async false
set_option linter.all false
set_option maxRecDepth 100000
set_option maxHeartbeats 4000000
namespace K45
open PySem L2
def okC (x : Str) : Prop := ∀ c ∈ x.cps.toList, c < 1114112
theorem ok_of {x : Str} (h : okC x) : PyData.strOk x = true := by
  unfold PyData.strOk
  rw [Array.all_eq_true']
  intro c hc
  exact decide_eq_true (h c (Array.mem_toList_iff.mpr hc))
theorem okC_app {x y : Str} (hx : okC x) (hy : okC y) : okC (x ++ y) := by
  intro c hc
  have hc' : c ∈ (x.cps ++ y.cps).toList := hc
  rw [Array.toList_append, List.mem_append] at hc'
  exact hc'.elim (hx c) (hy c)
theorem okC_slice {x : Str} (h : okC x) (l u : Option Int) : okC (PySem.Txt.slice x l u) := by
  unfold PySem.Txt.slice
  split
  · exact h
  · intro c hc
    have hc' : c ∈ List.filterMap (fun i => x.cps[i]?) (Builtin.Str.strSliceIndices l u 1 x.length) := by simpa using hc
    obtain ⟨i, _, e⟩ := List.mem_filterMap.mp hc'
    exact h c (Array.mem_toList_iff.mpr (Array.mem_of_getElem? e))
theorem okC_at {z : Str} (h : okC z) {i : Nat} {c : Nat} (e : z.cps[i]? = some c) : okC ⟨#[c]⟩ := by
  intro d hd
  have : d = c := by simpa using hd
  rw [this]
  exact h c (Array.mem_toList_iff.mpr (Array.mem_of_getElem? e))
abbrev abc : Str := "abcdefghijklmnopqrstuvwxyz"
theorem abc_len : abc.length = 26 := by decide +kernel
theorem okC_abc : okC abc := by unfold okC; decide +kernel
theorem okC_qxz : okC "qxz" := by unfold okC; decide +kernel
theorem qxz_len : (("qxz" : Str)).length = 3 := by decide +kernel
theorem str_at {z : Str} {i : Int} (h0 : 0 ≤ i) (h1 : i < (z.length : Int)) : ∃ c, z.cps[i.toNat]? = some c := by
  have h : i.toNat < z.cps.size := by
    have e : z.cps.size = z.length := rfl
    omega
  exact ⟨z.cps[i.toNat], Array.getElem?_eq_getElem h⟩
theorem one_len (c : Nat) : (⟨#[c]⟩ : Str).length = 1 := rfl
theorem app_len (x y : Str) : (x ++ y).length = x.length + y.length := by
  show (x.cps ++ y.cps).size = _
  rw [Array.size_append]; rfl
theorem rep_one {c : Nat} {n : Int} (h0 : 0 ≤ n) (h6 : n ≤ 6) (hc : c < 1114112) : okC (repS ⟨#[c]⟩ n) ∧ (repS ⟨#[c]⟩ n).length ≤ 6 := by
  have key : ∃ cs : List Nat, repS ⟨#[c]⟩ n = ⟨cs.toArray⟩ ∧ cs.length ≤ 6 ∧ ∀ d ∈ cs, d = c := by
    have : n = 0 ∨ n = 1 ∨ n = 2 ∨ n = 3 ∨ n = 4 ∨ n = 5 ∨ n = 6 := by omega
    rcases this with rfl | rfl | rfl | rfl | rfl | rfl | rfl
    · exact ⟨[], rfl, by decide, by simp⟩
    · exact ⟨[c], rfl, by simp, by simp⟩
    · exact ⟨[c, c], rfl, by simp, by simp⟩
    · exact ⟨[c, c, c], rfl, by simp, by simp⟩
    · exact ⟨[c, c, c, c], rfl, by simp, by simp⟩
    · exact ⟨[c, c, c, c, c], rfl, by simp, by simp⟩
    · exact ⟨[c, c, c, c, c, c], rfl, by simp, by simp⟩
  obtain ⟨cs, e, hl, hd⟩ := key
  rw [e]
  refine ⟨fun d hd' => ?_, by show cs.toArray.size ≤ 6; rw [List.size_toArray]; exact hl⟩
  have : d ∈ cs := by simpa using hd'
  rw [hd d this]; exact hc
abbrev VRow := Str × Str × Int
def VarAt (H : Hp) (v : V) (p : VRow) : Prop := ∃ a, v = .ref a ∧ H a = some (.tup [.str p.1, .str p.2.1, .int p.2.2])
theorem VarAt.keep {H H' : Hp} (k : ∀ (b : Addr) (xs : List V), H b = some (.tup xs) → H' b = some (.tup xs)) {v : V} {p : VRow} (h : VarAt H v p) : VarAt H' v p := by
  obtain ⟨a, e, h⟩ := h; exact ⟨a, e, k _ _ h⟩
theorem VarAt.same {H H' : Hp} (s : Same H H') {v : V} {p : VRow} (h : VarAt H v p) : VarAt H' v p := h.keep fun _ _ z => s _ _ z
theorem Paired.app {α β : Type} {F : α → β → Prop} : ∀ {l1 m1 : List α} {l2 m2 : List β}, Paired F l1 l2 → Paired F m1 m2 → Paired F (l1 ++ m1) (l2 ++ m2)
  | _, _, _, _, .nil, b => b
  | _, _, _, _, .cons r t, b => .cons r (Paired.app t b)
theorem paired_at {α β : Type} {F : α → β → Prop} : ∀ {l1 : List α} {l2 : List β} {i : Nat} {x : α}, Paired F l1 l2 → l1[i]? = some x → ∃ y, l2[i]? = some y ∧ F x y
  | _, _, 0, _, .cons r _, h1 => by cases h1; exact ⟨_, rfl, r⟩
  | _, _, i + 1, _, .cons _ t, h1 => paired_at (i := i) t h1
def chrA (z : Str) (i : Int) : Str := ⟨#[z.cps[i.toNat]?.getD 0]⟩
theorem chr_at {z : Str} {i : Int} (h0 : 0 ≤ i) (h1 : i < (z.length : Int)) (hz : okC z) : ∃ c, z.cps[i.toNat]? = some c ∧ (⟨#[c]⟩ : Str) = chrA z i ∧ okC (chrA z i) ∧ c < 1114112 := by
  obtain ⟨c, hc⟩ := str_at h0 h1
  have e : (⟨#[c]⟩ : Str) = chrA z i := by unfold chrA; rw [hc]; rfl
  have o := okC_at hz hc
  exact ⟨c, hc, e, e ▸ o, o c (by simp)⟩
def titleM (stem : Str) (at' first : Int) (k : Nat) : Str := PySem.Txt.slice stem none (some at') ++ (chrA abc ((first + (k : Int)) % 26) ++ chrA "qxz" ((k : Int) / 26)) ++ PySem.Txt.slice stem (some at') none
def stemM (t : Tp) : Str := repS (chrA abc (nextM (nextM (nextM t 7).2 ((nextM t 7).1 + 1)).2 26).1) (nextM t 7).1
def titlesM (t : Tp) (many : Nat) : List Str × Tp :=
  ((List.range many).map (titleM (stemM t) (nextM (nextM t 7).2 ((nextM t 7).1 + 1)).1 (nextM (nextM (nextM (nextM t 7).2 ((nextM t 7).1 + 1)).2 26).2 26).1), (nextM (nextM (nextM (nextM t 7).2 ((nextM t 7).1 + 1)).2 26).2 26).2)
theorem titles_c (t : Tp) (many : Nat) : (titlesM t many).2.c = t.c + 4 := by
  unfold titlesM
  show (nextM _ _).2.c = _
  rw [next_c, next_c, next_c, next_c]
theorem titles_len (t : Tp) (many : Nat) : (titlesM t many).1.length = many := by
  unfold titlesM
  show (List.map _ _).length = _
  rw [List.length_map, List.length_range]
theorem stem_ok (t : Tp) : okC (stemM t) ∧ (stemM t).length ≤ 6 := by
  have b1 := next_bd t (size := 7) (by decide)
  have b3 := next_bd (nextM (nextM t 7).2 ((nextM t 7).1 + 1)).2 (size := 26) (by decide)
  obtain ⟨c, hc, e, _, hc4⟩ := chr_at (z := abc) b3.1 (by rw [abc_len]; exact b3.2) okC_abc
  unfold stemM
  rw [← e]
  exact rep_one (c := c) (n := (nextM t 7).1) b1.1 (by omega) hc4
theorem title_ok {stem : Str} (h : okC stem) (at' first : Int) {k : Nat} (hk : k < 78) : PyData.strOk (titleM stem at' first k) = true := by
  obtain ⟨_, _, _, o1, _⟩ := chr_at (z := abc) (i := (first + (k : Int)) % 26) (Int.emod_nonneg _ (by decide)) (by rw [abc_len]; exact Int.emod_lt_of_pos _ (by decide)) okC_abc
  obtain ⟨_, _, _, o2, _⟩ := chr_at (z := "qxz") (i := (k : Int) / 26) (by omega) (by rw [qxz_len]; omega) okC_qxz
  exact ok_of (okC_app (okC_app (okC_slice h _ _) (okC_app o1 o2)) (okC_slice h _ _))
theorem titles_ok (t : Tp) {many : Nat} (h : many ≤ 78) : ∀ x ∈ (titlesM t many).1, PyData.strOk x = true := by
  intro x hx
  unfold titlesM at hx
  obtain ⟨k, hk, rfl⟩ := List.mem_map.mp hx
  exact title_ok (stem_ok t).1 _ _ (by rw [List.mem_range] at hk; omega)
def sp_titles : Sp := fun vs H Q _ => ∃ (a : Addr) (t : Tp) (many : Nat), vs = [.ref a, .int (many : Int)] ∧ TapIs H a t ∧ t.c + 4 ≤ cMax ∧ many ≤ 78 ∧ ∀ (r : Addr) (H' : Hp), H r = none → Kl a H H' → TapIs H' a (titlesM t many).2 → H' r = some (.lst ((titlesM t many).1.map V.str)) → Q (.ref r) H'
section
variable {P : Program} {w : World} {K : PySem.W.Frag} {mg : Str → Option Value} {base : Heap}
theorem z41 : FnScope ["_law_tap_here", "_law_many", "_law_letters", "_law_size", "_law_at", "_law_stem", "_law_first_here", "_law_found", "_law_k", "_law_sign"] ["_law_tap_here", "_law_many"] (defScope s_law_titles) := ⟨rfl, rfl, rfl, by decide +kernel, rfl, by decide +kernel, by decide +kernel⟩
theorem ok_law_titles {f f1 f2 : Addr} {fd d1 d2 : FuncData} (F : Fun K "_law_titles" "_law_titles" s_law_titles f fd) (T : Bt mg) (z10 : Q0 K mg f1 d1) (z0 : Q1 K mg f2 d2) : FnOk P w K mg base CX0 3 f fd ["_law_tap_here", "_law_many"] sp_titles := by
  have z19 := ok_law_next (P := P) (w := w) (mg := mg) (base := base) z0.F z10
  refine F.ok z41 (fun vs H Q E h => ?_) (fun cdv A outer s H vs Q E hr h => ?_)
  · obtain ⟨a, t, many, rfl, _⟩ := h; rfl
  · obtain ⟨a, t, many, rfl, ta, hc, hm, q⟩ := h
    have hs : sizeLine = 16777216 := sizeLine_eq
    have cm : cMax = 90000000000000 := rfl
    have q' := q
    have so := stem_ok t
    unfold titlesM at q
    unfold stemM at q so
    have b1 := next_bd t (size := 7) (by decide)
    have c1 := next_c t 7
    refine ⟨_, (pss_cons (ps_set (i := 2) z41.nd rfl (Or.inl rfl) pe_str)
      (pss_cons (ps_set (i := 3) z41.nd rfl (Or.inl rfl) (pe_call z19 (hr.mono (by decide)) rfl z0.m z0.F.kp z0.b .nil pass0 (pa_consN (pv 0) (pa_consN pe_int pa_nil))))
      (pss_cons (ps_set (i := 4) z41.nd rfl (Or.inl rfl) (pe_call z19 (hr.mono (by decide)) rfl z0.m z0.F.kp z0.b .nil pass0 (pa_consN (pv 0) (pa_consN (pe_op op_add (pv 3) pe_int) pa_nil))))
      (pss_cons (ps_set (i := 5) z41.nd rfl (Or.inl rfl) (pe_op op_rep_str (pe_item_str (pv 2) (pe_call z19 (hr.mono (by decide)) rfl z0.m z0.F.kp z0.b .nil pass0 (pa_consN (pv 0) (pa_consN pe_int pa_nil))) (fun _ _ => rfl)) (pv 3)))
      (pss_cons (ps_set (i := 6) z41.nd rfl (Or.inl rfl) (pe_call z19 (hr.mono (by decide)) rfl z0.m z0.F.kp z0.b .nil pass0 (pa_consN (pv 0) (pa_consN pe_int pa_nil))))
      (pss_cons (ps_set (i := 7) z41.nd rfl (Or.inl rfl) (pe_lst pa_nil))
      (pss_cons (ps_for PassesOwn.never rfl (pi_range1 rfl T.b_range (pa_consN (pv 1) pa_nil)) (pg_name (i := 8) z41.nd rfl (Or.inl rfl))
        (pss_cons (ps_set (i := 9) z41.nd rfl (Or.inl rfl) (pe_op op_add_str (pe_item_str (pv 2) (pe_op op_mod (pe_op op_add (pv 6) (pv 8)) pe_int) (fun _ _ => rfl)) (pe_item_str pe_str (pe_op op_fdiv (pv 8) pe_int) (fun _ _ => rfl))))
        (pss_one (ps_expr (pe_bm PySem.F.plainAttrs_list PySem.F.slot_list_append PySem.F.type_list_append mt_append (pv 7) (pa_consN (pe_op op_add_str (pe_op op_add_str (pe_slice sl_str (pv 5) po_none (po_some (pv 4))) (pv 9)) (pe_slice sl_str (pv 5) (po_some (pv 4)) po_none)) pa_nil))))))
      (pss_one (ps_ret (pv 7)))))))))), ?_⟩
    refine ⟨_, rfl, a, t, 7, rfl, ta, by omega, by decide, by decide, fun H1 k1 t1 => ?_⟩
    obtain ⟨sz, u1, e1⟩ : ∃ v t', nextM t 7 = (v, t') := ⟨_, _, rfl⟩
    rw [e1] at q so b1 c1 t1 ⊢
    have b1 : 0 ≤ sz ∧ sz < 7 := b1
    have c1 : u1.c = t.c + 1 := c1
    have b2 := next_bd u1 (size := sz + 1) (by omega)
    have c2 := next_c u1 (sz + 1)
    refine ⟨_, rfl, _, rfl, _, _, rfl, rfl, a, u1, _, rfl, t1, by omega, by omega, by omega, fun H2 k2 t2 => ?_⟩
    obtain ⟨at', u2, e2⟩ : ∃ v t', nextM u1 (sz + 1) = (v, t') := ⟨_, _, rfl⟩
    have q : ∀ (r : Addr) (H' : Hp), H r = none → Kl a H H' → TapIs H' a (nextM (nextM (nextM u1 (sz + 1)).2 26).2 26).2 → H' r = some (.lst (((List.range many).map (titleM (repS (chrA abc (nextM (nextM u1 (sz + 1)).2 26).1) sz) (nextM u1 (sz + 1)).1 (nextM (nextM (nextM u1 (sz + 1)).2 26).2 26).1)).map V.str)) → Q (.ref r) H' := q
    have so : okC (repS (chrA abc (nextM (nextM u1 (sz + 1)).2 26).1) sz) ∧ (repS (chrA abc (nextM (nextM u1 (sz + 1)).2 26).1) sz).length ≤ 6 := so
    rw [e2] at q so b2 c2 t2 ⊢
    have b2 : 0 ≤ at' ∧ at' < sz + 1 := b2
    have c2 : u2.c = u1.c + 1 := c2
    have b3 := next_bd u2 (size := 26) (by decide)
    have c3 := next_c u2 26
    refine ⟨_, rfl, _, rfl, a, u2, 26, rfl, t2, by omega, by decide, by decide, fun H3 k3 t3 => ?_⟩
    obtain ⟨li, u3, e3⟩ : ∃ v t', nextM u2 26 = (v, t') := ⟨_, _, rfl⟩
    have q : ∀ (r : Addr) (H' : Hp), H r = none → Kl a H H' → TapIs H' a (nextM (nextM u2 26).2 26).2 → H' r = some (.lst (((List.range many).map (titleM (repS (chrA abc (nextM u2 26).1) sz) at' (nextM (nextM u2 26).2 26).1)).map V.str)) → Q (.ref r) H' := q
    have so : okC (repS (chrA abc (nextM u2 26).1) sz) ∧ (repS (chrA abc (nextM u2 26).1) sz).length ≤ 6 := so
    rw [e3] at q so b3 c3 t3 ⊢
    have b3 : 0 ≤ li ∧ li < 26 := b3
    have c3 : u3.c = u2.c + 1 := c3
    obtain ⟨ch, hch, ech, och, _⟩ := chr_at (z := abc) b3.1 (by rw [abc_len]; exact b3.2) okC_abc
    refine ⟨abc, li, ch, rfl, rfl, b3.1, by omega, by rw [abc_len]; omega, hch, _, rfl, _, _, rfl, rfl, by omega, by omega, by rw [one_len]; omega, ?_⟩
    rw [ech]
    have q : ∀ (r : Addr) (H' : Hp), H r = none → Kl a H H' → TapIs H' a (nextM u3 26).2 → H' r = some (.lst (((List.range many).map (titleM (repS (chrA abc li) sz) at' (nextM u3 26).1)).map V.str)) → Q (.ref r) H' := q
    have so : okC (repS (chrA abc li) sz) ∧ (repS (chrA abc li) sz).length ≤ 6 := so
    obtain ⟨stem, hst⟩ : ∃ z, repS (chrA abc li) sz = z := ⟨_, rfl⟩
    rw [hst] at q so ⊢
    obtain ⟨os, ls⟩ := so
    refine ⟨_, rfl, a, u3, 26, rfl, t3, by omega, by decide, by decide, fun H4 k4 t4 => ?_⟩
    obtain ⟨fi, u4, e4⟩ : ∃ v t', nextM u3 26 = (v, t') := ⟨_, _, rfl⟩
    rw [e4] at q t4 ⊢
    have q : ∀ (r : Addr) (H' : Hp), H r = none → Kl a H H' → TapIs H' a u4 → H' r = some (.lst (((List.range many).map (titleM stem at' fi)).map V.str)) → Q (.ref r) H' := q
    have t4 : TapIs H4 a u4 := t4
    have k04 := ((k1.trans k2).trans k3).trans k4
    refine ⟨Nat.zero_le _, fun r hr0 => ?_⟩
    have y5 := Same.put (o := .lst []) hr0
    have er : upd H4 r (.lst []) r = some (.lst []) := upd_same
    generalize upd H4 r (.lst []) = H5 at y5 er ⊢
    have hHr : H r = none := by
      cases e : H r with
      | none => rfl
      | some o =>
        by_cases hra : r = a
        · rw [hra, t4] at hr0; cases hr0
        · rw [k04 _ _ e hra] at hr0; cases hr0
    have ra : r ≠ a := fun z => by rw [z, t4] at hr0; cases hr0
    refine ⟨_, rfl, _, rfl, by omega, by omega, for_range (lo := 0) (n := ((many : Nat) : Int).toNat) (fun i σ H6 => ∃ (v8 v9 : Option V), σ = [some (.ref a), some (.int (many : Int)), some (.str abc), some (.int sz), some (.int at'), some (.str stem), some (.int fi), some (.ref r), v8, v9] ∧ Kl r H5 H6 ∧ H6 r = some (.lst (((List.range i).map (titleM stem at' fi)).map V.str)))
      ⟨_, _, rfl, Kl.of (Same.refl _), er⟩ ?_ ?_⟩
    · rintro i σ H6 hi ⟨v8, v9, rfl, k6, e6⟩
      rw [Int.toNat_natCast] at hi
      rw [Int.zero_add]
      obtain ⟨c1', hc1, ec1, oc1, _⟩ := chr_at (z := abc) (i := (fi + (i : Int)) % 26) (Int.emod_nonneg _ (by decide)) (by rw [abc_len]; exact Int.emod_lt_of_pos _ (by decide)) okC_abc
      obtain ⟨c2', hc2, ec2, oc2, _⟩ := chr_at (z := "qxz") (i := (i : Int) / 26) (by omega) (by rw [qxz_len]; omega) okC_qxz
      have m0 := Int.emod_nonneg (fi + (i : Int)) (b := 26) (by decide)
      have m1 := Int.emod_lt_of_pos (fi + (i : Int)) (b := 26) (by decide)
      refine ⟨_, rfl, _, rfl, _, rfl, _, _, rfl, rfl, _, _, rfl, rfl, (by show (0 : Int) < 26; decide), abc, _, c1', rfl, rfl, m0, by omega, by rw [abc_len]; omega, hc1, _, rfl, _, _, rfl, rfl, ⟨by decide, by decide⟩, "qxz", _, c2', rfl, rfl, by omega, by omega, by rw [qxz_len]; omega, hc2, _, _, rfl, rfl, by rw [one_len, one_len]; omega, ?_⟩
      rw [ec1, ec2]
      have lsg : (chrA abc ((fi + (i : Int)) % 26) ++ chrA "qxz" ((i : Int) / 26)).length = 2 := by rw [← ec1, ← ec2, app_len, one_len, one_len]
      have htt : titleM stem at' fi i = PySem.Txt.slice stem none (some at') ++ (chrA abc ((fi + (i : Int)) % 26) ++ chrA "qxz" ((i : Int) / 26)) ++ PySem.Txt.slice stem (some at') none := rfl
      generalize chrA abc ((fi + (i : Int)) % 26) ++ chrA "qxz" ((i : Int) / 26) = sg at lsg htt ⊢
      have p1 := PySem.Txt.slice_le stem none (some at')
      have p2 := PySem.Txt.slice_le stem (some at') none
      refine ⟨_, rfl, .inl ⟨rfl, _, SqL.of e6⟩, _, rfl, _, rfl, _, rfl, stem, rfl, by omega, _, rfl, _, _, rfl, rfl, by omega, _, rfl, _, rfl, _, rfl, stem, rfl, by omega, _, _, rfl, rfl, by rw [app_len]; omega, r, _, _, rfl, rfl, e6, by rw [List.length_map, List.length_map, List.length_range]; omega, ?_⟩
      refine ⟨_, _, rfl, k6.trans Kl.one, ?_⟩
      rw [upd_same, List.range_succ, List.map_append, List.map_append, ← htt]; rfl
    · rintro σ H6 ⟨v8, v9, rfl, k6, e6⟩
      rw [Int.toNat_natCast] at e6
      have k06 : Kl a H H6 := fun b o e hb => k6 _ _ (y5 _ _ (k04 _ _ e hb)) (ne_of_none e hHr)
      exact ⟨_, rfl, q r H6 hHr k06 (k6 _ _ (y5 _ _ t4) ra.symm) e6⟩
end
end K45

set_option Elab.async false
set_option linter.all false
set_option maxRecDepth 100000
set_option maxHeartbeats 4000000
namespace K45
open PySem L2
def kinds3 : List Str := ["num", "flag", "list"]
def varStep (s : List VRow × Tp) (name : Str) : List VRow × Tp :=
  if kinds3.getD (nextM s.2 3).1.toNat "" = "list" then (s.1 ++ [(kinds3.getD (nextM s.2 3).1.toNat "", name, ([1, 2, 5, 99] : List Int).getD (nextM (nextM s.2 3).2 4).1.toNat 0)], (nextM (nextM s.2 3).2 4).2)
  else (s.1 ++ [(kinds3.getD (nextM s.2 3).1.toNat "", name, 1)], (nextM s.2 3).2)
def varsM (t : Tp) (most : Int) : List VRow × Tp :=
  (titlesM (nextM t most).2 (1 + (nextM t most).1).toNat).1.foldl varStep ([], (titlesM (nextM t most).2 (1 + (nextM t most).1).toNat).2)
theorem fold_take {α β : Type} (f : β → α → β) (b : β) {l : List α} {i : Nat} {x : α} (h : l[i]? = some x) : (l.take (i + 1)).foldl f b = f ((l.take i).foldl f b) x := by
  rw [List.take_add_one, h, List.foldl_append]; rfl
theorem varStep_c (s : List VRow × Tp) (x : Str) : (varStep s x).2.c ≤ s.2.c + 2 ∧ (varStep s x).1.length = s.1.length + 1 := by
  unfold varStep
  split
  · exact ⟨by show (nextM _ _).2.c ≤ _; rw [next_c, next_c]; omega, by show (_ ++ [_]).length = _; rw [List.length_append]; rfl⟩
  · exact ⟨by show (nextM _ _).2.c ≤ _; rw [next_c]; omega, by show (_ ++ [_]).length = _; rw [List.length_append]; rfl⟩
theorem varFold_c : ∀ (l : List Str) (s : List VRow × Tp), (l.foldl varStep s).2.c ≤ s.2.c + 2 * l.length ∧ (l.foldl varStep s).1.length = s.1.length + l.length
  | [], s => ⟨Nat.le_refl _, rfl⟩
  | x :: l, s => by
    have h1 := varStep_c s x
    have h2 := varFold_c l (varStep s x)
    rw [List.foldl_cons, List.length_cons]
    omega
theorem kind_ok {i : Int} (h0 : 0 ≤ i) (h1 : i < 3) : kinds3.getD i.toNat "" ∈ kinds3 ∧ atI [V.str "num", V.str "flag", V.str "list"] i = some (.str (kinds3.getD i.toNat "")) := by
  have : i = 0 ∨ i = 1 ∨ i = 2 := by omega
  rcases this with rfl | rfl | rfl <;> exact ⟨by decide +kernel, rfl⟩
theorem size_at {i : Int} (h0 : 0 ≤ i) (h1 : i < 4) : atI [V.int 1, V.int 2, V.int 5, V.int 99] i = some (.int (([1, 2, 5, 99] : List Int).getD i.toNat 0)) := by
  have : i = 0 ∨ i = 1 ∨ i = 2 ∨ i = 3 := by omega
  rcases this with rfl | rfl | rfl | rfl <;> rfl
def VarsOk (vs : List VRow) : Prop := ∀ p ∈ vs, p.1 ∈ kinds3 ∧ PyData.strOk p.2.1 = true
theorem varStep_ok {s : List VRow × Tp} {x : Str} (h : VarsOk s.1) (hx : PyData.strOk x = true) : VarsOk (varStep s x).1 := by
  have hk := (kind_ok (next_bd s.2 (size := 3) (by decide)).1 (next_bd s.2 (size := 3) (by decide)).2).1
  unfold varStep
  split
  · intro p hp
    rcases List.mem_append.mp hp with z | z
    · exact h p z
    · rw [List.mem_singleton.mp z]; exact ⟨hk, hx⟩
  · intro p hp
    rcases List.mem_append.mp hp with z | z
    · exact h p z
    · rw [List.mem_singleton.mp z]; exact ⟨hk, hx⟩
theorem varFold_ok : ∀ {l : List Str} {s : List VRow × Tp}, VarsOk s.1 → (∀ x ∈ l, PyData.strOk x = true) → VarsOk (l.foldl varStep s).1
  | [], _, h, _ => h
  | x :: l, s, h, hl => varFold_ok (l := l) (varStep_ok h (hl x List.mem_cons_self)) fun y hy => hl y (List.mem_cons_of_mem _ hy)
theorem vars_facts (t : Tp) {most : Int} (h0 : 0 < most) (h40 : most ≤ 40) : (varsM t most).2.c ≤ t.c + 85 ∧ 0 < (varsM t most).1.length ∧ (varsM t most).1.length ≤ 40 ∧ VarsOk (varsM t most).1 := by
  have b := next_bd t h0
  have hl := titles_len (nextM t most).2 (1 + (nextM t most).1).toNat
  have hc := titles_c (nextM t most).2 (1 + (nextM t most).1).toNat
  have ho := titles_ok (nextM t most).2 (many := (1 + (nextM t most).1).toNat) (by omega)
  have f := varFold_c (titlesM (nextM t most).2 (1 + (nextM t most).1).toNat).1 ([], (titlesM (nextM t most).2 (1 + (nextM t most).1).toNat).2)
  have g := varFold_ok (s := ([], (titlesM (nextM t most).2 (1 + (nextM t most).1).toNat).2)) (fun p h => by cases h) ho
  unfold varsM
  have cn := next_c t most
  have z : ([] : List VRow).length = 0 := rfl
  refine ⟨?_, ?_, ?_, g⟩
  · have f1 : _ ≤ (titlesM (nextM t most).2 (1 + (nextM t most).1).toNat).2.c + 2 * _ := f.1
    omega
  · have f2 : _ = ([] : List VRow).length + _ := f.2
    omega
  · have f2 : _ = ([] : List VRow).length + _ := f.2
    omega
theorem vars_len (t : Tp) {most : Int} (h0 : 0 < most) : ((varsM t most).1.length : Int) ≤ most := by
  have b := next_bd t h0
  have hl := titles_len (nextM t most).2 (1 + (nextM t most).1).toNat
  have f := varFold_c (titlesM (nextM t most).2 (1 + (nextM t most).1).toNat).1 ([], (titlesM (nextM t most).2 (1 + (nextM t most).1).toNat).2)
  unfold varsM
  have f2 : _ = ([] : List VRow).length + _ := f.2
  have z : ([] : List VRow).length = 0 := rfl
  omega
def sp_vars : Sp := fun vs H Q _ => ∃ (a : Addr) (t : Tp) (most : Int), vs = [.ref a, .int most] ∧ TapIs H a t ∧ t.c + 100 ≤ cMax ∧ 0 < most ∧ most ≤ 40 ∧ ∀ (r : Addr) (xs : List V) (H' : Hp), H r = none → r ≠ a → Kl a H H' → TapIs H' a (varsM t most).2 → H' r = some (.lst xs) → Paired (VarAt H') xs (varsM t most).1 → Q (.ref r) H'
section
variable {P : Program} {w : World} {K : PySem.W.Frag} {mg : Str → Option Value} {base : Heap}
theorem z55 : FnScope ["_law_tap_here", "_law_most", "_law_many", "_law_built", "_law_name", "_law_kind_here", "_law_size"] ["_law_tap_here", "_law_most"] (defScope s_law_vars) := ⟨rfl, rfl, rfl, by decide +kernel, rfl, by decide +kernel, by decide +kernel⟩
theorem ok_law_vars {f f1 f2 f3 : Addr} {fd d1 d2 d3 : FuncData} (F : Fun K "_law_vars" "_law_vars" s_law_vars f fd) (T : Bt mg) (z10 : Q0 K mg f1 d1) (z0 : Q1 K mg f2 d2) (z30 : Q4 K mg f3 d3) : FnOk P w K mg base CX0 4 f fd ["_law_tap_here", "_law_most"] sp_vars := by
  have z19 := ok_law_next (P := P) (w := w) (mg := mg) (base := base) z0.F z10
  have G_law_titles := ok_law_titles (P := P) (w := w) (base := base) z30.F T z10 z0
  refine F.ok z55 (fun vs H Q E h => ?_) (fun cdv A outer s H vs Q E hr h => ?_)
  · obtain ⟨a, t, most, rfl, _⟩ := h; rfl
  · obtain ⟨a, t, most, rfl, ta, hc, hm0, hm40, q⟩ := h
    have hs : sizeLine = 16777216 := sizeLine_eq
    have cm : cMax = 90000000000000 := rfl
    unfold varsM at q
    have b1 := next_bd t hm0
    have c1 := next_c t most
    refine ⟨_, (pss_cons (ps_set (i := 2) z55.nd rfl (Or.inl rfl) (pe_op op_add pe_int (pe_call z19 (hr.mono (by decide)) rfl z0.m z0.F.kp z0.b .nil pass0 (pa_consN (pv 0) (pa_consN (pv 1) pa_nil)))))
      (pss_cons (ps_set (i := 3) z55.nd rfl (Or.inl rfl) (pe_lst pa_nil))
      (pss_cons (ps_for PassesOwn.never rfl (pi_list (pe_call G_law_titles (hr.mono (by decide)) rfl z30.m z30.F.kp z30.b .nil pass0 (pa_consN (pv 0) (pa_consN (pv 2) pa_nil)))) (pg_name (i := 4) z55.nd rfl (Or.inl rfl))
        (pss_cons (ps_set (i := 5) z55.nd rfl (Or.inl rfl) (pe_ix ix_list (pe_lst (pa_consN pe_str (pa_consN pe_str (pa_consN pe_str pa_nil)))) (pe_call z19 (hr.mono (by decide)) rfl z0.m z0.F.kp z0.b .nil pass0 (pa_consN (pv 0) (pa_consN pe_int pa_nil))) (fun _ _ => rfl)))
        (pss_cons (ps_set (i := 6) z55.nd rfl (Or.inl rfl) pe_int)
        (pss_cons (ps_if (pt_cmpR op_eq (pv 5) pe_str (nomark _))
          (pss_one (ps_set (i := 6) z55.nd rfl (Or.inl rfl) (pe_ix ix_list (pe_lst (pa_consN pe_int (pa_consN pe_int (pa_consN pe_int (pa_consN pe_int pa_nil))))) (pe_call z19 (hr.mono (by decide)) rfl z0.m z0.F.kp z0.b .nil pass0 (pa_consN (pv 0) (pa_consN pe_int pa_nil))) (fun _ _ => rfl))))
          pss_nil)
        (pss_one (ps_expr (pe_bm PySem.F.plainAttrs_list PySem.F.slot_list_append PySem.F.type_list_append mt_append (pv 3) (pa_consN (pe_tup (pa_consN (pv 5) (pa_consN (pv 4) (pa_consN (pv 6) pa_nil)))) pa_nil))))))))
      (pss_one (ps_ret (pv 3)))))), ?_⟩
    refine ⟨_, rfl, _, rfl, a, t, most, rfl, ta, by omega, by omega, by omega, fun H1 k1 t1 => ⟨_, _, rfl, rfl, ?_⟩⟩
    obtain ⟨m, u1, e1⟩ : ∃ v t', nextM t most = (v, t') := ⟨_, _, rfl⟩
    rw [e1] at q b1 c1 t1 ⊢
    have b1 : 0 ≤ m ∧ m < most := b1
    have c1 : u1.c = t.c + 1 := c1
    obtain ⟨mn, hmn⟩ : ∃ n : Nat, (1 + m).toNat = n := ⟨_, rfl⟩
    have emn : (1 + m : Int) = (mn : Int) := by omega
    have q : ∀ (r : Addr) (xs : List V) (H' : Hp), H r = none → r ≠ a → Kl a H H' → TapIs H' a ((titlesM u1 (1 + m).toNat).1.foldl varStep ([], (titlesM u1 (1 + m).toNat).2)).2 → H' r = some (.lst xs) → Paired (VarAt H') xs ((titlesM u1 (1 + m).toNat).1.foldl varStep ([], (titlesM u1 (1 + m).toNat).2)).1 → Q (.ref r) H' := q
    rw [hmn] at q
    have e1m : (fun i j => V.int (i + j)) 1 m = V.int (mn : Int) := congrArg V.int emn
    rw [show (fun i j => V.int (i + j)) 1 ((m, u1) : Int × Tp).1 = V.int (mn : Int) from e1m]
    refine ⟨Nat.zero_le _, fun r hr0 => ?_⟩
    have y2 := Same.put (o := .lst []) hr0
    have er : upd H1 r (.lst []) r = some (.lst []) := upd_same
    generalize upd H1 r (.lst []) = H2 at y2 er ⊢
    have t1 : TapIs H1 a u1 := t1
    have ra : r ≠ a := fun z => by rw [z, t1] at hr0; cases hr0
    have hHr : H r = none := by
      cases e : H r with
      | none => rfl
      | some o => rw [k1 _ _ e ra] at hr0; cases hr0
    refine ⟨_, rfl, _, rfl, a, u1, mn, rfl, t1.same y2, by omega, by omega, fun tl H3 htl k3 t3 etl => ?_⟩
    have hlen := titles_len u1 mn
    have htc := titles_c u1 mn
    obtain ⟨ss, u2, e2⟩ : ∃ v t', titlesM u1 mn = (v, t') := ⟨_, _, rfl⟩
    rw [e2] at q t3 etl hlen htc
    have t3 : TapIs H3 a u2 := t3
    have etl : H3 tl = some (.lst (ss.map V.str)) := etl
    have hlen : ss.length = mn := hlen
    have htc : u2.c = u1.c + 4 := htc
    have q : ∀ (r : Addr) (xs : List V) (H' : Hp), H r = none → r ≠ a → Kl a H H' → TapIs H' a (ss.foldl varStep ([], u2)).2 → H' r = some (.lst xs) → Paired (VarAt H') xs (ss.foldl varStep ([], u2)).1 → Q (.ref r) H' := q
    have er3 : H3 r = some (.lst []) := k3 _ _ er ra
    have tlr : tl ≠ r := fun z => by rw [z, er] at htl; cases htl
    have tla : tl ≠ a := fun z => by rw [z, t1.same y2] at htl; cases htl
    refine ⟨tl, rfl, ⟨_, SqL.of etl⟩, for_list (xs := ss.map V.str) (fun i σ H4 => ∃ (v4 v5 v6 : Option V) (xs : List V), σ = [some (.ref a), some (.int most), some (.int (mn : Int)), some (.ref r), v4, v5, v6] ∧ Kl a H H4 ∧ TapIs H4 a ((ss.take i).foldl varStep ([], u2)).2 ∧ H4 tl = some (.lst (ss.map V.str)) ∧ H4 r = some (.lst xs) ∧ Paired (VarAt H4) xs ((ss.take i).foldl varStep ([], u2)).1)
      ⟨_, _, _, [], rfl, fun b o e hb => k3 _ _ (y2 _ _ (k1 _ _ e hb)) hb, t3, etl, er3, .nil⟩ ?_ ?_ ?_⟩
    · rintro i σ H4 _ ⟨v4, v5, v6, xs, rfl, k4, t4, etl4, er4, hx⟩
      exact SqL.of etl4
    · rintro i x σ H4 hx0 ⟨v4, v5, v6, xs, rfl, k4, t4, etl4, er4, hx⟩
      have hi : i < ss.length := by have := (List.getElem?_eq_some_iff.mp hx0).1; rwa [List.length_map] at this
      rw [List.getElem?_map, List.getElem?_eq_getElem hi] at hx0
      cases hx0
      obtain ⟨nm, hnm⟩ : ∃ z, ss[i] = z := ⟨_, rfl⟩
      have hnx := fold_take varStep ([], u2) (List.getElem?_eq_getElem hi)
      rw [hnm] at hnx ⊢
      have fc := varFold_c (ss.take i) ([], u2)
      rw [List.length_take] at fc
      have lx : xs.length ≤ 40 := by
        have := hx.length
        have f2 : _ = ([] : List VRow).length + _ := fc.2
        have z : ([] : List VRow).length = 0 := rfl
        omega
      rw [hnx]
      obtain ⟨rows, u4, e4⟩ : ∃ v t', (ss.take i).foldl varStep ([], u2) = (v, t') := ⟨_, _, rfl⟩
      rw [e4] at t4 hx fc ⊢
      have t4 : TapIs H4 a u4 := t4
      have hx : Paired (VarAt H4) xs rows := hx
      have fc4 : u4.c ≤ u2.c + 2 * min i ss.length := fc.1
      unfold varStep
      refine ⟨(by show 3 ≤ sizeLine; omega), fun L hL => ?_⟩
      have yL := Same.put (o := .lst [V.str "num", V.str "flag", V.str "list"]) hL
      have eL : upd H4 L (.lst [V.str "num", V.str "flag", V.str "list"]) L = some (.lst [V.str "num", V.str "flag", V.str "list"]) := upd_same
      generalize upd H4 L (.lst [V.str "num", V.str "flag", V.str "list"]) = H5 at yL eL ⊢
      have La : L ≠ a := fun z => by rw [z, t4] at hL; cases hL
      have bk := next_bd u4 (size := 3) (by decide)
      have ck := next_c u4 3
      refine ⟨_, rfl, a, u4, 3, rfl, t4.same yL, by omega, by decide, by decide, fun H6 k6 t6 => ?_⟩
      obtain ⟨_, ekd⟩ := kind_ok bk.1 bk.2
      refine ⟨L, _, _, _, rfl, rfl, SqL.of (k6 _ _ eL La), ekd, ?_⟩
      obtain ⟨v, u5, e5⟩ : ∃ v t', nextM u4 3 = (v, t') := ⟨_, _, rfl⟩
      rw [e5] at ck t6
      have t6 : TapIs H6 a u5 := t6
      have ck : u5.c = u4.c + 1 := ck
      show gName _ _ _ _ _
      simp only [e5]
      obtain ⟨kd, hkd⟩ : ∃ z, kinds3.getD v.toNat "" = z := ⟨_, rfl⟩
      simp only [hkd]
      have er6 : H6 r = some (.lst xs) := k6 _ _ (yL _ _ er4) ra
      -- the row is put at the end
      have fin : ∀ (n : Int) (H7 : Hp) (u7 : Tp) (w4 w5 w6 : Option V), Kl a H6 H7 → TapIs H7 a u7 → ∀ p, H7 p = none → ∃ (v4 v5 v6 : Option V) (xs' : List V), [some (V.ref a), some (V.int most), some (V.int (mn : Int)), some (V.ref r), w4, w5, w6] = [some (.ref a), some (.int most), some (.int (mn : Int)), some (.ref r), v4, v5, v6] ∧ Kl a H (upd (upd H7 p (.tup [.str kd, .str nm, .int n])) r (.lst (xs ++ [V.ref p]))) ∧ TapIs (upd (upd H7 p (.tup [.str kd, .str nm, .int n])) r (.lst (xs ++ [V.ref p]))) a u7 ∧ upd (upd H7 p (.tup [.str kd, .str nm, .int n])) r (.lst (xs ++ [V.ref p])) tl = some (.lst (ss.map V.str)) ∧ upd (upd H7 p (.tup [.str kd, .str nm, .int n])) r (.lst (xs ++ [V.ref p])) r = some (.lst xs') ∧ Paired (VarAt (upd (upd H7 p (.tup [.str kd, .str nm, .int n])) r (.lst (xs ++ [V.ref p])))) xs' (rows ++ [(kd, nm, n)]) := fun n H7 u7 w4 w5 w6 k7 t7 p hp => by
        have k47 : Kl a H4 H7 := ((Kl.of (l := a) yL).trans k6).trans k7
        have er7 : H7 r = some (.lst xs) := k47 _ _ er4 ra
        have yt := Same.put (o := .tup [.str kd, .str nm, .int n]) hp
        have et : upd H7 p (.tup [.str kd, .str nm, .int n]) p = some (.tup [.str kd, .str nm, .int n]) := upd_same
        generalize upd H7 p (.tup [.str kd, .str nm, .int n]) = H8 at yt et ⊢
        have er8 := yt _ _ er7
        have kp : ∀ (b : Addr) (ys : List V), H8 b = some (.tup ys) → upd H8 r (.lst (xs ++ [V.ref p])) b = some (.tup ys) := fun b ys e => by rw [upd_ne (ne_of e er8 (by intro z; cases z))]; exact e
        refine ⟨_, _, _, xs ++ [.ref p], rfl, fun b o e hb => ?_, ?_, ?_, upd_same, ?_⟩
        · rw [upd_ne (ne_of_none e hHr)]
          exact yt _ _ (k47 _ _ (k4 _ _ e hb) hb)
        · show upd H8 r _ a = _
          rw [upd_ne ra.symm]; exact yt _ _ t7
        · rw [upd_ne tlr]; exact yt _ _ (k47 _ _ etl4 tla)
        · exact Paired.app (Paired.mapP hx fun _ _ z => ((z.keep (Kl.tup t4 k47)).same yt).keep kp) (.cons ⟨p, rfl, kp _ _ et⟩ .nil)
      refine ⟨_, rfl, rfl, _, rfl, ite2 (fun h => ?_) (fun h => ?_)⟩
      · have hk : kd = "list" := V.str.inj (of_decide_eq_true h)
        refine ⟨(by show 4 ≤ sizeLine; omega), fun L2 hL2 => ?_⟩
        have y7 := Same.put (o := .lst [V.int 1, V.int 2, V.int 5, V.int 99]) hL2
        have eL2 : upd H6 L2 (.lst [V.int 1, V.int 2, V.int 5, V.int 99]) L2 = some (.lst [V.int 1, V.int 2, V.int 5, V.int 99]) := upd_same
        generalize upd H6 L2 (.lst [V.int 1, V.int 2, V.int 5, V.int 99]) = H7 at y7 eL2 ⊢
        have L2a : L2 ≠ a := fun z => by rw [z, t6] at hL2; cases hL2
        have b4 := next_bd u5 (size := 4) (by decide)
        refine ⟨_, rfl, a, u5, 4, rfl, t6.same y7, by omega, by decide, by decide, fun H8 k8 t8 => ?_⟩
        refine ⟨L2, _, _, _, rfl, rfl, SqL.of (k8 _ _ eL2 L2a), size_at b4.1 b4.2, ?_⟩
        have k68 := (Kl.of (l := a) y7).trans k8
        refine ⟨_, rfl, .inl ⟨rfl, _, SqL.of (k68 _ _ er6 ra)⟩, _, rfl, _, rfl, _, rfl, (by show 3 ≤ sizeLine; omega), fun p hp => ⟨r, _, _, rfl, rfl, (Same.put hp) _ _ (k68 _ _ er6 ra), by omega, ?_⟩⟩
        rw [if_pos hk]
        exact fin _ H8 _ _ _ _ k68 t8 p hp
      · have hk : ¬ kd = "list" := fun z => h (decide_eq_true (congrArg V.str z))
        refine ⟨_, rfl, .inl ⟨rfl, _, SqL.of er6⟩, _, rfl, _, rfl, _, rfl, (by show 3 ≤ sizeLine; omega), fun p hp => ⟨r, _, _, rfl, rfl, (Same.put hp) _ _ er6, by omega, ?_⟩⟩
        rw [if_neg hk]
        exact fin 1 H6 u5 _ _ _ (Kl.of (Same.refl _)) t6 p hp
    · rintro σ H4 ⟨v4, v5, v6, xs, rfl, k4, t4, etl4, er4, hx⟩
      rw [List.length_map, List.take_of_length_le (Nat.le_refl _)] at t4 hx
      exact ⟨_, rfl, q r xs H4 hHr ra k4 t4 er4 hx⟩
end
end K45

set_option Elab.async false
set_option linter.all false
set_option maxRecDepth 100000
set_option maxHeartbeats 4000000
namespace K45
open PySem L2
def sp_of : Sp := fun vs H Q _ => ∃ (l : Addr) (k : Str) (xs : List V) (rows : List VRow), vs = [.ref l, .str k] ∧ H l = some (.lst xs) ∧ Paired (VarAt H) xs rows ∧ rows.length ≤ 9 ∧ ∀ (r : Addr) (ys : List V) (H' : Hp), Same H H' → H r = none → H' r = some (.lst ys) → Paired (VarAt H') ys (rows.filter fun p => decide (p.1 = k)) → Q (.ref r) H'
section
variable {P : Program} {w : World} {K : PySem.W.Frag} {mg : Str → Option Value} {base : Heap}
theorem sc_law_of : FnScope ["_law_told", "_law_kind_here"] ["_law_told", "_law_kind_here"] (defScope s_law_of) := ⟨rfl, rfl, rfl, by decide +kernel, rfl, by decide +kernel, by decide +kernel⟩
theorem ok_law_of {f : Addr} {fd : FuncData} (F : Fun K "_law_of" "_law_of" s_law_of f fd) (T : Bt mg) : FnOk P w K mg base CX0 1 f fd ["_law_told", "_law_kind_here"] sp_of := by
  refine F.ok sc_law_of (fun vs H Q E h => ?_) (fun cdv A outer s H vs Q E hr h => ?_)
  · obtain ⟨l, k, xs, rows, rfl, _⟩ := h; rfl
  · obtain ⟨l, k, xs, rows, rfl, el, hx, hl, q⟩ := h
    have hs : sizeLine = 16777216 := sizeLine_eq
    have lx : xs.length = rows.length := hx.length
    refine ⟨_, (pss_one (ps_ret (pe_compIf rfl (blk_of (sc0 := defScope s_law_of) (N0 := ["_law_told", "_law_kind_here"]) (N' := ["_law_one", "_law_kind_here"]) (own := 1) (fv := [1]) (by decide +kernel) rfl rfl) (pi_list (pv 0)) (fun _ _ _ _ => (pg_name (i := 0) (by show List.Nodup (["_law_one", "_law_kind_here"] : List Str); decide +kernel) rfl (Or.inl rfl))) (fun _ _ _ _ => (pt_cmpR op_eq (pe_ix (ix_tupK (K := K)) (pv 0) pe_int (fun _ _ => rfl)) (pv 1) (nomark _))) (fun _ _ _ _ => (pv 0))))), ?_⟩
    refine ⟨_, rfl, l, rfl, ⟨_, SqL.of el⟩, compIf_lst (xs := xs) (fvals := [some (.str k)]) (fun acc i H2 => H acc = none ∧ Same H H2 ∧ ∃ ys, H2 acc = some (.lst ys) ∧ ys.length ≤ i ∧ Paired (fun v p => VarAt H2 v p) ys ((rows.take i).filter fun p => decide (p.1 = k))) ?_ ?_ ?_ ?_⟩
    · rintro acc i H2 ⟨_, s2, _⟩
      exact SqL.of (s2 _ _ el)
    · intro acc hacc
      exact ⟨hacc, Same.put hacc, [], upd_same, Nat.zero_le _, .nil⟩
    · rintro acc i x H2 mm W hxi ⟨hacc, s2, ys, ea, hly, hy⟩ hW
      obtain ⟨p, hp, T0, rfl, eT⟩ := paired_at hx hxi
      have hi : i < xs.length := (List.getElem?_eq_some_iff.mp hxi).1
      have eT2 := s2 _ _ eT
      have htk : (rows.take (i + 1)).filter (fun p => decide (p.1 = k)) = (rows.take i).filter (fun p => decide (p.1 = k)) ++ (if p.1 = k then [p] else []) := by
        rw [List.take_add_one, hp, List.filter_append]
        congr 1
        show List.filter _ [p] = _
        by_cases h : p.1 = k
        · rw [List.filter_cons_of_pos (by simpa using h), if_pos h]; rfl
        · rw [List.filter_cons_of_neg (by simpa using h), if_neg h]; rfl
      refine ⟨_, rfl, T0, _, _, _, rfl, rfl, SqT.of eT2, rfl, _, rfl, rfl, _, rfl, ite2 (fun h => ?_) (fun h => ?_)⟩
      · have hk : p.1 = k := V.str.inj (of_decide_eq_true h)
        refine ⟨_, rfl, ys, ea, by omega, hW _ ⟨hacc, Kl.same s2 hacc Kl.one, ys ++ [.ref T0], upd_same, by rw [List.length_append]; show ys.length + 1 ≤ i + 1; omega, ?_⟩⟩
        rw [htk, if_pos hk]
        have kp : ∀ (b : Addr) (zs : List V), H2 b = some (.tup zs) → upd H2 acc (.lst (ys ++ [V.ref T0])) b = some (.tup zs) := fun b zs e => by rw [upd_ne (ne_of e ea (by intro z; cases z))]; exact e
        exact Paired.app (Paired.mapP hy fun _ _ z => z.keep kp) (.cons ⟨T0, rfl, kp _ _ eT2⟩ .nil)
      · have hk : ¬ p.1 = k := fun z => h (decide_eq_true (congrArg V.str z))
        refine hW _ ⟨hacc, s2, ys, ea, by omega, ?_⟩
        rw [htk, if_neg hk, List.append_nil]; exact hy
    · rintro acc H2 hacc ⟨_, s2, ys, ea, hly, hy⟩
      rw [lx, List.take_of_length_le (Nat.le_refl _)] at hy
      exact q acc ys H2 s2 hacc ea hy
end
end K45

set_option Elab.async false
set_option linter.all false
set_option maxRecDepth 100000
set_option maxHeartbeats 4000000
namespace K45
open PySem L2
def dVar (p : VRow) : PyData := .tuple [.str p.1, .str p.2.1, .int p.2.2]
theorem rep_vars (K : PySem.W.Frag) {H : Hp} : ∀ {xs : List V} {rows : List VRow}, Paired (VarAt H) xs rows → RepAll K H xs (rows.map dVar)
  | _, _, .nil => .nil
  | _, _, .cons ⟨a, e, h⟩ t => by
    subst e
    exact .cons (.tup (SqT.of h) (.cons (.str _) (.cons (.str _) (.cons (.int _) .nil)))) (rep_vars K t)
theorem ok_kinds : ∀ k ∈ kinds3, PyData.strOk k = true := by decide +kernel
theorem lay_vars : ∀ {rows : List VRow}, VarsOk rows → PyData.canLayAll0 (rows.map dVar) = true
  | [], _ => rfl
  | p :: r, h => by
    show ((PyData.strOk p.1 && (PyData.strOk p.2.1 && (true && true))) && PyData.canLayAll0 (r.map dVar)) = true
    have hp := h p List.mem_cons_self
    rw [lay_vars fun q hq => h q (List.mem_cons_of_mem _ hq), ok_kinds _ hp.1, hp.2]; rfl
theorem dep_vars : ∀ rows : List VRow, PyData.depthAll (rows.map dVar) ≤ 1
  | [] => Nat.zero_le _
  | p :: r => by
    show max (max 0 (max 0 (max 0 0)) + 1) (PyData.depthAll (r.map dVar)) ≤ 1
    have := dep_vars r; omega
theorem eqv_emptyV (rows : List VRow) : PyData.eqv (.list (rows.map dVar)) (.list []) = rows.isEmpty := by
  cases rows with
  | nil => rfl
  | cons p r => rfl
theorem VarsOk.filter {rows : List VRow} (h : VarsOk rows) (g : VRow → Bool) : VarsOk (rows.filter g) := fun p hp => h p (List.mem_filter.mp hp).1
theorem var_ixM {H : Hp} {ys : List V} {rows : List VRow} (h : Paired (VarAt H) ys rows) {i : Int} (h0 : 0 ≤ i) (h1 : i < (rows.length : Int)) : ∃ (T : Addr), rows.getD i.toNat ("", "", 0) ∈ rows ∧ atI ys i = some (.ref T) ∧ H T = some (.tup [.str (rows.getD i.toNat ("", "", 0)).1, .str (rows.getD i.toNat ("", "", 0)).2.1, .int (rows.getD i.toNat ("", "", 0)).2.2]) := by
  obtain ⟨j, rfl⟩ : ∃ j : Nat, i = (j : Int) := ⟨i.toNat, by omega⟩
  have hj : j < ys.length := by rw [h.length]; omega
  obtain ⟨p, hp, T, e, eT⟩ := paired_at h (List.getElem?_eq_getElem hj)
  have ep : rows.getD (j : Int).toNat ("", "", 0) = p := by rw [Int.toNat_natCast, List.getD_eq_getElem?_getD, hp]; rfl
  rw [ep]
  exact ⟨T, List.mem_of_getElem? hp, atI_nat (by rw [List.getElem?_eq_getElem hj, e]), eT⟩
def rowsK (rows : List VRow) (k : Str) : List VRow := rows.filter fun p => decide (p.1 = k)
def pickR (rs : List VRow) (t : Tp) : Str := (rs.getD (nextM t rs.length).1.toNat ("", "", 0)).2.1
def op3 (i : Int) : Str := ⟨#[("+-&" : Str).cps[i.toNat]?.getD 0]⟩
def op2 (i : Int) : Str := ⟨#[("<=" : Str).cps[i.toNat]?.getD 0]⟩
theorem op3_at {i : Int} (h0 : 0 ≤ i) (h1 : i < 3) : ∃ c : Nat, ("+-&" : Str).cps[i.toNat]? = some c ∧ (⟨#[c]⟩ : Str) = op3 i ∧ op3 i ∈ ops5 ∧ ¬ (op3 i = "<" ∨ op3 i = "=") := by
  have : i = 0 ∨ i = 1 ∨ i = 2 := by omega
  rcases this with rfl | rfl | rfl
  · exact ⟨43, by decide +kernel, by decide +kernel, by decide +kernel, by decide +kernel⟩
  · exact ⟨45, by decide +kernel, by decide +kernel, by decide +kernel, by decide +kernel⟩
  · exact ⟨38, by decide +kernel, by decide +kernel, by decide +kernel, by decide +kernel⟩
theorem op3_len : (("+-&" : Str).length : Nat) = 3 := by decide +kernel
theorem op2_at {i : Int} (h0 : 0 ≤ i) (h1 : i < 2) : ∃ c : Nat, ("<=" : Str).cps[i.toNat]? = some c ∧ (⟨#[c]⟩ : Str) = op2 i ∧ op2 i ∈ ops5 ∧ (op2 i = "<" ∨ op2 i = "=") := by
  have : i = 0 ∨ i = 1 := by omega
  rcases this with rfl | rfl
  · exact ⟨60, by decide +kernel, by decide +kernel, by decide +kernel, by decide +kernel⟩
  · exact ⟨61, by decide +kernel, by decide +kernel, by decide +kernel, by decide +kernel⟩
theorem op2_len : (("<=" : Str).length : Nat) = 2 := by decide +kernel
def nuB (rec : Tp → Ex × Tp) (rows : List VRow) (wy : Int) (t : Tp) : Ex × Tp :=
  if wy = 1 ∧ (rowsK rows "num").isEmpty = false then (.nam (pickR (rowsK rows "num") t), (nextM t (rowsK rows "num").length).2)
  else if wy = 2 ∧ (rowsK rows "list").isEmpty = false then (.pl (pickR (rowsK rows "list") t) (rec (nextM t (rowsK rows "list").length).2).1, (rec (nextM t (rowsK rows "list").length).2).2)
  else if wy < 3 then (.num (numberM t).1, (numberM t).2)
  else (.bin (op3 (wy - 3)) (rec t).1 (rec (rec t).2).1, (rec (rec t).2).2)
def numX (rows : List VRow) : Nat → Tp → Ex × Tp
  | 0, t => nuB (fun t => (.num 0, t)) rows ((nextM t 6).1 % 2) (nextM t 6).2
  | n + 1, t => nuB (numX rows n) rows (if 60 < (nextM t 6).2.c then (nextM t 6).1 % 2 else (nextM t 6).1) (nextM t 6).2
theorem nuB_c {rec : Tp → Ex × Tp} {rows : List VRow} {b : Nat} (hr : ∀ t, (rec t).2.c + 2 ≤ t.c + b) (hb : 5 ≤ b) (wy : Int) (t : Tp) : (nuB rec rows wy t).2.c + 3 ≤ t.c + 2 * b := by
  unfold nuB
  split
  · show (nextM t _).2.c + 3 ≤ _; rw [next_c]; omega
  split
  · have := hr (nextM t (rowsK rows "list").length).2; rw [next_c] at this; show (rec _).2.c + 3 ≤ _; omega
  split
  · have := number_c t; show (numberM t).2.c + 3 ≤ _; omega
  · have h1 := hr t
    have h2 := hr (rec t).2
    show (rec _).2.c + 3 ≤ _; omega
theorem nuB_c0 {rec : Tp → Ex × Tp} {rows : List VRow} {wy : Int} (h : wy < 2) (t : Tp) : (nuB rec rows wy t).2.c ≤ t.c + 2 := by
  unfold nuB
  split
  · show (nextM t _).2.c ≤ _; rw [next_c]; omega
  split
  · omega
  split
  · exact number_c t
  · omega
theorem num_c (rows : List VRow) : ∀ (n : Nat) (t : Tp), (numX rows n t).2.c + 2 ≤ t.c + bd n
  | 0, t => by
    have := nuB_c0 (rec := fun t => (.num 0, t)) (rows := rows) (wy := (nextM t 6).1 % 2) (Int.emod_lt_of_pos _ (by decide)) (nextM t 6).2
    rw [next_c] at this
    show (nuB _ _ _ _).2.c + 2 ≤ t.c + 5
    omega
  | n + 1, t => by
    have := nuB_c (rows := rows) (num_c rows n) (bd_pos n) (if 60 < (nextM t 6).2.c then (nextM t 6).1 % 2 else (nextM t 6).1) (nextM t 6).2
    rw [next_c t 6] at this
    rw [bd_succ]
    show (nuB _ _ _ _).2.c + 2 ≤ _
    rw [next_c t 6]
    omega
def sp_num (n : Nat) : Sp := fun vs H Q _ => ∃ (a l : Addr) (xs : List V) (rows : List VRow) (t : Tp), vs = [.ref a, .ref l, .int (n : Int)] ∧ TapIs H a t ∧ t.c + bd n ≤ cMax ∧ H l = some (.lst xs) ∧ Paired (VarAt H) xs rows ∧ VarsOk rows ∧ rows.length ≤ 9 ∧ a ≠ l ∧
  ∀ (v : V) (H' : Hp), Kl a H H' → TapIs H' a (numX rows n t).2 → ExAt H' (numX rows n t).1 v → Q v H'
section
variable {P : Program} {w : World} {K : PySem.W.Frag} {mg : Str → Option Value} {base : Heap}
theorem z56 : FnScope ["_law_tap_here", "_law_told", "_law_deep", "_law_way", "_law_some", "_law_one"] ["_law_tap_here", "_law_told", "_law_deep"] (defScope s_law_num) := ⟨rfl, rfl, rfl, by decide +kernel, rfl, by decide +kernel, by decide +kernel⟩
theorem num_B {n : Nat} {prev : Sp} {rec : List VRow → Tp → Ex × Tp} {f f1 f2 f3 f4 : Addr} {fd d1 d2 d3 d4 : FuncData} (T : Bt mg) (z10 : Q0 K mg f1 d1) (z0 : Q1 K mg f2 d2) (z11 : Q2 K mg f3 d3) (z15 : Q5 K mg f4 d4) (z13 : Q6 K mg f fd)
    (hp : n = 0 ∨ ∃ m, n = m + 1 ∧ prev = sp_num m ∧ rec = fun rows => numX rows m) (z39 : FnOk P w K mg base CX0 (n + 3) f fd ["_law_tap_here", "_law_told", "_law_deep"] prev) {cdv : Value} {A : Around} {outer : List Env} {s : Shared} {H : Hp} {E : XK} (hr : Room (n + 3) (A.deeper (PyProof.Rows.envOfC "_law_num" (defScope s_law_num) s.heap.objs.size f cdv))) :
    ∃ u, PSs (cxOf CX0 P w K mg base ["_law_tap_here", "_law_told", "_law_deep", "_law_way", "_law_some", "_law_one"] "_law_num" (defScope s_law_num) f cdv A outer s H E).nox ((defBody s_law_num).drop 2) u ∧
      ∀ (D : Ends) (v4 v5 : Option V) (a l : Addr) (xs : List V) (rows : List VRow) (t : Tp) (wy : Int) (H : Hp), TapIs H a t → t.c + bd n ≤ cMax + 1 → H l = some (.lst xs) → Paired (VarAt H) xs rows → VarsOk rows → rows.length ≤ 9 → a ≠ l → 0 ≤ wy → wy < 6 → (n = 0 → wy < 2) →
        (∀ (v : V) (H' : Hp), Kl a H H' → TapIs H' a (nuB (rec rows) rows wy t).2 → ExAt H' (nuB (rec rows) rows wy t).1 v → D.rt v H') →
        u D [some (.ref a), some (.ref l), some (.int (n : Int)), some (.int wy), v4, v5] H := by
  have z19 := ok_law_next (P := P) (w := w) (mg := mg) (base := base) z0.F z10
  have G_law_number := ok_law_number (P := P) (w := w) (base := base) z11.F z10 z0
  have z59 := ok_law_of (P := P) (w := w) (base := base) z15.F T
  refine ⟨_, (pss_cons (ps_if (PW.pt (pw_and (pt_cmpR op_eq (pv 3) pe_int (nomark _)) (pw_and1 (pt_cmpR (op_neD (hr.units)) (pe_call z59 (hr.mono (by omega)) rfl z15.m z15.F.kp z15.b .nil pass0 (pa_consN (pv 1) (pa_consN pe_str pa_nil))) (pe_lst pa_nil) (nomark _)))))
        (pss_cons (ps_set (i := 4) z56.nd rfl (Or.inl rfl) (pe_call z59 (hr.mono (by omega)) rfl z15.m z15.F.kp z15.b .nil pass0 (pa_consN (pv 1) (pa_consN pe_str pa_nil))))
        (pss_one (ps_ret (pe_tup (pa_consN pe_str (pa_consN (pe_ix ix_tup (pe_ix ix_list (pv 4) (pe_call z19 (hr.mono (by omega)) rfl z0.m z0.F.kp z0.b .nil pass0 (pa_consN (pv 0) (pa_consN (pe_callB call_len_seq rfl T.b_len (by decide +kernel) (pa_consN (pv 4) pa_nil)) pa_nil))) (fun _ _ => rfl)) pe_int (fun _ _ => rfl)) pa_nil))))))
        pss_nil)
      (pss_cons (ps_if (PW.pt (pw_and (pt_cmpR op_eq (pv 3) pe_int (nomark _)) (pw_and1 (pt_cmpR (op_neD (hr.units)) (pe_call z59 (hr.mono (by omega)) rfl z15.m z15.F.kp z15.b .nil pass0 (pa_consN (pv 1) (pa_consN pe_str pa_nil))) (pe_lst pa_nil) (nomark _)))))
        (pss_cons (ps_set (i := 4) z56.nd rfl (Or.inl rfl) (pe_call z59 (hr.mono (by omega)) rfl z15.m z15.F.kp z15.b .nil pass0 (pa_consN (pv 1) (pa_consN pe_str pa_nil))))
        (pss_one (ps_ret (pe_tup (pa_consN pe_str (pa_consN (pe_ix ix_tup (pe_ix ix_list (pv 4) (pe_call z19 (hr.mono (by omega)) rfl z0.m z0.F.kp z0.b .nil pass0 (pa_consN (pv 0) (pa_consN (pe_callB call_len_seq rfl T.b_len (by decide +kernel) (pa_consN (pv 4) pa_nil)) pa_nil))) (fun _ _ => rfl)) pe_int (fun _ _ => rfl)) (pa_consN (pe_call z39 (hr.mono (by omega)) rfl z13.m z13.F.kp z13.b .nil pass0 (pa_consN (pv 0) (pa_consN (pv 1) (pa_consN (pe_op op_sub (pv 2) pe_int) pa_nil)))) pa_nil)))))))
        pss_nil)
      (pss_cons (ps_if (pt_cmpR op_lt (pv 3) pe_int (nomark _))
        (pss_one (ps_ret (pe_tup (pa_consN pe_str (pa_consN (pe_call G_law_number (hr.mono (by omega)) rfl z11.m z11.F.kp z11.b .nil pass0 (pa_consN (pv 0) pa_nil)) pa_nil)))))
        pss_nil)
      (pss_cons (ps_set (i := 5) z56.nd rfl (Or.inl rfl) (pe_call z39 (hr.mono (by omega)) rfl z13.m z13.F.kp z13.b .nil pass0 (pa_consN (pv 0) (pa_consN (pv 1) (pa_consN (pe_op op_sub (pv 2) pe_int) pa_nil)))))
      (pss_one (ps_ret (pe_tup (pa_consN (pe_item_str pe_str (pe_op op_sub (pv 3) pe_int) (fun _ _ => rfl)) (pa_consN (pv 5) (pa_consN (pe_call z39 (hr.mono (by omega)) rfl z13.m z13.F.kp z13.b .nil pass0 (pa_consN (pv 0) (pa_consN (pv 1) (pa_consN (pe_op op_sub (pv 2) pe_int) pa_nil)))) pa_nil)))))))))), ?_⟩
  intro D v4 v5 a l xs rows t wy H ta hc el hx ho hl hal w0 w1 wn q
  have hs : sizeLine = 16777216 := sizeLine_eq
  have cm : cMax = 90000000000000 := rfl
  have b5 := bd_pos n
  have em : n ≠ 0 → [V.ref a, V.ref l, V.int ((n : Int) - 1)] = [V.ref a, V.ref l, V.int ((n - 1 : Nat) : Int)] := fun hn => by
    rw [show (n : Int) - 1 = ((n - 1 : Nat) : Int) by omega]
  unfold nuB at q
  by_cases hw1 : wy = 1
  · subst hw1
    refine ⟨_, rfl, rfl, _, rfl, itDP rfl ?_⟩
    refine ⟨_, rfl, l, "num", xs, rows, rfl, el, hx, hl, fun r1 ys1 H1 s1 hr1 er1 hy1 => ⟨Nat.zero_le _, fun l0 hl0 => ?_⟩⟩
    have y2 := Same.put (o := .lst []) hl0
    have hf := ho.filter fun p => decide (p.1 = ("num" : Str))
    refine ⟨_, .list [], .lst (SqL.of (y2 _ _ er1)) (rep_vars K (Paired.mapP hy1 fun _ _ z => z.same y2)), .lst (SqL.of upd_same) .nil, lay_vars hf, rfl, (by show PyData.depthAll _ + 1 ≤ 64; have := dep_vars (rows.filter fun p => decide (p.1 = ("num" : Str))); omega), _, rfl, ?_⟩
    rw [eqv_emptyV]
    generalize upd H1 l0 (.lst []) = H2 at y2 ⊢
    have s2 := s1.trans y2
    by_cases he : (rows.filter fun p => decide (p.1 = ("num" : Str))).isEmpty = true
    · rw [if_neg (fun z => by have := z.2; unfold rowsK at this; rw [he] at this; cases this), if_neg (fun z => absurd z.1 (by decide)), if_pos (by decide)] at q
      rw [he]
      refine iteF ⟨_, rfl, rfl, _, rfl, itDN (fun z => by have := V.int.inj z; omega) ?_⟩
      refine iteF ⟨_, rfl, _, _, rfl, rfl, _, rfl, itDP (by show (1 : Int) < 3; decide) ?_⟩
      refine ⟨_, rfl, a, t, rfl, ta.same s2, by omega, fun H3 k3 t3 => ⟨(by show 2 ≤ sizeLine; omega), fun p hp => ?_⟩⟩
      exact q _ _ (((Kl.of s2).trans k3).trans (Kl.of (Same.put hp))) (t3.same (Same.put hp)) ⟨p, rfl, upd_same⟩
    · have he' : (rows.filter fun p => decide (p.1 = ("num" : Str))).isEmpty = false := by simpa using he
      rw [if_pos ⟨rfl, he'⟩] at q
      rw [he']
      refine iteT ⟨_, rfl, l, "num", xs, rows, rfl, s2 _ _ el, Paired.mapP hx fun _ _ z => z.same s2, hl, fun r3 ys3 H3 s3 hr3 er3 hy3 => ?_⟩
      have t3 := (ta.same s2).same s3
      have r3a : a ≠ r3 := fun z => by rw [← z, (ta.same s2)] at hr3; cases hr3
      have ly : 0 < (rowsK rows "num").length := List.length_pos_iff.mpr (by unfold rowsK; simpa using he)
      have ly9 : (rowsK rows "num").length ≤ 9 := Nat.le_trans (List.length_filter_le _ _) hl
      have eL : ((ys3.length : Nat) : Int) = ((rowsK rows "num").length : Int) := by rw [hy3.length]; rfl
      refine ⟨_, rfl, _, rfl, _, rfl, r3, _, rfl, .inl (SqL.of er3), ?_⟩
      rw [eL]
      have bn := next_bd t (size := (rowsK rows "num").length) (by omega)
      refine ⟨a, t, _, rfl, t3, by omega, by omega, by omega, fun H4 k4 t4 => ?_⟩
      obtain ⟨T0, _, eT, eT0⟩ := var_ixM hy3 bn.1 bn.2
      refine ⟨r3, _, _, _, rfl, rfl, SqL.of (k4 _ _ er3 r3a.symm), eT, T0, _, _, _, rfl, rfl, SqT.of (Kl.tup t3 k4 _ _ eT0), rfl, (by show 2 ≤ sizeLine; omega), fun p hp => ?_⟩
      exact q _ _ (((Kl.of (s2.trans s3)).trans k4).trans (Kl.of (Same.put hp))) (t4.same (Same.put hp)) ⟨p, rfl, upd_same⟩
  rw [if_neg (fun z => hw1 z.1)] at q
  refine ⟨_, rfl, rfl, _, rfl, itDN (fun z => hw1 (V.int.inj z)) ?_⟩
  refine iteF ?_
  by_cases hw2 : wy = 2
  · subst hw2
    refine ⟨_, rfl, rfl, _, rfl, itDP rfl ?_⟩
    refine ⟨_, rfl, l, "list", xs, rows, rfl, el, hx, hl, fun r1 ys1 H1 s1 hr1 er1 hy1 => ⟨Nat.zero_le _, fun l0 hl0 => ?_⟩⟩
    have y2 := Same.put (o := .lst []) hl0
    have hf := ho.filter fun p => decide (p.1 = ("list" : Str))
    refine ⟨_, .list [], .lst (SqL.of (y2 _ _ er1)) (rep_vars K (Paired.mapP hy1 fun _ _ z => z.same y2)), .lst (SqL.of upd_same) .nil, lay_vars hf, rfl, (by show PyData.depthAll _ + 1 ≤ 64; have := dep_vars (rows.filter fun p => decide (p.1 = ("list" : Str))); omega), _, rfl, ?_⟩
    rw [eqv_emptyV]
    generalize upd H1 l0 (.lst []) = H2 at y2 ⊢
    have s2 := s1.trans y2
    by_cases he : (rows.filter fun p => decide (p.1 = ("list" : Str))).isEmpty = true
    · rw [if_neg (fun z => by have := z.2; unfold rowsK at this; rw [he] at this; cases this), if_pos (by decide)] at q
      rw [he]
      refine iteF ⟨_, rfl, _, _, rfl, rfl, _, rfl, itDP (by show (2 : Int) < 3; decide) ?_⟩
      refine ⟨_, rfl, a, t, rfl, ta.same s2, by omega, fun H3 k3 t3 => ⟨(by show 2 ≤ sizeLine; omega), fun p hp => ?_⟩⟩
      exact q _ _ (((Kl.of s2).trans k3).trans (Kl.of (Same.put hp))) (t3.same (Same.put hp)) ⟨p, rfl, upd_same⟩
    · have he' : (rows.filter fun p => decide (p.1 = ("list" : Str))).isEmpty = false := by simpa using he
      rw [if_pos ⟨rfl, he'⟩] at q
      rw [he']
      rcases hp with h | ⟨m, rfl, rfl, rfl⟩
      · have := wn h; omega
      have bs := bd_succ m
      have bm := bd_pos m
      refine iteT ⟨_, rfl, l, "list", xs, rows, rfl, s2 _ _ el, Paired.mapP hx fun _ _ z => z.same s2, hl, fun r3 ys3 H3 s3 hr3 er3 hy3 => ?_⟩
      have s23 := s2.trans s3
      have t3 := ta.same s23
      have r3a : a ≠ r3 := fun z => by rw [← z, (ta.same s2)] at hr3; cases hr3
      have ly : 0 < (rowsK rows "list").length := List.length_pos_iff.mpr (by unfold rowsK; simpa using he)
      have ly9 : (rowsK rows "list").length ≤ 9 := Nat.le_trans (List.length_filter_le _ _) hl
      have eL : ((ys3.length : Nat) : Int) = ((rowsK rows "list").length : Int) := by rw [hy3.length]; rfl
      refine ⟨_, rfl, _, rfl, _, rfl, r3, _, rfl, .inl (SqL.of er3), ?_⟩
      rw [eL]
      have bn := next_bd t (size := (rowsK rows "list").length) (by omega)
      have cn := next_c t (rowsK rows "list").length
      refine ⟨a, t, _, rfl, t3, by omega, by omega, by omega, fun H4 k4 t4 => ?_⟩
      obtain ⟨T0, _, eT, eT0⟩ := var_ixM hy3 bn.1 bn.2
      have k04 := (Kl.of (l := a) s23).trans k4
      refine ⟨r3, _, _, _, rfl, rfl, SqL.of (k4 _ _ er3 r3a.symm), eT, T0, _, _, _, rfl, rfl, SqT.of (Kl.tup t3 k4 _ _ eT0), rfl, ?_⟩
      refine ⟨_, rfl, _, rfl, _, rfl, _, _, rfl, rfl, a, l, xs, rows, _, em (by omega), t4, by omega, k04 _ _ el hal.symm, Paired.mapP hx fun _ _ z => z.keep (Kl.tup ta k04), ho, hl, hal, fun v' H5 k5 t5 hE => ⟨(by show 3 ≤ sizeLine; omega), fun p hp => ?_⟩⟩
      exact q _ _ ((k04.trans k5).trans (Kl.of (Same.put hp))) (t5.same (Same.put hp)) ⟨p, v', rfl, upd_same, hE.same (Same.put hp)⟩
  rw [if_neg (fun z => hw2 z.1)] at q
  refine ⟨_, rfl, rfl, _, rfl, itDN (fun z => hw2 (V.int.inj z)) ?_⟩
  refine iteF ⟨_, rfl, _, _, rfl, rfl, _, rfl, ite2 (fun h3 => ?_) (fun h3 => ?_)⟩
  · have h3 : wy < 3 := of_decide_eq_true h3
    rw [if_pos h3] at q
    refine ⟨_, rfl, a, t, rfl, ta, by omega, fun H3 k3 t3 => ⟨(by show 2 ≤ sizeLine; omega), fun p hp => ?_⟩⟩
    exact q _ _ (k3.trans (Kl.of (Same.put hp))) (t3.same (Same.put hp)) ⟨p, rfl, upd_same⟩
  have hw3 : ¬ wy < 3 := fun z => h3 (decide_eq_true z)
  rw [if_neg hw3] at q
  rcases hp with h | ⟨m, rfl, rfl, rfl⟩
  · have := wn h; omega
  have bs := bd_succ m
  have bm := bd_pos m
  have ec := num_c rows m
  refine ⟨_, rfl, _, rfl, _, rfl, _, _, rfl, rfl, a, l, xs, rows, t, em (by omega), ta, by omega, el, hx, ho, hl, hal, fun va H3 k3 t3 hA => ?_⟩
  have c3 := ec t
  obtain ⟨ch, hch, hop, _⟩ := op3_at (i := wy - 3) (by omega) (by omega)
  refine ⟨_, rfl, _, _, rfl, rfl, "+-&", wy - 3, ch, rfl, rfl, by omega, by omega, by rw [op3_len]; omega, hch, ?_⟩
  rw [hop]
  refine ⟨_, rfl, _, rfl, _, rfl, _, rfl, _, _, rfl, rfl, a, l, xs, rows, _, em (by omega), t3, by omega, k3 _ _ el hal.symm, Paired.mapP hx fun _ _ z => z.keep (Kl.tup ta k3), ho, hl, hal, fun vb H4 k4 t4 hB => ⟨(by show 3 ≤ sizeLine; omega), fun p hp => ?_⟩⟩
  exact q _ _ ((k3.trans k4).trans (Kl.of (Same.put hp))) (t4.same (Same.put hp)) ⟨p, va, vb, rfl, upd_same, (hA.kl t3 k4).same (Same.put hp), hB.same (Same.put hp)⟩
theorem num_step {n : Nat} {prev : Sp} {rec : List VRow → Tp → Ex × Tp} {f f1 f2 f3 f4 : Addr} {fd d1 d2 d3 d4 : FuncData} (T : Bt mg) (z10 : Q0 K mg f1 d1) (z0 : Q1 K mg f2 d2) (z11 : Q2 K mg f3 d3) (z15 : Q5 K mg f4 d4) (z13 : Q6 K mg f fd)
    (hp : n = 0 ∨ ∃ m, n = m + 1 ∧ prev = sp_num m ∧ rec = fun rows => numX rows m) (hrec : n = 0 → rec = fun _ t => (.num 0, t)) (z39 : FnOk P w K mg base CX0 (n + 3) f fd ["_law_tap_here", "_law_told", "_law_deep"] prev) : FnOk P w K mg base CX0 (n + 4) f fd ["_law_tap_here", "_law_told", "_law_deep"] (sp_num n) := by
  have z19 := ok_law_next (P := P) (w := w) (mg := mg) (base := base) z0.F z10
  refine z13.F.ok (k := n + 3) z56 (fun vs H Q E h => ?_) (fun cdv A outer s H vs Q E hr h => ?_)
  · obtain ⟨a, l, xs, rows, t, rfl, _⟩ := h; rfl
  · obtain ⟨a, l, xs, rows, t, rfl, ta, hc, el, hx, ho, hl, hal, q⟩ := h
    obtain ⟨uB, hB, kB⟩ := num_B (P := P) (w := w) (base := base) (f := f) (cdv := cdv) (outer := outer) (H := H) (E := E) (rec := rec) T z10 z0 z11 z15 z13 hp z39 hr
    refine ⟨_, (pss_cons (ps_set (i := 3) z56.nd rfl (Or.inl rfl) (pe_call z19 (hr.mono (by omega)) rfl z0.m z0.F.kp z0.b .nil pass0 (pa_consN (pv 0) (pa_consN pe_int pa_nil))))
      (pss_cons (ps_if (PW.pt (pw_or (pt_cmpR op_eq (pv 2) pe_int (nomark _)) (pw_or1 (pt_cmpR op_gt (pe_ix ix_list (pv 0) pe_int (fun _ _ => rfl)) pe_int (nomark _)))))
        (pss_one (ps_set (i := 3) z56.nd rfl (Or.inl rfl) (pe_op op_mod (pv 3) pe_int)))
        pss_nil)
      hB)), ?_⟩
    have b5 := bd_pos n
    have cm : cMax = 90000000000000 := rfl
    refine ⟨_, rfl, a, t, 6, rfl, ta, by omega, by decide, by decide, fun H1 k1 t1 => ?_⟩
    have bn := next_bd t (size := 6) (by decide)
    have cn := next_c t 6
    have el1 := k1 _ _ el hal.symm
    have hx1 : Paired (VarAt H1) xs rows := Paired.mapP hx fun _ _ z => z.keep (Kl.tup ta k1)
    have hE : numX rows n t = nuB (rec rows) rows (if n = 0 ∨ 60 < (nextM t 6).2.c then (nextM t 6).1 % 2 else (nextM t 6).1) (nextM t 6).2 := by
      rcases hp with rfl | ⟨m, rfl, _, rfl⟩
      · rw [hrec rfl, if_pos (.inl rfl)]; rfl
      · show nuB _ _ (if 60 < (nextM t 6).2.c then (nextM t 6).1 % 2 else (nextM t 6).1) _ = _
        by_cases h : 60 < (nextM t 6).2.c
        · rw [if_pos h, if_pos (.inr h)]
        · rw [if_neg h, if_neg (fun z => z.elim (by omega) h)]
    rw [hE] at q
    obtain ⟨wy, t', e⟩ : ∃ v t', nextM t 6 = (v, t') := ⟨_, _, rfl⟩
    rw [e] at q bn cn t1 ⊢
    have cn : t'.c = t.c + 1 := cn
    have bn : 0 ≤ wy ∧ wy < 6 := bn
    have go : ∀ wz : Int, wz = (if n = 0 ∨ 60 < t'.c then wy % 2 else wy) → 0 ≤ wz → wz < 6 → (n = 0 → wz < 2) → uB { nx := fun _ H' => Q .non H', rt := Q } [some (.ref a), some (.ref l), some (.int (n : Int)), some (.int wz), none, none] H1 := fun wz hz h0 h9 h3 =>
      kB _ _ _ a l xs rows t' wz H1 t1 (by omega) el1 hx1 ho hl hal h0 h9 h3 fun v H' k' tt he => q v H' (k1.trans k') (by rw [hz] at tt; exact tt) (by rw [hz] at he; exact he)
    have m3 : 0 ≤ wy % 2 ∧ wy % 2 < 2 := ⟨Int.emod_nonneg _ (by decide), Int.emod_lt_of_pos _ (by decide)⟩
    refine ⟨_, rfl, rfl, _, rfl, ite2 (fun h0 => ?_) (fun h0 => ?_)⟩
    · have hn : n = 0 := by have := V.int.inj (of_decide_eq_true h0); omega
      exact iteT ⟨_, rfl, _, _, rfl, rfl, (by show (0 : Int) < 2; decide), go _ (by rw [if_pos (.inl hn)]) m3.1 (by omega) (fun _ => m3.2)⟩
    · have hn : n ≠ 0 := fun z => h0 (decide_eq_true (by rw [z]; rfl))
      refine ⟨_, rfl, a, _, _, _, rfl, rfl, SqL.of t1, rfl, _, _, rfl, rfl, _, rfl, ite2 (fun h1 => ?_) (fun h1 => ?_)⟩
      · have h1 : (60 : Int) < (t'.c : Int) := of_decide_eq_true h1
        exact ⟨_, rfl, _, _, rfl, rfl, (by show (0 : Int) < 2; decide), go _ (by rw [if_pos (.inr (by omega))]) m3.1 (by omega) (fun _ => m3.2)⟩
      · have h1 : ¬ (60 : Int) < (t'.c : Int) := fun z => h1 (decide_eq_true z)
        exact go wy (by rw [if_neg (fun z => z.elim hn (fun y => h1 (by omega)))]) bn.1 bn.2 (fun z => absurd z hn)
theorem ok_law_num {f f1 f2 f3 f4 : Addr} {fd d1 d2 d3 d4 : FuncData} (T : Bt mg) (z10 : Q0 K mg f1 d1) (z0 : Q1 K mg f2 d2) (z11 : Q2 K mg f3 d3) (z15 : Q5 K mg f4 d4) (z13 : Q6 K mg f fd) :
    ∀ n : Nat, FnOk P w K mg base CX0 (n + 4) f fd ["_law_tap_here", "_law_told", "_law_deep"] (sp_num n)
  | 0 => num_step (rec := fun _ t => (.num 0, t)) T z10 z0 z11 z15 z13 (.inl rfl) (fun _ => rfl) (z13.F.ok (k := 2) (sp := fun _ _ _ _ => False) z56 (fun _ _ _ _ h => h.elim) (fun _ _ _ _ _ _ _ _ _ h => h.elim))
  | n + 1 => num_step (rec := fun rows => numX rows n) T z10 z0 z11 z15 z13 (.inr ⟨n, rfl, rfl, rfl⟩) (fun h => by omega) (ok_law_num T z10 z0 z11 z15 z13 n)
end
end K45

set_option Elab.async false
set_option linter.all false
set_option maxRecDepth 100000
set_option maxHeartbeats 4000000
namespace K45
open PySem L2
def flB (recF recN : Tp → Ex × Tp) (rows : List VRow) (wy : Int) (t : Tp) : Ex × Tp :=
  if wy = 1 ∧ (rowsK rows "flag").isEmpty = false then (.nam (pickR (rowsK rows "flag") t), (nextM t (rowsK rows "flag").length).2)
  else if wy < 2 then (.flg (decide (V.int (nextM t 2).1 = V.int 1)), (nextM t 2).2)
  else if wy = 2 then (.nt (recF t).1, (recF t).2)
  else (.bin (op2 (wy - 3)) (recN t).1 (recN (recN t).2).1, (recN (recN t).2).2)
def flagX (rows : List VRow) : Nat → Tp → Ex × Tp
  | 0, t => flB (fun t => (.num 0, t)) (fun t => (.num 0, t)) rows ((nextM t 5).1 % 2) (nextM t 5).2
  | n + 1, t => flB (flagX rows n) (numX rows n) rows (if 60 < (nextM t 5).2.c then (nextM t 5).1 % 2 else (nextM t 5).1) (nextM t 5).2
theorem flB_c {recF recN : Tp → Ex × Tp} {rows : List VRow} {b : Nat} (hf : ∀ t, (recF t).2.c + 2 ≤ t.c + b) (hr : ∀ t, (recN t).2.c + 2 ≤ t.c + b) (hb : 5 ≤ b) (wy : Int) (t : Tp) : (flB recF recN rows wy t).2.c + 3 ≤ t.c + 2 * b := by
  unfold flB
  split
  · show (nextM t _).2.c + 3 ≤ _; rw [next_c]; omega
  split
  · show (nextM t _).2.c + 3 ≤ _; rw [next_c]; omega
  split
  · have := hf t; show (recF _).2.c + 3 ≤ _; omega
  · have h1 := hr t
    have h2 := hr (recN t).2
    show (recN _).2.c + 3 ≤ _; omega
theorem flB_c0 {recF recN : Tp → Ex × Tp} {rows : List VRow} {wy : Int} (h : wy < 2) (t : Tp) : (flB recF recN rows wy t).2.c ≤ t.c + 2 := by
  unfold flB
  split
  · show (nextM t _).2.c ≤ _; rw [next_c]; omega
  try rw [if_pos h]
  show (nextM t _).2.c ≤ _; rw [next_c]; omega
theorem flag_c (rows : List VRow) : ∀ (n : Nat) (t : Tp), (flagX rows n t).2.c + 2 ≤ t.c + bd n
  | 0, t => by
    have := flB_c0 (recF := fun t => (.num 0, t)) (recN := fun t => (.num 0, t)) (rows := rows) (wy := (nextM t 5).1 % 2) (Int.emod_lt_of_pos _ (by decide)) (nextM t 5).2
    rw [next_c] at this
    show (flB _ _ _ _ _).2.c + 2 ≤ t.c + 5
    omega
  | n + 1, t => by
    have := flB_c (rows := rows) (flag_c rows n) (num_c rows n) (bd_pos n) (if 60 < (nextM t 5).2.c then (nextM t 5).1 % 2 else (nextM t 5).1) (nextM t 5).2
    rw [next_c t 5] at this
    rw [bd_succ]
    show (flB _ _ _ _ _).2.c + 2 ≤ _
    rw [next_c t 5]
    omega
def sp_flag (n : Nat) : Sp := fun vs H Q _ => ∃ (a l : Addr) (xs : List V) (rows : List VRow) (t : Tp), vs = [.ref a, .ref l, .int (n : Int)] ∧ TapIs H a t ∧ t.c + bd n ≤ cMax ∧ H l = some (.lst xs) ∧ Paired (VarAt H) xs rows ∧ VarsOk rows ∧ rows.length ≤ 9 ∧ a ≠ l ∧
  ∀ (v : V) (H' : Hp), Kl a H H' → TapIs H' a (flagX rows n t).2 → ExAt H' (flagX rows n t).1 v → Q v H'
section
variable {P : Program} {w : World} {K : PySem.W.Frag} {mg : Str → Option Value} {base : Heap}
theorem sc_law_flag : FnScope ["_law_tap_here", "_law_told", "_law_deep", "_law_way", "_law_some", "_law_one"] ["_law_tap_here", "_law_told", "_law_deep"] (defScope s_law_flag) := ⟨rfl, rfl, rfl, by decide +kernel, rfl, by decide +kernel, by decide +kernel⟩
theorem flag_B {n : Nat} {prev : Sp} {rec recN : List VRow → Tp → Ex × Tp} {f f1 f2 f3 f4 : Addr} {fd d1 d2 d3 d4 : FuncData} {f5 : Addr} {d5 : FuncData} (T : Bt mg) (z10 : Q0 K mg f1 d1) (z0 : Q1 K mg f2 d2) (z11 : Q2 K mg f3 d3) (z15 : Q5 K mg f4 d4) (z13 : Q6 K mg f5 d5) (z14 : Q7 K mg f fd)
    (hp : n = 0 ∨ ∃ m, n = m + 1 ∧ prev = sp_flag m ∧ (rec = fun rows => flagX rows m) ∧ recN = fun rows => numX rows m) (z51 : FnOk P w K mg base CX0 (n + 3) f fd ["_law_tap_here", "_law_told", "_law_deep"] prev) {cdv : Value} {A : Around} {outer : List Env} {s : Shared} {H : Hp} {E : XK} (hr : Room (n + 3) (A.deeper (PyProof.Rows.envOfC "_law_flag" (defScope s_law_flag) s.heap.objs.size f cdv))) :
    ∃ u, PSs (cxOf CX0 P w K mg base ["_law_tap_here", "_law_told", "_law_deep", "_law_way", "_law_some", "_law_one"] "_law_flag" (defScope s_law_flag) f cdv A outer s H E).nox ((defBody s_law_flag).drop 2) u ∧
      ∀ (D : Ends) (v4 v5 : Option V) (a l : Addr) (xs : List V) (rows : List VRow) (t : Tp) (wy : Int) (H : Hp), TapIs H a t → t.c + bd n ≤ cMax + 1 → H l = some (.lst xs) → Paired (VarAt H) xs rows → VarsOk rows → rows.length ≤ 9 → a ≠ l → 0 ≤ wy → wy < 5 → (n = 0 → wy < 2) →
        (∀ (v : V) (H' : Hp), Kl a H H' → TapIs H' a (flB (rec rows) (recN rows) rows wy t).2 → ExAt H' (flB (rec rows) (recN rows) rows wy t).1 v → D.rt v H') →
        u D [some (.ref a), some (.ref l), some (.int (n : Int)), some (.int wy), v4, v5] H := by
  have z19 := ok_law_next (P := P) (w := w) (mg := mg) (base := base) z0.F z10
  have z59 := ok_law_of (P := P) (w := w) (base := base) z15.F T
  obtain ⟨prevN, hpN, z39⟩ : ∃ prevN : Sp, (n = 0 ∨ ∃ m, n = m + 1 ∧ prevN = sp_num m) ∧ FnOk P w K mg base CX0 (n + 3) f5 d5 ["_law_tap_here", "_law_told", "_law_deep"] prevN := by
    cases n with
    | zero => exact ⟨fun _ _ _ _ => False, .inl rfl, z13.F.ok (k := 2) (sp := fun _ _ _ _ => False) z56 (fun _ _ _ _ h => h.elim) (fun _ _ _ _ _ _ _ _ _ h => h.elim)⟩
    | succ m => exact ⟨sp_num m, .inr ⟨m, rfl, rfl⟩, ok_law_num T z10 z0 z11 z15 z13 m⟩
  refine ⟨_, (pss_cons (ps_if (PW.pt (pw_and (pt_cmpR op_eq (pv 3) pe_int (nomark _)) (pw_and1 (pt_cmpR (op_neD (hr.units)) (pe_call z59 (hr.mono (by omega)) rfl z15.m z15.F.kp z15.b .nil pass0 (pa_consN (pv 1) (pa_consN pe_str pa_nil))) (pe_lst pa_nil) (nomark _)))))
        (pss_cons (ps_set (i := 4) sc_law_flag.nd rfl (Or.inl rfl) (pe_call z59 (hr.mono (by omega)) rfl z15.m z15.F.kp z15.b .nil pass0 (pa_consN (pv 1) (pa_consN pe_str pa_nil))))
        (pss_one (ps_ret (pe_tup (pa_consN pe_str (pa_consN (pe_ix ix_tup (pe_ix ix_list (pv 4) (pe_call z19 (hr.mono (by omega)) rfl z0.m z0.F.kp z0.b .nil pass0 (pa_consN (pv 0) (pa_consN (pe_callB call_len_seq rfl T.b_len (by decide +kernel) (pa_consN (pv 4) pa_nil)) pa_nil))) (fun _ _ => rfl)) pe_int (fun _ _ => rfl)) pa_nil))))))
        pss_nil)
      (pss_cons (ps_if (pt_cmpR op_lt (pv 3) pe_int (nomark _))
        (pss_one (ps_ret (pe_tup (pa_consN pe_str (pa_consN (pe_cmpR op_eq (pe_call z19 (hr.mono (by omega)) rfl z0.m z0.F.kp z0.b .nil pass0 (pa_consN (pv 0) (pa_consN pe_int pa_nil))) pe_int (nomark _)) pa_nil)))))
        pss_nil)
      (pss_cons (ps_if (pt_cmpR op_eq (pv 3) pe_int (nomark _))
        (pss_one (ps_ret (pe_tup (pa_consN pe_str (pa_consN (pe_call z51 (hr.mono (by omega)) rfl z14.m z14.F.kp z14.b .nil pass0 (pa_consN (pv 0) (pa_consN (pv 1) (pa_consN (pe_op op_sub (pv 2) pe_int) pa_nil)))) pa_nil)))))
        pss_nil)
      (pss_cons (ps_set (i := 5) sc_law_flag.nd rfl (Or.inl rfl) (pe_call z39 (hr.mono (by omega)) rfl z13.m z13.F.kp z13.b .nil pass0 (pa_consN (pv 0) (pa_consN (pv 1) (pa_consN (pe_op op_sub (pv 2) pe_int) pa_nil)))))
      (pss_one (ps_ret (pe_tup (pa_consN (pe_item_str pe_str (pe_op op_sub (pv 3) pe_int) (fun _ _ => rfl)) (pa_consN (pv 5) (pa_consN (pe_call z39 (hr.mono (by omega)) rfl z13.m z13.F.kp z13.b .nil pass0 (pa_consN (pv 0) (pa_consN (pv 1) (pa_consN (pe_op op_sub (pv 2) pe_int) pa_nil)))) pa_nil)))))))))), ?_⟩
  intro D v4 v5 a l xs rows t wy H ta hc el hx ho hl hal w0 w1 wn q
  have hs : sizeLine = 16777216 := sizeLine_eq
  have cm : cMax = 90000000000000 := rfl
  have b5 := bd_pos n
  have em : n ≠ 0 → [V.ref a, V.ref l, V.int ((n : Int) - 1)] = [V.ref a, V.ref l, V.int ((n - 1 : Nat) : Int)] := fun hn => by
    rw [show (n : Int) - 1 = ((n - 1 : Nat) : Int) by omega]
  unfold flB at q
  by_cases hw1 : wy = 1
  · subst hw1
    refine ⟨_, rfl, rfl, _, rfl, itDP rfl ?_⟩
    refine ⟨_, rfl, l, "flag", xs, rows, rfl, el, hx, hl, fun r1 ys1 H1 s1 hr1 er1 hy1 => ⟨Nat.zero_le _, fun l0 hl0 => ?_⟩⟩
    have y2 := Same.put (o := .lst []) hl0
    have hf := ho.filter fun p => decide (p.1 = ("flag" : Str))
    refine ⟨_, .list [], .lst (SqL.of (y2 _ _ er1)) (rep_vars K (Paired.mapP hy1 fun _ _ z => z.same y2)), .lst (SqL.of upd_same) .nil, lay_vars hf, rfl, (by show PyData.depthAll _ + 1 ≤ 64; have := dep_vars (rows.filter fun p => decide (p.1 = ("flag" : Str))); omega), _, rfl, ?_⟩
    rw [eqv_emptyV]
    generalize upd H1 l0 (.lst []) = H2 at y2 ⊢
    have s2 := s1.trans y2
    by_cases he : (rows.filter fun p => decide (p.1 = ("flag" : Str))).isEmpty = true
    · rw [if_neg (fun z => by have := z.2; unfold rowsK at this; rw [he] at this; cases this), if_pos (by decide)] at q
      rw [he]
      refine iteF ⟨_, rfl, _, _, rfl, rfl, _, rfl, itDP (by show (1 : Int) < 2; decide) ?_⟩
      refine ⟨_, rfl, a, t, 2, rfl, ta.same s2, by omega, by decide, by decide, fun H3 k3 t3 => ⟨rfl, (by show 2 ≤ sizeLine; omega), fun p hp => ?_⟩⟩
      exact q _ _ (((Kl.of s2).trans k3).trans (Kl.of (Same.put hp))) (t3.same (Same.put hp)) ⟨p, rfl, upd_same⟩
    · have he' : (rows.filter fun p => decide (p.1 = ("flag" : Str))).isEmpty = false := by simpa using he
      rw [if_pos ⟨rfl, he'⟩] at q
      rw [he']
      refine iteT ⟨_, rfl, l, "flag", xs, rows, rfl, s2 _ _ el, Paired.mapP hx fun _ _ z => z.same s2, hl, fun r3 ys3 H3 s3 hr3 er3 hy3 => ?_⟩
      have t3 := (ta.same s2).same s3
      have r3a : a ≠ r3 := fun z => by rw [← z, (ta.same s2)] at hr3; cases hr3
      have ly : 0 < (rowsK rows "flag").length := List.length_pos_iff.mpr (by unfold rowsK; simpa using he)
      have ly9 : (rowsK rows "flag").length ≤ 9 := Nat.le_trans (List.length_filter_le _ _) hl
      have eL : ((ys3.length : Nat) : Int) = ((rowsK rows "flag").length : Int) := by rw [hy3.length]; rfl
      refine ⟨_, rfl, _, rfl, _, rfl, r3, _, rfl, .inl (SqL.of er3), ?_⟩
      rw [eL]
      have bn := next_bd t (size := (rowsK rows "flag").length) (by omega)
      refine ⟨a, t, _, rfl, t3, by omega, by omega, by omega, fun H4 k4 t4 => ?_⟩
      obtain ⟨T0, _, eT, eT0⟩ := var_ixM hy3 bn.1 bn.2
      refine ⟨r3, _, _, _, rfl, rfl, SqL.of (k4 _ _ er3 r3a.symm), eT, T0, _, _, _, rfl, rfl, SqT.of (Kl.tup t3 k4 _ _ eT0), rfl, (by show 2 ≤ sizeLine; omega), fun p hp => ?_⟩
      exact q _ _ (((Kl.of (s2.trans s3)).trans k4).trans (Kl.of (Same.put hp))) (t4.same (Same.put hp)) ⟨p, rfl, upd_same⟩
  rw [if_neg (fun z => hw1 z.1)] at q
  refine ⟨_, rfl, rfl, _, rfl, itDN (fun z => hw1 (V.int.inj z)) ?_⟩
  refine iteF ⟨_, rfl, _, _, rfl, rfl, _, rfl, ite2 (fun h2 => ?_) (fun h2 => ?_)⟩
  · have h2 : wy < 2 := of_decide_eq_true h2
    rw [if_pos h2] at q
    refine ⟨_, rfl, a, t, 2, rfl, ta, by omega, by decide, by decide, fun H3 k3 t3 => ⟨rfl, (by show 2 ≤ sizeLine; omega), fun p hp => ?_⟩⟩
    exact q _ _ (k3.trans (Kl.of (Same.put hp))) (t3.same (Same.put hp)) ⟨p, rfl, upd_same⟩
  have hw2 : ¬ wy < 2 := fun z => h2 (decide_eq_true z)
  rw [if_neg hw2] at q
  rcases hp with h | ⟨m, rfl, rfl, rfl, rfl⟩
  · have := wn h; omega
  rcases hpN with h | ⟨m', hm', rfl⟩
  · omega
  obtain rfl : m = m' := by omega
  have bs := bd_succ m
  have bm := bd_pos m
  have ec := num_c rows m
  refine ⟨_, rfl, rfl, _, rfl, ite2 (fun h3 => ?_) (fun h3 => ?_)⟩
  · have h3 : wy = 2 := V.int.inj (of_decide_eq_true h3)
    rw [if_pos h3] at q
    refine ⟨_, rfl, _, rfl, _, rfl, _, _, rfl, rfl, a, l, xs, rows, t, em (by omega), ta, by omega, el, hx, ho, hl, hal, fun v' H5 k5 t5 hE => ⟨(by show 2 ≤ sizeLine; omega), fun p hp => ?_⟩⟩
    exact q _ _ (k5.trans (Kl.of (Same.put hp))) (t5.same (Same.put hp)) ⟨p, v', rfl, upd_same, hE.same (Same.put hp)⟩
  have hw3 : wy ≠ 2 := fun z => h3 (decide_eq_true (congrArg V.int z))
  rw [if_neg hw3] at q
  refine ⟨_, rfl, _, rfl, _, rfl, _, _, rfl, rfl, a, l, xs, rows, t, em (by omega), ta, by omega, el, hx, ho, hl, hal, fun va H3 k3 t3 hA => ?_⟩
  have c3 := ec t
  obtain ⟨ch, hch, hop, _⟩ := op2_at (i := wy - 3) (by omega) (by omega)
  refine ⟨_, rfl, _, _, rfl, rfl, "<=", wy - 3, ch, rfl, rfl, by omega, by omega, by rw [op2_len]; omega, hch, ?_⟩
  rw [hop]
  refine ⟨_, rfl, _, rfl, _, rfl, _, rfl, _, _, rfl, rfl, a, l, xs, rows, _, em (by omega), t3, by omega, k3 _ _ el hal.symm, Paired.mapP hx fun _ _ z => z.keep (Kl.tup ta k3), ho, hl, hal, fun vb H4 k4 t4 hB => ⟨(by show 3 ≤ sizeLine; omega), fun p hp => ?_⟩⟩
  exact q _ _ ((k3.trans k4).trans (Kl.of (Same.put hp))) (t4.same (Same.put hp)) ⟨p, va, vb, rfl, upd_same, (hA.kl t3 k4).same (Same.put hp), hB.same (Same.put hp)⟩
theorem flag_step {n : Nat} {prev : Sp} {rec recN : List VRow → Tp → Ex × Tp} {f f1 f2 f3 f4 : Addr} {fd d1 d2 d3 d4 : FuncData} {f5 : Addr} {d5 : FuncData} (T : Bt mg) (z10 : Q0 K mg f1 d1) (z0 : Q1 K mg f2 d2) (z11 : Q2 K mg f3 d3) (z15 : Q5 K mg f4 d4) (z13 : Q6 K mg f5 d5) (z14 : Q7 K mg f fd)
    (hp : n = 0 ∨ ∃ m, n = m + 1 ∧ prev = sp_flag m ∧ (rec = fun rows => flagX rows m) ∧ recN = fun rows => numX rows m) (hrec : n = 0 → (rec = fun _ t => (.num 0, t)) ∧ recN = fun _ t => (.num 0, t)) (z51 : FnOk P w K mg base CX0 (n + 3) f fd ["_law_tap_here", "_law_told", "_law_deep"] prev) : FnOk P w K mg base CX0 (n + 4) f fd ["_law_tap_here", "_law_told", "_law_deep"] (sp_flag n) := by
  have z19 := ok_law_next (P := P) (w := w) (mg := mg) (base := base) z0.F z10
  refine z14.F.ok (k := n + 3) sc_law_flag (fun vs H Q E h => ?_) (fun cdv A outer s H vs Q E hr h => ?_)
  · obtain ⟨a, l, xs, rows, t, rfl, _⟩ := h; rfl
  · obtain ⟨a, l, xs, rows, t, rfl, ta, hc, el, hx, ho, hl, hal, q⟩ := h
    obtain ⟨uB, hB, kB⟩ := flag_B (P := P) (w := w) (base := base) (f := f) (cdv := cdv) (outer := outer) (H := H) (E := E) (rec := rec) (recN := recN) T z10 z0 z11 z15 z13 z14 hp z51 hr
    refine ⟨_, (pss_cons (ps_set (i := 3) sc_law_flag.nd rfl (Or.inl rfl) (pe_call z19 (hr.mono (by omega)) rfl z0.m z0.F.kp z0.b .nil pass0 (pa_consN (pv 0) (pa_consN pe_int pa_nil))))
      (pss_cons (ps_if (PW.pt (pw_or (pt_cmpR op_eq (pv 2) pe_int (nomark _)) (pw_or1 (pt_cmpR op_gt (pe_ix ix_list (pv 0) pe_int (fun _ _ => rfl)) pe_int (nomark _)))))
        (pss_one (ps_set (i := 3) sc_law_flag.nd rfl (Or.inl rfl) (pe_op op_mod (pv 3) pe_int)))
        pss_nil)
      hB)), ?_⟩
    have b5 := bd_pos n
    have cm : cMax = 90000000000000 := rfl
    refine ⟨_, rfl, a, t, 5, rfl, ta, by omega, by decide, by decide, fun H1 k1 t1 => ?_⟩
    have bn := next_bd t (size := 5) (by decide)
    have cn := next_c t 5
    have el1 := k1 _ _ el hal.symm
    have hx1 : Paired (VarAt H1) xs rows := Paired.mapP hx fun _ _ z => z.keep (Kl.tup ta k1)
    have hE : flagX rows n t = flB (rec rows) (recN rows) rows (if n = 0 ∨ 60 < (nextM t 5).2.c then (nextM t 5).1 % 2 else (nextM t 5).1) (nextM t 5).2 := by
      rcases hp with rfl | ⟨m, rfl, _, rfl, rfl⟩
      · rw [(hrec rfl).1, (hrec rfl).2, if_pos (.inl rfl)]; rfl
      · show flB _ _ _ (if 60 < (nextM t 5).2.c then (nextM t 5).1 % 2 else (nextM t 5).1) _ = _
        by_cases h : 60 < (nextM t 5).2.c
        · rw [if_pos h, if_pos (.inr h)]
        · rw [if_neg h, if_neg (fun z => z.elim (by omega) h)]
    rw [hE] at q
    obtain ⟨wy, t', e⟩ : ∃ v t', nextM t 5 = (v, t') := ⟨_, _, rfl⟩
    rw [e] at q bn cn t1 ⊢
    have cn : t'.c = t.c + 1 := cn
    have bn : 0 ≤ wy ∧ wy < 5 := bn
    have go : ∀ wz : Int, wz = (if n = 0 ∨ 60 < t'.c then wy % 2 else wy) → 0 ≤ wz → wz < 5 → (n = 0 → wz < 2) → uB { nx := fun _ H' => Q .non H', rt := Q } [some (.ref a), some (.ref l), some (.int (n : Int)), some (.int wz), none, none] H1 := fun wz hz h0 h9 h3 =>
      kB _ _ _ a l xs rows t' wz H1 t1 (by omega) el1 hx1 ho hl hal h0 h9 h3 fun v H' k' tt he => q v H' (k1.trans k') (by rw [hz] at tt; exact tt) (by rw [hz] at he; exact he)
    have m3 : 0 ≤ wy % 2 ∧ wy % 2 < 2 := ⟨Int.emod_nonneg _ (by decide), Int.emod_lt_of_pos _ (by decide)⟩
    refine ⟨_, rfl, rfl, _, rfl, ite2 (fun h0 => ?_) (fun h0 => ?_)⟩
    · have hn : n = 0 := by have := V.int.inj (of_decide_eq_true h0); omega
      exact iteT ⟨_, rfl, _, _, rfl, rfl, (by show (0 : Int) < 2; decide), go _ (by rw [if_pos (.inl hn)]) m3.1 (by omega) (fun _ => m3.2)⟩
    · have hn : n ≠ 0 := fun z => h0 (decide_eq_true (by rw [z]; rfl))
      refine ⟨_, rfl, a, _, _, _, rfl, rfl, SqL.of t1, rfl, _, _, rfl, rfl, _, rfl, ite2 (fun h1 => ?_) (fun h1 => ?_)⟩
      · have h1 : (60 : Int) < (t'.c : Int) := of_decide_eq_true h1
        exact ⟨_, rfl, _, _, rfl, rfl, (by show (0 : Int) < 2; decide), go _ (by rw [if_pos (.inr (by omega))]) m3.1 (by omega) (fun _ => m3.2)⟩
      · have h1 : ¬ (60 : Int) < (t'.c : Int) := fun z => h1 (decide_eq_true z)
        exact go wy (by rw [if_neg (fun z => z.elim hn (fun y => h1 (by omega)))]) bn.1 bn.2 (fun z => absurd z hn)
theorem ok_law_flag {f f1 f2 f3 f4 : Addr} {fd d1 d2 d3 d4 : FuncData} {f5 : Addr} {d5 : FuncData} (T : Bt mg) (z10 : Q0 K mg f1 d1) (z0 : Q1 K mg f2 d2) (z11 : Q2 K mg f3 d3) (z15 : Q5 K mg f4 d4) (z13 : Q6 K mg f5 d5) (z14 : Q7 K mg f fd) :
    ∀ n : Nat, FnOk P w K mg base CX0 (n + 4) f fd ["_law_tap_here", "_law_told", "_law_deep"] (sp_flag n)
  | 0 => flag_step (rec := fun _ t => (.num 0, t)) (recN := fun _ t => (.num 0, t)) T z10 z0 z11 z15 z13 z14 (.inl rfl) (fun _ => ⟨rfl, rfl⟩) (z14.F.ok (k := 2) (sp := fun _ _ _ _ => False) sc_law_flag (fun _ _ _ _ h => h.elim) (fun _ _ _ _ _ _ _ _ _ h => h.elim))
  | n + 1 => flag_step (rec := fun rows => flagX rows n) (recN := fun rows => numX rows n) T z10 z0 z11 z15 z13 z14 (.inr ⟨n, rfl, rfl, rfl, rfl⟩) (fun h => by omega) (ok_law_flag T z10 z0 z11 z15 z13 z14 n)
end
end K45

set_option Elab.async false
set_option linter.all false
set_option maxRecDepth 100000
set_option maxHeartbeats 4000000
namespace K45
open PySem L2
def lookF (rows : List VRow) (x : Str) : Option Str := rows.foldl (fun acc p => if p.2.1 = x then some p.1 else acc) none
def kindsK (rows : List VRow) : List (Key × V) := rows.foldl (fun acc p => putK acc (.inr p.2.1) (.str p.1)) []
theorem look_step {rows : List VRow} {i : Nat} {p : VRow} (h : rows[i]? = some p) (x : Str) : lookF (rows.take (i + 1)) x = if p.2.1 = x then some p.1 else lookF (rows.take i) x := by
  unfold lookF; rw [List.take_add_one, h, List.foldl_append]; rfl
theorem kinds_step {rows : List VRow} {i : Nat} {p : VRow} (h : rows[i]? = some p) : kindsK (rows.take (i + 1)) = putK (kindsK (rows.take i)) (.inr p.2.1) (.str p.1) := by
  unfold kindsK; rw [List.take_add_one, h, List.foldl_append]; rfl
theorem kinds_len (rows : List VRow) : ∀ i, (kindsK (rows.take i)).length ≤ i
  | 0 => by rw [List.take_zero]; exact Nat.le_refl _
  | i + 1 => by
    cases h : rows[i]? with
    | none =>
      rw [List.getElem?_eq_none_iff] at h
      rw [List.take_of_length_le (by omega), ← List.take_of_length_le (i := i) (l := rows) h]
      have := kinds_len rows i; omega
    | some p =>
      rw [kinds_step h]
      have := kinds_len rows i
      have := length_putK (kindsK (rows.take i)) (.inr p.2.1) (.str p.1)
      omega
theorem kinds_val (rows : List VRow) (x : Str) : valV (kindsK rows) (.inr x) = (lookF rows x).map V.str := by
  have key : ∀ i, valV (kindsK (rows.take i)) (.inr x) = (lookF (rows.take i) x).map V.str := fun i => by
    induction i with
    | zero => rw [List.take_zero]; rfl
    | succ i ih =>
      cases h : rows[i]? with
      | none =>
        rw [List.getElem?_eq_none_iff] at h
        rw [List.take_of_length_le (by omega), ← List.take_of_length_le (i := i) (l := rows) h]; exact ih
      | some p =>
        rw [kinds_step h, look_step h, valV_put]
        by_cases e : p.2.1 = x
        · rw [if_pos (by rw [e]), if_pos e]; rfl
        · rw [if_neg (fun z => e (Sum.inr.inj z).symm), if_neg e]; exact ih
  have := key rows.length
  rwa [List.take_of_length_le (Nat.le_refl _)] at this
theorem look_in {rows : List VRow} (ho : VarsOk rows) {x k : Str} (h : lookF rows x = some k) : k ∈ kinds3 := by
  have key : ∀ i k, lookF (rows.take i) x = some k → k ∈ kinds3 := fun i => by
    induction i with
    | zero => intro k h; rw [List.take_zero] at h; cases h
    | succ i ih =>
      intro k h
      cases hr : rows[i]? with
      | none =>
        rw [List.getElem?_eq_none_iff] at hr
        rw [List.take_of_length_le (by omega), ← List.take_of_length_le (i := i) (l := rows) hr] at h; exact ih k h
      | some p =>
        rw [look_step hr] at h
        split at h
        · cases h; exact (ho p (List.mem_of_getElem? hr)).1
        · exact ih k h
  have := key rows.length k
  rw [List.take_of_length_le (Nat.le_refl _)] at this
  exact this h
def kindP (rows : List VRow) : Ex → Option Str
  | .num _ => some ("num" : Str)
  | .flg _ => some ("flag" : Str)
  | .nam x => match lookF rows x with
    | none => none
    | some k => if k = "list" then none else some k
  | .pl x e => if lookF rows x = some ("list" : Str) ∧ kindP rows e = some ("num" : Str) then some ("num" : Str) else none
  | .nt e => if kindP rows e = some ("flag" : Str) then some ("flag" : Str) else none
  | .bin o a b => if kindP rows a = some ("num" : Str) ∧ kindP rows b = some ("num" : Str) then (if o = "<" ∨ o = "=" then some ("flag" : Str) else some ("num" : Str)) else none
def optV : Option Str → V
  | none => .non
  | some k => .str k
def sp_kinds : Sp := fun vs H Q _ => ∃ (l : Addr) (xs : List V) (rows : List VRow), vs = [.ref l] ∧ H l = some (.lst xs) ∧ Paired (VarAt H) xs rows ∧ rows.length ≤ 9 ∧ ∀ (d : Addr) (H' : Hp), Same H H' → H d = none → H' d = some (.dK (kindsK rows)) → Q (.ref d) H'
def sp_kb (n : Nat) : Sp := fun vs H Q _ => ∃ (d : Addr) (v : V) (rows : List VRow) (e : Ex), vs = [.ref d, v] ∧ H d = some (.dK (kindsK rows)) ∧ VarsOk rows ∧ ExAt H e v ∧ e.Ok ∧ e.dep ≤ n ∧ ∀ H', Same H H' → Q (optV (kindP rows e)) H'
def sp_jk (n : Nat) : Sp := fun vs H Q _ => ∃ (d t : Addr) (v1 v2 : V) (rows : List VRow) (o : Str) (e1 e2 : Ex), vs = [.ref d, .ref t] ∧ H t = some (.tup [.str o, v1, v2]) ∧ H d = some (.dK (kindsK rows)) ∧ VarsOk rows ∧ o ∈ ops5 ∧ ExAt H e1 v1 ∧ ExAt H e2 v2 ∧ e1.Ok ∧ e2.Ok ∧ e1.dep ≤ n ∧ e2.dep ≤ n ∧ ∀ H', Same H H' → Q (optV (kindP rows (.bin o e1 e2))) H'
theorem scal_opt (o : Option Str) (x : Str) : scal (optV o) (.str x) = true := by cases o <;> rfl
theorem opt_eq (o : Option Str) (x : Str) : decide (optV o = .str x) = decide (o = some x) := by
  cases o with
  | none => exact (decide_eq_false (by intro z; cases z)).trans (decide_eq_false (by intro z; cases z)).symm
  | some k =>
    refine decide_eq_decide.mpr ⟨fun z => ?_, fun z => ?_⟩
    · rw [V.str.inj z]
    · rw [Option.some.inj z]; rfl
theorem optV_get (o : Option Str) : (o.map V.str).getD .non = optV o := by cases o <;> rfl
theorem in_nf {x : Str} (h : x = "num" ∨ x = "flag") : inV (.str x) [.str "num", .str "flag"] = true := by
  rcases h with rfl | rfl <;> decide +kernel
theorem ops_facts : ∀ o ∈ ops5, inV (.str o) [.str "num", .str "flag"] = false ∧ ¬ (o = "name") ∧ ¬ (o = "at") ∧ ¬ (o = "not") ∧ ¬ (o = "num") ∧ ¬ (o = "flag") := by decide +kernel
theorem ops_in : ∀ o ∈ ops5, inV (.str o) [.str "<", .str "="] = decide (o = "<" ∨ o = "=") := by decide +kernel
theorem nin_name : inV (.str "name") [.str "num", .str "flag"] = false := by decide +kernel
theorem nin_at : inV (.str "at") [.str "num", .str "flag"] = false := by decide +kernel
theorem nin_not : inV (.str "not") [.str "num", .str "flag"] = false := by decide +kernel
theorem q_na : ¬ (("at" : Str) = "name") := by decide +kernel
theorem q_nn : ¬ (("not" : Str) = "name") := by decide +kernel
theorem q_nat : ¬ (("not" : Str) = "at") := by decide +kernel
theorem str_ne {a b : Str} (h : ¬ a = b) : ¬ (V.str a = V.str b) := fun z => h (V.str.inj z)
section
variable {P : Program} {w : World} {K : PySem.W.Frag} {mg : Str → Option Value} {base : Heap}
theorem sc_kinds_of : FnScope ["variables", "kinds", "kind", "name", "size"] ["variables"] (defScope s_kinds_of) := ⟨rfl, rfl, rfl, by decide +kernel, rfl, by decide +kernel, by decide +kernel⟩
theorem ok_kinds_of {f : Addr} {fd : FuncData} (F : Fun K "kinds_of" "kinds_of" s_kinds_of f fd) (T : Bt mg) : FnOk P w K mg base CX0 1 f fd ["variables"] sp_kinds := by
  refine F.ok sc_kinds_of (fun vs H Q E h => ?_) (fun cdv A outer s H vs Q E hr h => ?_)
  · obtain ⟨l, xs, rows, rfl, _⟩ := h; rfl
  · obtain ⟨l, xs, rows, rfl, el, hx, hl, q⟩ := h
    have hs : sizeLine = 16777216 := sizeLine_eq
    have lx : xs.length = rows.length := hx.length
    refine ⟨_, (pss_cons (ps_set (i := 1) sc_kinds_of.nd rfl (Or.inl rfl) pe_dnewK)
      (pss_cons (ps_for PassesOwn.never rfl (pi_list (pv 0)) (pg_tup rfl (pgs_cons (pg_name (i := 2) sc_kinds_of.nd rfl (Or.inl rfl)) (pgs_cons (pg_name (i := 3) sc_kinds_of.nd rfl (Or.inl rfl)) (pgs_cons (pg_name (i := 4) sc_kinds_of.nd rfl (Or.inl rfl)) pgs_nil))))
        (pss_one (ps_dput (hu_of hr) (pv 1) (pv 3) (pv 2) rfl)))
      (pss_one (ps_ret (pv 1))))), ?_⟩
    intro d hd
    have y1 := Same.put (o := .dK []) hd
    have ed : upd H d (.dK []) d = some (.dK []) := upd_same
    generalize upd H d (.dK []) = H1 at y1 ed ⊢
    refine ⟨_, rfl, l, rfl, ⟨_, SqL.of (y1 _ _ el)⟩, for_list (xs := xs) (fun i σ H2 => ∃ (v2 v3 v4 : Option V), σ = [some (.ref l), some (.ref d), v2, v3, v4] ∧ Same H H2 ∧ H2 d = some (.dK (kindsK (rows.take i))))
      ⟨_, _, _, rfl, y1, by rw [List.take_zero]; exact ed⟩ ?_ ?_ ?_⟩
    · rintro i σ H2 _ ⟨v2, v3, v4, rfl, s2, e2⟩
      exact SqL.of (s2 _ _ el)
    · rintro i x σ H2 hxi ⟨v2, v3, v4, rfl, s2, e2⟩
      obtain ⟨p, hp, T0, rfl, eT⟩ := paired_at hx hxi
      have hi : i < xs.length := (List.getElem?_eq_some_iff.mp hxi).1
      refine ⟨T0, _, rfl, SqT.of (s2 _ _ eT), rfl, _, _, rfl, _, _, rfl, _, _, rfl, rfl, ?_⟩
      refine ⟨_, rfl, _, rfl, _, rfl, d, _, rfl, DPut.k (k := .inr p.2.1) e2 (by have := kinds_len rows i; omega), ?_⟩
      exact ⟨_, _, _, rfl, Kl.same s2 hd Kl.one, by rw [upd_same, kinds_step hp]⟩
    · rintro σ H2 ⟨v2, v3, v4, rfl, s2, e2⟩
      rw [lx, List.take_of_length_le (Nat.le_refl _)] at e2
      exact ⟨_, rfl, q d H2 s2 hd e2⟩
end
end K45

set_option Elab.async false
set_option linter.all false
set_option maxRecDepth 100000
set_option maxHeartbeats 4000000
namespace K45
open PySem L2
section
variable {P : Program} {w : World} {K : PySem.W.Frag} {mg : Str → Option Value} {base : Heap}
theorem cut3 (o v1 v2 : V) : cutV [o, v1, v2] (some 1) none = [v1, v2] := by rfl
theorem sc_joined_kind : FnScope ["kinds", "expr", "inner"] ["kinds", "expr"] (defScope s_joined_kind) := ⟨rfl, rfl, rfl, by decide +kernel, rfl, by decide +kernel, by decide +kernel⟩
theorem jk_step {n k : Nat} {f f1 : Addr} {fd d1 : FuncData} (F : Fun K "joined_kind" "joined_kind" s_joined_kind f fd) (T : Bt mg) (z20 : Q8 K mg f1 d1) (z52 : FnOk P w K mg base CX0 k f1 d1 ["kinds", "expr"] (sp_kb n)) : FnOk P w K mg base CX0 (k + 1) f fd ["kinds", "expr"] (sp_jk n) := by
  refine F.ok (k := k) sc_joined_kind (fun vs H Q E h => ?_) (fun cdv A outer s H vs Q E hr h => ?_)
  · obtain ⟨d, t, v1, v2, rows, o, e1, e2, rfl, _⟩ := h; rfl
  · obtain ⟨d, t, v1, v2, rows, o, e1, e2, rfl, et, ed, ho, hop, h1, h2, o1, o2, d1', d2', q⟩ := h
    have hs : sizeLine = 16777216 := sizeLine_eq
    refine ⟨_, (pss_cons (ps_for PassesOwn.never rfl (pi_tup (pe_slice sl_tup (pv 1) (po_some pe_int) po_none)) (pg_name (i := 2) sc_joined_kind.nd rfl (Or.inl rfl))
        (pss_one (ps_if (pt_cmpR op_ne (pe_call z52 (hr.mono (by omega)) rfl z20.m z20.F.kp z20.b .nil pass0 (pa_consN (pv 0) (pa_consN (pv 2) pa_nil))) pe_str (nomark _))
          (pss_one (ps_ret pe_non))
          pss_nil)))
      (pss_one (ps_ret (pe_ifExp (pt_cmpR op_in_seq (pe_ix ix_tup (pv 1) pe_int (fun _ _ => rfl)) (pe_tup (pa_consN pe_str (pa_consN pe_str pa_nil))) (by with_unfolding_all rfl)) pe_str pe_str)))), ?_⟩
    refine ⟨_, rfl, _, rfl, t, _, rfl, SqT.of et, (by intro z; exact absurd z.1 (by show ¬ HT.sIx 3 0 (some 1) = 0; decide)), fun sl hsl => ?_⟩
    rw [cut3]
    have y1 := Same.put (o := .tup [v1, v2]) hsl
    have esl : upd H sl (.tup [v1, v2]) sl = some (.tup [v1, v2]) := upd_same
    generalize upd H sl (.tup [v1, v2]) = H1 at y1 esl ⊢
    refine ⟨sl, rfl, ⟨_, SqT.of esl⟩, for_tup (xs := [v1, v2]) (fun i σ H2 => ∃ (v : Option V), σ = [some (.ref d), some (.ref t), v] ∧ Same H1 H2 ∧ (1 ≤ i → kindP rows e1 = some ("num" : Str)) ∧ (2 ≤ i → kindP rows e2 = some ("num" : Str))) ⟨_, rfl, Same.refl _, fun h => absurd h (by decide), fun h => absurd h (by decide)⟩ ?_ ?_ ?_⟩
    · rintro i σ H2 _ ⟨v, rfl, s2, _⟩
      exact SqT.of (s2 _ _ esl)
    · rintro i x σ H2 hxi ⟨v, rfl, s2, p1, p2⟩
      have s02 := y1.trans s2
      have hi : i < 2 := (List.getElem?_eq_some_iff.mp hxi).1
      have : i = 0 ∨ i = 1 := by omega
      rcases this with rfl | rfl
      · cases hxi
        refine ⟨_, rfl, _, rfl, d, v1, rows, e1, rfl, s02 _ _ ed, ho, h1.same s02, o1, d1', fun H3 s3 => ⟨scal_opt _ _, _, rfl, ?_⟩⟩
        rw [opt_eq]
        refine ite2 (fun h => ?_) (fun h => ?_)
        · have hn : ¬ kindP rows e1 = some ("num" : Str) := of_decide_eq_false ((Bool.not_eq_true' _).mp h)
          have e : kindP rows (.bin o e1 e2) = none := if_neg fun z => hn z.1
          have := q H3 (s02.trans s3)
          rw [e] at this; exact this
        · have hn : kindP rows e1 = some ("num" : Str) := by
            rcases Decidable.em (kindP rows e1 = some ("num" : Str)) with z | z
            · exact z
            · exact absurd (by rw [decide_eq_false z]; rfl) h
          exact ⟨_, rfl, s2.trans s3, fun _ => hn, fun h => absurd h (by decide)⟩
      · cases hxi
        refine ⟨_, rfl, _, rfl, d, v2, rows, e2, rfl, s02 _ _ ed, ho, h2.same s02, o2, d2', fun H3 s3 => ⟨scal_opt _ _, _, rfl, ?_⟩⟩
        rw [opt_eq]
        refine ite2 (fun h => ?_) (fun h => ?_)
        · have hn : ¬ kindP rows e2 = some ("num" : Str) := of_decide_eq_false ((Bool.not_eq_true' _).mp h)
          have e : kindP rows (.bin o e1 e2) = none := if_neg fun z => hn z.2
          have := q H3 (s02.trans s3)
          rw [e] at this; exact this
        · have hn : kindP rows e2 = some ("num" : Str) := by
            rcases Decidable.em (kindP rows e2 = some ("num" : Str)) with z | z
            · exact z
            · exact absurd (by rw [decide_eq_false z]; rfl) h
          exact ⟨_, rfl, s2.trans s3, fun _ => p1 (Nat.le_refl _), fun _ => hn⟩
    · rintro σ H2 ⟨v, rfl, s2, p1, p2⟩
      have s02 := y1.trans s2
      have k1 := p1 (by show 1 ≤ 2; decide)
      have k2 := p2 (by show 2 ≤ 2; decide)
      refine ⟨_, rfl, t, _, _, _, rfl, rfl, SqT.of (s02 _ _ et), rfl, (by show 2 ≤ sizeLine; omega), fun tp htp => ⟨tp, [V.str "<", V.str "="], rfl, .inr (SqT.of upd_same), rfl, rfl, _, rfl, ?_⟩⟩
      have y3 := Same.put (o := .tup [V.str "<", V.str "="]) htp
      have ein : (if false = true then !inV (V.str o) [V.str "<", V.str "="] else inV (V.str o) [V.str "<", V.str "="]) = decide (o = "<" ∨ o = "=") := ops_in o hop
      rw [ein]
      have qq := q _ (s02.trans y3)
      have e : kindP rows (.bin o e1 e2) = if o = "<" ∨ o = "=" then some ("flag" : Str) else some ("num" : Str) := if_pos ⟨k1, k2⟩
      rw [e] at qq
      refine ite2 (fun h => ?_) (fun h => ?_)
      · rw [if_pos (of_decide_eq_true h)] at qq; exact qq
      · rw [if_neg fun z => h (decide_eq_true z)] at qq; exact qq
theorem sc_kind_by : FnScope ["kinds", "expr", "kind", "is_place"] ["kinds", "expr"] (defScope s_kind_by) := ⟨rfl, rfl, rfl, by decide +kernel, rfl, by decide +kernel, by decide +kernel⟩
theorem kb_step {n : Nat} {prev prevJ : Sp} {f f1 : Addr} {fd d1 : FuncData} (T : Bt mg) (z22 : Q9 K mg f1 d1) (z20 : Q8 K mg f fd)
    (hp : n = 0 ∨ ∃ m, n = m + 1 ∧ prev = sp_kb m ∧ prevJ = sp_jk m) (z52 : FnOk P w K mg base CX0 (2 * n + 1) f fd ["kinds", "expr"] prev) (G_joined_kind : FnOk P w K mg base CX0 (2 * n + 2) f1 d1 ["kinds", "expr"] prevJ) : FnOk P w K mg base CX0 (2 * n + 3) f fd ["kinds", "expr"] (sp_kb n) := by
  refine z20.F.ok (k := 2 * n + 2) sc_kind_by (fun vs H Q E h => ?_) (fun cdv A outer s H vs Q E hr h => ?_)
  · obtain ⟨d, v, rows, e, rfl, _⟩ := h; rfl
  · obtain ⟨d, v, rows, e, rfl, ed, ho, hE, oE, dE, q⟩ := h
    have hs : sizeLine = 16777216 := sizeLine_eq
    refine ⟨_, (pss_cons (ps_if (pt_cmpR op_in_seq (pe_ix ix_tup (pv 1) pe_int (fun _ _ => rfl)) (pe_tup (pa_consN pe_str (pa_consN pe_str pa_nil))) (by with_unfolding_all rfl))
        (pss_one (ps_ret (pe_ix ix_tup (pv 1) pe_int (fun _ _ => rfl))))
        pss_nil)
      (pss_cons (ps_if (pt_cmpR op_eq (pe_ix ix_tup (pv 1) pe_int (fun _ _ => rfl)) pe_str (nomark _))
        (pss_cons (ps_set (i := 2) sc_kind_by.nd rfl (Or.inl rfl) (pe_dget1 (hu_of hr) (pv 0) (pe_ix ix_tup (pv 1) pe_int (fun _ _ => rfl)) ⟨rfl, rfl, rfl, rfl⟩))
        (pss_one (ps_ret (pe_ifExp (pt_cmpR op_ne (pv 2) pe_str (nomark _)) (pv 2) pe_non))))
        pss_nil)
      (pss_cons (ps_if (pt_cmpR op_eq (pe_ix ix_tup (pv 1) pe_int (fun _ _ => rfl)) pe_str (nomark _))
        (pss_cons (ps_set (i := 3) sc_kind_by.nd rfl (Or.inl rfl) (pe_and (pe_cmpR op_eq (pe_dget1 (hu_of hr) (pv 0) (pe_ix ix_tup (pv 1) pe_int (fun _ _ => rfl)) ⟨rfl, rfl, rfl, rfl⟩) pe_str (nomark _)) (pe_one (pe_cmpR op_eq (pe_call z52 (hr.mono (by omega)) rfl z20.m z20.F.kp z20.b .nil pass0 (pa_consN (pv 0) (pa_consN (pe_ix ix_tup (pv 1) pe_int (fun _ _ => rfl)) pa_nil))) pe_str (nomark _)))))
        (pss_one (ps_ret (pe_ifExp (pt_val (pv 3)) pe_str pe_non))))
        pss_nil)
      (pss_cons (ps_if (pt_cmpR op_eq (pe_ix ix_tup (pv 1) pe_int (fun _ _ => rfl)) pe_str (nomark _))
        (pss_one (ps_ret (pe_ifExp (pt_cmpR op_eq (pe_call z52 (hr.mono (by omega)) rfl z20.m z20.F.kp z20.b .nil pass0 (pa_consN (pv 0) (pa_consN (pe_ix ix_tup (pv 1) pe_int (fun _ _ => rfl)) pa_nil))) pe_str (nomark _)) pe_str pe_non)))
        pss_nil)
      (pss_one (ps_ret (pe_call G_joined_kind (hr.mono (by omega)) rfl z22.m z22.F.kp z22.b .nil pass0 (pa_consN (pv 0) (pa_consN (pv 1) pa_nil))))))))), ?_⟩
    cases e with
    | num i =>
      obtain ⟨t, rfl, et⟩ := hE
      refine ⟨_, rfl, t, _, _, _, rfl, rfl, SqT.of et, rfl, (by show 2 ≤ sizeLine; omega), fun tp htp => ⟨tp, [V.str "num", V.str "flag"], rfl, .inr (SqT.of upd_same), rfl, rfl, _, rfl, ?_⟩⟩
      have y1 := Same.put (o := .tup [V.str "num", V.str "flag"]) htp
      rw [show (if false = true then !inV (V.str "num") [V.str "num", V.str "flag"] else inV (V.str "num") [V.str "num", V.str "flag"]) = true from in_nf (.inl rfl)]
      exact iteT ⟨_, rfl, t, _, _, _, rfl, rfl, SqT.of (y1 _ _ et), rfl, q _ y1⟩
    | flg b =>
      obtain ⟨t, rfl, et⟩ := hE
      refine ⟨_, rfl, t, _, _, _, rfl, rfl, SqT.of et, rfl, (by show 2 ≤ sizeLine; omega), fun tp htp => ⟨tp, [V.str "num", V.str "flag"], rfl, .inr (SqT.of upd_same), rfl, rfl, _, rfl, ?_⟩⟩
      have y1 := Same.put (o := .tup [V.str "num", V.str "flag"]) htp
      rw [show (if false = true then !inV (V.str "flag") [V.str "num", V.str "flag"] else inV (V.str "flag") [V.str "num", V.str "flag"]) = true from in_nf (.inr rfl)]
      exact iteT ⟨_, rfl, t, _, _, _, rfl, rfl, SqT.of (y1 _ _ et), rfl, q _ y1⟩
    | nam x =>
      obtain ⟨t, rfl, et⟩ := hE
      refine ⟨_, rfl, t, _, _, _, rfl, rfl, SqT.of et, rfl, (by show 2 ≤ sizeLine; omega), fun tp htp => ⟨tp, [V.str "num", V.str "flag"], rfl, .inr (SqT.of upd_same), rfl, rfl, _, rfl, ?_⟩⟩
      have y1 := Same.put (o := .tup [V.str "num", V.str "flag"]) htp
      rw [show (if false = true then !inV (V.str "name") [V.str "num", V.str "flag"] else inV (V.str "name") [V.str "num", V.str "flag"]) = false from nin_name]
      generalize upd H tp (.tup [V.str "num", V.str "flag"]) = H1 at y1 ⊢
      have et1 := y1 _ _ et
      have ed1 := y1 _ _ ed
      refine iteF ⟨_, rfl, t, _, _, _, rfl, rfl, SqT.of et1, rfl, rfl, _, rfl, itDP rfl ?_⟩
      refine ⟨_, rfl, d, rfl, .inl ⟨_, .inl ed1⟩, _, rfl, t, _, _, _, rfl, rfl, SqT.of et1, rfl, _, DGet.k (k := .inr x) ed1, ?_⟩
      rw [kinds_val]
      have qq := q H1 y1
      cases hlk : lookF rows x with
      | none =>
        have e : kindP rows (.nam x) = none := by show (match lookF rows x with | none => none | some k => if k = "list" then none else some k) = _; rw [hlk]
        rw [e] at qq
        refine ⟨_, rfl, rfl, _, rfl, ?_⟩
        rw [decide_eq_false (by intro z; cases z)]
        exact iteT ⟨_, rfl, qq⟩
      | some k =>
        have e : kindP rows (.nam x) = if k = "list" then none else some k := by show (match lookF rows x with | none => none | some k => if k = "list" then none else some k) = _; rw [hlk]
        rw [e] at qq
        refine ⟨_, rfl, rfl, _, rfl, ?_⟩
        by_cases hk : k = "list"
        · rw [if_pos hk] at qq
          rw [show decide ((Option.map V.str (some k)).getD V.non = V.str "list") = true from decide_eq_true (by rw [hk]; rfl)]
          exact iteF qq
        · rw [if_neg hk] at qq
          rw [show decide ((Option.map V.str (some k)).getD V.non = V.str "list") = false from decide_eq_false (fun z => hk (V.str.inj z))]
          exact iteT ⟨_, rfl, qq⟩
    | pl x e =>
      obtain ⟨t, u, rfl, et, hu⟩ := hE
      refine ⟨_, rfl, t, _, _, _, rfl, rfl, SqT.of et, rfl, (by show 2 ≤ sizeLine; omega), fun tp htp => ⟨tp, [V.str "num", V.str "flag"], rfl, .inr (SqT.of upd_same), rfl, rfl, _, rfl, ?_⟩⟩
      have y1 := Same.put (o := .tup [V.str "num", V.str "flag"]) htp
      rw [show (if false = true then !inV (V.str "at") [V.str "num", V.str "flag"] else inV (V.str "at") [V.str "num", V.str "flag"]) = false from nin_at]
      generalize upd H tp (.tup [V.str "num", V.str "flag"]) = H1 at y1 ⊢
      have et1 := y1 _ _ et
      have ed1 := y1 _ _ ed
      refine iteF ⟨_, rfl, t, _, _, _, rfl, rfl, SqT.of et1, rfl, rfl, _, rfl, itDN (str_ne q_na) ?_⟩
      refine ⟨_, rfl, t, _, _, _, rfl, rfl, SqT.of et1, rfl, rfl, _, rfl, itDP rfl ?_⟩
      rcases hp with h | ⟨m, rfl, rfl, rfl⟩
      · subst h; exact absurd dE (by show ¬ e.dep + 1 ≤ 0; omega)
      have dE' : e.dep + 1 ≤ m + 1 := dE
      refine ⟨_, rfl, d, rfl, .inl ⟨_, .inl ed1⟩, _, rfl, t, _, _, _, rfl, rfl, SqT.of et1, rfl, _, DGet.k (k := .inr x) ed1, ?_⟩
      rw [kinds_val, optV_get]
      have e' : kindP rows (.pl x e) = if lookF rows x = some ("list" : Str) ∧ kindP rows e = some ("num" : Str) then some ("num" : Str) else none := rfl
      refine ⟨scal_opt _ _, _, rfl, ?_⟩
      rw [opt_eq]
      refine ite2 (fun h => ?_) (fun h => ?_)
      · have hk := of_decide_eq_true h
        refine ⟨_, rfl, _, rfl, t, _, _, _, rfl, rfl, SqT.of et1, rfl, d, u, rows, e, rfl, ed1, ho, hu.same y1, oE.2, by omega, fun H3 s3 => ⟨scal_opt _ _, ?_⟩⟩
        rw [opt_eq]
        have qq := q H3 (y1.trans s3)
        rw [e'] at qq
        by_cases hn : kindP rows e = some ("num" : Str)
        · rw [if_pos ⟨hk, hn⟩] at qq
          rw [decide_eq_true hn]
          exact ⟨_, rfl, _, rfl, iteT qq⟩
        · rw [if_neg fun z => hn z.2] at qq
          rw [decide_eq_false hn]
          exact ⟨_, rfl, _, rfl, iteF qq⟩
      · have hk : ¬ lookF rows x = some ("list" : Str) := fun z => h (decide_eq_true z)
        have qq := q H1 y1
        rw [e', if_neg fun z => hk z.1] at qq
        exact ⟨_, rfl, _, rfl, iteF qq⟩
    | nt e =>
      obtain ⟨t, u, rfl, et, hu⟩ := hE
      refine ⟨_, rfl, t, _, _, _, rfl, rfl, SqT.of et, rfl, (by show 2 ≤ sizeLine; omega), fun tp htp => ⟨tp, [V.str "num", V.str "flag"], rfl, .inr (SqT.of upd_same), rfl, rfl, _, rfl, ?_⟩⟩
      have y1 := Same.put (o := .tup [V.str "num", V.str "flag"]) htp
      rw [show (if false = true then !inV (V.str "not") [V.str "num", V.str "flag"] else inV (V.str "not") [V.str "num", V.str "flag"]) = false from nin_not]
      generalize upd H tp (.tup [V.str "num", V.str "flag"]) = H1 at y1 ⊢
      have et1 := y1 _ _ et
      have ed1 := y1 _ _ ed
      refine iteF ⟨_, rfl, t, _, _, _, rfl, rfl, SqT.of et1, rfl, rfl, _, rfl, itDN (str_ne q_nn) ?_⟩
      refine ⟨_, rfl, t, _, _, _, rfl, rfl, SqT.of et1, rfl, rfl, _, rfl, itDN (str_ne q_nat) ?_⟩
      refine ⟨_, rfl, t, _, _, _, rfl, rfl, SqT.of et1, rfl, rfl, _, rfl, itDP rfl ?_⟩
      rcases hp with h | ⟨m, rfl, rfl, rfl⟩
      · subst h; exact absurd dE (by show ¬ e.dep + 1 ≤ 0; omega)
      have dE' : e.dep + 1 ≤ m + 1 := dE
      refine ⟨_, rfl, _, rfl, t, _, _, _, rfl, rfl, SqT.of et1, rfl, d, u, rows, e, rfl, ed1, ho, hu.same y1, oE, by omega, fun H3 s3 => ⟨scal_opt _ _, _, rfl, ?_⟩⟩
      rw [opt_eq]
      have qq := q H3 (y1.trans s3)
      have e' : kindP rows (.nt e) = if kindP rows e = some ("flag" : Str) then some ("flag" : Str) else none := rfl
      rw [e'] at qq
      refine ite2 (fun h => ?_) (fun h => ?_)
      · rw [if_pos (of_decide_eq_true h)] at qq; exact qq
      · rw [if_neg fun z => h (decide_eq_true z)] at qq; exact qq
    | bin o e1 e2 =>
      obtain ⟨t, u1, u2, rfl, et, hu1, hu2⟩ := hE
      obtain ⟨hop, oa, ob⟩ := oE
      obtain ⟨n1, n2, n3, n4, _, _⟩ := ops_facts o hop
      refine ⟨_, rfl, t, _, _, _, rfl, rfl, SqT.of et, rfl, (by show 2 ≤ sizeLine; omega), fun tp htp => ⟨tp, [V.str "num", V.str "flag"], rfl, .inr (SqT.of upd_same), rfl, rfl, _, rfl, ?_⟩⟩
      have y1 := Same.put (o := .tup [V.str "num", V.str "flag"]) htp
      rw [show (if false = true then !inV (V.str o) [V.str "num", V.str "flag"] else inV (V.str o) [V.str "num", V.str "flag"]) = false from n1]
      generalize upd H tp (.tup [V.str "num", V.str "flag"]) = H1 at y1 ⊢
      have et1 := y1 _ _ et
      have ed1 := y1 _ _ ed
      refine iteF ⟨_, rfl, t, _, _, _, rfl, rfl, SqT.of et1, rfl, rfl, _, rfl, itDN (str_ne n2) ?_⟩
      refine ⟨_, rfl, t, _, _, _, rfl, rfl, SqT.of et1, rfl, rfl, _, rfl, itDN (str_ne n3) ?_⟩
      refine ⟨_, rfl, t, _, _, _, rfl, rfl, SqT.of et1, rfl, rfl, _, rfl, itDN (str_ne n4) ?_⟩
      rcases hp with h | ⟨m, rfl, rfl, rfl⟩
      · subst h; exact absurd dE (by show ¬ max e1.dep e2.dep + 1 ≤ 0; omega)
      have dE' : max e1.dep e2.dep + 1 ≤ m + 1 := dE
      exact ⟨_, rfl, _, rfl, d, t, u1, u2, rows, o, e1, e2, rfl, et1, ed1, ho, hop, hu1.same y1, hu2.same y1, oa, ob, by omega, by omega, fun H3 s3 => q H3 (y1.trans s3)⟩
theorem ok_kind_by {f f1 : Addr} {fd d1 : FuncData} (T : Bt mg) (z22 : Q9 K mg f1 d1) (z20 : Q8 K mg f fd) :
    ∀ n : Nat, FnOk P w K mg base CX0 (2 * n + 3) f fd ["kinds", "expr"] (sp_kb n)
  | 0 => kb_step (prevJ := fun _ _ _ _ => False) T z22 z20 (.inl rfl) (z20.F.ok (k := 0) (sp := fun _ _ _ _ => False) sc_kind_by (fun _ _ _ _ h => h.elim) (fun _ _ _ _ _ _ _ _ _ h => h.elim)) (z22.F.ok (k := 1) (sp := fun _ _ _ _ => False) sc_joined_kind (fun _ _ _ _ h => h.elim) (fun _ _ _ _ _ _ _ _ _ h => h.elim))
  | n + 1 => kb_step T z22 z20 (.inr ⟨n, rfl, rfl, rfl⟩) (ok_kind_by T z22 z20 n) (jk_step z22.F T z20 (ok_kind_by T z22 z20 n))
end
end K45

set_option Elab.async false
set_option linter.all false
set_option maxRecDepth 100000
set_option maxHeartbeats 4000000
namespace K45
open PySem L2
theorem kindP_in {rows : List VRow} (ho : VarsOk rows) (e : Ex) : kindP rows e = none ∨ kindP rows e = some ("num" : Str) ∨ kindP rows e = some ("flag" : Str) := by
  cases e with
  | num i => exact .inr (.inl rfl)
  | flg b => exact .inr (.inr rfl)
  | nam x =>
    show (match lookF rows x with | none => none | some k => if k = "list" then none else some k) = none ∨ _
    cases h : lookF rows x with
    | none => exact .inl (by simp [kindP, h])
    | some k =>
      have hk := look_in ho h
      unfold kinds3 at hk
      simp only [List.mem_cons, List.not_mem_nil, or_false] at hk
      rcases hk with rfl | rfl | rfl
      · exact .inr (.inl (by simp only [kindP, h]; exact if_neg (by decide +kernel)))
      · exact .inr (.inr (by simp only [kindP, h]; exact if_neg (by decide +kernel)))
      · exact .inl (by simp [kindP, h])
  | pl x e => unfold kindP; split <;> simp
  | nt e => unfold kindP; split <;> simp
  | bin o a b =>
    unfold kindP
    split
    · split <;> simp
    · simp
def kindL (rows : List VRow) (e : Ex) : Str := (kindP rows e).getD ""
theorem ok_kindL {rows : List VRow} (ho : VarsOk rows) (e : Ex) : PyData.strOk (kindL rows e) = true := by
  unfold kindL
  rcases kindP_in ho e with h | h | h <;> rw [h] <;> decide +kernel
theorem kindL_num {rows : List VRow} (e : Ex) : kindL rows e = "num" ↔ kindP rows e = some ("num" : Str) := by
  unfold kindL
  cases h : kindP rows e with
  | none => exact ⟨fun z => absurd z (by decide +kernel), fun z => by cases z⟩
  | some k => exact ⟨fun z => by have z' : k = "num" := z; rw [z'], fun z => Option.some.inj z⟩
theorem kindL_flag {rows : List VRow} (e : Ex) : kindL rows e = "flag" ↔ kindP rows e = some ("flag" : Str) := by
  unfold kindL
  cases h : kindP rows e with
  | none => exact ⟨fun z => absurd z (by decide +kernel), fun z => by cases z⟩
  | some k => exact ⟨fun z => by have z' : k = "flag" := z; rw [z'], fun z => Option.some.inj z⟩
def exD : Ex → PyData
  | .num i => .tuple [.str "num", .int i]
  | .nam x => .tuple [.str "name", .str x]
  | .flg b => .tuple [.str "flag", .bool b]
  | .pl x e => .tuple [.str "at", .str x, exD e]
  | .nt e => .tuple [.str "not", exD e]
  | .bin o a b => .tuple [.str o, exD a, exD b]
theorem ExAt.rep (K : PySem.W.Frag) {H : Hp} : ∀ {e : Ex} {v : V}, ExAt H e v → Rep K H v (exD e)
  | .num i, v, ⟨a, e, h⟩ => by subst e; exact .tup (SqT.of h) (.cons (.str _) (.cons (.int _) .nil))
  | .nam x, v, ⟨a, e, h⟩ => by subst e; exact .tup (SqT.of h) (.cons (.str _) (.cons (.str _) .nil))
  | .flg b, v, ⟨a, e, h⟩ => by subst e; exact .tup (SqT.of h) (.cons (.str _) (.cons (.bl _) .nil))
  | .pl x e, v, ⟨a, u, e1, h, r⟩ => by subst e1; exact .tup (SqT.of h) (.cons (.str _) (.cons (.str _) (.cons (ExAt.rep K r) .nil)))
  | .nt e, v, ⟨a, u, e1, h, r⟩ => by subst e1; exact .tup (SqT.of h) (.cons (.str _) (.cons (ExAt.rep K r) .nil))
  | .bin o e1 e2, v, ⟨a, u1, u2, e3, h, r1, r2⟩ => by subst e3; exact .tup (SqT.of h) (.cons (.str _) (.cons (ExAt.rep K r1) (.cons (ExAt.rep K r2) .nil)))
theorem ops_ok : ∀ o ∈ ops5, PyData.strOk o = true := by decide +kernel
theorem w_num : PyData.strOk "num" = true := by decide +kernel
theorem w_name : PyData.strOk "name" = true := by decide +kernel
theorem w_flag : PyData.strOk "flag" = true := by decide +kernel
theorem w_at : PyData.strOk "at" = true := by decide +kernel
theorem w_not : PyData.strOk "not" = true := by decide +kernel
theorem lay_ex : ∀ {e : Ex}, e.Ok → (exD e).canLay0 = true
  | .num i, _ => by show (PyData.strOk "num" && (true && true)) = true; rw [w_num]; rfl
  | .nam x, h => by
    have h' : PyData.strOk x = true := h
    show (PyData.strOk "name" && (PyData.strOk x && true)) = true; rw [w_name, h']; rfl
  | .flg b, _ => by show (PyData.strOk "flag" && (true && true)) = true; rw [w_flag]; rfl
  | .pl x e, h => by
    show (PyData.strOk "at" && (PyData.strOk x && ((exD e).canLay0 && true))) = true; rw [w_at, h.1, lay_ex h.2]; rfl
  | .nt e, h => by
    have h' : e.Ok := h
    show (PyData.strOk "not" && ((exD e).canLay0 && true)) = true; rw [w_not, lay_ex h']; rfl
  | .bin o a b, h => by
    show (PyData.strOk o && ((exD a).canLay0 && ((exD b).canLay0 && true))) = true; rw [ops_ok o h.1, lay_ex h.2.1, lay_ex h.2.2]; rfl
theorem ex_tup : ∀ e : Ex, ∃ ds, exD e = .tuple ds
  | .num _ => ⟨_, rfl⟩
  | .nam _ => ⟨_, rfl⟩
  | .flg _ => ⟨_, rfl⟩
  | .pl _ _ => ⟨_, rfl⟩
  | .nt _ => ⟨_, rfl⟩
  | .bin _ _ _ => ⟨_, rfl⟩
theorem ex_ref {H : Hp} : ∀ {e : Ex} {v : V}, ExAt H e v → ∃ t xs, v = .ref t ∧ H t = some (.tup xs)
  | .num _, _, ⟨a, e, h⟩ => ⟨a, _, e, h⟩
  | .nam _, _, ⟨a, e, h⟩ => ⟨a, _, e, h⟩
  | .flg _, _, ⟨a, e, h⟩ => ⟨a, _, e, h⟩
  | .pl _ _, _, ⟨a, u, e, h, _⟩ => ⟨a, _, e, h⟩
  | .nt _, _, ⟨a, u, e, h, _⟩ => ⟨a, _, e, h⟩
  | .bin _ _ _, _, ⟨a, u1, u2, e, h, _⟩ => ⟨a, _, e, h⟩
def ownG (g : Str → Bool) (rows : List VRow) : Str := rows.foldl (fun acc p => if g p.2.1 = true then p.1 else acc) ""
theorem own_step {g : Str → Bool} {rows : List VRow} {i : Nat} {p : VRow} (h : rows[i]? = some p) : ownG g (rows.take (i + 1)) = if g p.2.1 = true then p.1 else ownG g (rows.take i) := by
  unfold ownG; rw [List.take_add_one, h, List.foldl_append]; rfl
theorem own_look (rows : List VRow) (x : Str) : ownG (fun y => PyData.eqv (.str y) (.str x)) rows = (lookF rows x).getD "" := by
  have key : ∀ i, ownG (fun y => PyData.eqv (.str y) (.str x)) (rows.take i) = (lookF (rows.take i) x).getD "" := fun i => by
    induction i with
    | zero => rw [List.take_zero]; rfl
    | succ i ih =>
      cases h : rows[i]? with
      | none =>
        rw [List.getElem?_eq_none_iff] at h
        rw [List.take_of_length_le (by omega), ← List.take_of_length_le (i := i) (l := rows) h]; exact ih
      | some p =>
        rw [own_step h, look_step h]
        have e : PyData.eqv (.str p.2.1) (.str x) = (p.2.1 == x) := by simp [PyData.eqv]
        by_cases hx : p.2.1 = x
        · rw [if_pos hx, if_pos (by rw [e]; simpa using hx)]; rfl
        · rw [if_neg hx, if_neg (by rw [e]; simpa using hx)]; exact ih
  have := key rows.length
  rwa [List.take_of_length_le (Nat.le_refl _)] at this
def kv2 (a b c d : Str) : List (Key × V) := mergeK [] [(.inr a, .str b), (.inr c, .str d)]
theorem kv2_get {a b c d x z : Str} (hac : ¬ a = c) : (valV (kv2 a b c d) (.inr x)).getD (.str z) = .str (if x = c then d else if x = a then b else z) := by
  unfold kv2 mergeK
  show (valV (putK (putK ([] : List (Key × V)) (.inr a) (.str b)) (.inr c) (.str d)) (.inr x)).getD (.str z) = _
  rw [valV_put, valV_put]
  by_cases h1 : x = c
  · rw [if_pos (by rw [h1]), if_pos h1]; rfl
  · rw [if_neg (fun z => h1 (Sum.inr.inj z)), if_neg h1]
    by_cases h2 : x = a
    · rw [if_pos (by rw [h2]), if_pos h2]; rfl
    · rw [if_neg (fun z => h2 (Sum.inr.inj z)), if_neg h2]; rfl
theorem name_get {rows : List VRow} (ho : VarsOk rows) (x : Str) : (valV (kv2 "num" "num" "flag" "flag") (.inr ((lookF rows x).getD ""))).getD (.str "") = .str (kindL rows (.nam x)) := by
  rw [kv2_get (by decide +kernel)]
  unfold kindL
  cases h : lookF rows x with
  | none =>
    simp only [kindP, h]
    exact congrArg V.str (by decide +kernel)
  | some k =>
    have hk := look_in ho h
    unfold kinds3 at hk
    simp only [List.mem_cons, List.not_mem_nil, or_false] at hk
    simp only [kindP, h]
    rcases hk with rfl | rfl | rfl <;> exact congrArg V.str (by decide +kernel)
theorem sign_get : ∀ o ∈ ops5, (if o = ("=" : Str) then ("flag" : Str) else if o = ("<" : Str) then "flag" else "num") = (if o = ("<" : Str) ∨ o = "=" then ("flag" : Str) else "num") := by decide +kernel
end K45

set_option Elab.async false
set_option linter.all false
set_option maxRecDepth 100000
set_option maxHeartbeats 4000000
namespace K45
open PySem L2
theorem call_isiK {X : Cx} {K : PySem.W.Frag} {T : String} (h : X.K = K := by rfl) : CallR X (.builtin "isinstance") (fun xs H Q => ∃ x t k, xs = [x, .ty T] ∧ TyOf K H x t ∧ PySem.W.kitOne K t (.type T) = some k ∧ Q (.bl k) H) := by subst h; exact call_isi
def sp_lk (n : Nat) : Sp := fun vs H Q _ => ∃ (l : Addr) (v : V) (xs : List V) (rows : List VRow) (e : Ex), vs = [.ref l, v] ∧ H l = some (.lst xs) ∧ Paired (VarAt H) xs rows ∧ VarsOk rows ∧ rows.length ≤ 9 ∧ ExAt H e v ∧ e.Ok ∧ e.dep ≤ n ∧ ∀ H', Same H H' → Q (.str (kindL rows e)) H'
theorem at0 {x : V} {us : List V} : atI (x :: us) 0 = some x := atI_nat (show (x :: us)[0]? = some x from rfl)
theorem kit_str_tup (K : PySem.W.Frag) : PySem.W.kitOne K (.type "str") (.type "tuple") = some false := by rfl
theorem kit_tup_tup (K : PySem.W.Frag) : PySem.W.kitOne K (.type "tuple") (.type "tuple") = some true := by rfl
theorem neq_fn : ¬ (("flag" : Str) = "num") := by decide +kernel
theorem q_nmn : ¬ (("name" : Str) = "num") := by decide +kernel
theorem q_nmf : ¬ (("name" : Str) = "flag") := by decide +kernel
theorem q_an : ¬ (("at" : Str) = "num") := by decide +kernel
theorem q_af : ¬ (("at" : Str) = "flag") := by decide +kernel
theorem q_ntn : ¬ (("not" : Str) = "num") := by decide +kernel
theorem q_ntf : ¬ (("not" : Str) = "flag") := by decide +kernel
theorem eqv_strs : ∀ ks ws : List Str, PyData.eqv (.list (ks.map PyData.str)) (.list (ws.map PyData.str)) = decide (ks = ws)
  | [], [] => rfl
  | [], _ :: _ => rfl
  | _ :: _, [] => rfl
  | a :: ks, b :: ws => by
    have ih := eqv_strs ks ws
    have e : PyData.eqv (.list ((a :: ks).map PyData.str)) (.list ((b :: ws).map PyData.str)) = ((a == b) && PyData.eqv (.list (ks.map PyData.str)) (.list (ws.map PyData.str))) := by simp [PyData.eqv, PyData.eqvAll]
    rw [e, ih, Bool.eq_iff_iff]
    simp
theorem eqv2 (a b c d : Str) : PyData.eqv (.list [.str a, .str b]) (.list [.str c, .str d]) = decide (a = c ∧ b = d) := by
  rw [Bool.eq_iff_iff]
  simp [PyData.eqv, PyData.eqvAll]
def ItAt (H : Hp) (v : V) : Str ⊕ Ex → Prop
  | .inl x => v = .str x
  | .inr e => ExAt H e v
def kindsOf (rows : List VRow) (its : List (Str ⊕ Ex)) : List Str := its.filterMap fun | .inl _ => none | .inr e => some (kindL rows e)
section
variable {P : Program} {w : World} {K : PySem.W.Frag} {mg : Str → Option Value} {base : Heap}
theorem z53 : FnScope ["_law_told", "_law_expr_here", "_law_own", "_law_kind_here", "_law_name", "_law_size", "_law_inner"] ["_law_told", "_law_expr_here"] (defScope s_law_kind) := ⟨rfl, rfl, rfl, by decide +kernel, rfl, by decide +kernel, by decide +kernel⟩
theorem lk_B {n : Nat} {prev : Sp} {f : Addr} {fd : FuncData} (T : Bt mg) (z18 : Q10 K mg f fd) (z54 : FnOk P w K mg base CX0 (n + 1) f fd ["_law_told", "_law_expr_here"] prev) {cdv : Value} {A : Around} {outer : List Env} {s : Shared} {H : Hp} {E : XK} (hr : Room (n + 1) (A.deeper (PyProof.Rows.envOfC "_law_kind" (defScope s_law_kind) s.heap.objs.size f cdv))) :
    ∃ u, PSs (cxOf CX0 P w K mg base ["_law_told", "_law_expr_here", "_law_own", "_law_kind_here", "_law_name", "_law_size", "_law_inner"] "_law_kind" (defScope s_law_kind) f cdv A outer s H E).nox ((defBody s_law_kind).drop 4) u ∧
      ∀ (D : Ends) (v3 v4 v5 v6 : Option V) (l t : Addr) (xs : List V) (rows : List VRow) (sg own : Str) (us : List V) (its : List (Str ⊕ Ex)) (H : Hp), H l = some (.lst xs) → Paired (VarAt H) xs rows → VarsOk rows → rows.length ≤ 9 → H t = some (.tup (.str sg :: us)) → us.length ≤ 2 → 0 < us.length → Paired (ItAt H) us its → (∀ e, .inr e ∈ its → e.Ok) → PyData.strOk own = true →
        ((∃ e, .inr e ∈ its) → ∃ m, prev = sp_lk m ∧ ∀ e, .inr e ∈ its → e.dep ≤ m) →
        (∀ (r : Str) (H' : Hp), Same H H' → (sg = "at" → r = if own = "list" ∧ kindsOf rows its = [("num" : Str)] then "num" else "") → (sg = "not" → r = if kindsOf rows its = [("flag" : Str)] then "flag" else "") → (sg ∈ ops5 → r = if kindsOf rows its = [("num" : Str), "num"] then (if sg = ("<" : Str) ∨ sg = "=" then ("flag" : Str) else "num") else "") → D.rt (.str r) H') →
        u D [some (.ref l), some (.ref t), some (.str own), v3, v4, v5, v6] H := by
  refine ⟨_, (pss_cons (ps_setCompIf (i := 6) rfl (blk_of (sc0 := defScope s_law_kind) (N0 := ["_law_told", "_law_expr_here", "_law_own", "_law_kind_here", "_law_name", "_law_size", "_law_inner"]) (N' := ["_law_one", "_law_told"]) (own := 1) (fv := [0]) (by decide +kernel) rfl rfl) z53.nd rfl (Or.inl rfl) (pi_tup (pe_slice sl_tup (pv 1) (po_some pe_int) po_none)) (fun _ _ _ _ => (pg_name (i := 0) (by show List.Nodup (["_law_one", "_law_told"] : List Str); decide +kernel) rfl (Or.inl rfl))) (fun _ _ _ _ => (pt_val (pe_callB (call_isiK (T := "tuple") (K := K)) rfl T.b_isinstance (by decide +kernel) (pa_consN (pv 0) (pa_consN (pe_bltn (v := .ty "tuple") (u := .type "tuple") rfl T.b_tuple (by decide +kernel) rfl) pa_nil))))) (fun _ _ _ _ => (pe_call z54 (hr.mono (by omega)) rfl z18.m z18.F.kp z18.b .nil pass0 (pa_consN (pv 1) (pa_consN (pv 0) pa_nil)))))
      (pss_cons (ps_if (pt_cmpR op_eq (pe_ix ix_tup (pv 1) pe_int (fun _ _ => rfl)) pe_str (nomark _))
        (pss_one (ps_ret (pe_ifExp (PW.pt (pw_and (pt_cmpR op_eq (pv 2) pe_str (nomark _)) (pw_and1 (pt_cmpR (op_eqD (hr.units)) (pv 6) (pe_lst (pa_consN pe_str pa_nil)) (nomark _))))) pe_str pe_str)))
        pss_nil)
      (pss_cons (ps_if (pt_cmpR op_eq (pe_ix ix_tup (pv 1) pe_int (fun _ _ => rfl)) pe_str (nomark _))
        (pss_one (ps_ret (pe_ifExp (pt_cmpR (op_eqD (hr.units)) (pv 6) (pe_lst (pa_consN pe_str pa_nil)) (nomark _)) pe_str pe_str)))
        pss_nil)
      (pss_cons (ps_if (pt_cmpR (op_neD (hr.units)) (pv 6) (pe_lst (pa_consN pe_str (pa_consN pe_str pa_nil))) (nomark _))
        (pss_one (ps_ret pe_str))
        pss_nil)
      (pss_one (ps_ret (pe_dget2 (hu_of hr) (pe_disp (pps_cons pe_str pe_str (pps_cons pe_str pe_str pps_nil)) rfl rfl (by intro z; cases z) (by show 2 ≤ 15; decide)) (pe_ix ix_tup (pv 1) pe_int (fun _ _ => rfl)) pe_str ⟨rfl, rfl, rfl, rfl⟩))))))), ?_⟩
  intro D v3 v4 v5 v6 l t xs rows sg own us its H el hx ho hl et hu2 hu0 hit hok oown hprev q
  have hs : sizeLine = 16777216 := sizeLine_eq
  have lu : us.length = its.length := hit.length
  have hcut : cutV (.str sg :: us) (some 1) none = us := by
    match us, hu2, hu0 with
    | [a], _, _ => rfl
    | [a, b], _, _ => rfl
  refine ⟨_, rfl, _, rfl, t, _, rfl, SqT.of et, ?_, fun sl hsl => ?_⟩
  · intro z
    have z1 := z.1
    match us, hu2, hu0 with
    | [a], _, _ => exact absurd z1 (by show ¬ HT.sIx 2 0 (some 1) = 0; decide)
    | [a, b], _, _ => exact absurd z1 (by show ¬ HT.sIx 3 0 (some 1) = 0; decide)
  rw [hcut]
  have y1 := Same.put (o := .tup us) hsl
  have esl : upd H sl (.tup us) sl = some (.tup us) := upd_same
  generalize upd H sl (.tup us) = H1 at y1 esl ⊢
  refine ⟨sl, rfl, ⟨_, SqT.of esl⟩, compIf_ttp (xs := us) (fvals := [some (.ref l)]) (fun acc i H2 => H1 acc = none ∧ Same H1 H2 ∧ H2 acc = some (.lst ((kindsOf rows (its.take i)).map V.str))) ?_ ?_ ?_ ?_⟩
  · rintro acc i H2 ⟨_, s2, _⟩
    exact SqT.of (s2 _ _ esl)
  · intro acc hacc
    exact ⟨hacc, Same.put hacc, by rw [List.take_zero]; exact upd_same⟩
  · rintro acc i x H2 mm W hxi ⟨hacc, s2, ea⟩ hW
    obtain ⟨it, hit0, hI⟩ := paired_at hit hxi
    have s02 := y1.trans s2
    have hi : i < us.length := (List.getElem?_eq_some_iff.mp hxi).1
    cases it with
    | inl y =>
      have hxy : x = .str y := hI
      subst hxy
      refine ⟨_, rfl, _, _, false, rfl, .str _, kit_str_tup K, _, rfl, iteF (hW _ ⟨hacc, s2, ?_⟩)⟩
      have : kindsOf rows (its.take (i + 1)) = kindsOf rows (its.take i) := by
        unfold kindsOf; rw [List.take_add_one, hit0, List.filterMap_append]; simp
      rw [this]; exact ea
    | inr e =>
      have hE : ExAt H e x := hI
      obtain ⟨tt, ys, rfl, ett⟩ := ex_ref hE
      have hin : .inr e ∈ its := List.mem_of_getElem? hit0
      obtain ⟨m, hm, hd⟩ := hprev ⟨e, hin⟩
      subst hm
      refine ⟨_, rfl, _, _, true, rfl, .tup (s02 _ _ ett), kit_tup_tup K, _, rfl, iteT ?_⟩
      refine ⟨_, rfl, _, rfl, l, _, xs, rows, e, rfl, s02 _ _ el, Paired.mapP hx fun _ _ z => z.same s02, ho, hl, hE.same s02, hok e hin, hd e hin, fun H3 s3 => ?_⟩
      refine ⟨_, s3 _ _ ea, by have hk : (kindsOf rows (its.take i)).length ≤ (its.take i).length := List.length_filterMap_le _ _; rw [List.length_take] at hk; rw [List.length_map]; omega, hW _ ⟨hacc, Kl.same (s2.trans s3) hacc Kl.one, ?_⟩⟩
      have : kindsOf rows (its.take (i + 1)) = kindsOf rows (its.take i) ++ [kindL rows e] := by
        unfold kindsOf; rw [List.take_add_one, hit0, List.filterMap_append]; simp
      rw [this, upd_same, List.map_append]; rfl
  rintro acc H2 hacc ⟨_, s2, ea⟩
  rw [lu, List.take_of_length_le (Nat.le_refl _)] at ea
  have s02 := y1.trans s2
  have et2 := s02 _ _ et
  obtain ⟨ks, hks⟩ : ∃ z, kindsOf rows its = z := ⟨_, rfl⟩
  have oks : ∀ x ∈ ks, PyData.strOk x = true := fun x hx => by
    rw [← hks] at hx
    obtain ⟨it, _, hi⟩ := List.mem_filterMap.mp hx
    cases it with
    | inl y => cases hi
    | inr e => cases hi; exact ok_kindL ho e
  rw [hks] at ea q
  have dks : PyData.depthAll (ks.map PyData.str) + 1 ≤ 64 := by have := dep_strs ks; omega
  have eqk : ∀ ws : List Str, PyData.eqv (.list (ks.map PyData.str)) (.list (ws.map PyData.str)) = decide (ks = ws) := fun ws => eqv_strs ks ws
  -- at
  refine ⟨_, rfl, t, _, 0, .str sg, rfl, rfl, SqT.of et2, at0, rfl, _, rfl, ite2 (fun h => ?_) (fun h => ?_)⟩
  · have hsg : sg = "at" := V.str.inj (of_decide_eq_true h)
    have q' := fun r H' s' hr' => q r H' s' (fun _ => hr') (fun z => absurd (hsg.symm.trans z) (by decide +kernel)) (fun z => absurd (hsg ▸ z) (by decide +kernel))
    refine ⟨_, rfl, rfl, _, rfl, ite2 (fun ho' => ?_) (fun ho' => ?_)⟩
    · have hown : own = "list" := V.str.inj (of_decide_eq_true ho')
      refine ⟨_, rfl, (by show 1 ≤ sizeLine; omega), fun l1 hl1 => ?_⟩
      have y3 := Same.put (o := .lst [V.str "num"]) hl1
      refine ⟨.list (ks.map PyData.str), .list ((["num"] : List Str).map PyData.str), .lst (SqL.of (y3 _ _ ea)) (rep_strs K _ ks), .lst (SqL.of upd_same) (rep_strs K _ ["num"]), lay_strs oks, lay_strs (by decide +kernel), dks, _, rfl, ?_⟩
      rw [eqk]
      refine ite2 (fun hk => ?_) (fun hk => ?_)
      · exact q' "num" _ (s02.trans y3) (by rw [if_pos ⟨hown, of_decide_eq_true hk⟩])
      · exact q' "" _ (s02.trans y3) (by rw [if_neg fun z => hk (decide_eq_true z.2)])
    · exact iteF (q' "" H2 s02 (by rw [if_neg fun z => ho' (decide_eq_true (congrArg V.str z.1))]))
  have nat' : ¬ sg = "at" := fun z => h (decide_eq_true (congrArg V.str z))
  -- not
  refine ⟨_, rfl, t, _, 0, .str sg, rfl, rfl, SqT.of et2, at0, rfl, _, rfl, ite2 (fun h2 => ?_) (fun h2 => ?_)⟩
  · have hsg : sg = "not" := V.str.inj (of_decide_eq_true h2)
    have q' := fun r H' s' hr' => q r H' s' (fun z => absurd z nat') (fun _ => hr') (fun z => absurd (hsg ▸ z) (by decide +kernel))
    refine ⟨_, rfl, (by show 1 ≤ sizeLine; omega), fun l1 hl1 => ?_⟩
    have y3 := Same.put (o := .lst [V.str "flag"]) hl1
    refine ⟨.list (ks.map PyData.str), .list ((["flag"] : List Str).map PyData.str), .lst (SqL.of (y3 _ _ ea)) (rep_strs K _ ks), .lst (SqL.of upd_same) (rep_strs K _ ["flag"]), lay_strs oks, lay_strs (by decide +kernel), dks, _, rfl, ?_⟩
    rw [eqk]
    refine ite2 (fun hk => ?_) (fun hk => ?_)
    · exact q' "flag" _ (s02.trans y3) (by rw [if_pos (of_decide_eq_true hk)])
    · exact q' "" _ (s02.trans y3) (by rw [if_neg fun z => hk (decide_eq_true z)])
  have nnot : ¬ sg = "not" := fun z => h2 (decide_eq_true (congrArg V.str z))
  refine ⟨_, rfl, (by show 2 ≤ sizeLine; omega), fun l1 hl1 => ?_⟩
  have y3 := Same.put (o := .lst [V.str "num", V.str "num"]) hl1
  refine ⟨.list (ks.map PyData.str), .list ((["num", "num"] : List Str).map PyData.str), .lst (SqL.of (y3 _ _ ea)) (rep_strs K _ ks), .lst (SqL.of upd_same) (rep_strs K _ ["num", "num"]), lay_strs oks, lay_strs (by decide +kernel), dks, _, rfl, ?_⟩
  rw [eqk]
  generalize upd H2 l1 (.lst [V.str "num", V.str "num"]) = H3 at y3 ⊢
  have s03 := s02.trans y3
  refine ite2 (fun hk => ?_) (fun hk => ?_)
  · have hk' : ¬ ks = [("num" : Str), "num"] := of_decide_eq_false ((Bool.not_eq_true' _).mp hk)
    exact q "" H3 s03 (fun z => absurd z nat') (fun z => absurd z nnot) (fun _ => by rw [if_neg hk'])
  · have hk' : ks = [("num" : Str), "num"] := by
      rcases Decidable.em (ks = [("num" : Str), "num"]) with z | z
      · exact z
      · exact absurd (by rw [decide_eq_false z]; rfl) hk
    refine fun dd hdd => ⟨upd_same, [(.inr "<", .str "flag"), (.inr "=", .str "flag")], rfl, by decide, ?_⟩
    have y4 : Same H3 (upd (upd H3 dd (.dK [])) dd (.dK (mergeK [] [(.inr "<", .str "flag"), (.inr "=", .str "flag")]))) := fun b u e => by rw [upd_ne (ne_of_none e hdd), upd_ne (ne_of_none e hdd)]; exact e
    refine ⟨dd, rfl, .inl ⟨_, .inl upd_same⟩, _, rfl, t, _, 0, .str sg, rfl, rfl, SqT.of (y4 _ _ (y3 _ _ et2)), at0, _, DGet.k (k := .inr sg) upd_same, ?_⟩
    rw [show mergeK [] [((.inr ("<" : Str) : Key), V.str "flag"), (.inr "=", .str "flag")] = kv2 "<" "flag" "=" "flag" from rfl, kv2_get (by decide +kernel)]
    exact q _ _ (s03.trans y4) (fun z => absurd z nat') (fun z => absurd z nnot) (fun hsg => by rw [if_pos hk']; exact sign_get sg hsg)
end
end K45

set_option Elab.async false
set_option linter.all false
set_option maxRecDepth 100000
set_option maxHeartbeats 4000000
namespace K45
open PySem L2
section
variable {P : Program} {w : World} {K : PySem.W.Frag} {mg : Str → Option Value} {base : Heap}
theorem lk_step {n : Nat} {prev : Sp} {f : Addr} {fd : FuncData} (T : Bt mg) (z18 : Q10 K mg f fd) (hp : n = 0 ∨ ∃ m, n = m + 1 ∧ prev = sp_lk m) (z54 : FnOk P w K mg base CX0 (n + 1) f fd ["_law_told", "_law_expr_here"] prev) : FnOk P w K mg base CX0 (n + 2) f fd ["_law_told", "_law_expr_here"] (sp_lk n) := by
  refine z18.F.ok (k := n + 1) z53 (fun vs H Q E h => ?_) (fun cdv A outer s H vs Q E hr h => ?_)
  · obtain ⟨l, v, xs, rows, e, rfl, _⟩ := h; rfl
  · obtain ⟨l, v, xs, rows, e, rfl, el, hx, ho, hl, hE, oE, dE, q⟩ := h
    have hs : sizeLine = 16777216 := sizeLine_eq
    have lx : xs.length = rows.length := hx.length
    obtain ⟨uB, hB, kB⟩ := lk_B (P := P) (w := w) (base := base) (f := f) (cdv := cdv) (outer := outer) (H := H) (E := E) T z18 z54 hr
    refine ⟨_, (pss_cons (ps_if (PW.pt (pw_or (pt_cmpR op_eq (pe_ix ix_tup (pv 1) pe_int (fun _ _ => rfl)) pe_str (nomark _)) (pw_or1 (pt_cmpR op_eq (pe_ix ix_tup (pv 1) pe_int (fun _ _ => rfl)) pe_str (nomark _)))))
        (pss_one (ps_ret (pe_ix ix_tup (pv 1) pe_int (fun _ _ => rfl))))
        pss_nil)
      (pss_cons (ps_set (i := 2) z53.nd rfl (Or.inl rfl) pe_str)
      (pss_cons (ps_for PassesOwn.never rfl (pi_list (pv 0)) (pg_tup rfl (pgs_cons (pg_name (i := 3) z53.nd rfl (Or.inl rfl)) (pgs_cons (pg_name (i := 4) z53.nd rfl (Or.inl rfl)) (pgs_cons (pg_name (i := 5) z53.nd rfl (Or.inl rfl)) pgs_nil))))
        (pss_one (ps_if (pt_cmpR (op_eqD (hr.units)) (pv 4) (pe_ix ix_tup (pv 1) pe_int (fun _ _ => rfl)) (nomark _))
          (pss_one (ps_set (i := 2) z53.nd rfl (Or.inl rfl) (pv 3)))
          pss_nil)))
      (pss_cons (ps_if (pt_cmpR op_eq (pe_ix ix_tup (pv 1) pe_int (fun _ _ => rfl)) pe_str (nomark _))
        (pss_one (ps_ret (pe_dget2 (hu_of hr) (pe_disp (pps_cons pe_str pe_str (pps_cons pe_str pe_str pps_nil)) rfl rfl (by intro z; cases z) (by show 2 ≤ 15; decide)) (pv 2) pe_str ⟨rfl, rfl, rfl, rfl⟩)))
        pss_nil)
      hB)))), ?_⟩
    cases e with
    | num i =>
      obtain ⟨t, rfl, et⟩ := hE
      exact ⟨_, rfl, t, _, _, _, rfl, rfl, SqT.of et, rfl, rfl, _, rfl, itDP rfl (iteT ⟨_, rfl, t, _, _, _, rfl, rfl, SqT.of et, rfl, q H (Same.refl _)⟩)⟩
    | flg b =>
      obtain ⟨t, rfl, et⟩ := hE
      exact ⟨_, rfl, t, _, _, _, rfl, rfl, SqT.of et, rfl, rfl, _, rfl, itDN (str_ne neq_fn) ⟨_, rfl, t, _, _, _, rfl, rfl, SqT.of et, rfl, rfl, _, rfl, itDP rfl ⟨_, rfl, t, _, _, _, rfl, rfl, SqT.of et, rfl, q H (Same.refl _)⟩⟩⟩
    | nam x =>
      obtain ⟨t, rfl, et⟩ := hE
      have oX : PyData.strOk x = true := oE
      refine ⟨_, rfl, t, _, _, _, rfl, rfl, SqT.of et, rfl, rfl, _, rfl, itDN (str_ne q_nmn) ⟨_, rfl, t, _, _, _, rfl, rfl, SqT.of et, rfl, rfl, _, rfl, itDN (str_ne q_nmf) ?_⟩⟩
      refine ⟨_, rfl, l, rfl, ⟨_, SqL.of el⟩, for_list (xs := xs) (fun i σ H2 => ∃ (v3 v4 v5 : Option V), σ = [some (.ref l), some (.ref t), some (.str (ownG (fun y => PyData.eqv (.str y) (.str x)) (rows.take i))), v3, v4, v5, none] ∧ H2 = H) ⟨_, _, _, rfl, rfl⟩ ?_ ?_ ?_⟩
      · rintro i σ H2 _ ⟨v3, v4, v5, rfl, rfl⟩
        exact SqL.of el
      · rintro i y σ H2 hxi ⟨v3, v4, v5, rfl, rfl⟩
        obtain ⟨p, hp0, T0, rfl, eT⟩ := paired_at hx hxi
        have onm := (ho p (List.mem_of_getElem? hp0)).2
        refine ⟨T0, _, rfl, SqT.of eT, rfl, _, _, rfl, _, _, rfl, _, _, rfl, rfl, ?_⟩
        refine ⟨_, rfl, _, rfl, t, _, _, _, rfl, rfl, SqT.of et, rfl, .str p.2.1, .str x, .str _, .str _, onm, oX, Nat.zero_le _, _, rfl, ?_⟩
        refine ite2 (fun h => ?_) (fun h => ?_)
        · have h' : PyData.eqv (.str p.2.1) (.str x) = true := h
          exact ⟨_, rfl, _, _, _, by rw [own_step hp0, if_pos h']; rfl, rfl⟩
        · have h' : ¬ PyData.eqv (.str p.2.1) (.str x) = true := h
          exact ⟨_, _, _, by rw [own_step hp0, if_neg h']; rfl, rfl⟩
      · rintro σ H2 ⟨v3, v4, v5, rfl, rfl⟩
        rw [lx, List.take_of_length_le (Nat.le_refl _), own_look]
        refine ⟨_, rfl, t, _, _, _, rfl, rfl, SqT.of et, rfl, rfl, _, rfl, itDP rfl ?_⟩
        refine fun dd hdd => ⟨upd_same, [(.inr "num", .str "num"), (.inr "flag", .str "flag")], rfl, by decide, ?_⟩
        have y4 : Same H2 (upd (upd H2 dd (.dK [])) dd (.dK (mergeK [] [(.inr "num", .str "num"), (.inr "flag", .str "flag")]))) := fun b u e => by rw [upd_ne (ne_of_none e hdd), upd_ne (ne_of_none e hdd)]; exact e
        refine ⟨dd, rfl, .inl ⟨_, .inl upd_same⟩, _, rfl, _, DGet.k (k := .inr ((lookF rows x).getD "")) upd_same, ?_⟩
        rw [show mergeK [] [((.inr ("num" : Str) : Key), V.str "num"), (.inr "flag", .str "flag")] = kv2 "num" "num" "flag" "flag" from rfl, name_get ho]
        exact q _ y4
    | pl x e =>
      obtain ⟨t, u, rfl, et, hu⟩ := hE
      have oX : PyData.strOk x = true := oE.1
      rcases hp with h | ⟨m, rfl, rfl⟩
      · subst h; exact absurd dE (by show ¬ e.dep + 1 ≤ 0; omega)
      have dE' : e.dep + 1 ≤ m + 1 := dE
      refine ⟨_, rfl, t, _, _, _, rfl, rfl, SqT.of et, rfl, rfl, _, rfl, itDN (str_ne q_an) ⟨_, rfl, t, _, _, _, rfl, rfl, SqT.of et, rfl, rfl, _, rfl, itDN (str_ne q_af) ?_⟩⟩
      refine ⟨_, rfl, l, rfl, ⟨_, SqL.of el⟩, for_list (xs := xs) (fun i σ H2 => ∃ (v3 v4 v5 : Option V), σ = [some (.ref l), some (.ref t), some (.str (ownG (fun y => PyData.eqv (.str y) (.str x)) (rows.take i))), v3, v4, v5, none] ∧ H2 = H) ⟨_, _, _, rfl, rfl⟩ ?_ ?_ ?_⟩
      · rintro i σ H2 _ ⟨v3, v4, v5, rfl, rfl⟩
        exact SqL.of el
      · rintro i y σ H2 hxi ⟨v3, v4, v5, rfl, rfl⟩
        obtain ⟨p, hp0, T0, rfl, eT⟩ := paired_at hx hxi
        have onm := (ho p (List.mem_of_getElem? hp0)).2
        refine ⟨T0, _, rfl, SqT.of eT, rfl, _, _, rfl, _, _, rfl, _, _, rfl, rfl, ?_⟩
        refine ⟨_, rfl, _, rfl, t, _, _, _, rfl, rfl, SqT.of et, rfl, .str p.2.1, .str x, .str _, .str _, onm, oX, Nat.zero_le _, _, rfl, ?_⟩
        refine ite2 (fun h => ?_) (fun h => ?_)
        · have h' : PyData.eqv (.str p.2.1) (.str x) = true := h
          exact ⟨_, rfl, _, _, _, by rw [own_step hp0, if_pos h']; rfl, rfl⟩
        · have h' : ¬ PyData.eqv (.str p.2.1) (.str x) = true := h
          exact ⟨_, _, _, by rw [own_step hp0, if_neg h']; rfl, rfl⟩
      · rintro σ H2 ⟨v3, v4, v5, rfl, rfl⟩
        rw [lx, List.take_of_length_le (Nat.le_refl _), own_look]
        refine ⟨_, rfl, t, _, _, _, rfl, rfl, SqT.of et, rfl, rfl, _, rfl, itDN (str_ne q_na) ?_⟩
        have hown : PyData.strOk ((lookF rows x).getD "") = true := by
          cases h : lookF rows x with
          | none => decide +kernel
          | some k => exact ok_kinds k (look_in ho h)
        refine kB _ _ _ _ _ l t xs rows "at" _ [.str x, u] [.inl x, .inr e] H2 el hx ho hl et (by simp) (by simp) (.cons rfl (.cons hu .nil)) (fun e' he' => ?_) hown (fun _ => ⟨m, rfl, fun e' he' => ?_⟩) fun r H' s' h1 _ _ => ?_
        · have : e' = e := by simpa using he'
          rw [this]; exact oE.2
        · have : e' = e := by simpa using he'
          rw [this]; omega
        · have hr := h1 rfl
          rw [hr]
          have e1 : kindsOf rows [.inl x, .inr e] = [kindL rows e] := rfl
          rw [e1]
          have qq := q H' s'
          have e2 : kindL rows (.pl x e) = if (lookF rows x).getD "" = "list" ∧ [kindL rows e] = [("num" : Str)] then "num" else "" := by
            unfold kindL
            show (if lookF rows x = some ("list" : Str) ∧ kindP rows e = some ("num" : Str) then some ("num" : Str) else none).getD "" = _
            have a1 : (lookF rows x).getD "" = "list" ↔ lookF rows x = some ("list" : Str) := by
              cases h : lookF rows x with
              | none => exact ⟨fun z => absurd z (by decide +kernel), fun z => by cases z⟩
              | some k => exact ⟨fun z => by have z' : k = "list" := z; rw [z'], fun z => Option.some.inj z⟩
            have a2 : [(kindP rows e).getD ""] = [("num" : Str)] ↔ kindP rows e = some ("num" : Str) := by
              rw [← kindL_num]
              exact ⟨fun z => (List.cons.inj z).1, fun z => by rw [show (kindP rows e).getD "" = "num" from z]⟩
            by_cases hc : lookF rows x = some ("list" : Str) ∧ kindP rows e = some ("num" : Str)
            · rw [if_pos hc, if_pos ⟨a1.mpr hc.1, a2.mpr hc.2⟩]; rfl
            · rw [if_neg hc, if_neg fun z => hc ⟨a1.mp z.1, a2.mp z.2⟩]; rfl
          rw [← e2]; exact qq
    | nt e =>
      obtain ⟨t, u, rfl, et, hu⟩ := hE
      have oX : e.Ok := oE
      obtain ⟨ds, hds⟩ := ex_tup e
      rcases hp with h | ⟨m, rfl, rfl⟩
      · subst h; exact absurd dE (by show ¬ e.dep + 1 ≤ 0; omega)
      have dE' : e.dep + 1 ≤ m + 1 := dE
      refine ⟨_, rfl, t, _, _, _, rfl, rfl, SqT.of et, rfl, rfl, _, rfl, itDN (str_ne q_ntn) ⟨_, rfl, t, _, _, _, rfl, rfl, SqT.of et, rfl, rfl, _, rfl, itDN (str_ne q_ntf) ?_⟩⟩
      refine ⟨_, rfl, l, rfl, ⟨_, SqL.of el⟩, for_list (xs := xs) (fun i σ H2 => ∃ (v3 v4 v5 : Option V), σ = [some (.ref l), some (.ref t), some (.str ""), v3, v4, v5, none] ∧ H2 = H) ⟨_, _, _, rfl, rfl⟩ ?_ ?_ ?_⟩
      · rintro i σ H2 _ ⟨v3, v4, v5, rfl, rfl⟩
        exact SqL.of el
      · rintro i y σ H2 hxi ⟨v3, v4, v5, rfl, rfl⟩
        obtain ⟨p, hp0, T0, rfl, eT⟩ := paired_at hx hxi
        have onm := (ho p (List.mem_of_getElem? hp0)).2
        refine ⟨T0, _, rfl, SqT.of eT, rfl, _, _, rfl, _, _, rfl, _, _, rfl, rfl, ?_⟩
        refine ⟨_, rfl, _, rfl, t, _, _, _, rfl, rfl, SqT.of et, rfl, .str p.2.1, exD e, .str _, hu.rep K, onm, lay_ex oX, Nat.zero_le _, _, rfl, ?_⟩
        rw [hds]
        exact iteF ⟨_, _, _, rfl, rfl⟩
      · rintro σ H2 ⟨v3, v4, v5, rfl, rfl⟩
        refine ⟨_, rfl, t, _, _, _, rfl, rfl, SqT.of et, rfl, rfl, _, rfl, itDN (str_ne q_nn) ?_⟩
        refine kB _ _ _ _ _ l t xs rows "not" _ [u] [.inr e] H2 el hx ho hl et (by simp) (by simp) (.cons hu .nil) (fun e' he' => ?_) (by decide +kernel) (fun _ => ⟨m, rfl, fun e' he' => ?_⟩) fun r H' s' _ h1 _ => ?_
        · have : e' = e := by simpa using he'
          rw [this]; exact oX
        · have : e' = e := by simpa using he'
          rw [this]; omega
        · have hr := h1 rfl
          rw [hr]
          have e1 : kindsOf rows [.inr e] = [kindL rows e] := rfl
          rw [e1]
          have qq := q H' s'
          have e2 : kindL rows (.nt e) = if [kindL rows e] = [("flag" : Str)] then "flag" else "" := by
            unfold kindL
            show (if kindP rows e = some ("flag" : Str) then some ("flag" : Str) else none).getD "" = _
            have a2 : [(kindP rows e).getD ""] = [("flag" : Str)] ↔ kindP rows e = some ("flag" : Str) := by
              rw [← kindL_flag]
              exact ⟨fun z => (List.cons.inj z).1, fun z => by rw [show (kindP rows e).getD "" = "flag" from z]⟩
            by_cases hc : kindP rows e = some ("flag" : Str)
            · rw [if_pos hc, if_pos (a2.mpr hc)]; rfl
            · rw [if_neg hc, if_neg fun z => hc (a2.mp z)]; rfl
          rw [← e2]; exact qq
    | bin o e1 e2 =>
      obtain ⟨t, u1, u2, rfl, et, hu1, hu2⟩ := hE
      obtain ⟨hop, oa, ob⟩ := oE
      obtain ⟨_, n2, n3, n4, n5, n6⟩ := ops_facts o hop
      obtain ⟨ds, hds⟩ := ex_tup e1
      rcases hp with h | ⟨m, rfl, rfl⟩
      · subst h; exact absurd dE (by show ¬ max e1.dep e2.dep + 1 ≤ 0; omega)
      have dE' : max e1.dep e2.dep + 1 ≤ m + 1 := dE
      refine ⟨_, rfl, t, _, _, _, rfl, rfl, SqT.of et, rfl, rfl, _, rfl, itDN (str_ne n5) ⟨_, rfl, t, _, _, _, rfl, rfl, SqT.of et, rfl, rfl, _, rfl, itDN (str_ne n6) ?_⟩⟩
      refine ⟨_, rfl, l, rfl, ⟨_, SqL.of el⟩, for_list (xs := xs) (fun i σ H2 => ∃ (v3 v4 v5 : Option V), σ = [some (.ref l), some (.ref t), some (.str ""), v3, v4, v5, none] ∧ H2 = H) ⟨_, _, _, rfl, rfl⟩ ?_ ?_ ?_⟩
      · rintro i σ H2 _ ⟨v3, v4, v5, rfl, rfl⟩
        exact SqL.of el
      · rintro i y σ H2 hxi ⟨v3, v4, v5, rfl, rfl⟩
        obtain ⟨p, hp0, T0, rfl, eT⟩ := paired_at hx hxi
        have onm := (ho p (List.mem_of_getElem? hp0)).2
        refine ⟨T0, _, rfl, SqT.of eT, rfl, _, _, rfl, _, _, rfl, _, _, rfl, rfl, ?_⟩
        refine ⟨_, rfl, _, rfl, t, _, _, _, rfl, rfl, SqT.of et, rfl, .str p.2.1, exD e1, .str _, hu1.rep K, onm, lay_ex oa, Nat.zero_le _, _, rfl, ?_⟩
        rw [hds]
        exact iteF ⟨_, _, _, rfl, rfl⟩
      · rintro σ H2 ⟨v3, v4, v5, rfl, rfl⟩
        refine ⟨_, rfl, t, _, _, _, rfl, rfl, SqT.of et, rfl, rfl, _, rfl, itDN (str_ne n2) ?_⟩
        refine kB _ _ _ _ _ l t xs rows o _ [u1, u2] [.inr e1, .inr e2] H2 el hx ho hl et (by simp) (by simp) (.cons hu1 (.cons hu2 .nil)) (fun e' he' => ?_) (by decide +kernel) (fun _ => ⟨m, rfl, fun e' he' => ?_⟩) fun r H' s' _ _ h1 => ?_
        · have : e' = e1 ∨ e' = e2 := by simpa using he'
          rcases this with z | z <;> rw [z] <;> assumption
        · have : e' = e1 ∨ e' = e2 := by simpa using he'
          rcases this with z | z <;> rw [z] <;> omega
        · have hr := h1 hop
          rw [hr]
          have e3 : kindsOf rows [.inr e1, .inr e2] = [kindL rows e1, kindL rows e2] := rfl
          rw [e3]
          have qq := q H' s'
          have e4 : kindL rows (.bin o e1 e2) = if [kindL rows e1, kindL rows e2] = [("num" : Str), "num"] then (if o = ("<" : Str) ∨ o = "=" then ("flag" : Str) else "num") else "" := by
            unfold kindL
            show (if kindP rows e1 = some ("num" : Str) ∧ kindP rows e2 = some ("num" : Str) then (if o = "<" ∨ o = "=" then some ("flag" : Str) else some ("num" : Str)) else none).getD "" = _
            have a2 : [(kindP rows e1).getD "", (kindP rows e2).getD ""] = [("num" : Str), "num"] ↔ kindP rows e1 = some ("num" : Str) ∧ kindP rows e2 = some ("num" : Str) := by
              rw [← kindL_num, ← kindL_num]
              refine ⟨fun z => ⟨(List.cons.inj z).1, (List.cons.inj (List.cons.inj z).2).1⟩, fun z => ?_⟩
              rw [show (kindP rows e1).getD "" = "num" from z.1, show (kindP rows e2).getD "" = "num" from z.2]
            by_cases hc : kindP rows e1 = some ("num" : Str) ∧ kindP rows e2 = some ("num" : Str)
            · rw [if_pos hc, if_pos (a2.mpr hc)]
              split <;> rfl
            · rw [if_neg hc, if_neg fun z => hc (a2.mp z)]; rfl
          rw [← e4]; exact qq
theorem ok_law_kind {f : Addr} {fd : FuncData} (T : Bt mg) (z18 : Q10 K mg f fd) : ∀ n : Nat, FnOk P w K mg base CX0 (n + 2) f fd ["_law_told", "_law_expr_here"] (sp_lk n)
  | 0 => lk_step T z18 (.inl rfl) (z18.F.ok (k := 0) (sp := fun _ _ _ _ => False) z53 (fun _ _ _ _ h => h.elim) (fun _ _ _ _ _ _ _ _ _ h => h.elim))
  | n + 1 => lk_step T z18 (.inr ⟨n, rfl, rfl⟩) (ok_law_kind T z18 n)
end
end K45

set_option Elab.async false
set_option linter.all false
set_option maxRecDepth 100000
set_option maxHeartbeats 4000000
namespace K45
open PySem L2
inductive Lf where
  | tell (e : Ex)
  | set (x : Str) (e : Ex)
  | put (x : Str) (e1 e2 : Ex)
  | ask (x : Str)
  | does (x : Str)
  | stop
  | way
def Lf.dat : Lf → PyData
  | .tell e => .tuple [.str "tell", exD e]
  | .set x e => .tuple [.str "set", .str x, exD e]
  | .put x e1 e2 => .tuple [.str "put", .str x, exD e1, exD e2]
  | .ask x => .tuple [.str "ask", .str x]
  | .does x => .tuple [.str "do", .str x]
  | .stop => .tuple [.str "stop"]
  | .way => .tuple [.str "way"]
def LfAt (H : Hp) (r : Addr) : Lf → Prop
  | .tell e => ∃ v, H r = some (.tup [.str "tell", v]) ∧ ExAt H e v
  | .set x e => ∃ v, H r = some (.tup [.str "set", .str x, v]) ∧ ExAt H e v
  | .put x e1 e2 => ∃ v1 v2, H r = some (.tup [.str "put", .str x, v1, v2]) ∧ ExAt H e1 v1 ∧ ExAt H e2 v2
  | .ask x => H r = some (.tup [.str "ask", .str x])
  | .does x => H r = some (.tup [.str "do", .str x])
  | .stop => H r = some (.tup [.str "stop"])
  | .way => H r = some (.tup [.str "way"])
def Lf.Ok : Lf → Prop
  | .tell e => EOk 2 e
  | .set x e => PyData.strOk x = true ∧ EOk 2 e
  | .put x e1 e2 => PyData.strOk x = true ∧ EOk 2 e1 ∧ EOk 2 e2
  | .ask x => PyData.strOk x = true
  | .does x => PyData.strOk x = true
  | _ => True
theorem LfAt.keep {H H' : Hp} (k : ∀ b vs, H b = some (.tup vs) → H' b = some (.tup vs)) {r : Addr} : ∀ {l : Lf}, LfAt H r l → LfAt H' r l
  | .tell _, ⟨v, h, e⟩ => ⟨v, k _ _ h, e.keep k⟩
  | .set _ _, ⟨v, h, e⟩ => ⟨v, k _ _ h, e.keep k⟩
  | .put _ _ _, ⟨v1, v2, h, e1, e2⟩ => ⟨v1, v2, k _ _ h, e1.keep k, e2.keep k⟩
  | .ask _, h => k _ _ h
  | .does _, h => k _ _ h
  | .stop, h => k _ _ h
  | .way, h => k _ _ h
theorem LfAt.tup {H : Hp} {r : Addr} : ∀ {l : Lf}, LfAt H r l → ∃ (tag : Str) (vs : List V), H r = some (.tup (.str tag :: vs)) ∧ tag ≠ "if" ∧ tag ≠ "while" ∧ vs.length ≤ 9
  | .tell _, ⟨v, h, e⟩ => ⟨"tell", [v], h, by decide +kernel, by decide +kernel, by simp⟩
  | .set _ _, ⟨v, h, e⟩ => ⟨"set", [_, v], h, by decide +kernel, by decide +kernel, by simp⟩
  | .put _ _ _, ⟨v1, v2, h, e1, e2⟩ => ⟨"put", [_, v1, v2], h, by decide +kernel, by decide +kernel, by simp⟩
  | .ask _, h => ⟨"ask", [_], h, by decide +kernel, by decide +kernel, by simp⟩
  | .does _, h => ⟨"do", [_], h, by decide +kernel, by decide +kernel, by simp⟩
  | .stop, h => ⟨"stop", [], h, by decide +kernel, by decide +kernel, by simp⟩
  | .way, h => ⟨"way", [], h, by decide +kernel, by decide +kernel, by simp⟩
mutual
inductive Sm where
  | leaf (r : Addr) (l : Lf)
  | iff (r : Addr) (e : Ex) (a1 : Addr) (b1 : Bd) (a2 : Addr) (b2 : Bd)
  | wh (r : Addr) (e : Ex) (a1 : Addr) (b1 : Bd)
inductive Bd where
  | nil
  | cons (s : Sm) (b : Bd)
end
def Sm.ref : Sm → V
  | .leaf r _ => .ref r
  | .iff r _ _ _ _ _ => .ref r
  | .wh r _ _ _ => .ref r
def Bd.refs : Bd → List V
  | .nil => []
  | .cons s b => s.ref :: b.refs
mutual
def Sm.dat : Sm → PyData
  | .leaf _ l => l.dat
  | .iff _ e _ b1 _ b2 => .tuple [.str "if", exD e, .list b1.dat, .list b2.dat]
  | .wh _ e _ b1 => .tuple [.str "while", exD e, .list b1.dat]
def Bd.dat : Bd → List PyData
  | .nil => []
  | .cons s b => s.dat :: b.dat
end
mutual
def Sm.inner : Sm → List V
  | .leaf _ _ => []
  | .iff _ _ _ b1 _ b2 => b1.flat ++ b2.flat
  | .wh _ _ _ b1 => b1.flat
def Bd.flat : Bd → List V
  | .nil => []
  | .cons s b => s.ref :: (s.inner ++ b.flat)
end
mutual
def Sm.nest : Sm → Nat
  | .leaf _ _ => 0
  | .iff _ _ _ b1 _ b2 => max b1.nest b2.nest + 1
  | .wh _ _ _ b1 => b1.nest + 1
def Bd.nest : Bd → Nat
  | .nil => 0
  | .cons s b => max s.nest b.nest
end
mutual
def SmAt (H : Hp) : Sm → Prop
  | .leaf r l => LfAt H r l
  | .iff r e a1 b1 a2 b2 => ∃ v, H r = some (.tup [.str "if", v, .ref a1, .ref a2]) ∧ ExAt H e v ∧ H a1 = some (.lst b1.refs) ∧ BdAt H b1 ∧ H a2 = some (.lst b2.refs) ∧ BdAt H b2 ∧ b1.refs.length ≤ 10 ∧ b2.refs.length ≤ 10
  | .wh r e a1 b1 => ∃ v, H r = some (.tup [.str "while", v, .ref a1]) ∧ ExAt H e v ∧ H a1 = some (.lst b1.refs) ∧ BdAt H b1 ∧ b1.refs.length ≤ 10
def BdAt (H : Hp) : Bd → Prop
  | .nil => True
  | .cons s b => SmAt H s ∧ BdAt H b
end
mutual
def SmOk : Sm → Prop
  | .leaf _ l => l.Ok
  | .iff _ e _ b1 _ b2 => EOk 2 e ∧ BdOk b1 ∧ BdOk b2
  | .wh _ e _ b1 => EOk 2 e ∧ BdOk b1
def BdOk : Bd → Prop
  | .nil => True
  | .cons s b => SmOk s ∧ BdOk b
end
def Lf.fit (rows : List VRow) : Lf → Bool
  | .tell e => decide (kindP rows e = some ("num" : Str))
  | .set x e => match kindP rows (.nam x) with
    | none => false
    | some k => decide (kindP rows e = some k)
  | .put x e1 e2 => decide (lookF rows x = some ("list" : Str) ∧ kindP rows e1 = some ("num" : Str) ∧ kindP rows e2 = some ("num" : Str))
  | .ask x => decide (lookF rows x = some ("num" : Str))
  | _ => true
def Sm.fit (rows : List VRow) : Sm → Bool
  | .leaf _ l => l.fit rows
  | .iff _ e _ _ _ _ => decide (kindP rows e = some ("flag" : Str))
  | .wh _ e _ _ => decide (kindP rows e = some ("flag" : Str))
mutual
def Sm.all : Sm → List Sm
  | .leaf _ _ => []
  | .iff _ _ _ b1 _ b2 => b1.all ++ b2.all
  | .wh _ _ _ b1 => b1.all
def Bd.all : Bd → List Sm
  | .nil => []
  | .cons s b => s :: (s.all ++ b.all)
end
mutual
theorem Sm.all_refs : ∀ s : Sm, s.inner = s.all.map Sm.ref
  | .leaf _ _ => by rw [Sm.inner, Sm.all]; rfl
  | .iff _ _ _ b1 _ b2 => by rw [Sm.inner, Sm.all, Bd.all_refs b1, Bd.all_refs b2, List.map_append]
  | .wh _ _ _ b1 => by rw [Sm.inner, Sm.all, Bd.all_refs b1]
theorem Bd.all_refs : ∀ b : Bd, b.flat = b.all.map Sm.ref
  | .nil => by rw [Bd.flat, Bd.all]; rfl
  | .cons s b => by rw [Bd.flat, Bd.all, Sm.all_refs s, Bd.all_refs b, List.map_cons, List.map_append]
end
mutual
def SmAll (p : Addr → Prop) : Sm → Prop
  | .leaf _ _ => True
  | .iff _ _ a1 b1 a2 b2 => p a1 ∧ BdAll p b1 ∧ p a2 ∧ BdAll p b2
  | .wh _ _ a1 b1 => p a1 ∧ BdAll p b1
def BdAll (p : Addr → Prop) : Bd → Prop
  | .nil => True
  | .cons s b => SmAll p s ∧ BdAll p b
end
mutual
theorem SmAll.mono {p q : Addr → Prop} (h : ∀ a, p a → q a) : ∀ {s : Sm}, SmAll p s → SmAll q s
  | .leaf _ _, _ => trivial
  | .iff _ _ _ _ _ _, ⟨x, y, z, w⟩ => ⟨h _ x, BdAll.mono h y, h _ z, BdAll.mono h w⟩
  | .wh _ _ _ _, ⟨x, y⟩ => ⟨h _ x, BdAll.mono h y⟩
theorem BdAll.mono {p q : Addr → Prop} (h : ∀ a, p a → q a) : ∀ {b : Bd}, BdAll p b → BdAll q b
  | .nil, _ => trivial
  | .cons _ _, ⟨x, y⟩ => ⟨SmAll.mono h x, BdAll.mono h y⟩
end
mutual
theorem SmAll.all {p : Addr → Prop} (h : ∀ a, p a) : ∀ (s : Sm), SmAll p s
  | .leaf _ _ => trivial
  | .iff _ _ _ b1 _ b2 => ⟨h _, BdAll.all h b1, h _, BdAll.all h b2⟩
  | .wh _ _ _ b1 => ⟨h _, BdAll.all h b1⟩
theorem BdAll.all {p : Addr → Prop} (h : ∀ a, p a) : ∀ (b : Bd), BdAll p b
  | .nil => trivial
  | .cons s b => ⟨SmAll.all h s, BdAll.all h b⟩
end
mutual
theorem SmAt.keep {H H' : Hp} {p : Addr → Prop} (k2 : ∀ b vs, H b = some (.tup vs) → H' b = some (.tup vs)) (k1 : ∀ a, p a → ∀ vs, H a = some (.lst vs) → H' a = some (.lst vs)) : ∀ {s : Sm}, SmAll p s → SmAt H s → SmAt H' s
  | .leaf _ _, _, h => LfAt.keep k2 h
  | .iff _ _ _ _ _ _, ⟨x, y, z, w⟩, ⟨v, h1, h2, h3, h4, h5, h6, h7⟩ => ⟨v, k2 _ _ h1, h2.keep k2, k1 _ x _ h3, BdAt.keep k2 k1 y h4, k1 _ z _ h5, BdAt.keep k2 k1 w h6, h7⟩
  | .wh _ _ _ _, ⟨x, y⟩, ⟨v, h1, h2, h3, h4, h5⟩ => ⟨v, k2 _ _ h1, h2.keep k2, k1 _ x _ h3, BdAt.keep k2 k1 y h4, h5⟩
theorem BdAt.keep {H H' : Hp} {p : Addr → Prop} (k2 : ∀ b vs, H b = some (.tup vs) → H' b = some (.tup vs)) (k1 : ∀ a, p a → ∀ vs, H a = some (.lst vs) → H' a = some (.lst vs)) : ∀ {b : Bd}, BdAll p b → BdAt H b → BdAt H' b
  | .nil, _, _ => trivial
  | .cons _ _, ⟨x, y⟩, ⟨u, v⟩ => ⟨SmAt.keep k2 k1 x u, BdAt.keep k2 k1 y v⟩
end
theorem SmAt.same {H H' : Hp} (s : Same H H') {x : Sm} (h : SmAt H x) : SmAt H' x := h.keep (p := fun _ => True) (fun _ _ e => s _ _ e) (fun _ _ _ e => s _ _ e) (SmAll.all (fun _ => trivial) x)
theorem BdAt.same {H H' : Hp} (s : Same H H') {x : Bd} (h : BdAt H x) : BdAt H' x := h.keep (p := fun _ => True) (fun _ _ e => s _ _ e) (fun _ _ _ e => s _ _ e) (BdAll.all (fun _ => trivial) x)
abbrev SmNew (H0 : Hp) : Sm → Prop := SmAll fun a => H0 a = none
abbrev BdNew (H0 : Hp) : Bd → Prop := BdAll fun a => H0 a = none
theorem SmAt.kl {H0 H H' : Hp} {l : Addr} {xs : List V} (h0 : H0 l ≠ none) (el : H l = some (.lst xs)) (k : Kl l H H') {s : Sm} (n : SmNew H0 s) (h : SmAt H s) : SmAt H' s :=
  h.keep (Kl.tup el k) (fun a ha vs e => k _ _ e fun z => h0 (z ▸ ha)) n
theorem BdAt.kl {H0 H H' : Hp} {l : Addr} {xs : List V} (h0 : H0 l ≠ none) (el : H l = some (.lst xs)) (k : Kl l H H') {s : Bd} (n : BdNew H0 s) (h : BdAt H s) : BdAt H' s :=
  h.keep (Kl.tup el k) (fun a ha vs e => k _ _ e fun z => h0 (z ▸ ha)) n
def Bd.app : Bd → Bd → Bd
  | .nil, b => b
  | .cons s r, b => .cons s (r.app b)
theorem app_refs : ∀ a b : Bd, (a.app b).refs = a.refs ++ b.refs
  | .nil, _ => rfl
  | .cons s r, b => by show s.ref :: (r.app b).refs = _; rw [app_refs r b]; rfl
theorem app_dat : ∀ a b : Bd, (a.app b).dat = a.dat ++ b.dat
  | .nil, _ => by rw [Bd.dat]; rfl
  | .cons s r, b => by show (Bd.cons s (r.app b)).dat = _; rw [Bd.dat, app_dat r b, Bd.dat]; rfl
theorem app_nest : ∀ a b : Bd, (a.app b).nest = max a.nest b.nest
  | .nil, b => by rw [Bd.nest]; show b.nest = _; omega
  | .cons s r, b => by show (Bd.cons s (r.app b)).nest = _; rw [Bd.nest, app_nest r b, Bd.nest]; omega
theorem app_at {H : Hp} : ∀ {a b : Bd}, BdAt H a → BdAt H b → BdAt H (a.app b)
  | .nil, _, _, h => h
  | .cons _ _, _, ⟨x, y⟩, h => ⟨x, app_at y h⟩
theorem app_all {p : Addr → Prop} : ∀ {a b : Bd}, BdAll p a → BdAll p b → BdAll p (a.app b)
  | .nil, _, _, h => h
  | .cons _ _, _, ⟨x, y⟩, h => ⟨x, app_all y h⟩
theorem app_ok : ∀ {a b : Bd}, BdOk a → BdOk b → BdOk (a.app b)
  | .nil, _, _, h => h
  | .cons _ _, _, ⟨x, y⟩, h => ⟨x, app_ok y h⟩
theorem app_allS : ∀ a b : Bd, (a.app b).all = a.all ++ b.all
  | .nil, _ => by rw [Bd.all]; rfl
  | .cons s r, b => by show (Bd.cons s (r.app b)).all = _; rw [Bd.all, app_allS r b, Bd.all]; simp
end K45

set_option Elab.async false
set_option linter.all false
set_option maxRecDepth 100000
set_option maxHeartbeats 4000000
namespace K45
open PySem L2
theorem look_no {x : Str} : ∀ {r : List VRow} {acc : Option Str}, (∀ p ∈ r, p.2.1 ≠ x) → r.foldl (fun acc p => if p.2.1 = x then some p.1 else acc) acc = acc
  | [], _, _ => rfl
  | q :: r, acc, h => by
    rw [List.foldl_cons, if_neg (h q List.mem_cons_self)]
    exact look_no fun p hp => h p (List.mem_cons_of_mem _ hp)
theorem look_yes : ∀ {r : List VRow} {acc : Option Str} {p : VRow}, (r.map (·.2.1)).Nodup → p ∈ r → r.foldl (fun acc q => if q.2.1 = p.2.1 then some q.1 else acc) acc = some p.1
  | [], _, _, _, h => by cases h
  | q :: r, acc, p, hn, h => by
    rw [List.map_cons, List.nodup_cons] at hn
    rw [List.foldl_cons]
    rcases List.mem_cons.mp h with e | e
    · subst e
      rw [if_pos rfl]
      exact look_no fun z hz ez => hn.1 (ez ▸ List.mem_map.mpr ⟨z, hz, rfl⟩)
    · exact look_yes hn.2 e
theorem look_of {rows : List VRow} {p : VRow} (hn : (rows.map (·.2.1)).Nodup) (h : p ∈ rows) : lookF rows p.2.1 = some p.1 := look_yes hn h
theorem varStep_names (s : List VRow × Tp) (x : Str) : (varStep s x).1.map (·.2.1) = s.1.map (·.2.1) ++ [x] := by
  unfold varStep
  split <;> (show (_ ++ [_]).map _ = _; rw [List.map_append]; rfl)
theorem varFold_names : ∀ (l : List Str) (s : List VRow × Tp), (l.foldl varStep s).1.map (·.2.1) = s.1.map (·.2.1) ++ l
  | [], s => by rw [List.append_nil]; rfl
  | x :: l, s => by rw [List.foldl_cons, varFold_names l, varStep_names, List.append_assoc]; rfl
theorem abc_inj : ∀ i : _root_.Fin 26, ∀ j : _root_.Fin 26, abc.cps[i.val]?.getD 0 = abc.cps[j.val]?.getD 0 → i = j := by decide +kernel
theorem title_inj {stem : Str} {at' first : Int} {k j : Nat} (hk : k < 26) (hj : j < 26) (h : titleM stem at' first k = titleM stem at' first j) : k = j := by
  unfold titleM at h
  have hc := congrArg (fun z : Str => z.cps.toList) h
  have e1 : ∀ (A B C D : Str), (A ++ (B ++ C) ++ D).cps.toList = A.cps.toList ++ (B.cps.toList ++ (C.cps.toList ++ D.cps.toList)) := fun A B C D => by
    show ((A.cps ++ (B.cps ++ C.cps)) ++ D.cps).toList = _
    simp
  simp only [e1] at hc
  have hc := List.append_cancel_left hc
  have b1 : ∀ i : Int, (chrA abc i).cps.toList = [abc.cps[i.toNat]?.getD 0] := fun i => rfl
  rw [b1, b1] at hc
  have hh := (List.cons.inj hc).1
  have i1 := Int.emod_nonneg (first + (k : Int)) (show (26 : Int) ≠ 0 by decide)
  have i2 := Int.emod_lt_of_pos (first + (k : Int)) (show (0 : Int) < 26 by decide)
  have j1 := Int.emod_nonneg (first + (j : Int)) (show (26 : Int) ≠ 0 by decide)
  have j2 := Int.emod_lt_of_pos (first + (j : Int)) (show (0 : Int) < 26 by decide)
  have := abc_inj ⟨((first + (k : Int)) % 26).toNat, by omega⟩ ⟨((first + (j : Int)) % 26).toNat, by omega⟩ hh
  have := congrArg (fun z : _root_.Fin 26 => z.val) this
  have this : ((first + (k : Int)) % 26).toNat = ((first + (j : Int)) % 26).toNat := this
  omega
theorem nodup_mapR {f : Nat → Str} : ∀ {l : List Nat}, l.Nodup → (∀ a ∈ l, ∀ b ∈ l, f a = f b → a = b) → (l.map f).Nodup
  | [], _, _ => List.nodup_nil
  | a :: l, hn, h => by
    rw [List.nodup_cons] at hn
    rw [List.map_cons, List.nodup_cons]
    refine ⟨fun z => ?_, nodup_mapR hn.2 fun x hx y hy => h x (List.mem_cons_of_mem _ hx) y (List.mem_cons_of_mem _ hy)⟩
    obtain ⟨b, hb, e⟩ := List.mem_map.mp z
    have := h b (List.mem_cons_of_mem _ hb) a List.mem_cons_self e
    exact hn.1 (this ▸ hb)
theorem titles_apart (t : Tp) {many : Nat} (h : many ≤ 26) : (titlesM t many).1.Nodup := by
  unfold titlesM
  refine nodup_mapR List.nodup_range fun a ha b hb e => ?_
  rw [List.mem_range] at ha hb
  exact title_inj (by omega) (by omega) e
theorem vars_apart (t : Tp) {most : Int} (h0 : 0 < most) (h : most ≤ 26) : ((varsM t most).1.map (·.2.1)).Nodup := by
  have b := next_bd t h0
  unfold varsM
  rw [varFold_names]
  exact titles_apart _ (by omega)
theorem rowsK_mem {rows : List VRow} {k : Str} {p : VRow} (h : p ∈ rowsK rows k) : p ∈ rows ∧ p.1 = k := by
  obtain ⟨a, b⟩ := List.mem_filter.mp h
  exact ⟨a, of_decide_eq_true b⟩
theorem pick_mem {rs : List VRow} (h : rs.isEmpty = false) (t : Tp) : ∃ p ∈ rs, pickR rs t = p.2.1 := by
  have hl : 0 < rs.length := List.length_pos_iff.mpr (by intro z; rw [z] at h; cases h)
  have b := next_bd t (size := rs.length) (by omega)
  refine ⟨rs.getD (nextM t rs.length).1.toNat ("", "", 0), ?_, rfl⟩
  rw [List.getD_eq_getElem?_getD, List.getElem?_eq_getElem (show (nextM t rs.length).1.toNat < rs.length by omega)]
  exact List.getElem_mem _
theorem kind_nam {rows : List VRow} {x k : Str} (h : lookF rows x = some k) (hk : ¬ k = "list") : kindP rows (.nam x) = some k := by
  simp only [kindP, h]; exact if_neg hk
theorem nuB_kind {rec : Tp → Ex × Tp} {rows : List VRow} {m : Nat} (ho : VarsOk rows) (ap : (rows.map (·.2.1)).Nodup) {wy : Int} (h0 : 0 ≤ wy) (h6 : wy < 6) (hrec : wy < 2 ∨ ∀ t, kindP rows (rec t).1 = some ("num" : Str) ∧ EOk m (rec t).1) (t : Tp) :
    kindP rows (nuB rec rows wy t).1 = some ("num" : Str) ∧ EOk (m + 1) (nuB rec rows wy t).1 := by
  have hrec : ¬ wy < 2 → ∀ t, kindP rows (rec t).1 = some ("num" : Str) ∧ EOk m (rec t).1 := fun h => hrec.resolve_left h
  unfold nuB
  split
  · rename_i h
    obtain ⟨p, hp, e⟩ := pick_mem h.2 t
    obtain ⟨hp1, hp2⟩ := rowsK_mem hp
    rw [e]
    exact ⟨kind_nam (by rw [look_of ap hp1, hp2]) (by decide +kernel), (ho p hp1).2, Nat.zero_le _⟩
  split
  · rename_i h
    obtain ⟨p, hp, e⟩ := pick_mem h.2 t
    obtain ⟨hp1, hp2⟩ := rowsK_mem hp
    have r := hrec (by omega) (nextM t (rowsK rows "list").length).2
    rw [e]
    exact ⟨by show (if _ then _ else _) = _; rw [if_pos ⟨by rw [look_of ap hp1, hp2], r.1⟩], ⟨(ho p hp1).2, r.2.ok⟩, Nat.succ_le_succ r.2.dep⟩
  split
  · exact ⟨rfl, trivial, Nat.zero_le _⟩
  · have r1 := hrec (by omega) t
    have r2 := hrec (by omega) (rec t).2
    obtain ⟨_, _, _, o1, o2⟩ := op3_at (i := wy - 3) (by omega) (by omega)
    exact ⟨by show (if _ then _ else _) = _; rw [if_pos ⟨r1.1, r2.1⟩, if_neg o2], ⟨o1, r1.2.ok, r2.2.ok⟩, by show max _ _ + 1 ≤ m + 1; have := r1.2.dep; have := r2.2.dep; omega⟩
theorem nuB_kind0 {rec : Tp → Ex × Tp} {rows : List VRow} (ho : VarsOk rows) (ap : (rows.map (·.2.1)).Nodup) {wy : Int} (h0 : 0 ≤ wy) (h2 : wy < 2) (t : Tp) :
    kindP rows (nuB rec rows wy t).1 = some ("num" : Str) ∧ EOk 0 (nuB rec rows wy t).1 := by
  have h := nuB_kind (rec := rec) (m := 0) ho ap h0 (by omega) (.inl h2) t
  refine ⟨h.1, h.2.ok, ?_⟩
  unfold nuB
  split
  · exact Nat.zero_le _
  split
  · omega
  split
  · exact Nat.zero_le _
  · omega
theorem num_kind {rows : List VRow} (ho : VarsOk rows) (ap : (rows.map (·.2.1)).Nodup) : ∀ (n : Nat) (t : Tp), kindP rows (numX rows n t).1 = some ("num" : Str) ∧ EOk n (numX rows n t).1
  | 0, t => nuB_kind0 ho ap (Int.emod_nonneg _ (by decide)) (Int.emod_lt_of_pos _ (by decide)) _
  | n + 1, t => by
    have b := next_bd t (size := 6) (by decide)
    have m1 := Int.emod_nonneg (nextM t 6).1 (show (2 : Int) ≠ 0 by decide)
    have m2 := Int.emod_lt_of_pos (nextM t 6).1 (show (0 : Int) < 2 by decide)
    exact nuB_kind (m := n) ho ap (by split <;> omega) (by split <;> omega) (.inr (num_kind ho ap n)) _
theorem flB_kind {recF recN : Tp → Ex × Tp} {rows : List VRow} {m : Nat} (ho : VarsOk rows) (ap : (rows.map (·.2.1)).Nodup) {wy : Int} (h0 : 0 ≤ wy) (h5 : wy < 5) (hrec : wy < 2 ∨ ((∀ t, kindP rows (recF t).1 = some ("flag" : Str) ∧ EOk m (recF t).1) ∧ ∀ t, kindP rows (recN t).1 = some ("num" : Str) ∧ EOk m (recN t).1)) (t : Tp) :
    kindP rows (flB recF recN rows wy t).1 = some ("flag" : Str) ∧ EOk (m + 1) (flB recF recN rows wy t).1 ∧ (wy < 2 → (flB recF recN rows wy t).1.dep = 0) := by
  have hrec : ¬ wy < 2 → _ := fun h => hrec.resolve_left h
  unfold flB
  split
  · rename_i h
    obtain ⟨p, hp, e⟩ := pick_mem h.2 t
    obtain ⟨hp1, hp2⟩ := rowsK_mem hp
    rw [e]
    exact ⟨kind_nam (by rw [look_of ap hp1, hp2]) (by decide +kernel), ⟨(ho p hp1).2, Nat.zero_le _⟩, fun _ => rfl⟩
  split
  · exact ⟨rfl, ⟨trivial, Nat.zero_le _⟩, fun _ => rfl⟩
  rename_i h2
  have hr := hrec h2
  split
  · have r := hr.1 t
    exact ⟨by show (if _ then _ else _) = _; rw [if_pos r.1], ⟨r.2.ok, Nat.succ_le_succ r.2.dep⟩, fun z => absurd z h2⟩
  · have r1 := hr.2 t
    have r2 := hr.2 (recN t).2
    obtain ⟨_, _, _, o1, o2⟩ := op2_at (i := wy - 3) (by omega) (by omega)
    exact ⟨by show (if _ then _ else _) = _; rw [if_pos ⟨r1.1, r2.1⟩, if_pos o2], ⟨⟨o1, r1.2.ok, r2.2.ok⟩, by show max _ _ + 1 ≤ m + 1; have := r1.2.dep; have := r2.2.dep; omega⟩, fun z => absurd z h2⟩
theorem flag_kind {rows : List VRow} (ho : VarsOk rows) (ap : (rows.map (·.2.1)).Nodup) : ∀ (n : Nat) (t : Tp), kindP rows (flagX rows n t).1 = some ("flag" : Str) ∧ EOk n (flagX rows n t).1
  | 0, t => by
    have m2 := Int.emod_lt_of_pos (nextM t 5).1 (show (0 : Int) < 2 by decide)
    have h := flB_kind (recF := fun t => (.num 0, t)) (recN := fun t => (.num 0, t)) (m := 0) ho ap (Int.emod_nonneg (nextM t 5).1 (show (2 : Int) ≠ 0 by decide)) (by omega) (.inl m2) (nextM t 5).2
    exact ⟨h.1, h.2.1.ok, Nat.le_of_eq (h.2.2 m2)⟩
  | n + 1, t => by
    have b := next_bd t (size := 5) (by decide)
    have m1 := Int.emod_nonneg (nextM t 5).1 (show (2 : Int) ≠ 0 by decide)
    have m2 := Int.emod_lt_of_pos (nextM t 5).1 (show (0 : Int) < 2 by decide)
    have h := flB_kind (m := n) ho ap (wy := if 60 < (nextM t 5).2.c then (nextM t 5).1 % 2 else (nextM t 5).1) (by split <;> omega) (by split <;> omega) (.inr ⟨flag_kind ho ap n, num_kind ho ap n⟩) (nextM t 5).2
    exact ⟨h.1, h.2.1⟩
end K45

set_option Elab.async false
set_option linter.all false
set_option maxRecDepth 100000
set_option maxHeartbeats 4000000
namespace K45
open PySem L2
def sp_fits : Sp := fun vs H Q _ => ∃ (d : Addr) (s : Sm) (rows : List VRow), vs = [.ref d, s.ref] ∧ H d = some (.dK (kindsK rows)) ∧ VarsOk rows ∧ SmAt H s ∧ SmOk s ∧ ∀ H', Same H H' → Q (.bl (s.fit rows)) H'
theorem kind_at_none {rows : List VRow} {x : Str} {e : Ex} : kindP rows (.pl x e) = none ↔ ¬ (lookF rows x = some ("list" : Str) ∧ kindP rows e = some ("num" : Str)) := by
  show (if _ then _ else _) = _ ↔ _
  by_cases h : lookF rows x = some ("list" : Str) ∧ kindP rows e = some ("num" : Str)
  · rw [if_pos h]; exact ⟨fun z => (by cases z), fun z => absurd h z⟩
  · rw [if_neg h]; exact ⟨fun _ => h, fun _ => rfl⟩
theorem inIW {x : Str} (h : x = "if" ∨ x = "while") : inV (.str x) [.str "if", .str "while"] = true := by
  rcases h with rfl | rfl <;> decide +kernel
theorem EOk.le {n m : Nat} {e : Ex} (h : EOk n e) (l : n ≤ m) : EOk m e := ⟨h.ok, Nat.le_trans h.dep l⟩
section
variable {P : Program} {w : World} {K : PySem.W.Frag} {mg : Str → Option Value} {base : Heap}
theorem sc_fits : FnScope ["kinds", "statement", "deed", "kind", "place"] ["kinds", "statement"] (defScope s_fits) := ⟨rfl, rfl, rfl, by decide +kernel, rfl, by decide +kernel, by decide +kernel⟩
theorem ok_fits {f f1 f2 : Addr} {fd d1 d2 : FuncData} (F : Fun K "fits" "fits" s_fits f fd) (T : Bt mg) (z22 : Q9 K mg f1 d1) (z20 : Q8 K mg f2 d2) : FnOk P w K mg base CX0 10 f fd ["kinds", "statement"] sp_fits := by
  have z52 := ok_kind_by (P := P) (w := w) (mg := mg) (base := base) T z22 z20 3
  refine F.ok sc_fits (fun vs H Q E h => ?_) (fun cdv A outer s H vs Q E hr h => ?_)
  · obtain ⟨d, s, rows, rfl, _⟩ := h; rfl
  · obtain ⟨d, sm, rows, rfl, ed, ho, hS, oS, q⟩ := h
    have hs : sizeLine = 16777216 := sizeLine_eq
    have two : 2 ≤ sizeLine := by omega
    refine ⟨_, (pss_cons (ps_set (i := 2) sc_fits.nd rfl (Or.inl rfl) (pe_ix ix_tup (pv 1) pe_int (fun _ _ => rfl)))
      (pss_cons (ps_if (pt_cmpR op_eq (pv 2) pe_str (nomark _))
        (pss_cons (ps_set (i := 3) sc_fits.nd rfl (Or.inl rfl) (pe_call z52 (hr.mono (by decide)) rfl z20.m z20.F.kp z20.b .nil pass0 (pa_consN (pv 0) (pa_consN (pe_tup (pa_consN pe_str (pa_consN (pe_ix ix_tup (pv 1) pe_int (fun _ _ => rfl)) pa_nil))) pa_nil))))
        (pss_one (ps_ret (pe_and (pe_cmpR op_notN (pv 3) pe_non (nomark _)) (pe_one (pe_cmpR op_eq (pe_call z52 (hr.mono (by decide)) rfl z20.m z20.F.kp z20.b .nil pass0 (pa_consN (pv 0) (pa_consN (pe_ix ix_tup (pv 1) pe_int (fun _ _ => rfl)) pa_nil))) (pv 3) (nomark _)))))))
        pss_nil)
      (pss_cons (ps_if (pt_cmpR op_eq (pv 2) pe_str (nomark _))
        (pss_cons (ps_set (i := 4) sc_fits.nd rfl (Or.inl rfl) (pe_call z52 (hr.mono (by decide)) rfl z20.m z20.F.kp z20.b .nil pass0 (pa_consN (pv 0) (pa_consN (pe_tup (pa_consN pe_str (pa_consN (pe_ix ix_tup (pv 1) pe_int (fun _ _ => rfl)) (pa_consN (pe_ix ix_tup (pv 1) pe_int (fun _ _ => rfl)) pa_nil)))) pa_nil))))
        (pss_one (ps_ret (pe_and (pe_cmpR op_notN (pv 4) pe_non (nomark _)) (pe_one (pe_cmpR op_eq (pe_call z52 (hr.mono (by decide)) rfl z20.m z20.F.kp z20.b .nil pass0 (pa_consN (pv 0) (pa_consN (pe_ix ix_tup (pv 1) pe_int (fun _ _ => rfl)) pa_nil))) pe_str (nomark _)))))))
        pss_nil)
      (pss_cons (ps_if (pt_cmpR op_eq (pv 2) pe_str (nomark _))
        (pss_one (ps_ret (pe_cmpR op_eq (pe_call z52 (hr.mono (by decide)) rfl z20.m z20.F.kp z20.b .nil pass0 (pa_consN (pv 0) (pa_consN (pe_ix ix_tup (pv 1) pe_int (fun _ _ => rfl)) pa_nil))) pe_str (nomark _))))
        pss_nil)
      (pss_cons (ps_if (pt_cmpR op_eq (pv 2) pe_str (nomark _))
        (pss_one (ps_ret (pe_cmpR op_eq (pe_dget1 (hu_of hr) (pv 0) (pe_ix ix_tup (pv 1) pe_int (fun _ _ => rfl)) ⟨rfl, rfl, rfl, rfl⟩) pe_str (nomark _))))
        pss_nil)
      (pss_cons (ps_if (pt_cmpR op_in_seq (pv 2) (pe_tup (pa_consN pe_str (pa_consN pe_str pa_nil))) (by with_unfolding_all rfl))
        (pss_one (ps_ret (pe_cmpR op_eq (pe_call z52 (hr.mono (by decide)) rfl z20.m z20.F.kp z20.b .nil pass0 (pa_consN (pv 0) (pa_consN (pe_ix ix_tup (pv 1) pe_int (fun _ _ => rfl)) pa_nil))) pe_str (nomark _))))
        pss_nil)
      (pss_one (ps_ret pe_bl)))))))), ?_⟩
    cases sm with
    | leaf r l =>
      cases l with
      | tell e =>
        obtain ⟨v, et, hE⟩ := hS
        have oE : EOk 2 e := oS
        refine ⟨_, rfl, r, _, _, _, rfl, rfl, SqT.of et, rfl, ?_⟩
        refine ⟨_, rfl, rfl, _, rfl, itDN (str_ne (by decide +kernel)) ⟨_, rfl, rfl, _, rfl, itDN (str_ne (by decide +kernel)) ⟨_, rfl, rfl, _, rfl, itDP rfl ?_⟩⟩⟩
        refine ⟨_, rfl, _, rfl, r, _, _, _, rfl, rfl, SqT.of et, rfl, d, v, rows, e, rfl, ed, ho, hE, oE.ok, by have := oE.dep; omega, fun H1 s1 => ⟨scal_opt _ _, ?_⟩⟩
        rw [opt_eq]
        exact q H1 s1
      | set x e =>
        obtain ⟨v, et, hE⟩ := hS
        have oE : PyData.strOk x = true ∧ EOk 2 e := oS
        refine ⟨_, rfl, r, _, _, _, rfl, rfl, SqT.of et, rfl, ?_⟩
        refine ⟨_, rfl, rfl, _, rfl, itDP rfl ?_⟩
        refine ⟨_, rfl, _, rfl, r, _, _, _, rfl, rfl, SqT.of et, rfl, two, fun p hp => ?_⟩
        have y1 := Same.put (o := .tup [V.str "name", V.str x]) hp
        refine ⟨d, .ref p, rows, .nam x, rfl, y1 _ _ ed, ho, ⟨p, rfl, upd_same⟩, oE.1, Nat.zero_le _, fun H2 s2 => ?_⟩
        have s02 := y1.trans s2
        refine ⟨_, rfl, rfl, _, rfl, ?_⟩
        have qf : ∀ H', Same H H' → Q (.bl (match kindP rows (.nam x) with | none => false | some k => decide (kindP rows e = some k))) H' := q
        cases hk : kindP rows (.nam x) with
        | none =>
          rw [hk] at qf
          exact qf H2 s02
        | some k =>
          rw [hk] at qf
          refine ⟨_, rfl, _, rfl, r, _, _, _, rfl, rfl, SqT.of (s02 _ _ et), rfl, d, v, rows, e, rfl, s02 _ _ ed, ho, hE.same s02, oE.2.ok, by have := oE.2.dep; omega, fun H3 s3 => ⟨_, rfl, scal_opt _ _, ?_⟩⟩
          have this : Q (.bl (decide (kindP rows e = some k))) H3 := qf H3 (s02.trans s3)
          rw [← opt_eq] at this
          exact this
      | put x e1 e2 =>
        obtain ⟨v1, v2, et, hE1, hE2⟩ := hS
        have oE : PyData.strOk x = true ∧ EOk 2 e1 ∧ EOk 2 e2 := oS
        refine ⟨_, rfl, r, _, _, _, rfl, rfl, SqT.of et, rfl, ?_⟩
        refine ⟨_, rfl, rfl, _, rfl, itDN (str_ne (by decide +kernel)) ⟨_, rfl, rfl, _, rfl, itDP rfl ?_⟩⟩
        refine ⟨_, rfl, _, rfl, r, _, _, _, rfl, rfl, SqT.of et, rfl, _, rfl, r, _, _, _, rfl, rfl, SqT.of et, rfl, (by show 3 ≤ sizeLine; omega), fun p hp => ?_⟩
        have y1 := Same.put (o := .tup [V.str "at", V.str x, v1]) hp
        refine ⟨d, .ref p, rows, .pl x e1, rfl, y1 _ _ ed, ho, ⟨p, v1, rfl, upd_same, hE1.same y1⟩, ⟨oE.1, oE.2.1.ok⟩, by show e1.dep + 1 ≤ 3; have := oE.2.1.dep; omega, fun H2 s2 => ?_⟩
        have s02 := y1.trans s2
        refine ⟨_, rfl, rfl, _, rfl, ?_⟩
        have qf : ∀ H', Same H H' → Q (.bl (decide (lookF rows x = some ("list" : Str) ∧ kindP rows e1 = some ("num" : Str) ∧ kindP rows e2 = some ("num" : Str)))) H' := q
        cases hk : kindP rows (.pl x e1) with
        | none =>
          have hn := kind_at_none.mp hk
          rw [show decide (lookF rows x = some ("list" : Str) ∧ kindP rows e1 = some ("num" : Str) ∧ kindP rows e2 = some ("num" : Str)) = false from decide_eq_false fun z => hn ⟨z.1, z.2.1⟩] at qf
          exact qf H2 s02
        | some k =>
          have hn : lookF rows x = some ("list" : Str) ∧ kindP rows e1 = some ("num" : Str) := by
            rcases Decidable.em (lookF rows x = some ("list" : Str) ∧ kindP rows e1 = some ("num" : Str)) with z | z
            · exact z
            · rw [kind_at_none.mpr z] at hk; cases hk
          refine ⟨_, rfl, _, rfl, r, _, _, _, rfl, rfl, SqT.of (s02 _ _ et), rfl, d, v2, rows, e2, rfl, s02 _ _ ed, ho, hE2.same s02, oE.2.2.ok, by have := oE.2.2.dep; omega, fun H3 s3 => ⟨scal_opt _ _, ?_⟩⟩
          rw [opt_eq]
          have := qf H3 (s02.trans s3)
          rw [show decide (lookF rows x = some ("list" : Str) ∧ kindP rows e1 = some ("num" : Str) ∧ kindP rows e2 = some ("num" : Str)) = decide (kindP rows e2 = some ("num" : Str)) from decide_eq_decide.mpr ⟨fun z => z.2.2, fun z => ⟨hn.1, hn.2, z⟩⟩] at this
          exact this
      | ask x =>
        have et : H r = some (.tup [.str "ask", .str x]) := hS
        refine ⟨_, rfl, r, _, _, _, rfl, rfl, SqT.of et, rfl, ?_⟩
        refine ⟨_, rfl, rfl, _, rfl, itDN (str_ne (by decide +kernel)) ⟨_, rfl, rfl, _, rfl, itDN (str_ne (by decide +kernel)) ⟨_, rfl, rfl, _, rfl, itDN (str_ne (by decide +kernel)) ⟨_, rfl, rfl, _, rfl, itDP rfl ?_⟩⟩⟩⟩
        refine ⟨_, rfl, d, rfl, .inl ⟨_, .inl ed⟩, _, rfl, r, _, _, _, rfl, rfl, SqT.of et, rfl, _, DGet.k (k := .inr x) ed, ?_⟩
        rw [kinds_val, optV_get]
        refine ⟨scal_opt _ _, ?_⟩
        rw [opt_eq]
        exact q H (Same.refl _)
      | does x =>
        have et : H r = some (.tup [.str "do", .str x]) := hS
        refine ⟨_, rfl, r, _, _, _, rfl, rfl, SqT.of et, rfl, ?_⟩
        refine ⟨_, rfl, rfl, _, rfl, itDN (str_ne (by decide +kernel)) ⟨_, rfl, rfl, _, rfl, itDN (str_ne (by decide +kernel)) ⟨_, rfl, rfl, _, rfl, itDN (str_ne (by decide +kernel)) ⟨_, rfl, rfl, _, rfl, itDN (str_ne (by decide +kernel)) ?_⟩⟩⟩⟩
        refine ⟨_, rfl, two, fun tp htp => ⟨tp, [V.str "if", V.str "while"], rfl, .inr (SqT.of upd_same), rfl, rfl, _, rfl, ?_⟩⟩
        rw [show (if false = true then !inV (V.str "do") [V.str "if", V.str "while"] else inV (V.str "do") [V.str "if", V.str "while"]) = false from by decide +kernel]
        exact q _ (Same.put htp)
      | stop =>
        have et : H r = some (.tup [.str "stop"]) := hS
        refine ⟨_, rfl, r, _, _, _, rfl, rfl, SqT.of et, rfl, ?_⟩
        refine ⟨_, rfl, rfl, _, rfl, itDN (str_ne (by decide +kernel)) ⟨_, rfl, rfl, _, rfl, itDN (str_ne (by decide +kernel)) ⟨_, rfl, rfl, _, rfl, itDN (str_ne (by decide +kernel)) ⟨_, rfl, rfl, _, rfl, itDN (str_ne (by decide +kernel)) ?_⟩⟩⟩⟩
        refine ⟨_, rfl, two, fun tp htp => ⟨tp, [V.str "if", V.str "while"], rfl, .inr (SqT.of upd_same), rfl, rfl, _, rfl, ?_⟩⟩
        rw [show (if false = true then !inV (V.str "stop") [V.str "if", V.str "while"] else inV (V.str "stop") [V.str "if", V.str "while"]) = false from by decide +kernel]
        exact q _ (Same.put htp)
      | way =>
        have et : H r = some (.tup [.str "way"]) := hS
        refine ⟨_, rfl, r, _, _, _, rfl, rfl, SqT.of et, rfl, ?_⟩
        refine ⟨_, rfl, rfl, _, rfl, itDN (str_ne (by decide +kernel)) ⟨_, rfl, rfl, _, rfl, itDN (str_ne (by decide +kernel)) ⟨_, rfl, rfl, _, rfl, itDN (str_ne (by decide +kernel)) ⟨_, rfl, rfl, _, rfl, itDN (str_ne (by decide +kernel)) ?_⟩⟩⟩⟩
        refine ⟨_, rfl, two, fun tp htp => ⟨tp, [V.str "if", V.str "while"], rfl, .inr (SqT.of upd_same), rfl, rfl, _, rfl, ?_⟩⟩
        rw [show (if false = true then !inV (V.str "way") [V.str "if", V.str "while"] else inV (V.str "way") [V.str "if", V.str "while"]) = false from by decide +kernel]
        exact q _ (Same.put htp)
    | iff r e a1 b1 a2 b2 =>
      obtain ⟨v, et, hE, _⟩ := hS
      have oE : EOk 2 e := oS.1
      refine ⟨_, rfl, r, _, _, _, rfl, rfl, SqT.of et, rfl, ?_⟩
      refine ⟨_, rfl, rfl, _, rfl, itDN (str_ne (by decide +kernel)) ⟨_, rfl, rfl, _, rfl, itDN (str_ne (by decide +kernel)) ⟨_, rfl, rfl, _, rfl, itDN (str_ne (by decide +kernel)) ⟨_, rfl, rfl, _, rfl, itDN (str_ne (by decide +kernel)) ?_⟩⟩⟩⟩
      refine ⟨_, rfl, two, fun tp htp => ⟨tp, [V.str "if", V.str "while"], rfl, .inr (SqT.of upd_same), rfl, rfl, _, rfl, ?_⟩⟩
      rw [show (if false = true then !inV (V.str "if") [V.str "if", V.str "while"] else inV (V.str "if") [V.str "if", V.str "while"]) = true from inIW (.inl rfl)]
      have y1 := Same.put (o := .tup [V.str "if", V.str "while"]) htp
      refine iteT ⟨_, rfl, _, rfl, r, _, _, _, rfl, rfl, SqT.of (y1 _ _ et), rfl, d, v, rows, e, rfl, y1 _ _ ed, ho, hE.same y1, oE.ok, by have := oE.dep; omega, fun H1 s1 => ⟨scal_opt _ _, ?_⟩⟩
      rw [opt_eq]
      exact q H1 (y1.trans s1)
    | wh r e a1 b1 =>
      obtain ⟨v, et, hE, _⟩ := hS
      have oE : EOk 2 e := oS.1
      refine ⟨_, rfl, r, _, _, _, rfl, rfl, SqT.of et, rfl, ?_⟩
      refine ⟨_, rfl, rfl, _, rfl, itDN (str_ne (by decide +kernel)) ⟨_, rfl, rfl, _, rfl, itDN (str_ne (by decide +kernel)) ⟨_, rfl, rfl, _, rfl, itDN (str_ne (by decide +kernel)) ⟨_, rfl, rfl, _, rfl, itDN (str_ne (by decide +kernel)) ?_⟩⟩⟩⟩
      refine ⟨_, rfl, two, fun tp htp => ⟨tp, [V.str "if", V.str "while"], rfl, .inr (SqT.of upd_same), rfl, rfl, _, rfl, ?_⟩⟩
      rw [show (if false = true then !inV (V.str "while") [V.str "if", V.str "while"] else inV (V.str "while") [V.str "if", V.str "while"]) = true from inIW (.inr rfl)]
      have y1 := Same.put (o := .tup [V.str "if", V.str "while"]) htp
      refine iteT ⟨_, rfl, _, rfl, r, _, _, _, rfl, rfl, SqT.of (y1 _ _ et), rfl, d, v, rows, e, rfl, y1 _ _ ed, ho, hE.same y1, oE.ok, by have := oE.dep; omega, fun H1 s1 => ⟨scal_opt _ _, ?_⟩⟩
      rw [opt_eq]
      exact q H1 (y1.trans s1)
end
end K45

set_option Elab.async false
set_option linter.all false
set_option maxRecDepth 100000
set_option maxHeartbeats 4000000
namespace K45
open PySem L2
def Bd.toL : Bd → List Sm
  | .nil => []
  | .cons s b => s :: b.toL
def Sm.here (s : Sm) : List V := s.ref :: s.inner
theorem refs_eq : ∀ b : Bd, b.refs = b.toL.map Sm.ref
  | .nil => rfl
  | .cons s b => by show s.ref :: b.refs = _; rw [refs_eq b]; rfl
theorem flat_eq : ∀ b : Bd, b.flat = (b.toL.map Sm.here).flatten
  | .nil => by rw [Bd.flat]; rfl
  | .cons s b => by rw [Bd.flat, flat_eq b]; rfl
theorem at_mem {H : Hp} : ∀ {b : Bd}, BdAt H b → ∀ s ∈ b.toL, SmAt H s
  | .nil, _, s, h => by cases h
  | .cons x b, ⟨p, q⟩, s, h => by
    rcases List.mem_cons.mp h with rfl | h
    · exact p
    · exact at_mem q s h
theorem nest_mem : ∀ {b : Bd}, ∀ s ∈ b.toL, s.nest ≤ b.nest
  | .nil, s, h => by cases h
  | .cons x b, s, h => by
    rw [Bd.nest]
    rcases List.mem_cons.mp h with rfl | h
    · omega
    · have := nest_mem s h; omega
theorem here_take {l : List Sm} {i : Nat} {s : Sm} (h : l[i]? = some s) : ((l.take (i + 1)).map Sm.here).flatten = ((l.take i).map Sm.here).flatten ++ s.here := by
  rw [List.take_add_one, h, List.map_append, List.flatten_append]
  show _ ++ ([s.here] : List (List V)).flatten = _
  simp
theorem flat_take_le (l : List Sm) (i : Nat) : ((l.take i).map Sm.here).flatten.length ≤ ((l.map Sm.here).flatten).length := by
  conv => rhs; rw [← List.take_append_drop i l]
  rw [List.map_append, List.flatten_append, List.length_append]; omega
theorem at_zero (x : V) (xs : List V) : atI (x :: xs) 0 = some x := by show atI (x :: xs) ((0 : Nat) : Int) = some x; exact atI_nat rfl
theorem in_tag (x a b : Str) : (if false = true then !inV (V.str x) [V.str a, V.str b] else inV (V.str x) [V.str a, V.str b]) = decide (x = a ∨ x = b) := by
  rw [if_neg (by decide)]
  unfold inV
  simp only [List.any_cons, List.any_nil, Bool.or_false]
  rw [Bool.eq_iff_iff, Bool.or_eq_true, decide_eq_true_eq]
  simp only [eqV, beq_iff_eq]
  constructor
  · rintro (h | h)
    · exact .inl h.symm
    · exact .inr h.symm
  · rintro (h | h)
    · exact .inl h.symm
    · exact .inr h.symm
def sp_wi (n : Nat) : Sp := fun vs H Q _ => ∃ (r : Addr) (b : Bd), vs = [.ref r] ∧ H r = some (.lst b.refs) ∧ BdAt H b ∧ b.nest ≤ n ∧ b.flat.length ≤ 1000000 ∧ ∀ (l : Addr) (H' : Hp), Same H H' → H l = none → H' l = some (.lst b.flat) → Q (.ref l) H'
structure Inner (H : Hp) (s : Sm) (bl : List (Addr × Bd)) : Prop where
  at' : ∀ p ∈ bl, H p.1 = some (.lst p.2.refs) ∧ BdAt H p.2 ∧ p.2.nest + 1 ≤ s.nest
  fl : s.inner = (bl.map fun p => p.2.flat).flatten
theorem sm_form {H : Hp} {s : Sm} (h : SmAt H s) : ∃ (r : Addr) (tag : Str) (vs : List V), s.ref = .ref r ∧ H r = some (.tup (.str tag :: vs)) ∧
    ((tag ≠ "if" ∧ tag ≠ "while" ∧ s.inner = []) ∨
     (tag = "if" ∧ ∃ v a1 a2 b1 b2, vs = [v, .ref a1, .ref a2] ∧ Inner H s [(a1, b1), (a2, b2)]) ∨
     (tag = "while" ∧ ∃ v a1 b1, vs = [v, .ref a1] ∧ Inner H s [(a1, b1)])) := by
  cases s with
  | leaf r d =>
    obtain ⟨tag, vs, h1, h4, h5, _⟩ := LfAt.tup h
    exact ⟨r, tag, vs, rfl, h1, .inl ⟨h4, h5, by rw [Sm.inner]⟩⟩
  | iff r e a1 b1 a2 b2 =>
    obtain ⟨v, h1, h2, h3, h4, h5, h6, _⟩ := h
    refine ⟨r, "if", _, rfl, h1, .inr (.inl ⟨rfl, v, a1, a2, b1, b2, rfl, ⟨fun p hp => ?_, by rw [Sm.inner]; simp⟩⟩)⟩
    rcases List.mem_cons.mp hp with rfl | hp
    · exact ⟨h3, h4, by rw [Sm.nest]; show b1.nest + 1 ≤ _; omega⟩
    · rw [List.mem_singleton.mp hp]; exact ⟨h5, h6, by rw [Sm.nest]; show b2.nest + 1 ≤ _; omega⟩
  | wh r e a1 b1 =>
    obtain ⟨v, h1, h2, h3, h4, _⟩ := h
    refine ⟨r, "while", _, rfl, h1, .inr (.inr ⟨rfl, v, a1, b1, rfl, ⟨fun p hp => ?_, by rw [Sm.inner]; simp⟩⟩)⟩
    rw [List.mem_singleton.mp hp]; exact ⟨h3, h4, by rw [Sm.nest]; show b1.nest + 1 ≤ _; omega⟩
theorem inner_take {bl : List (Addr × Bd)} {i : Nat} {p : Addr × Bd} (h : bl[i]? = some p) : ((bl.take (i + 1)).map fun p => p.2.flat).flatten = ((bl.take i).map fun p => p.2.flat).flatten ++ p.2.flat := by
  rw [List.take_add_one, h, List.map_append, List.flatten_append]
  show _ ++ ([p.2.flat] : List (List V)).flatten = _
  simp
theorem inner_take_le (bl : List (Addr × Bd)) (i : Nat) : ((bl.take i).map fun p => p.2.flat).flatten.length ≤ ((bl.map fun p => p.2.flat).flatten).length := by
  conv => rhs; rw [← List.take_append_drop i bl]
  rw [List.map_append, List.flatten_append, List.length_append]; omega
section
variable {P : Program} {w : World} {K : PySem.W.Frag} {mg : Str → Option Value} {base : Heap}
theorem z60 : FnScope ["body", "found", "statement", "inner"] ["body"] (defScope s_with_inner) := ⟨rfl, rfl, rfl, by decide +kernel, rfl, by decide +kernel, by decide +kernel⟩
theorem wi_step {n k : Nat} {prev : Sp} {f : Addr} {fd : FuncData} (T : Bt mg) (z21 : Q11 K mg f fd) (hp : n = 0 ∨ ∃ m, n = m + 1 ∧ prev = sp_wi m) (G_with_inner : FnOk P w K mg base CX0 k f fd ["body"] prev) : FnOk P w K mg base CX0 (k + 1) f fd ["body"] (sp_wi n) := by
  refine z21.F.ok (k := k) z60 (fun vs H Q E h => ?_) (fun cdv A outer s H vs Q E hr h => ?_)
  · obtain ⟨r, b, rfl, _⟩ := h; rfl
  · obtain ⟨r, b, rfl, er, ba, hn, hf, q⟩ := h
    have hs : sizeLine = 16777216 := sizeLine_eq
    have two : 2 ≤ sizeLine := by omega
    refine ⟨_, (pss_cons (ps_set (i := 1) z60.nd rfl (Or.inl rfl) (pe_lst pa_nil))
      (pss_cons (ps_for PassesOwn.never rfl (pi_list (pv 0)) (pg_name (i := 2) z60.nd rfl (Or.inl rfl))
        (pss_cons (ps_expr (pe_bm PySem.F.plainAttrs_list PySem.F.slot_list_append PySem.F.type_list_append mt_append (pv 1) (pa_consN (pv 2) pa_nil)))
        (pss_one (ps_if (pt_cmpR op_in_seq (pe_ix ix_tup (pv 2) pe_int (fun _ _ => rfl)) (pe_tup (pa_consN pe_str (pa_consN pe_str pa_nil))) (by with_unfolding_all rfl))
          (pss_one (ps_for PassesOwn.never rfl (pi_tup (pe_slice sl_tup (pv 2) (po_some pe_int) po_none)) (pg_name (i := 3) z60.nd rfl (Or.inl rfl))
            (pss_one (ps_expr (pe_bm PySem.F.plainAttrs_list PySem.F.slot_list_extend PySem.F.type_list_extend mt_extend (pv 1) (pa_consN (pe_call G_with_inner (hr.mono (by omega)) rfl z21.m z21.F.kp z21.b .nil pass0 (pa_consN (pv 3) pa_nil)) pa_nil))))))
          pss_nil))))
      (pss_one (ps_ret (pv 1))))), ?_⟩
    refine ⟨Nat.zero_le _, fun l hl => ?_⟩
    have y1 := Same.put (o := .lst []) hl
    have el : upd H l (.lst []) l = some (.lst []) := upd_same
    generalize upd H l (.lst []) = H1 at y1 el ⊢
    rw [flat_eq] at hf q
    rw [refs_eq] at er
    obtain ⟨L, hL⟩ : ∃ z, b.toL = z := ⟨_, rfl⟩
    have bm := at_mem ba
    have nmm := nest_mem (b := b)
    rw [hL] at hf q er bm nmm
    refine ⟨_, rfl, r, rfl, ⟨_, SqL.of (y1 _ _ er)⟩, for_list (K := K) (a := r) (xs := L.map Sm.ref) (fun i σ H2 => ∃ (v2 v3 : Option V), σ = [some (.ref r), some (.ref l), v2, v3] ∧ Same H H2 ∧ H2 l = some (.lst ((L.take i).map Sm.here).flatten)) ⟨_, _, rfl, y1, by rw [List.take_zero]; exact el⟩ ?_ ?_ ?_⟩
    · rintro i σ H2 _ ⟨v2, v3, rfl, s2, _⟩
      exact SqL.of (s2 _ _ er)
    · rintro i x σ H2 hx ⟨v2, v3, rfl, s2, e2⟩
      rw [List.getElem?_map] at hx
      cases hLi : L[i]? with
      | none => rw [hLi] at hx; cases hx
      | some sm =>
        rw [hLi] at hx
        cases hx
        have hmem := List.mem_of_getElem? hLi
        obtain ⟨r2, tag, vs, esr, et, hform⟩ := sm_form (bm sm hmem)
        have et := s2 _ _ et
        have hsn := nmm sm hmem
        have hle := flat_take_le L (i + 1)
        rw [here_take hLi, List.length_append] at hle
        have hhere : sm.here.length = sm.inner.length + 1 := rfl
        refine ⟨_, rfl, .inl ⟨rfl, _, SqL.of e2⟩, _, rfl, l, _, _, rfl, rfl, e2, by omega, ?_⟩
        have s3 : Same H (upd H2 l (.lst (((L.take i).map Sm.here).flatten ++ [sm.ref]))) := Kl.same s2 hl Kl.one
        have k3 : ∀ x o, H2 x = some o → x ≠ l → upd H2 l (.lst (((L.take i).map Sm.here).flatten ++ [sm.ref])) x = some o := fun x o e n => by rw [upd_ne n]; exact e
        have e3 : upd H2 l (.lst (((L.take i).map Sm.here).flatten ++ [sm.ref])) l = some (.lst (((L.take i).map Sm.here).flatten ++ [sm.ref])) := upd_same
        generalize upd H2 l (.lst (((L.take i).map Sm.here).flatten ++ [sm.ref])) = H3 at s3 k3 e3 ⊢
        have et3 := k3 _ _ et (ne_of et e2 (by intro z; cases z))
        rw [here_take hLi]
        have hcat : ((L.take i).map Sm.here).flatten ++ sm.here = (((L.take i).map Sm.here).flatten ++ [sm.ref]) ++ sm.inner := by show _ ++ (sm.ref :: sm.inner) = _; simp
        rw [hcat]
        obtain ⟨pre, hpre⟩ : ∃ z, ((L.take i).map Sm.here).flatten ++ [sm.ref] = z := ⟨_, rfl⟩
        have lpre : pre.length + sm.inner.length ≤ 1000000 := by
          rw [← hpre, List.length_append]
          show _ + 1 + _ ≤ _
          omega
        rw [hpre] at e3 ⊢
        refine ⟨_, rfl, r2, _, _, _, ?_, rfl, SqT.of et3, at_zero _ _, two, fun p hp2 => ?_⟩
        · exact esr
        have y4 := Same.put (o := .tup [V.str "if", V.str "while"]) hp2
        have ep : upd H3 p (.tup [V.str "if", V.str "while"]) p = some (.tup [V.str "if", V.str "while"]) := upd_same
        generalize upd H3 p (.tup [V.str "if", V.str "while"]) = H4 at y4 ep ⊢
        have s4 := s3.trans y4
        have e4 := y4 _ _ e3
        have et4 := y4 _ _ et3
        refine ⟨p, _, rfl, .inr (SqT.of ep), rfl, rfl, _, rfl, ?_⟩
        rw [in_tag]
        rcases hform with ⟨t1, t2, hin⟩ | ⟨rfl, v, a1, a2, b1, b2, rfl, hin⟩ | ⟨rfl, v, a1, b1, rfl, hin⟩
        · refine itDN (fun z => z.elim t1 t2) ⟨_, _, rfl, s4, ?_⟩
          rw [hin, List.append_nil]; exact e4
        all_goals
          refine itDP (by simp) ?_
          rcases hp with h0 | ⟨m, rfl, rfl⟩
          · have := (hin.at' _ List.mem_cons_self).2.2; omega
        focus
          refine ⟨_, rfl, _, rfl, r2, _, esr, SqT.of et4, (by show ¬ (HT.sIx 4 0 (some 2) = 0 ∧ HT.sIx 4 4 none = 4); decide), fun p2 hp3 => ?_⟩
          obtain ⟨bl, hbl⟩ : ∃ z, [(a1, b1), (a2, b2)] = z := ⟨_, rfl⟩
          have ebl : cutV [V.str "if", v, V.ref a1, V.ref a2] (some 2) none = bl.map fun p => V.ref p.1 := by rw [← hbl]; rfl
          rw [hbl] at hin
          rw [ebl]
          have lb2 : bl.length ≤ 2 := by rw [← hbl]; simp
          clear hbl ebl
        rotate_left
        focus
          refine ⟨_, rfl, _, rfl, r2, _, esr, SqT.of et4, (by show ¬ (HT.sIx 3 0 (some 2) = 0 ∧ HT.sIx 3 3 none = 3); decide), fun p2 hp3 => ?_⟩
          obtain ⟨bl, hbl⟩ : ∃ z, [(a1, b1)] = z := ⟨_, rfl⟩
          have ebl : cutV [V.str "while", v, V.ref a1] (some 2) none = bl.map fun p => V.ref p.1 := by rw [← hbl]; rfl
          rw [hbl] at hin
          rw [ebl]
          have lb2 : bl.length ≤ 2 := by rw [← hbl]; simp
          clear hbl ebl
        all_goals
          have y5 := Same.put (o := .tup (bl.map fun p => V.ref p.1)) hp3
          have ep2 : upd H4 p2 (.tup (bl.map fun p => V.ref p.1)) p2 = some (.tup (bl.map fun p => V.ref p.1)) := upd_same
          generalize upd H4 p2 (.tup (bl.map fun p => V.ref p.1)) = H5 at y5 ep2 ⊢
          rw [hin.fl] at lpre ⊢
          have s5 := s4.trans y5
          have e5 := y5 _ _ e4
          refine ⟨p2, rfl, ⟨_, SqT.of ep2⟩, for_tup (K := K) (a := p2) (xs := bl.map fun p => V.ref p.1) (fun j σ H6 => ∃ (v3 : Option V), σ = [some (.ref r), some (.ref l), some sm.ref, v3] ∧ Same H H6 ∧ H6 p2 = some (.tup (bl.map fun p => V.ref p.1)) ∧ (∀ x o, H2 x = some o → x ≠ l → H6 x = some o) ∧ H6 l = some (.lst (pre ++ ((bl.take j).map fun p => p.2.flat).flatten))) ⟨_, rfl, s5, ep2, fun x o e n => y5 _ _ (y4 _ _ (k3 x o e n)), by rw [List.take_zero]; show _ = some (HO.lst (pre ++ [])); rw [List.append_nil]; exact e5⟩ ?_ ?_ ?_⟩
          · rintro j σ H6 _ ⟨v3, rfl, s6, ep6, k6, e6⟩
            exact SqT.of ep6
          · rintro j x σ H6 hx ⟨v3, rfl, s6, ep6, k6, e6⟩
            rw [List.getElem?_map] at hx
            cases hbj : bl[j]? with
            | none => rw [hbj] at hx; cases hx
            | some pb =>
              rw [hbj] at hx
              cases hx
              obtain ⟨i1, i2, i3⟩ := hin.at' pb (List.mem_of_getElem? hbj)
              have hle2 := inner_take_le bl (j + 1)
              rw [inner_take hbj, List.length_append] at hle2
              refine ⟨_, rfl, .inl ⟨rfl, _, SqL.of e6⟩, _, rfl, pb.1, pb.2, rfl, ?_, ?_, ?_, ?_, fun l2 H7 s7 hl2 el2 => ?_⟩
              · exact s6 _ _ i1
              · exact i2.same s6
              · omega
              · omega
              · have e7 := s7 _ _ e6
                refine ⟨l, l2, _, _, rfl, rfl, e7, el2, by rw [List.length_append]; omega, ?_⟩
                refine ⟨_, rfl, Kl.same (s6.trans s7) hl Kl.one, ?_, fun x o e n => ?_, ?_⟩
                · rw [upd_ne (ne_of (s7 _ _ ep6) e7 (by intro z; cases z))]; exact s7 _ _ ep6
                · rw [upd_ne n]; exact s7 _ _ (k6 x o e n)
                · rw [upd_same, inner_take hbj, List.append_assoc]
          · rintro σ H6 ⟨v3, rfl, s6, ep6, k6, e6⟩
            rw [List.length_map, List.take_of_length_le (Nat.le_refl _)] at e6
            exact ⟨_, _, rfl, s6, e6⟩
    · rintro σ H2 ⟨v2, v3, rfl, s2, e2⟩
      rw [List.length_map, List.take_of_length_le (Nat.le_refl _)] at e2
      exact ⟨_, rfl, q l H2 s2 hl e2⟩
end
section
variable {P : Program} {w : World} {K : PySem.W.Frag} {mg : Str → Option Value} {base : Heap}
theorem ok_with_inner {f : Addr} {fd : FuncData} (T : Bt mg) (z21 : Q11 K mg f fd) : ∀ n : Nat, FnOk P w K mg base CX0 (n + 2) f fd ["body"] (sp_wi n)
  | 0 => wi_step T z21 (.inl rfl) (z21.F.ok (k := 0) (sp := fun _ _ _ _ => False) z60 (fun _ _ _ _ h => h.elim) (fun _ _ _ _ _ _ _ _ _ h => h.elim))
  | n + 1 => wi_step T z21 (.inr ⟨n, rfl, rfl⟩) (ok_with_inner T z21 n)
end
end K45

set_option Elab.async false
set_option linter.all false
set_option maxRecDepth 100000
set_option maxHeartbeats 4000000
namespace K45
open PySem L2
abbrev Pt := Str × Addr × Bd
def PartAt (H : Hp) (v : V) (p : Pt) : Prop := ∃ q, v = .ref q ∧ H q = some (.tup [.str p.1, .ref p.2.1]) ∧ H p.2.1 = some (.lst p.2.2.refs) ∧ BdAt H p.2.2
theorem PartAt.same {H H' : Hp} (s : Same H H') {v : V} {p : Pt} (h : PartAt H v p) : PartAt H' v p := by
  obtain ⟨q, e, e1, e2, e3⟩ := h
  exact ⟨q, e, s _ _ e1, s _ _ e2, e3.same s⟩
def psFlat (ps : List Pt) : List V := (ps.map fun p => p.2.2.flat).flatten
theorem psFlat_take {ps : List Pt} {i : Nat} {p : Pt} (h : ps[i]? = some p) : psFlat (ps.take (i + 1)) = psFlat (ps.take i) ++ p.2.2.flat := by
  unfold psFlat
  rw [List.take_add_one, h, List.map_append, List.flatten_append]
  show _ ++ ([p.2.2.flat] : List (List V)).flatten = _
  simp
theorem psFlat_le (ps : List Pt) (i : Nat) : (psFlat (ps.take i)).length ≤ (psFlat ps).length := by
  unfold psFlat
  conv => rhs; rw [← List.take_append_drop i ps]
  rw [List.map_append, List.flatten_append, List.length_append]; omega
structure TreeAt (H : Hp) (T told pl ml : Addr) (vsV xs : List V) (rows : List VRow) (ps : List Pt) (main : Bd) : Prop where
  et : H T = some (.tup [.ref told, .ref pl, .ref ml])
  etl : H told = some (.lst vsV)
  pv : Paired (VarAt H) vsV rows
  epl : H pl = some (.lst xs)
  pp : Paired (PartAt H) xs ps
  eml : H ml = some (.lst main.refs)
  bm : BdAt H main
  np : ∀ p ∈ ps, p.2.2.nest ≤ 8
  nm : main.nest ≤ 8
  tot : (psFlat ps).length + main.flat.length ≤ 1000000
theorem TreeAt.same {H H' : Hp} (s : Same H H') {T told pl ml : Addr} {vsV xs : List V} {rows : List VRow} {ps : List Pt} {main : Bd} (h : TreeAt H T told pl ml vsV xs rows ps main) : TreeAt H' T told pl ml vsV xs rows ps main :=
  ⟨s _ _ h.et, s _ _ h.etl, Paired.mapP h.pv fun _ _ z => z.same s, s _ _ h.epl, Paired.mapP h.pp fun _ _ z => z.same s, s _ _ h.eml, h.bm.same s, h.np, h.nm, h.tot⟩
def sp_stats : Sp := fun vs H Q _ => ∃ (T told pl ml : Addr) (vsV xs : List V) (rows : List VRow) (ps : List Pt) (main : Bd), vs = [.ref T] ∧ TreeAt H T told pl ml vsV xs rows ps main ∧ ∀ (l : Addr) (H' : Hp), Same H H' → H l = none → H' l = some (.lst (psFlat ps ++ main.flat)) → Q (.ref l) H'
section
variable {P : Program} {w : World} {K : PySem.W.Frag} {mg : Str → Option Value} {base : Heap}
theorem sc_statements : FnScope ["tree", "found", "name", "body"] ["tree"] (defScope s_statements) := ⟨rfl, rfl, rfl, by decide +kernel, rfl, by decide +kernel, by decide +kernel⟩
theorem ok_statements {f f1 : Addr} {fd d1 : FuncData} (F : Fun K "statements" "statements" s_statements f fd) (T : Bt mg) (z21 : Q11 K mg f1 d1) : FnOk P w K mg base CX0 11 f fd ["tree"] sp_stats := by
  have G_with_inner : FnOk P w K mg base CX0 10 _ _ ["body"] (sp_wi 8) := ok_with_inner (P := P) (w := w) (base := base) T z21 8
  refine F.ok (k := 10) sc_statements (fun vs H Q E h => ?_) (fun cdv A outer s H vs Q E hr h => ?_)
  · obtain ⟨T0, told, pl, ml, vsV, xs, rows, ps, main, rfl, _⟩ := h; rfl
  · obtain ⟨T0, told, pl, ml, vsV, xs, rows, ps, main, rfl, tr, q⟩ := h
    have hs : sizeLine = 16777216 := sizeLine_eq
    have tot := tr.tot
    refine ⟨_, (pss_cons (ps_set (i := 1) sc_statements.nd rfl (Or.inl rfl) (pe_lst pa_nil))
      (pss_cons (ps_for PassesOwn.never rfl (pi_list (pe_ix ix_tup (pv 0) pe_int (fun _ _ => rfl))) (pg_tup rfl (pgs_cons (pg_name (i := 2) sc_statements.nd rfl (Or.inl rfl)) (pgs_cons (pg_name (i := 3) sc_statements.nd rfl (Or.inl rfl)) pgs_nil)))
        (pss_one (ps_expr (pe_bm PySem.F.plainAttrs_list PySem.F.slot_list_extend PySem.F.type_list_extend mt_extend (pv 1) (pa_consN (pe_call G_with_inner (hr.mono (by decide)) rfl z21.m z21.F.kp z21.b .nil pass0 (pa_consN (pv 3) pa_nil)) pa_nil)))))
      (pss_one (ps_ret (pe_op op_cat (pv 1) (pe_call G_with_inner (hr.mono (by decide)) rfl z21.m z21.F.kp z21.b .nil pass0 (pa_consN (pe_ix ix_tup (pv 0) pe_int (fun _ _ => rfl)) pa_nil))))))), ?_⟩
    refine ⟨Nat.zero_le _, fun l hl => ?_⟩
    have y1 := Same.put (o := .lst []) hl
    have el : upd H l (.lst []) l = some (.lst []) := upd_same
    generalize upd H l (.lst []) = H1 at y1 el ⊢
    refine ⟨_, rfl, T0, _, _, _, rfl, rfl, SqT.of (y1 _ _ tr.et), rfl, pl, rfl, ⟨_, SqL.of (y1 _ _ tr.epl)⟩, for_list (K := K) (a := pl) (xs := xs) (fun i σ H2 => ∃ (v2 v3 : Option V), σ = [some (.ref T0), some (.ref l), v2, v3] ∧ Same H H2 ∧ H2 l = some (.lst (psFlat (ps.take i)))) ⟨_, _, rfl, y1, by rw [List.take_zero]; exact el⟩ ?_ ?_ ?_⟩
    · rintro i σ H2 _ ⟨v2, v3, rfl, s2, _⟩
      exact SqL.of (s2 _ _ tr.epl)
    · rintro i x σ H2 hx ⟨v2, v3, rfl, s2, e2⟩
      obtain ⟨p, hpi, q0, rfl, eq, ea, bp⟩ := paired_at tr.pp hx
      have hmem := List.mem_of_getElem? hpi
      have hle := psFlat_le ps (i + 1)
      rw [psFlat_take hpi, List.length_append] at hle
      refine ⟨q0, _, rfl, SqT.of (s2 _ _ eq), rfl, _, _, rfl, _, _, rfl, rfl, ?_⟩
      refine ⟨_, rfl, .inl ⟨rfl, _, SqL.of e2⟩, _, rfl, p.2.1, p.2.2, rfl, s2 _ _ ea, bp.same s2, tr.np p hmem, by omega, fun l2 H3 s3 hl2 el2 => ?_⟩
      have e3 := s3 _ _ e2
      refine ⟨l, l2, _, _, rfl, rfl, e3, el2, by omega, ?_⟩
      refine ⟨_, _, rfl, Kl.same (s2.trans s3) hl Kl.one, ?_⟩
      rw [upd_same, psFlat_take hpi]
    · rintro σ H2 ⟨v2, v3, rfl, s2, e2⟩
      rw [tr.pp.length, List.take_of_length_le (Nat.le_refl _)] at e2
      refine ⟨_, rfl, _, rfl, T0, _, _, _, rfl, rfl, SqT.of (s2 _ _ tr.et), rfl, ml, main, rfl, s2 _ _ tr.eml, tr.bm.same s2, tr.nm, by omega, fun l2 H3 s3 hl2 el2 => ?_⟩
      refine ⟨l, l2, _, _, rfl, rfl, s3 _ _ e2, el2, by omega, fun p hp => ?_⟩
      exact q p _ ((s2.trans s3).trans (Same.put hp)) ((s2.trans s3).free hp) upd_same
end
end K45

set_option Elab.async false
set_option linter.all false
set_option maxRecDepth 100000
set_option maxHeartbeats 4000000
namespace K45
open PySem L2
structure Xi (K : PySem.W.Frag) (mg : Str → Option Value) (x q : Str) (st : Stmt) (fl : Str) (C TE f : Addr) (fd : FuncData) : Prop where
  m : mg x = some (.ref C)
  mx : MkX K C f
  k : XcOk K C
  up : (Value.ref C :: xcMro K C).contains (.ref TE) = true
  F : Fun K "__init__" q st f fd
  b : Binds K fd ["self", fl] []
  xs : XcS K C fl
  xa : XcA K C fl
  xi : XcIs K C
def sp_xi (C : Addr) (fl : Str) : Sp := fun vs H Q _ => ∃ (e tt : Addr) (v : V), vs = [.ref e, v] ∧ H e = some (XN e (excNew C tt)) ∧ ∀ dx, H dx = none → Q .non (upd (upd H e (XN e { excNew C tt with dict := some dx })) dx (.xd [(fl, v)]))
theorem ht1_one {i : Nat} : ∀ (σ : St) (H : Hp) (Q : List V → Hp → Prop), (tCons (tVar i) tNil) σ H Q → (tCons (tVar i) tNil) σ H fun vs H' => vs.length ≤ 1000 ∧ Q vs H' := by
  rintro σ H Q ⟨v, e, q⟩
  exact ⟨v, e, (by show 1 ≤ 1000; decide), q⟩
section
variable {P : Program} {w : World} {K : PySem.W.Frag} {mg : Str → Option Value} {base : Heap}
theorem sc_BadKind___init__ : FnScope ["self", "place"] ["self", "place"] (defScope s_BadKind___init__) := ⟨rfl, rfl, rfl, by decide +kernel, rfl, by decide +kernel, by decide +kernel⟩
theorem ok_BadKind_init {f C TE : Addr} {fd : FuncData} (X_BadKind : Xi K mg "BadKind" "BadKind.__init__" s_BadKind___init__ "place" C TE f fd) : FnOk P w K mg base CX0 1 f fd ["self", "place"] (sp_xi C "place") := by
  refine X_BadKind.F.ok sc_BadKind___init__ (fun vs H Q E h => ?_) (fun cdv A outer s H vs Q E hr h => ?_)
  · obtain ⟨e, tt, v, rfl, _⟩ := h; rfl
  · obtain ⟨e, tt, v, rfl, he, q⟩ := h
    refine ⟨_, (pss_one (ps_xset rfl (pv 0) (pv 1) rfl)), ?_⟩
    exact ⟨_, rfl, _, rfl, e, C, _, _, rfl, he, rfl, rfl, rfl, X_BadKind.xs, fun dx hdx => q dx hdx⟩
end
end K45

set_option Elab.async false
set_option linter.all false
set_option maxRecDepth 100000
set_option maxHeartbeats 4000000
namespace K45
open PySem L2
def firstBad (rows : List VRow) : List Sm → Option Nat
  | [] => none
  | s :: r => if s.fit rows = true then (firstBad rows r).map (· + 1) else some 0
theorem bad_at {rows : List VRow} : ∀ {L : List Sm} {i : Nat} {s : Sm}, L[i]? = some s → s.fit rows = false → (∀ j x, j < i → L[j]? = some x → x.fit rows = true) → firstBad rows L = some i
  | [], i, s, h, _, _ => by simp at h
  | y :: r, 0, s, h, hf, _ => by cases h; show (if _ then _ else _) = _; rw [if_neg (by rw [hf]; decide)]
  | y :: r, i + 1, s, h, hf, ha => by
    show (if _ then _ else _) = _
    rw [if_pos (ha 0 y (Nat.succ_pos _) rfl), bad_at (L := r) (i := i) h hf fun j x hj e => ha (j + 1) x (Nat.succ_lt_succ hj) e]
    rfl
theorem bad_no {rows : List VRow} : ∀ {L : List Sm}, (∀ x ∈ L, x.fit rows = true) → firstBad rows L = none
  | [], _ => rfl
  | y :: r, h => by
    show (if _ then _ else _) = _
    rw [if_pos (h y List.mem_cons_self), bad_no fun x hx => h x (List.mem_cons_of_mem _ hx)]; rfl
def psAll (ps : List Pt) : List Sm := (ps.map fun p => p.2.2.all).flatten
theorem psAll_refs (ps : List Pt) : psFlat ps = (psAll ps).map Sm.ref := by
  unfold psFlat psAll
  induction ps with
  | nil => rfl
  | cons p r ih => rw [List.map_cons, List.map_cons, List.flatten_cons, List.flatten_cons, ih, List.map_append, Bd.all_refs]
mutual
theorem Sm.all_at {H : Hp} : ∀ {s : Sm}, SmAt H s → SmOk s → ∀ x ∈ s.all, SmAt H x ∧ SmOk x
  | .leaf _ _, _, _, x, hx => by rw [Sm.all] at hx; cases hx
  | .iff _ _ _ b1 _ b2, ⟨_, _, _, _, h4, _, h6, _⟩, ⟨_, o1, o2⟩, x, hx => by
    rw [Sm.all] at hx
    rcases List.mem_append.mp hx with z | z
    · exact Bd.all_at h4 o1 x z
    · exact Bd.all_at h6 o2 x z
  | .wh _ _ _ b1, ⟨_, _, _, _, h4, _⟩, ⟨_, o1⟩, x, hx => by
    rw [Sm.all] at hx
    exact Bd.all_at h4 o1 x hx
theorem Bd.all_at {H : Hp} : ∀ {b : Bd}, BdAt H b → BdOk b → ∀ x ∈ b.all, SmAt H x ∧ SmOk x
  | .nil, _, _, x, hx => by rw [Bd.all] at hx; cases hx
  | .cons s b, ⟨h1, h2⟩, ⟨o1, o2⟩, x, hx => by
    rw [Bd.all] at hx
    rcases List.mem_cons.mp hx with z | z
    · subst z; exact ⟨h1, o1⟩
    rcases List.mem_append.mp z with z | z
    · exact Sm.all_at h1 o1 x z
    · exact Bd.all_at h2 o2 x z
end
def sp_looked (C : Addr) : Sp := fun vs H Q E => ∃ (T told pl ml : Addr) (vsV xs : List V) (rows : List VRow) (ps : List Pt) (main : Bd), vs = [.ref T] ∧ TreeAt H T told pl ml vsV xs rows ps main ∧ VarsOk rows ∧ rows.length ≤ 9 ∧ (∀ x ∈ psAll ps ++ main.all, SmAt H x ∧ SmOk x) ∧
  (firstBad rows (psAll ps ++ main.all) = none → ∀ H', Same H H' → Q (.bl true) H') ∧ ∀ i : Nat, firstBad rows (psAll ps ++ main.all) = some i → ∀ (dx : Addr) (H' : Hp), Same H H' → H dx = none → H' dx = some (.xd [("place", .int (i : Int))]) → E (.ref C) (some dx) H'
section
variable {P : Program} {w : World} {K : PySem.W.Frag} {mg : Str → Option Value} {base : Heap}
theorem sc_looked : FnScope ["tree", "kinds", "place", "statement"] ["tree"] (defScope s_looked) := ⟨rfl, rfl, rfl, by decide +kernel, rfl, by decide +kernel, by decide +kernel⟩
theorem ok_looked {f f1 f2 f3 f4 f5 f6 C TE fi : Addr} {fd d1 d2 d3 d4 d5 d6 di : FuncData} (T : Bt mg) (z35 : Q12 K mg f1 d1) (z22 : Q9 K mg f2 d2) (z20 : Q8 K mg f3 d3) (T_fits : Q13 K mg f4 d4) (z21 : Q11 K mg f5 d5) (z31 : Q14 K mg f6 d6) (z44 : Q15 K mg f fd)
    (X_BadKind : Xi K mg "BadKind" "BadKind.__init__" s_BadKind___init__ "place" C TE fi di) : FnOk P w K mg base (CX2 P w) 12 f fd ["tree"] (sp_looked C) := by
  have G_kinds_of := ok_kinds_of (P := P) (w := w) (base := base) z35.F T
  have G_fits := ok_fits (P := P) (w := w) (base := base) T_fits.F T z22 z20
  have G_statements := ok_statements (P := P) (w := w) (base := base) z31.F T z21
  have G_BadKind___init__ := ok_BadKind_init (P := P) (w := w) (base := base) X_BadKind
  refine z44.F.ok2 (k := 11) sc_looked (fun vs H Q E h => ?_) (fun cdv A outer s H vs Q E hr h => ?_)
  · obtain ⟨T0, told, pl, ml, vsV, xs, rows, ps, main, rfl, _⟩ := h; rfl
  · obtain ⟨T0, told, pl, ml, vsV, xs, rows, ps, main, rfl, tr, ho, hl, hall, q1, q2⟩ := h
    have hs : sizeLine = 16777216 := sizeLine_eq
    refine ⟨_, (pss_cons (PS.nox (ps_set (i := 1) sc_looked.nd rfl (Or.inl rfl) (pe_call G_kinds_of (hr.mono (by decide)) rfl z35.m z35.F.kp z35.b .nil pass0 (pa_consN (pe_ix ix_tup (pv 0) pe_int (fun _ _ => rfl)) pa_nil))))
      (pss_cons (ps_for PassesOwn.leaving rfl (pi_enum (K := K) rfl T.b_enumerate (pa_consN (pe_call G_statements (hr.mono (by decide)) rfl z31.m z31.F.kp z31.b .nil pass0 (pa_consN (pv 0) pa_nil)) pa_nil)) (pg_tup rfl (pgs_cons (pg_name (i := 2) sc_looked.nd rfl (Or.inl rfl)) (pgs_cons (pg_name (i := 3) sc_looked.nd rfl (Or.inl rfl)) pgs_nil)))
        (pss_one (ps_if (pt_not (pt_val (pe_call G_fits (hr.mono (by decide)) rfl T_fits.m T_fits.F.kp T_fits.b .nil pass0 (pa_consN (pv 1) (pa_consN (pv 3) pa_nil)))))
          (pss_one (ps_raiseX rfl rfl X_BadKind.mx.xin raises2 (pe_makeX rfl X_BadKind.mx G_BadKind___init__ (hr.mono (by decide)) rfl X_BadKind.m X_BadKind.b pass0 (pa_consN (pv 2) pa_nil) (ht1 := ht1_one))))
          pss_nil)))
      (pss_one (PS.nox (ps_ret pe_bl))))), ?_⟩
    refine ⟨_, rfl, T0, _, _, _, rfl, rfl, SqT.of tr.et, rfl, told, vsV, rows, rfl, tr.etl, tr.pv, hl, fun d H1 s1 hd ed => ?_⟩
    refine ⟨_, rfl, T0, told, pl, ml, vsV, xs, rows, ps, main, rfl, tr.same s1, fun l H2 s2 hl2 el2 => ?_⟩
    have s02 := s1.trans s2
    have eL : psFlat ps ++ main.flat = (psAll ps ++ main.all).map Sm.ref := by rw [psAll_refs, Bd.all_refs, List.map_append]
    rw [eL] at el2
    obtain ⟨L, hL⟩ : ∃ z, psAll ps ++ main.all = z := ⟨_, rfl⟩
    rw [hL] at el2 hall q1 q2
    refine ⟨l, _, rfl, el2, for_enum (K := K) (a := l) (xs := L.map Sm.ref) (fun i σ H3 => ∃ (v2 v3 : Option V), σ = [some (.ref T0), some (.ref d), v2, v3] ∧ Same H2 H3 ∧ ∀ j x, j < i → L[j]? = some x → x.fit rows = true) ⟨_, _, rfl, Same.refl _, fun j x hj _ => absurd hj (Nat.not_lt_zero _)⟩ (fun i σ H3 _ ⟨_, _, _, s3, _⟩ => SqL.of (s3 _ _ el2)) ?_ ?_⟩
    · rintro i x σ H3 Tt hx ⟨v2, v3, rfl, s3, hf⟩ hT
      rw [List.getElem?_map] at hx
      cases hLi : L[i]? with
      | none => rw [hLi] at hx; cases hx
      | some sm =>
        rw [hLi] at hx
        cases hx
        have sT := Same.put (o := .tup [V.int (i : Int), sm.ref]) hT
        have s04 := s02.trans (s3.trans sT)
        obtain ⟨sa, so⟩ := hall sm (List.mem_of_getElem? hLi)
        refine ⟨Tt, _, rfl, SqT.of upd_same, rfl, _, _, rfl, _, _, rfl, rfl, ?_⟩
        refine ⟨_, rfl, _, rfl, d, sm, rows, rfl, (s2.trans (s3.trans sT)) _ _ ed, ho, sa.same s04, so, fun H5 s5 => ⟨_, rfl, ?_⟩⟩
        have s05 := s04.trans s5
        cases hfit : sm.fit rows with
        | true =>
          refine ⟨_, _, rfl, s3.trans (sT.trans s5), fun j x hj e => ?_⟩
          rcases Nat.lt_or_ge j i with z | z
          · exact hf j x z e
          · obtain rfl : j = i := by omega
            rw [hLi] at e; cases e; exact hfit
        | false =>
          refine ⟨_, rfl, fun e tt he => ⟨e, tt, _, rfl, upd_same, fun dx hdx => ⟨rfl, e, tt, some dx, #[], rfl, ?_, ?_, ?_⟩⟩⟩
          · have hne : dx ≠ e := fun z => by rw [z, upd_same] at hdx; cases hdx
            rw [upd_ne hne.symm, upd_same]; rfl
          · exact s05.free he
          · have hne : dx ≠ e := fun z => by rw [z, upd_same] at hdx; cases hdx
            have hd5 : H5 dx = none := by rw [upd_ne hne] at hdx; exact hdx
            refine q2 i (bad_at hLi hfit hf) dx _ (fun b o eb => ?_) (s05.free hd5) (by rw [drp_ne hne, upd_same])
            have b5 := s05 _ _ eb
            rw [drp_ne (ne_of_none b5 he), upd_ne (ne_of_none b5 hd5), upd_ne (ne_of_none b5 he), upd_ne (ne_of_none b5 he)]
            exact b5
    · rintro σ H3 ⟨v2, v3, rfl, s3, hf⟩
      refine q1 (bad_no fun x hx => ?_) H3 (s02.trans s3)
      obtain ⟨j, hj⟩ := List.getElem?_of_mem hx
      exact hf j x (by rw [List.length_map]; exact (List.getElem?_eq_some_iff.mp hj).1) hj
end
end K45

set_option Elab.async false
set_option linter.all false
set_option maxRecDepth 100000
set_option maxHeartbeats 4000000
namespace K45
open PySem L2
def sp_lf : Sp := fun vs H Q _ => ∃ (l : Addr) (s : Sm) (xs : List V) (rows : List VRow), vs = [.ref l, s.ref] ∧ H l = some (.lst xs) ∧ Paired (VarAt H) xs rows ∧ VarsOk rows ∧ rows.length ≤ 9 ∧ SmAt H s ∧ SmOk s ∧ ∀ H', Same H H' → Q (.bl (s.fit rows)) H'
def ownOf1 (rows : List VRow) : Sm → Str
  | .leaf _ (.set x _) => (lookF rows x).getD ""
  | .leaf _ (.put x _ _) => (lookF rows x).getD ""
  | .leaf _ (.ask x) => (lookF rows x).getD ""
  | .leaf _ (.does x) => (lookF rows x).getD ""
  | _ => ""
theorem own_num {rows : List VRow} {x k : Str} (hk : ¬ k = "") : decide (V.str ((lookF rows x).getD "") = V.str k) = decide (lookF rows x = some k) := by
  refine decide_eq_decide.mpr ⟨fun z => ?_, fun z => by rw [z]; rfl⟩
  have z := V.str.inj z
  cases h : lookF rows x with
  | none => rw [h] at z; exact absurd z.symm hk
  | some y => rw [h] at z; have z : y = k := z; rw [z]
theorem kindL_dec {rows : List VRow} {e : Ex} {k : Str} (hk : ¬ k = "") : decide (V.str (kindL rows e) = V.str k) = decide (kindP rows e = some k) := by
  unfold kindL
  refine decide_eq_decide.mpr ⟨fun z => ?_, fun z => by rw [z]; rfl⟩
  have z := V.str.inj z
  cases h : kindP rows e with
  | none => rw [h] at z; exact absurd z.symm hk
  | some y => rw [h] at z; have z : y = k := z; rw [z]
section
variable {P : Program} {w : World} {K : PySem.W.Frag} {mg : Str → Option Value} {base : Heap}
theorem sc_law_fits : FnScope ["_law_told", "_law_one", "_law_own", "_law_kind_here", "_law_name", "_law_size"] ["_law_told", "_law_one"] (defScope s_law_fits) := ⟨rfl, rfl, rfl, by decide +kernel, rfl, by decide +kernel, by decide +kernel⟩
theorem lf_B {f f1 : Addr} {fd d1 : FuncData} (T : Bt mg) (z18 : Q10 K mg f1 d1) {cdv : Value} {A : Around} {outer : List Env} {s : Shared} {H0 : Hp} {E : XK} (hr : Room 9 (A.deeper (PyProof.Rows.envOfC "_law_fits" (defScope s_law_fits) s.heap.objs.size f cdv))) :
    ∃ u, PSs (cxOf CX0 P w K mg base ["_law_told", "_law_one", "_law_own", "_law_kind_here", "_law_name", "_law_size"] "_law_fits" (defScope s_law_fits) f cdv A outer s H0 E).nox ((defBody s_law_fits).drop 2) u ∧
      ∀ (D : Ends) (v3 v4 v5 : Option V) (l : Addr) (sm : Sm) (xs : List V) (rows : List VRow) (H : Hp), H l = some (.lst xs) → Paired (VarAt H) xs rows → VarsOk rows → rows.length ≤ 9 → SmAt H sm → SmOk sm → (∀ H', Same H H' → D.rt (.bl (sm.fit rows)) H') →
        u D [some (.ref l), some sm.ref, some (.str (ownOf1 rows sm)), v3, v4, v5] H := by
  have z54 := ok_law_kind (P := P) (w := w) (mg := mg) (base := base) T z18 2
  refine ⟨_, (pss_cons (ps_if (pt_cmpR op_eq (pe_ix ix_tup (pv 1) pe_int (fun _ _ => rfl)) pe_str (nomark _))
        (pss_one (ps_ret (pe_and (pe_cmpR op_in_seq (pv 2) (pe_tup (pa_consN pe_str (pa_consN pe_str pa_nil))) (by with_unfolding_all rfl)) (pe_one (pe_cmpR op_eq (pe_call z54 (hr.mono (by decide)) rfl z18.m z18.F.kp z18.b .nil pass0 (pa_consN (pv 0) (pa_consN (pe_ix ix_tup (pv 1) pe_int (fun _ _ => rfl)) pa_nil))) (pv 2) (nomark _))))))
        pss_nil)
      (pss_cons (ps_if (pt_cmpR op_eq (pe_ix ix_tup (pv 1) pe_int (fun _ _ => rfl)) pe_str (nomark _))
        (pss_one (ps_ret (pe_and (pe_cmpR op_eq (pv 2) pe_str (nomark _)) (pe_one (pe_cmpR (op_eqD (hr.units)) (pe_lst (pa_consN (pe_call z54 (hr.mono (by decide)) rfl z18.m z18.F.kp z18.b .nil pass0 (pa_consN (pv 0) (pa_consN (pe_ix ix_tup (pv 1) pe_int (fun _ _ => rfl)) pa_nil))) (pa_consN (pe_call z54 (hr.mono (by decide)) rfl z18.m z18.F.kp z18.b .nil pass0 (pa_consN (pv 0) (pa_consN (pe_ix ix_tup (pv 1) pe_int (fun _ _ => rfl)) pa_nil))) pa_nil))) (pe_lst (pa_consN pe_str (pa_consN pe_str pa_nil))) (nomark _))))))
        pss_nil)
      (pss_cons (ps_if (pt_cmpR op_eq (pe_ix ix_tup (pv 1) pe_int (fun _ _ => rfl)) pe_str (nomark _))
        (pss_one (ps_ret (pe_cmpR op_eq (pv 2) pe_str (nomark _))))
        pss_nil)
      (pss_cons (ps_if (pt_cmpR op_eq (pe_ix ix_tup (pv 1) pe_int (fun _ _ => rfl)) pe_str (nomark _))
        (pss_one (ps_ret (pe_cmpR op_eq (pe_call z54 (hr.mono (by decide)) rfl z18.m z18.F.kp z18.b .nil pass0 (pa_consN (pv 0) (pa_consN (pe_ix ix_tup (pv 1) pe_int (fun _ _ => rfl)) pa_nil))) pe_str (nomark _))))
        pss_nil)
      (pss_cons (ps_if (PW.pt (pw_or (pt_cmpR op_eq (pe_ix ix_tup (pv 1) pe_int (fun _ _ => rfl)) pe_str (nomark _)) (pw_or1 (pt_cmpR op_eq (pe_ix ix_tup (pv 1) pe_int (fun _ _ => rfl)) pe_str (nomark _)))))
        (pss_one (ps_ret (pe_cmpR op_eq (pe_call z54 (hr.mono (by decide)) rfl z18.m z18.F.kp z18.b .nil pass0 (pa_consN (pv 0) (pa_consN (pe_ix ix_tup (pv 1) pe_int (fun _ _ => rfl)) pa_nil))) pe_str (nomark _))))
        pss_nil)
      (pss_one (ps_ret pe_bl))))))), ?_⟩
  intro D v3 v4 v5 l sm xs rows H el hx ho hl hS oS q
  have hs : sizeLine = 16777216 := sizeLine_eq
  have two : 2 ≤ sizeLine := by omega
  have nn : ¬ ("num" : Str) = "" := by decide +kernel
  have nf : ¬ ("flag" : Str) = "" := by decide +kernel
  have nl : ¬ ("list" : Str) = "" := by decide +kernel
  cases sm with
  | leaf r lf =>
    cases lf with
    | tell e =>
      obtain ⟨v, et, hE⟩ := hS
      have oE : EOk 2 e := oS
      have rd : ∀ {X : Prop} (x : Str), X → X := fun _ h => h
      refine ⟨_, rfl, r, _, _, _, rfl, rfl, SqT.of et, rfl, rfl, _, rfl, itDN (str_ne (by decide +kernel)) ⟨_, rfl, r, _, _, _, rfl, rfl, SqT.of et, rfl, rfl, _, rfl, itDN (str_ne (by decide +kernel)) ⟨_, rfl, r, _, _, _, rfl, rfl, SqT.of et, rfl, rfl, _, rfl, itDN (str_ne (by decide +kernel)) ⟨_, rfl, r, _, _, _, rfl, rfl, SqT.of et, rfl, rfl, _, rfl, itDP rfl ?_⟩⟩⟩⟩
      refine ⟨_, rfl, _, rfl, r, _, _, _, rfl, rfl, SqT.of et, rfl, l, v, xs, rows, e, rfl, el, hx, ho, hl, hE, oE.ok, oE.dep, fun H1 s1 => ⟨rfl, ?_⟩⟩
      rw [kindL_dec nn]
      exact q H1 s1
    | ask x =>
      have et : H r = some (.tup [.str "ask", .str x]) := hS
      refine ⟨_, rfl, r, _, _, _, rfl, rfl, SqT.of et, rfl, rfl, _, rfl, itDN (str_ne (by decide +kernel)) ⟨_, rfl, r, _, _, _, rfl, rfl, SqT.of et, rfl, rfl, _, rfl, itDN (str_ne (by decide +kernel)) ⟨_, rfl, r, _, _, _, rfl, rfl, SqT.of et, rfl, rfl, _, rfl, itDP rfl ?_⟩⟩⟩
      refine ⟨_, rfl, rfl, ?_⟩
      show D.rt (.bl (decide (V.str ((lookF rows x).getD "") = V.str "num"))) H
      rw [own_num nn]
      exact q H (Same.refl _)
    | set x e =>
      obtain ⟨v, et, hE⟩ := hS
      have oE : PyData.strOk x = true ∧ EOk 2 e := oS
      refine ⟨_, rfl, r, _, _, _, rfl, rfl, SqT.of et, rfl, rfl, _, rfl, itDP rfl ?_⟩
      refine ⟨_, rfl, two, fun tp htp => ⟨tp, [V.str "num", V.str "flag"], rfl, .inr (SqT.of upd_same), rfl, rfl, _, rfl, ?_⟩⟩
      have y1 := Same.put (o := .tup [V.str "num", V.str "flag"]) htp
      generalize upd H tp (.tup [V.str "num", V.str "flag"]) = H1 at y1 ⊢
      have qf : ∀ H', Same H H' → D.rt (.bl (match kindP rows (.nam x) with | none => false | some k => decide (kindP rows e = some k))) H' := q
      have eo : ownOf1 rows (.leaf r (.set x e)) = (lookF rows x).getD "" := rfl
      rw [eo]
      cases hlk : lookF rows x with
      | none =>
        have hk : kindP rows (.nam x) = none := by simp [kindP, hlk]
        rw [hk] at qf
        exact qf H1 y1
      | some k =>
        have hk3 := look_in ho hlk
        by_cases hkl : k = "list"
        · have hk : kindP rows (.nam x) = none := by simp [kindP, hlk, hkl]
          rw [hk] at qf
          rw [hkl]
          exact qf H1 y1
        · have hk : kindP rows (.nam x) = some k := kind_nam hlk hkl
          rw [hk] at qf
          have hin : inV (.str k) [.str "num", .str "flag"] = true ∧ ¬ k = "" := by
            unfold kinds3 at hk3
            simp only [List.mem_cons, List.not_mem_nil, or_false] at hk3
            rcases hk3 with rfl | rfl | rfl
            · exact ⟨by decide +kernel, by decide +kernel⟩
            · exact ⟨by decide +kernel, by decide +kernel⟩
            · exact absurd rfl hkl
          rw [show (if false = true then !inV (V.str ((some k).getD "")) [V.str "num", V.str "flag"] else inV (V.str ((some k).getD "")) [V.str "num", V.str "flag"]) = true from hin.1]
          refine iteT ⟨_, rfl, _, rfl, r, _, _, _, rfl, rfl, SqT.of (y1 _ _ et), rfl, l, v, xs, rows, e, rfl, y1 _ _ el, Paired.mapP hx fun _ _ z => z.same y1, ho, hl, hE.same y1, oE.2.ok, oE.2.dep, fun H3 s3 => ⟨_, rfl, rfl, ?_⟩⟩
          show D.rt (.bl (decide (V.str (kindL rows e) = V.str k))) H3
          rw [kindL_dec hin.2]
          exact qf H3 (y1.trans s3)
    | put x e1 e2 =>
      obtain ⟨v1, v2, et, hE1, hE2⟩ := hS
      have oE : PyData.strOk x = true ∧ EOk 2 e1 ∧ EOk 2 e2 := oS
      refine ⟨_, rfl, r, _, _, _, rfl, rfl, SqT.of et, rfl, rfl, _, rfl, itDN (str_ne (by decide +kernel)) ⟨_, rfl, r, _, _, _, rfl, rfl, SqT.of et, rfl, rfl, _, rfl, itDP rfl ?_⟩⟩
      have qf : ∀ H', Same H H' → D.rt (.bl (decide (lookF rows x = some ("list" : Str) ∧ kindP rows e1 = some ("num" : Str) ∧ kindP rows e2 = some ("num" : Str)))) H' := q
      refine ⟨_, rfl, rfl, _, rfl, ?_⟩
      have eo : decide (V.str (ownOf1 rows (.leaf r (.put x e1 e2))) = V.str "list") = decide (lookF rows x = some ("list" : Str)) := own_num nl
      rw [eo]
      by_cases hk : lookF rows x = some ("list" : Str)
      · rw [decide_eq_true hk]
        refine iteT ⟨_, rfl, _, rfl, r, _, _, _, rfl, rfl, SqT.of et, rfl, l, v1, xs, rows, e1, rfl, el, hx, ho, hl, hE1, oE.2.1.ok, oE.2.1.dep, fun H1 s1 => ?_⟩
        refine ⟨_, rfl, _, rfl, r, _, _, _, rfl, rfl, SqT.of (s1 _ _ et), rfl, l, v2, xs, rows, e2, rfl, s1 _ _ el, Paired.mapP hx fun _ _ z => z.same s1, ho, hl, hE2.same s1, oE.2.2.ok, oE.2.2.dep, fun H2 s2 => ⟨two, fun p hp => ⟨two, fun p2 hp2 => ?_⟩⟩⟩
        have y1 := Same.put (o := .lst [V.str (kindL rows e1), V.str (kindL rows e2)]) hp
        have y2 := Same.put (o := .lst [V.str "num", V.str "num"]) hp2
        refine ⟨.list [.str (kindL rows e1), .str (kindL rows e2)], .list [.str "num", .str "num"], .lst (SqL.of (y2 _ _ upd_same)) (.cons (.str _) (.cons (.str _) .nil)), .lst (SqL.of upd_same) (.cons (.str _) (.cons (.str _) .nil)), ?_, by decide +kernel, (by show max 0 (max 0 0) + 1 ≤ 64; decide), ?_⟩
        · show (PyData.strOk _ && (PyData.strOk _ && true)) = true
          rw [ok_kindL ho, ok_kindL ho]; rfl
        rw [eqv2]
        have := qf _ ((s1.trans s2).trans (y1.trans y2))
        rw [show decide (lookF rows x = some ("list" : Str) ∧ kindP rows e1 = some ("num" : Str) ∧ kindP rows e2 = some ("num" : Str)) = decide (kindL rows e1 = "num" ∧ kindL rows e2 = "num") from decide_eq_decide.mpr ⟨fun z => ⟨(kindL_num _).mpr z.2.1, (kindL_num _).mpr z.2.2⟩, fun z => ⟨hk, (kindL_num _).mp z.1, (kindL_num _).mp z.2⟩⟩] at this
        exact this
      · rw [decide_eq_false hk]
        have := qf H (Same.refl _)
        rw [show decide (lookF rows x = some ("list" : Str) ∧ kindP rows e1 = some ("num" : Str) ∧ kindP rows e2 = some ("num" : Str)) = false from decide_eq_false fun z => hk z.1] at this
        exact this
    | does x =>
      have et : H r = some (.tup [.str "do", .str x]) := hS
      exact ⟨_, rfl, r, _, _, _, rfl, rfl, SqT.of et, rfl, rfl, _, rfl, itDN (str_ne (by decide +kernel)) ⟨_, rfl, r, _, _, _, rfl, rfl, SqT.of et, rfl, rfl, _, rfl, itDN (str_ne (by decide +kernel)) ⟨_, rfl, r, _, _, _, rfl, rfl, SqT.of et, rfl, rfl, _, rfl, itDN (str_ne (by decide +kernel)) ⟨_, rfl, r, _, _, _, rfl, rfl, SqT.of et, rfl, rfl, _, rfl, itDN (str_ne (by decide +kernel)) ⟨_, rfl, r, _, _, _, rfl, rfl, SqT.of et, rfl, rfl, _, rfl, itDN (str_ne (by decide +kernel)) ⟨_, rfl, r, _, _, _, rfl, rfl, SqT.of et, rfl, rfl, _, rfl, itDN (str_ne (by decide +kernel)) (q H (Same.refl _))⟩⟩⟩⟩⟩⟩
    | stop =>
      have et : H r = some (.tup [.str "stop"]) := hS
      exact ⟨_, rfl, r, _, _, _, rfl, rfl, SqT.of et, rfl, rfl, _, rfl, itDN (str_ne (by decide +kernel)) ⟨_, rfl, r, _, _, _, rfl, rfl, SqT.of et, rfl, rfl, _, rfl, itDN (str_ne (by decide +kernel)) ⟨_, rfl, r, _, _, _, rfl, rfl, SqT.of et, rfl, rfl, _, rfl, itDN (str_ne (by decide +kernel)) ⟨_, rfl, r, _, _, _, rfl, rfl, SqT.of et, rfl, rfl, _, rfl, itDN (str_ne (by decide +kernel)) ⟨_, rfl, r, _, _, _, rfl, rfl, SqT.of et, rfl, rfl, _, rfl, itDN (str_ne (by decide +kernel)) ⟨_, rfl, r, _, _, _, rfl, rfl, SqT.of et, rfl, rfl, _, rfl, itDN (str_ne (by decide +kernel)) (q H (Same.refl _))⟩⟩⟩⟩⟩⟩
    | way =>
      have et : H r = some (.tup [.str "way"]) := hS
      exact ⟨_, rfl, r, _, _, _, rfl, rfl, SqT.of et, rfl, rfl, _, rfl, itDN (str_ne (by decide +kernel)) ⟨_, rfl, r, _, _, _, rfl, rfl, SqT.of et, rfl, rfl, _, rfl, itDN (str_ne (by decide +kernel)) ⟨_, rfl, r, _, _, _, rfl, rfl, SqT.of et, rfl, rfl, _, rfl, itDN (str_ne (by decide +kernel)) ⟨_, rfl, r, _, _, _, rfl, rfl, SqT.of et, rfl, rfl, _, rfl, itDN (str_ne (by decide +kernel)) ⟨_, rfl, r, _, _, _, rfl, rfl, SqT.of et, rfl, rfl, _, rfl, itDN (str_ne (by decide +kernel)) ⟨_, rfl, r, _, _, _, rfl, rfl, SqT.of et, rfl, rfl, _, rfl, itDN (str_ne (by decide +kernel)) (q H (Same.refl _))⟩⟩⟩⟩⟩⟩
  | iff r e a1 b1 a2 b2 =>
    obtain ⟨v, et, hE, _⟩ := hS
    have oE : EOk 2 e := oS.1
    refine ⟨_, rfl, r, _, _, _, rfl, rfl, SqT.of et, rfl, rfl, _, rfl, itDN (str_ne (by decide +kernel)) ⟨_, rfl, r, _, _, _, rfl, rfl, SqT.of et, rfl, rfl, _, rfl, itDN (str_ne (by decide +kernel)) ⟨_, rfl, r, _, _, _, rfl, rfl, SqT.of et, rfl, rfl, _, rfl, itDN (str_ne (by decide +kernel)) ⟨_, rfl, r, _, _, _, rfl, rfl, SqT.of et, rfl, rfl, _, rfl, itDN (str_ne (by decide +kernel)) ⟨_, rfl, r, _, _, _, rfl, rfl, SqT.of et, rfl, rfl, _, rfl, itDP rfl (iteT ?_)⟩⟩⟩⟩⟩
    refine ⟨_, rfl, _, rfl, r, _, _, _, rfl, rfl, SqT.of et, rfl, l, v, xs, rows, e, rfl, el, hx, ho, hl, hE, oE.ok, oE.dep, fun H1 s1 => ⟨rfl, ?_⟩⟩
    rw [kindL_dec nf]
    exact q H1 s1
  | wh r e a1 b1 =>
    obtain ⟨v, et, hE, _⟩ := hS
    have oE : EOk 2 e := oS.1
    refine ⟨_, rfl, r, _, _, _, rfl, rfl, SqT.of et, rfl, rfl, _, rfl, itDN (str_ne (by decide +kernel)) ⟨_, rfl, r, _, _, _, rfl, rfl, SqT.of et, rfl, rfl, _, rfl, itDN (str_ne (by decide +kernel)) ⟨_, rfl, r, _, _, _, rfl, rfl, SqT.of et, rfl, rfl, _, rfl, itDN (str_ne (by decide +kernel)) ⟨_, rfl, r, _, _, _, rfl, rfl, SqT.of et, rfl, rfl, _, rfl, itDN (str_ne (by decide +kernel)) ⟨_, rfl, r, _, _, _, rfl, rfl, SqT.of et, rfl, rfl, _, rfl, itDN (str_ne (by decide +kernel)) ⟨_, rfl, r, _, _, _, rfl, rfl, SqT.of et, rfl, rfl, _, rfl, itDP rfl ?_⟩⟩⟩⟩⟩⟩
    refine ⟨_, rfl, _, rfl, r, _, _, _, rfl, rfl, SqT.of et, rfl, l, v, xs, rows, e, rfl, el, hx, ho, hl, hE, oE.ok, oE.dep, fun H1 s1 => ⟨rfl, ?_⟩⟩
    rw [kindL_dec nf]
    exact q H1 s1
end
end K45

set_option Elab.async false
set_option linter.all false
set_option maxRecDepth 100000
set_option maxHeartbeats 4000000
namespace K45
open PySem L2
theorem own_tup (rows : List VRow) (e : Ex) : ownG (fun y => PyData.eqv (.str y) (exD e)) rows = "" := by
  have hf : (fun y : Str => PyData.eqv (.str y) (exD e)) = fun _ => false := by
    funext y
    cases e <;> rfl
  rw [hf]
  unfold ownG
  induction rows with
  | nil => rfl
  | cons p r ih => rw [List.foldl_cons, if_neg Bool.false_ne_true]; exact ih
section
variable {P : Program} {w : World} {K : PySem.W.Frag} {mg : Str → Option Value} {base : Heap}
theorem ok_law_fits {f f1 : Addr} {fd d1 : FuncData} (F : Fun K "_law_fits" "_law_fits" s_law_fits f fd) (T : Bt mg) (z18 : Q10 K mg f1 d1) : FnOk P w K mg base CX0 10 f fd ["_law_told", "_law_one"] sp_lf := by
  refine F.ok (k := 9) sc_law_fits (fun vs H Q E h => ?_) (fun cdv A outer s H vs Q E hr h => ?_)
  · obtain ⟨l, s, xs, rows, rfl, _⟩ := h; rfl
  · obtain ⟨l, sm, xs, rows, rfl, el, hx, ho, hl, hS, oS, q⟩ := h
    have hs : sizeLine = 16777216 := sizeLine_eq
    have lx : xs.length = rows.length := hx.length
    obtain ⟨uB, hB, kB⟩ := lf_B (P := P) (w := w) (base := base) (f := f) (fd := fd) (cdv := cdv) (outer := outer) (H0 := H) (E := E) T z18 hr
    refine ⟨_, (pss_cons (ps_set (i := 2) sc_law_fits.nd rfl (Or.inl rfl) pe_str)
      (pss_cons (ps_for PassesOwn.never rfl (pi_list (pv 0)) (pg_tup rfl (pgs_cons (pg_name (i := 3) sc_law_fits.nd rfl (Or.inl rfl)) (pgs_cons (pg_name (i := 4) sc_law_fits.nd rfl (Or.inl rfl)) (pgs_cons (pg_name (i := 5) sc_law_fits.nd rfl (Or.inl rfl)) pgs_nil))))
        (pss_one (ps_if (PW.pt (pw_and (pt_cmpR op_gt (pe_callB call_len_seq rfl T.b_len (by decide +kernel) (pa_consN (pv 1) pa_nil)) pe_int (nomark _)) (pw_and1 (pt_cmpR (op_eqD (hr.units)) (pv 4) (pe_ix ix_tup (pv 1) pe_int (fun _ _ => rfl)) (nomark _)))))
          (pss_one (ps_set (i := 2) sc_law_fits.nd rfl (Or.inl rfl) (pv 3)))
          pss_nil)))
      hB)), ?_⟩
    have fin : ∀ (v3 v4 v5 : Option V), uB { nx := fun _ H' => Q .non H', rt := Q } [some (.ref l), some sm.ref, some (.str (ownOf1 rows sm)), v3, v4, v5] H := fun v3 v4 v5 => kB _ _ _ _ l sm xs rows H el hx ho hl hS oS q
    obtain ⟨r, tag, us, esr, et, hus⟩ : ∃ (r : Addr) (tag : Str) (us : List V), sm.ref = .ref r ∧ H r = some (.tup (.str tag :: us)) ∧ ((us = [] ∧ ownOf1 rows sm = "") ∨ ∃ (u0 : V) (us' : List V) (d0 : PyData), us = u0 :: us' ∧ Rep K H u0 d0 ∧ PyData.canLay0 d0 = true ∧ ownG (fun y => PyData.eqv (.str y) d0) rows = ownOf1 rows sm) := by
      cases sm with
      | leaf r lf =>
        cases lf with
        | tell e =>
          obtain ⟨v, et, hE⟩ := id hS
          exact ⟨r, _, _, rfl, et, .inr ⟨_, _, exD e, rfl, hE.rep K, lay_ex (show EOk 2 e from oS).ok, own_tup rows e⟩⟩
        | set x e =>
          obtain ⟨v, et, hE⟩ := id hS
          exact ⟨r, _, _, rfl, et, .inr ⟨_, _, .str x, rfl, .str _, (show PyData.strOk x = true ∧ EOk 2 e from oS).1, own_look rows x⟩⟩
        | put x e1 e2 =>
          obtain ⟨v1, v2, et, hE⟩ := id hS
          exact ⟨r, _, _, rfl, et, .inr ⟨_, _, .str x, rfl, .str _, (show PyData.strOk x = true ∧ EOk 2 e1 ∧ EOk 2 e2 from oS).1, own_look rows x⟩⟩
        | ask x => exact ⟨r, _, _, rfl, hS, .inr ⟨_, _, .str x, rfl, .str _, oS, own_look rows x⟩⟩
        | does x => exact ⟨r, _, _, rfl, hS, .inr ⟨_, _, .str x, rfl, .str _, oS, own_look rows x⟩⟩
        | stop => exact ⟨r, _, _, rfl, hS, .inl ⟨rfl, rfl⟩⟩
        | way => exact ⟨r, _, _, rfl, hS, .inl ⟨rfl, rfl⟩⟩
      | iff r e a1 b1 a2 b2 =>
        obtain ⟨v, et, hE, _⟩ := id hS
        exact ⟨r, _, _, rfl, et, .inr ⟨_, _, exD e, rfl, hE.rep K, lay_ex oS.1.ok, own_tup rows e⟩⟩
      | wh r e a1 b1 =>
        obtain ⟨v, et, hE, _⟩ := id hS
        exact ⟨r, _, _, rfl, et, .inr ⟨_, _, exD e, rfl, hE.rep K, lay_ex oS.1.ok, own_tup rows e⟩⟩
    rcases hus with ⟨rfl, eo⟩ | ⟨u0, us, d0, rfl, rp, ly, eo⟩
    · refine ⟨_, rfl, l, rfl, ⟨_, SqL.of el⟩, for_list (xs := xs) (fun i σ H2 => ∃ (v3 v4 v5 : Option V), σ = [some (.ref l), some sm.ref, some (.str ""), v3, v4, v5] ∧ H2 = H) ⟨_, _, _, rfl, rfl⟩ ?_ ?_ ?_⟩
      · rintro i σ H2 _ ⟨v3, v4, v5, rfl, rfl⟩
        exact SqL.of el
      · rintro i y σ H2 hxi ⟨v3, v4, v5, rfl, rfl⟩
        obtain ⟨p, hp0, T0, rfl, eT⟩ := paired_at hx hxi
        refine ⟨T0, _, rfl, SqT.of eT, rfl, _, _, rfl, _, _, rfl, _, _, rfl, rfl, ?_⟩
        refine ⟨_, rfl, r, _, congrArg (fun z => [z]) esr, .inr (SqT.of et), _, _, rfl, rfl, _, rfl, ite2 (fun h => ?_) (fun h => ?_)⟩
        · exact absurd (of_decide_eq_true h) (by show ¬ (1 : Int) < 1; decide)
        · exact ⟨_, _, _, rfl, rfl⟩
      · rintro σ H2 ⟨v3, v4, v5, rfl, rfl⟩
        rw [← eo]
        exact fin v3 v4 v5
    · refine ⟨_, rfl, l, rfl, ⟨_, SqL.of el⟩, for_list (xs := xs) (fun i σ H2 => ∃ (v3 v4 v5 : Option V), σ = [some (.ref l), some sm.ref, some (.str (ownG (fun y => PyData.eqv (.str y) d0) (rows.take i))), v3, v4, v5] ∧ H2 = H) ⟨_, _, _, rfl, rfl⟩ ?_ ?_ ?_⟩
      · rintro i σ H2 _ ⟨v3, v4, v5, rfl, rfl⟩
        exact SqL.of el
      · rintro i y σ H2 hxi ⟨v3, v4, v5, rfl, rfl⟩
        obtain ⟨p, hp0, T0, rfl, eT⟩ := paired_at hx hxi
        have onm := (ho p (List.mem_of_getElem? hp0)).2
        refine ⟨T0, _, rfl, SqT.of eT, rfl, _, _, rfl, _, _, rfl, _, _, rfl, rfl, ?_⟩
        refine ⟨_, rfl, r, _, congrArg (fun z => [z]) esr, .inr (SqT.of et), _, _, rfl, rfl, _, rfl, ite2 (fun _ => ?_) (fun h => ?_)⟩
        · refine ⟨_, rfl, _, rfl, r, _, _, _, esr, rfl, SqT.of et, atI_nat (show (V.str tag :: u0 :: us)[1]? = some u0 from rfl), .str p.2.1, d0, .str _, rp, onm, ly, Nat.zero_le _, _, rfl, ?_⟩
          refine ite2 (fun h => ?_) (fun h => ?_)
          · have h' : PyData.eqv (.str p.2.1) d0 = true := h
            exact ⟨_, rfl, _, _, _, by rw [own_step hp0, if_pos h']; rfl, rfl⟩
          · have h' : ¬ PyData.eqv (.str p.2.1) d0 = true := h
            exact ⟨_, _, _, by rw [own_step hp0, if_neg h']; rfl, rfl⟩
        · exact absurd (decide_eq_true (show (1 : Int) < (((V.str tag :: u0 :: us).length : Nat) : Int) by simp only [List.length_cons]; omega)) h
      · rintro σ H2 ⟨v3, v4, v5, rfl, rfl⟩
        rw [lx, List.take_of_length_le (Nat.le_refl _), eo]
        exact fin v3 v4 v5
end
end K45

set_option Elab.async false
set_option linter.all false
set_option maxRecDepth 100000
set_option maxHeartbeats 4000000
namespace K45
open PySem L2
def optI : Option Int → V
  | none => .non
  | some i => .int i
def orI : Option Int → Option Int → Option Int
  | some i, _ => some i
  | none, b => b
def fF (rows : List VRow) (L : List Sm) (k : Int) : Option Int := (firstBad rows L).map fun i => k + (i : Int)
theorem bad_app (rows : List VRow) : ∀ A B : List Sm, firstBad rows (A ++ B) = match firstBad rows A with | some i => some i | none => (firstBad rows B).map (· + A.length)
  | [], B => by
    show firstBad rows B = (firstBad rows B).map (· + 0)
    cases firstBad rows B <;> rfl
  | s :: A, B => by
    show (if _ then _ else _) = _
    show (if s.fit rows = true then (firstBad rows (A ++ B)).map (· + 1) else some 0) = match (if s.fit rows = true then (firstBad rows A).map (· + 1) else some 0) with | some i => some i | none => (firstBad rows B).map (· + (A.length + 1))
    rw [bad_app rows A B]
    by_cases h : s.fit rows = true
    · rw [if_pos h, if_pos h]
      cases firstBad rows A with
      | some i => rfl
      | none => cases firstBad rows B <;> rfl
    · rw [if_neg h, if_neg h]
theorem ff_app (rows : List VRow) (A B : List Sm) (k : Int) : fF rows (A ++ B) k = orI (fF rows A k) (fF rows B (k + (A.length : Int))) := by
  unfold fF
  rw [bad_app]
  cases firstBad rows A with
  | some i => rfl
  | none =>
    cases firstBad rows B with
    | none => rfl
    | some j => show some (k + ((j + A.length : Nat) : Int)) = some (k + (A.length : Int) + (j : Int)); rw [show k + ((j + A.length : Nat) : Int) = k + (A.length : Int) + (j : Int) by omega]
theorem ff_one (rows : List VRow) (s : Sm) (k : Int) : fF rows [s] k = if s.fit rows = true then none else some k := by
  unfold fF firstBad
  split
  · rfl
  · show some (k + ((0 : Nat) : Int)) = some k; rw [Int.natCast_zero, Int.add_zero]
def allL (L : List Sm) : List Sm := (L.map fun s => s :: s.all).flatten
theorem all_eq : ∀ b : Bd, b.all = allL b.toL
  | .nil => by rw [Bd.all]; rfl
  | .cons s b => by rw [Bd.all, all_eq b]; show _ = (s :: s.all) ++ allL b.toL; rfl
theorem allL_take {L : List Sm} {i : Nat} {s : Sm} (h : L[i]? = some s) : allL (L.take (i + 1)) = allL (L.take i) ++ [s] ++ s.all := by
  unfold allL
  rw [List.take_add_one, h, List.map_append, List.flatten_append]
  show _ ++ ([s :: s.all] : List (List Sm)).flatten = _
  simp
theorem ok_mem : ∀ {b : Bd}, BdOk b → ∀ s ∈ b.toL, SmOk s
  | .nil, _, s, h => by cases h
  | .cons x b, ⟨h1, h2⟩, s, h => by
    rcases List.mem_cons.mp h with rfl | z
    · exact h1
    · exact ok_mem h2 s z
structure Inn (H : Hp) (s : Sm) (bl : List (Addr × Bd)) : Prop where
  at' : ∀ p ∈ bl, H p.1 = some (.lst p.2.refs) ∧ BdAt H p.2 ∧ BdOk p.2 ∧ p.2.nest + 1 ≤ s.nest
  al : s.all = (bl.map fun p => p.2.all).flatten
theorem sm_formF {H : Hp} {s : Sm} (h : SmAt H s) (o : SmOk s) : ∃ (r : Addr) (tag : Str) (vs : List V), s.ref = .ref r ∧ H r = some (.tup (.str tag :: vs)) ∧
    ((tag ≠ "if" ∧ tag ≠ "while" ∧ Inn H s []) ∨
     (tag = "if" ∧ ∃ v a1 a2 b1 b2, vs = [v, .ref a1, .ref a2] ∧ Inn H s [(a1, b1), (a2, b2)]) ∨
     (tag = "while" ∧ ∃ v a1 b1, vs = [v, .ref a1] ∧ Inn H s [(a1, b1)])) := by
  cases s with
  | leaf r l =>
    obtain ⟨tag, vs, h1, h4, h5, _⟩ := LfAt.tup h
    exact ⟨r, tag, vs, rfl, h1, .inl ⟨h4, h5, ⟨fun p hp => (by cases hp), by rw [Sm.all]; rfl⟩⟩⟩
  | iff r e a1 b1 a2 b2 =>
    obtain ⟨v, h1, h2, h3, h4, h5, h6, _⟩ := h
    refine ⟨r, "if", _, rfl, h1, .inr (.inl ⟨rfl, v, a1, a2, b1, b2, rfl, ⟨fun p hp => ?_, by rw [Sm.all]; simp⟩⟩)⟩
    rcases List.mem_cons.mp hp with rfl | hp
    · exact ⟨h3, h4, o.2.1, by rw [Sm.nest]; show b1.nest + 1 ≤ _; omega⟩
    · rw [List.mem_singleton.mp hp]; exact ⟨h5, h6, o.2.2, by rw [Sm.nest]; show b2.nest + 1 ≤ _; omega⟩
  | wh r e a1 b1 =>
    obtain ⟨v, h1, h2, h3, h4, _⟩ := h
    refine ⟨r, "while", _, rfl, h1, .inr (.inr ⟨rfl, v, a1, b1, rfl, ⟨fun p hp => ?_, by rw [Sm.all]; simp⟩⟩)⟩
    rw [List.mem_singleton.mp hp]; exact ⟨h3, h4, o.2, by rw [Sm.nest]; show b1.nest + 1 ≤ _; omega⟩
def sp_first (n : Nat) : Sp := fun vs H Q _ => ∃ (l r : Addr) (b : Bd) (xs : List V) (rows : List VRow) (k : Int), vs = [.ref l, .ref r, .int k] ∧ H l = some (.lst xs) ∧ Paired (VarAt H) xs rows ∧ VarsOk rows ∧ rows.length ≤ 9 ∧ H r = some (.lst b.refs) ∧ BdAt H b ∧ BdOk b ∧ b.nest ≤ n ∧
  ∀ (t : Addr) (H' : Hp), Same H H' → H t = none → H' t = some (.tup [optI (fF rows b.all k), .int (k + (b.all.length : Int))]) → Q (.ref t) H'
theorem optI_non (o : Option Int) : decide (optI o = .non) = o.isNone := by cases o <;> rfl
theorem or_some {a b : Option Int} (h : a.isNone = false) : orI a b = a := by cases a with | none => cases h | some i => rfl
theorem or_none {a b : Option Int} (h : a.isNone = true) : orI a b = b := by cases a with | none => rfl | some i => cases h
theorem inner_allT {bl : List (Addr × Bd)} {i : Nat} {p : Addr × Bd} (h : bl[i]? = some p) : ((bl.take (i + 1)).map fun p => p.2.all).flatten = ((bl.take i).map fun p => p.2.all).flatten ++ p.2.all := by
  rw [List.take_add_one, h, List.map_append, List.flatten_append]
  show _ ++ ([p.2.all] : List (List Sm)).flatten = _
  simp
end K45

set_option Elab.async false
set_option linter.all false
set_option maxRecDepth 100000
set_option maxHeartbeats 4000000
namespace K45
open PySem L2
def forBody : Stmt → List Stmt
  | .For _ _ b _ _ => b
  | _ => []
abbrev firstLoop : List Stmt := forBody ((defBody s_law_first).getD 1 (.Pass ⟨0, 0, 0, 0⟩))
section
variable {P : Program} {w : World} {K : PySem.W.Frag} {mg : Str → Option Value} {base : Heap}
theorem z42 : FnScope ["_law_told", "_law_body", "_law_number_here", "_law_found", "_law_one", "_law_inner", "_law_first_here"] ["_law_told", "_law_body", "_law_number_here"] (defScope s_law_first) := ⟨rfl, rfl, rfl, by decide +kernel, rfl, by decide +kernel, by decide +kernel⟩
theorem first_T {n k0 : Nat} {prev : Sp} {f : Addr} {fd : FuncData} (T : Bt mg) (z26 : Q16 K mg f fd)
    (hp : n = 0 ∨ ∃ m, n = m + 1 ∧ prev = sp_first m) (G_law_first : FnOk P w K mg base CX0 k0 f fd ["_law_told", "_law_body", "_law_number_here"] prev) {cdv : Value} {A : Around} {outer : List Env} {s : Shared} {H0 : Hp} {E : XK} (hr : Room k0 (A.deeper (PyProof.Rows.envOfC "_law_first" (defScope s_law_first) s.heap.objs.size f cdv))) :
    ∃ u, PSs (cxOf CX0 P w K mg base ["_law_told", "_law_body", "_law_number_here", "_law_found", "_law_one", "_law_inner", "_law_first_here"] "_law_first" (defScope s_law_first) f cdv A outer s H0 E).nox (firstLoop.drop 1) u ∧
      ∀ (D : Ends) (v1 v5 v6 : Option V) (l : Addr) (sm : Sm) (xs : List V) (rows : List VRow) (k : Int) (Ap : List Sm) (H : Hp), H l = some (.lst xs) → Paired (VarAt H) xs rows → VarsOk rows → rows.length ≤ 9 → SmAt H sm → SmOk sm → sm.nest ≤ n →
        (∀ (v5 v6 : Option V) (H' : Hp), Same H H' → D.nx [some (.ref l), v1, some (.int (k + ((Ap ++ [sm] ++ sm.all).length : Int))), some (optI (fF rows (Ap ++ [sm] ++ sm.all) k)), some sm.ref, v5, v6] H') →
        u D [some (.ref l), v1, some (.int (k + (Ap.length : Int))), some (optI (fF rows (Ap ++ [sm]) k)), some sm.ref, v5, v6] H := by
  refine ⟨_, (pss_cons (ps_set (i := 2) z42.nd rfl (Or.inl rfl) (pe_op op_add (pv 2) pe_int))
        (pss_one (ps_for PassesOwn.never rfl (pi_tup (pe_ifExp (pt_cmpR op_in_seq (pe_ix ix_tup (pv 4) pe_int (fun _ _ => rfl)) (pe_tup (pa_consN pe_str (pa_consN pe_str pa_nil))) (by with_unfolding_all rfl)) (pe_slice sl_tup (pv 4) (po_some pe_int) (po_some pe_int)) (pe_tup pa_nil))) (pg_name (i := 5) z42.nd rfl (Or.inl rfl))
          (pss_cons (ps_asg (pe_call G_law_first (hr.mono (by omega)) rfl z26.m z26.F.kp z26.b .nil pass0 (pa_consN (pv 0) (pa_consN (pv 5) (pa_consN (pv 2) pa_nil)))) (pg_tup rfl (pgs_cons (pg_name (i := 6) z42.nd rfl (Or.inl rfl)) (pgs_cons (pg_name (i := 2) z42.nd rfl (Or.inl rfl)) pgs_nil))))
          (pss_one (ps_if (pt_cmpR op_isN (pv 3) pe_non (nomark _))
            (pss_one (ps_set (i := 3) z42.nd rfl (Or.inl rfl) (pv 6)))
            pss_nil)))))), ?_⟩
  intro D v1 v5 v6 l sm xs rows k Ap H el hx ho hl sa so hsn q
  have hs : sizeLine = 16777216 := sizeLine_eq
  have two : 2 ≤ sizeLine := by omega
  obtain ⟨r2, tag, vs, esr, et, hform⟩ := sm_formF sa so
  refine ⟨_, rfl, _, _, rfl, rfl, ?_⟩
  refine ⟨_, rfl, r2, _, _, _, esr, rfl, SqT.of et, at_zero _ _, two, fun p hp2 => ?_⟩
  have y4 := Same.put (o := .tup [V.str "if", V.str "while"]) hp2
  have ep : upd H p (.tup [V.str "if", V.str "while"]) p = some (.tup [V.str "if", V.str "while"]) := upd_same
  generalize upd H p (.tup [V.str "if", V.str "while"]) = H4 at y4 ep ⊢
  refine ⟨p, _, rfl, .inr (SqT.of ep), rfl, rfl, _, rfl, ?_⟩
  rw [in_tag]
  have e1 : k + (Ap.length : Int) + 1 = k + ((Ap ++ [sm]).length : Int) := by rw [List.length_append]; show _ = k + ((Ap.length + 1 : Nat) : Int); omega
  obtain ⟨B0, hB0⟩ : ∃ z, Ap ++ [sm] = z := ⟨_, rfl⟩
  rw [hB0] at e1 q ⊢
  rcases hform with ⟨t1, t2, hin⟩ | ⟨rfl, v, a1, a2, b1, b2, rfl, hin⟩ | ⟨rfl, v, a1, b1, rfl, hin⟩
  · refine itDN (fun z => z.elim t1 t2) ⟨Nat.zero_le _, fun p2 hp3 => ?_⟩
    have y5 := Same.put (o := .tup []) hp3
    have ep2 : upd H4 p2 (.tup []) p2 = some (.tup []) := upd_same
    generalize upd H4 p2 (.tup []) = H5 at y5 ep2 ⊢
    have s5 := y4.trans y5
    refine ⟨p2, rfl, ⟨_, SqT.of ep2⟩, for_tup (K := K) (a := p2) (xs := []) (fun i σ H6 => σ = [some (.ref l), v1, some (.int (k + (Ap.length : Int) + 1)), some (optI (fF rows B0 k)), some sm.ref, v5, v6] ∧ H6 = H5) ⟨rfl, rfl⟩ ?_ ?_ ?_⟩
    · rintro i σ H6 _ ⟨rfl, rfl⟩
      exact SqT.of ep2
    · rintro i x σ H6 hxi _
      simp at hxi
    · rintro σ H6 ⟨rfl, rfl⟩
      have q0 := q v5 v6 H6 s5
      have eal : sm.all = [] := hin.al
      rw [eal, List.append_nil, ← e1] at q0
      exact q0
  focus
    refine itDP (by simp) ?_
    refine ⟨_, rfl, _, rfl, _, rfl, r2, _, esr, SqT.of (y4 _ _ et), (by show ¬ (HT.sIx 4 0 (some 2) = 0 ∧ HT.sIx 4 4 (some 4) = 4); decide), fun p2 hp3 => ?_⟩
    obtain ⟨bl, hbl⟩ : ∃ z, [(a1, b1), (a2, b2)] = z := ⟨_, rfl⟩
    have ebl : cutV [V.str "if", v, V.ref a1, V.ref a2] (some 2) (some 4) = bl.map fun p => V.ref p.1 := by rw [← hbl]; rfl
    rw [hbl] at hin
    rw [ebl]
    clear hbl ebl
  rotate_left
  focus
    refine itDP (by simp) ?_
    refine ⟨_, rfl, _, rfl, _, rfl, r2, _, esr, SqT.of (y4 _ _ et), (by show ¬ (HT.sIx 3 0 (some 2) = 0 ∧ HT.sIx 3 3 (some 4) = 3); decide), fun p2 hp3 => ?_⟩
    obtain ⟨bl, hbl⟩ : ∃ z, [(a1, b1)] = z := ⟨_, rfl⟩
    have ebl : cutV [V.str "while", v, V.ref a1] (some 2) (some 4) = bl.map fun p => V.ref p.1 := by rw [← hbl]; rfl
    rw [hbl] at hin
    rw [ebl]
    clear hbl ebl
  all_goals
    have y5 := Same.put (o := .tup (bl.map fun p => V.ref p.1)) hp3
    have ep2 : upd H4 p2 (.tup (bl.map fun p => V.ref p.1)) p2 = some (.tup (bl.map fun p => V.ref p.1)) := upd_same
    generalize upd H4 p2 (.tup (bl.map fun p => V.ref p.1)) = H5 at y5 ep2 ⊢
    have s5 := y4.trans y5
    refine ⟨p2, rfl, ⟨_, SqT.of ep2⟩, for_tup (K := K) (a := p2) (xs := bl.map fun p => V.ref p.1) (fun i σ H6 => ∃ (v2 v3 v5 v6 : Option V), σ = [some (.ref l), v1, v2, v3, some sm.ref, v5, v6] ∧ v2 = some (.int (k + ((B0 ++ ((bl.take i).map fun p => p.2.all).flatten).length : Int))) ∧ v3 = some (optI (fF rows (B0 ++ ((bl.take i).map fun p => p.2.all).flatten) k)) ∧ Same H5 H6) ⟨_, _, _, _, rfl, ?_, ?_, Same.refl _⟩ ?_ ?_ ?_⟩
    · rw [List.take_zero]
      show some (V.int (k + (Ap.length : Int) + 1)) = some (V.int (k + ((B0 ++ []).length : Int)))
      rw [List.append_nil, e1]
    · rw [List.take_zero]
      show _ = some (optI (fF rows (B0 ++ []) k))
      rw [List.append_nil]
    · rintro i σ H6 _ ⟨v2, v3, v5, v6, rfl, _, _, s6⟩
      exact SqT.of (s6 _ _ ep2)
    · rintro i x σ H6 hxi ⟨v2, v3, v5, v6, rfl, e2, e3, s6⟩
      subst e2 e3
      rw [List.getElem?_map] at hxi
      cases hbi : bl[i]? with
      | none => rw [hbi] at hxi; cases hxi
      | some pb =>
        rw [hbi] at hxi
        cases hxi
        obtain ⟨i1, i2, i3, i4⟩ := hin.at' pb (List.mem_of_getElem? hbi)
        rw [inner_allT hbi, ← List.append_assoc]
        obtain ⟨B1, hB1⟩ : ∃ z, B0 ++ ((bl.take i).map fun p => p.2.all).flatten = z := ⟨_, rfl⟩
        rw [hB1]
        have s06 := s5.trans s6
        rcases hp with h0 | ⟨m, rfl, rfl⟩
        · omega
        refine ⟨_, rfl, _, rfl, _, rfl, l, pb.1, pb.2, xs, rows, _, rfl, s06 _ _ el, Paired.mapP hx fun _ _ z => z.same s06, ho, hl, s06 _ _ i1, i2.same s06, i3, by omega, fun t H7 s7 ht et7 => ?_⟩
        refine ⟨t, _, rfl, SqT.of et7, rfl, _, _, rfl, _, _, rfl, rfl, ?_⟩
        have en : k + (B1.length : Int) + (pb.2.all.length : Int) = k + ((B1 ++ pb.2.all).length : Int) := by rw [List.length_append]; omega
        refine ⟨_, rfl, rfl, _, rfl, ?_⟩
        rw [optI_non, ff_app, en]
        cases hN : (fF rows B1 k).isNone with
        | true =>
          exact ⟨_, rfl, _, _, _, _, rfl, rfl, by rw [or_none hN], s6.trans s7⟩
        | false =>
          exact ⟨_, _, _, _, rfl, rfl, by rw [or_some hN], s6.trans s7⟩
    · rintro σ H6 ⟨v2, v3, v5, v6, rfl, e2, e3, s6⟩
      subst e2 e3
      rw [List.length_map, List.take_of_length_le (Nat.le_refl _), ← hin.al]
      exact q _ _ H6 (s5.trans s6)
end
end K45

set_option Elab.async false
set_option linter.all false
set_option maxRecDepth 100000
set_option maxHeartbeats 4000000
namespace K45
open PySem L2
section
variable {P : Program} {w : World} {K : PySem.W.Frag} {mg : Str → Option Value} {base : Heap}
theorem first_step {n k0 : Nat} {prev : Sp} {f f1 f2 : Addr} {fd d1 d2 : FuncData} (T : Bt mg) (z18 : Q10 K mg f1 d1) (z33 : Q17 K mg f2 d2) (z26 : Q16 K mg f fd) (hk0 : 10 ≤ k0)
    (hp : n = 0 ∨ ∃ m, n = m + 1 ∧ prev = sp_first m) (G_law_first : FnOk P w K mg base CX0 k0 f fd ["_law_told", "_law_body", "_law_number_here"] prev) : FnOk P w K mg base CX0 (k0 + 1) f fd ["_law_told", "_law_body", "_law_number_here"] (sp_first n) := by
  have G_law_fits := ok_law_fits (P := P) (w := w) (base := base) z33.F T z18
  refine z26.F.ok (k := k0) z42 (fun vs H Q E h => ?_) (fun cdv A outer s H vs Q E hr h => ?_)
  · obtain ⟨l, r, b, xs, rows, k, rfl, _⟩ := h; rfl
  · obtain ⟨l, r, b, xs, rows, k, rfl, el, hx, ho, hl, er, ba, bo, hn, q⟩ := h
    have hs : sizeLine = 16777216 := sizeLine_eq
    have two : 2 ≤ sizeLine := by omega
    obtain ⟨uB, hB, kB⟩ := first_T (P := P) (w := w) (base := base) (f := f) (cdv := cdv) (outer := outer) (H0 := H) (E := E) T z26 hp G_law_first hr
    refine ⟨_, (pss_cons (ps_set (i := 3) z42.nd rfl (Or.inl rfl) pe_non)
      (pss_cons (ps_for PassesOwn.never rfl (pi_list (pv 1)) (pg_name (i := 4) z42.nd rfl (Or.inl rfl))
        (pss_cons (ps_if (PW.pt (pw_and (pt_cmpR op_isN (pv 3) pe_non (nomark _)) (pw_and1 (pt_not (pt_val (pe_call G_law_fits (hr.mono (by omega)) rfl z33.m z33.F.kp z33.b .nil pass0 (pa_consN (pv 0) (pa_consN (pv 4) pa_nil))))))))
          (pss_one (ps_set (i := 3) z42.nd rfl (Or.inl rfl) (pv 2)))
          pss_nil)
        hB))
      (pss_one (ps_ret (pe_tup (pa_consN (pv 3) (pa_consN (pv 2) pa_nil))))))), ?_⟩
    rw [refs_eq] at er
    rw [all_eq] at q
    obtain ⟨L, hL⟩ : ∃ z, b.toL = z := ⟨_, rfl⟩
    have bm := at_mem ba
    have om := ok_mem bo
    have nmm := nest_mem (b := b)
    rw [hL] at q er bm om nmm
    refine ⟨_, rfl, r, rfl, ⟨_, SqL.of er⟩, for_list (K := K) (a := r) (xs := L.map Sm.ref) (fun i σ H2 => ∃ (v2 v3 v4 v5 v6 : Option V), σ = [some (.ref l), some (.ref r), v2, v3, v4, v5, v6] ∧ v2 = some (.int (k + ((allL (L.take i)).length : Int))) ∧ v3 = some (optI (fF rows (allL (L.take i)) k)) ∧ Same H H2) ⟨_, _, _, _, _, rfl, by rw [List.take_zero]; show _ = some (V.int (k + ((0 : Nat) : Int))); rw [Int.natCast_zero, Int.add_zero], by rw [List.take_zero]; rfl, Same.refl _⟩ ?_ ?_ ?_⟩
    · rintro i σ H2 _ ⟨v2, v3, v4, v5, v6, rfl, _, _, s2⟩
      exact SqL.of (s2 _ _ er)
    · rintro i x σ H2 hx0 ⟨v2, v3, v4, v5, v6, rfl, e2, e3, s2⟩
      subst e2 e3
      rw [List.getElem?_map] at hx0
      cases hLi : L[i]? with
      | none => rw [hLi] at hx0; cases hx0
      | some sm =>
        rw [hLi] at hx0
        cases hx0
        have hmem := List.mem_of_getElem? hLi
        obtain ⟨r2, tag, vs, esr, et, hform⟩ := sm_formF (bm sm hmem) (om sm hmem)
        have hsn := nmm sm hmem
        obtain ⟨Ap, hAp⟩ : ∃ z, allL (L.take i) = z := ⟨_, rfl⟩
        have hT := allL_take hLi
        rw [hAp] at hT ⊢
        rw [hT]
        have ffm : fF rows (Ap ++ [sm]) k = orI (fF rows Ap k) (if sm.fit rows = true then none else some (k + (Ap.length : Int))) := by rw [ff_app, ff_one]
        have go : ∀ (D : Ends), (∀ (v5' v6' : Option V) (H' : Hp), Same H H' → D.nx [some (.ref l), some (.ref r), some (.int (k + ((Ap ++ [sm] ++ sm.all).length : Int))), some (optI (fF rows (Ap ++ [sm] ++ sm.all) k)), some sm.ref, v5', v6'] H') → ∀ (H3 : Hp), Same H H3 → ∀ o, o = fF rows (Ap ++ [sm]) k → uB D [some (.ref l), some (.ref r), some (.int (k + (Ap.length : Int))), some (optI o), some sm.ref, v5, v6] H3 := fun D hD H3 s3 o eo => by
          rw [eo]
          exact kB _ _ _ _ l sm xs rows k Ap H3 (s3 _ _ el) (Paired.mapP hx fun _ _ z => z.same s3) ho hl ((bm sm hmem).same s3) (om sm hmem) (by omega) fun v5' v6' H' s' => hD v5' v6' H' (s3.trans s')
        refine ⟨_, rfl, rfl, _, rfl, ?_⟩
        rw [optI_non]
        cases hN : (fF rows Ap k).isNone with
        | false =>
          refine go _ ?_ H2 s2 _ (by rw [ffm, or_some hN])
          exact fun v5' v6' H' s' => ⟨_, _, _, _, _, rfl, rfl, rfl, s'⟩
        | true =>
          refine ⟨_, rfl, _, rfl, l, sm, xs, rows, rfl, s2 _ _ el, Paired.mapP hx fun _ _ z => z.same s2, ho, hl, (bm sm hmem).same s2, om sm hmem, fun H3 s3 => ⟨_, rfl, ?_⟩⟩
          cases hfit : sm.fit rows with
          | true =>
            refine go _ ?_ H3 (s2.trans s3) _ (by rw [ffm, or_none hN, hfit, if_pos rfl]; cases hz : fF rows Ap k with | none => rfl | some z => rw [hz] at hN; cases hN)
            exact fun v5' v6' H' s' => ⟨_, _, _, _, _, rfl, rfl, rfl, s'⟩
          | false =>
            refine ⟨_, rfl, go _ ?_ H3 (s2.trans s3) (some (k + (Ap.length : Int))) (by rw [ffm, or_none hN, hfit]; rfl)⟩
            exact fun v5' v6' H' s' => ⟨_, _, _, _, _, rfl, rfl, rfl, s'⟩
    · rintro σ H2 ⟨v2, v3, v4, v5, v6, rfl, e2, e3, s2⟩
      subst e2 e3
      rw [List.length_map, List.take_of_length_le (Nat.le_refl _)]
      refine ⟨_, rfl, _, rfl, two, fun t ht => ?_⟩
      exact q t _ (s2.trans (Same.put ht)) (s2.free ht) upd_same
theorem ok_law_first {f f1 f2 : Addr} {fd d1 d2 : FuncData} (T : Bt mg) (z18 : Q10 K mg f1 d1) (z33 : Q17 K mg f2 d2) (z26 : Q16 K mg f fd) : ∀ n : Nat, FnOk P w K mg base CX0 (n + 11) f fd ["_law_told", "_law_body", "_law_number_here"] (sp_first n)
  | 0 => first_step T z18 z33 z26 (by omega) (.inl rfl) (z26.F.ok (k := 9) (sp := fun _ _ _ _ => False) z42 (fun _ _ _ _ h => h.elim) (fun _ _ _ _ _ _ _ _ _ h => h.elim))
  | n + 1 => first_step T z18 z33 z26 (by omega) (.inr ⟨n, rfl, rfl⟩) (ok_law_first T z18 z33 z26 n)
end
end K45

set_option Elab.async false
set_option linter.all false
set_option maxRecDepth 100000
set_option maxHeartbeats 4000000
namespace K45
open PySem L2
def psBd : List Pt → Bd
  | [] => .nil
  | p :: r => p.2.2.app (psBd r)
theorem psBd_all : ∀ ps : List Pt, (psBd ps).all = psAll ps
  | [] => by show Bd.nil.all = _; rw [Bd.all]; rfl
  | p :: r => by show (p.2.2.app (psBd r)).all = _; rw [app_allS, psBd_all r]; rfl
theorem psBd_take {ps : List Pt} : ∀ {i : Nat} {p : Pt}, ps[i]? = some p → (psBd (ps.take (i + 1))).refs = (psBd (ps.take i)).refs ++ p.2.2.refs := by
  intro i p h
  have key : ∀ A B : List Pt, (psBd (A ++ B)).refs = (psBd A).refs ++ (psBd B).refs := fun A B => by
    induction A with
    | nil => rfl
    | cons x A ih => show (x.2.2.app (psBd (A ++ B))).refs = (x.2.2.app (psBd A)).refs ++ _; rw [app_refs, app_refs, ih, List.append_assoc]
  rw [List.take_add_one, h, key]
  show _ ++ (p.2.2.app .nil).refs = _
  rw [app_refs]; show _ ++ (p.2.2.refs ++ []) = _; rw [List.append_nil]
theorem psBd_at {H : Hp} : ∀ {ps : List Pt}, (∀ p ∈ ps, BdAt H p.2.2) → BdAt H (psBd ps)
  | [], _ => trivial
  | p :: r, h => app_at (h p List.mem_cons_self) (psBd_at fun q hq => h q (List.mem_cons_of_mem _ hq))
theorem psBd_ok : ∀ {ps : List Pt}, (∀ p ∈ ps, BdOk p.2.2) → BdOk (psBd ps)
  | [], _ => trivial
  | p :: r, h => app_ok (h p List.mem_cons_self) (psBd_ok fun q hq => h q (List.mem_cons_of_mem _ hq))
theorem psBd_nest {m : Nat} : ∀ {ps : List Pt}, (∀ p ∈ ps, p.2.2.nest ≤ m) → (psBd ps).nest ≤ m
  | [], _ => by show Bd.nil.nest ≤ _; rw [Bd.nest]; exact Nat.zero_le _
  | p :: r, h => by
    show (p.2.2.app (psBd r)).nest ≤ m
    rw [app_nest]
    have := h p List.mem_cons_self
    have := psBd_nest (ps := r) fun q hq => h q (List.mem_cons_of_mem _ hq)
    omega
def sp_due : Sp := fun vs H Q _ => ∃ (T told pl ml : Addr) (vsV xs : List V) (rows : List VRow) (ps : List Pt) (main : Bd), vs = [.ref T] ∧ TreeAt H T told pl ml vsV xs rows ps main ∧ VarsOk rows ∧ rows.length ≤ 9 ∧ (∀ p ∈ ps, BdOk p.2.2) ∧ BdOk main ∧ (psBd ps).refs.length + main.refs.length ≤ 1000000 ∧
  ∀ H', Same H H' → Q (optI (fF rows (psAll ps ++ main.all) 0)) H'
section
variable {P : Program} {w : World} {K : PySem.W.Frag} {mg : Str → Option Value} {base : Heap}
theorem sc_law_due : FnScope ["_law_tree", "_law_body", "_law_name", "_law_inner"] ["_law_tree"] (defScope s_law_due) := ⟨rfl, rfl, rfl, by decide +kernel, rfl, by decide +kernel, by decide +kernel⟩
theorem ok_law_due {f f1 f2 f3 : Addr} {fd d1 d2 d3 : FuncData} (F : Fun K "_law_due" "_law_due" s_law_due f fd) (T : Bt mg) (z18 : Q10 K mg f1 d1) (z33 : Q17 K mg f2 d2) (z26 : Q16 K mg f3 d3) : FnOk P w K mg base CX0 20 f fd ["_law_tree"] sp_due := by
  have G_law_first := ok_law_first (P := P) (w := w) (base := base) T z18 z33 z26 8
  refine F.ok (k := 19) sc_law_due (fun vs H Q E h => ?_) (fun cdv A outer s H vs Q E hr h => ?_)
  · obtain ⟨T0, told, pl, ml, vsV, xs, rows, ps, main, rfl, _⟩ := h; rfl
  · obtain ⟨T0, told, pl, ml, vsV, xs, rows, ps, main, rfl, tr, ho, hl, po, mo, hsz, q⟩ := h
    have hs : sizeLine = 16777216 := sizeLine_eq
    have le : ∀ i, (psBd (ps.take i)).refs.length ≤ (psBd ps).refs.length := fun i => by
      have key : ∀ A B : List Pt, (psBd A).refs.length ≤ (psBd (A ++ B)).refs.length := fun A B => by
        induction A with
        | nil => exact Nat.zero_le _
        | cons x A ih => show (x.2.2.app (psBd A)).refs.length ≤ (x.2.2.app (psBd (A ++ B))).refs.length; rw [app_refs, app_refs, List.length_append, List.length_append]; omega
      have := key (ps.take i) (ps.drop i)
      rwa [List.take_append_drop] at this
    refine ⟨_, (pss_cons (ps_set (i := 1) sc_law_due.nd rfl (Or.inl rfl) (pe_lst pa_nil))
      (pss_cons (ps_for PassesOwn.never rfl (pi_list (pe_ix ix_tup (pv 0) pe_int (fun _ _ => rfl))) (pg_tup rfl (pgs_cons (pg_name (i := 2) sc_law_due.nd rfl (Or.inl rfl)) (pgs_cons (pg_name (i := 3) sc_law_due.nd rfl (Or.inl rfl)) pgs_nil)))
        (pss_one (ps_set (i := 1) sc_law_due.nd rfl (Or.inl rfl) (pe_op op_cat (pv 1) (pv 3)))))
      (pss_one (ps_ret (pe_ix ix_tup (pe_call G_law_first (hr.mono (by decide)) rfl z26.m z26.F.kp z26.b .nil pass0 (pa_consN (pe_ix ix_tup (pv 0) pe_int (fun _ _ => rfl)) (pa_consN (pe_op op_cat (pv 1) (pe_ix ix_tup (pv 0) pe_int (fun _ _ => rfl))) (pa_consN pe_int pa_nil)))) pe_int (fun _ _ => rfl)))))), ?_⟩
    refine ⟨Nat.zero_le _, fun l hl0 => ?_⟩
    have y1 := Same.put (o := .lst []) hl0
    have el : upd H l (.lst []) l = some (.lst []) := upd_same
    generalize upd H l (.lst []) = H1 at y1 el ⊢
    refine ⟨_, rfl, T0, _, _, _, rfl, rfl, SqT.of (y1 _ _ tr.et), rfl, pl, rfl, ⟨_, SqL.of (y1 _ _ tr.epl)⟩, for_list (K := K) (a := pl) (xs := xs) (fun i σ H2 => ∃ (v2 v3 : Option V) (l : Addr), σ = [some (.ref T0), some (.ref l), v2, v3] ∧ Same H H2 ∧ H2 l = some (.lst (psBd (ps.take i)).refs)) ⟨_, _, l, rfl, y1, by rw [List.take_zero]; exact el⟩ ?_ ?_ ?_⟩
    · rintro i σ H2 _ ⟨v2, v3, l, rfl, s2, _⟩
      exact SqL.of (s2 _ _ tr.epl)
    · rintro i x σ H2 hx ⟨v2, v3, l, rfl, s2, e2⟩
      obtain ⟨p, hpi, q0, rfl, eq, ea, bp⟩ := paired_at tr.pp hx
      have hle := le (i + 1)
      rw [psBd_take hpi, List.length_append] at hle
      refine ⟨q0, _, rfl, SqT.of (s2 _ _ eq), rfl, _, _, rfl, _, _, rfl, rfl, ?_⟩
      refine ⟨_, rfl, _, rfl, l, p.2.1, _, _, rfl, rfl, e2, s2 _ _ ea, by omega, fun p1 hp1 => ?_⟩
      exact ⟨_, _, p1, rfl, s2.trans (Same.put hp1), by rw [upd_same, psBd_take hpi]⟩
    · rintro σ H2 ⟨v2, v3, l, rfl, s2, e2⟩
      rw [tr.pp.length, List.take_of_length_le (Nat.le_refl _)] at e2
      refine ⟨_, rfl, T0, _, _, _, rfl, rfl, SqT.of (s2 _ _ tr.et), rfl, _, rfl, _, rfl, T0, _, _, _, rfl, rfl, SqT.of (s2 _ _ tr.et), rfl, l, ml, _, _, rfl, rfl, e2, s2 _ _ tr.eml, by omega, fun p hp => ?_⟩
      have y3 := Same.put (o := .lst ((psBd ps).refs ++ main.refs)) hp
      have s3 := s2.trans y3
      have pat : ∀ p ∈ ps, BdAt H p.2.2 := fun p hp => by
        obtain ⟨j, hj⟩ := List.getElem?_of_mem hp
        have hjl : j < xs.length := by rw [tr.pp.length]; exact (List.getElem?_eq_some_iff.mp hj).1
        obtain ⟨p', hp', q0, _, _, _, bp⟩ := paired_at tr.pp (List.getElem?_eq_getElem hjl)
        rw [hj] at hp'; cases hp'; exact bp
      have bA : BdAt H ((psBd ps).app main) := app_at (psBd_at pat) tr.bm
      refine ⟨told, p, (psBd ps).app main, vsV, rows, 0, rfl, s3 _ _ tr.etl, Paired.mapP tr.pv fun _ _ z => z.same s3, ho, hl, by rw [upd_same, app_refs], bA.same s3, app_ok (psBd_ok po) mo, ?_, fun t H4 s4 ht et => ?_⟩
      · rw [app_nest]
        have := psBd_nest tr.np
        have := tr.nm
        omega
      · rw [app_allS, psBd_all] at et
        exact ⟨t, _, _, _, rfl, rfl, SqT.of et, rfl, q H4 (s3.trans s4)⟩
end
end K45

set_option Elab.async false
set_option linter.all false
set_option maxRecDepth 100000
set_option maxHeartbeats 4000000
namespace K45
open PySem L2
theorem dom_free {H H' : Hp} {a : Addr} (k : Kl a H H') (h : H' a ≠ none) {x : Addr} (e : H' x = none) : H x = none := by
  cases z : H x with
  | none => rfl
  | some o =>
    by_cases hx : x = a
    · exact absurd (hx ▸ e) h
    · rw [k _ _ z hx] at e; cases e
section
variable {P : Program} {w : World} {K : PySem.W.Frag} {mg : Str → Option Value} {base : Heap}
theorem FnOk.any2 {CX : CXT} {k : Nat} {f : Addr} {fd : FuncData} {ps : List Str} {sp : Nat → Sp} (F : ∀ n, n ≤ 2 → FnOk P w K mg base CX k f fd ps (sp n)) : FnOk P w K mg base CX k f fd ps (fun vs H Q E => ∃ n, n ≤ 2 ∧ sp n vs H Q E) where
  len := fun vs H Q E ⟨n, hn, h⟩ => (F n hn).len vs H Q E h
  run := fun A outer s H args us vs Q E hr hb hi hv ⟨n, hn, h⟩ => (F n hn).run A outer s H args us vs Q E hr hb hi hv h
theorem sc_law_odd : FnScope ["_law_tap_here", "_law_told", "_law_names", "_law_name", "_law_way"] ["_law_tap_here", "_law_told"] (defScope s_law_odd) := ⟨rfl, rfl, rfl, by decide +kernel, rfl, by decide +kernel, by decide +kernel⟩
theorem odd_B {f f1 f2 f3 f4 f5 f6 f7 : Addr} {fd d1 d2 d3 d4 d5 d6 d7 : FuncData} (T : Bt mg) (z10 : Q0 K mg f1 d1) (z0 : Q1 K mg f2 d2) (z11 : Q2 K mg f3 d3) (z15 : Q5 K mg f4 d4) (z13 : Q6 K mg f5 d5) (z14 : Q7 K mg f6 d6) (z17 : Q3 K mg f7 d7)
    {cdv : Value} {A : Around} {outer : List Env} {s : Shared} {H0 : Hp} {E : XK} (hr : Room 7 (A.deeper (PyProof.Rows.envOfC "_law_odd" (defScope s_law_odd) s.heap.objs.size f cdv))) :
    ∃ u, PSs (cxOf CX0 P w K mg base ["_law_tap_here", "_law_told", "_law_names", "_law_name", "_law_way"] "_law_odd" (defScope s_law_odd) f cdv A outer s H0 E).nox ((defBody s_law_odd).drop 3) u ∧
      ∀ (D : Ends) (a l nl : Addr) (x : Str) (xs : List V) (rows : List VRow) (names : List Str) (t : Tp) (wy : Int) (H : Hp), TapIs H a t → t.c + 50 ≤ cMax → H l = some (.lst xs) → Paired (VarAt H) xs rows → VarsOk rows → (rows.map (·.2.1)).Nodup → rows.length ≤ 9 → a ≠ l → H nl = some (.lst (names.map V.str)) → 0 < names.length → names.length ≤ 9 → (∀ z ∈ names, PyData.strOk z = true) → a ≠ nl → PyData.strOk x = true → 0 ≤ wy → wy < 6 →
        (∀ (sm : Sm) (H' : Hp) (t' : Tp), Kl a H H' → TapIs H' a t' → t'.c ≤ t.c + 45 → SmAt H' sm → SmNew H sm → SmOk sm → sm.nest ≤ 1 → D.rt sm.ref H') →
        u D [some (.ref a), some (.ref l), some (.ref nl), some (.str x), some (.int wy)] H := by
  have z46 : FnOk P w K mg base CX0 6 _ _ ["_law_tap_here", "_law_names", "_law_deep"] (fun vs H Q E => ∃ k, k ≤ 2 ∧ sp_expr k vs H Q E) := FnOk.any2 (sp := sp_expr) fun k hk => (ok_law_expr (P := P) (w := w) (base := base) T z10 z0 z11 z17 k).mono (by omega)
  have z39 : FnOk P w K mg base CX0 5 _ _ ["_law_tap_here", "_law_told", "_law_deep"] (sp_num 1) := ok_law_num (P := P) (w := w) (base := base) T z10 z0 z11 z15 z13 1
  have z51 : FnOk P w K mg base CX0 6 _ _ ["_law_tap_here", "_law_told", "_law_deep"] (sp_flag 2) := ok_law_flag (P := P) (w := w) (base := base) T z10 z0 z11 z15 z13 z14 2
  refine ⟨_, (pss_cons (ps_if (pt_cmpR op_eq (pv 4) pe_int (nomark _))
        (pss_one (ps_ret (pe_tup (pa_consN pe_str (pa_consN (pe_call z51 (hr.mono (by decide)) rfl z14.m z14.F.kp z14.b .nil pass0 (pa_consN (pv 0) (pa_consN (pv 1) (pa_consN pe_int pa_nil)))) pa_nil)))))
        pss_nil)
      (pss_cons (ps_if (pt_cmpR op_eq (pv 4) pe_int (nomark _))
        (pss_one (ps_ret (pe_tup (pa_consN pe_str (pa_consN (pv 3) (pa_consN (pe_call z46 (hr.mono (by decide)) rfl z17.m z17.F.kp z17.b .nil pass0 (pa_consN (pv 0) (pa_consN (pv 2) (pa_consN pe_int pa_nil)))) pa_nil))))))
        pss_nil)
      (pss_cons (ps_if (pt_cmpR op_eq (pv 4) pe_int (nomark _))
        (pss_one (ps_ret (pe_tup (pa_consN pe_str (pa_consN (pv 3) (pa_consN (pe_call z46 (hr.mono (by decide)) rfl z17.m z17.F.kp z17.b .nil pass0 (pa_consN (pv 0) (pa_consN (pv 2) (pa_consN pe_int pa_nil)))) (pa_consN (pe_call z46 (hr.mono (by decide)) rfl z17.m z17.F.kp z17.b .nil pass0 (pa_consN (pv 0) (pa_consN (pv 2) (pa_consN pe_int pa_nil)))) pa_nil)))))))
        pss_nil)
      (pss_cons (ps_if (pt_cmpR op_eq (pv 4) pe_int (nomark _))
        (pss_one (ps_ret (pe_tup (pa_consN pe_str (pa_consN (pv 3) pa_nil)))))
        pss_nil)
      (pss_cons (ps_if (pt_cmpR op_eq (pv 4) pe_int (nomark _))
        (pss_one (ps_ret (pe_tup (pa_consN pe_str (pa_consN (pe_call z46 (hr.mono (by decide)) rfl z17.m z17.F.kp z17.b .nil pass0 (pa_consN (pv 0) (pa_consN (pv 2) (pa_consN pe_int pa_nil)))) (pa_consN (pe_lst pa_nil) (pa_consN (pe_lst (pa_consN (pe_tup (pa_consN pe_str pa_nil)) pa_nil)) pa_nil)))))))
        pss_nil)
      (pss_one (ps_ret (pe_tup (pa_consN pe_str (pa_consN (pe_call z39 (hr.mono (by decide)) rfl z13.m z13.F.kp z13.b .nil pass0 (pa_consN (pv 0) (pa_consN (pv 1) (pa_consN pe_int pa_nil)))) (pa_consN (pe_lst pa_nil) pa_nil))))))))))), ?_⟩
  intro D a l nl x xs rows names t wy H ta hc el hx ho ap hl hal en n0 n9 nok han ox w0 w6 q
  have hs : sizeLine = 16777216 := sizeLine_eq
  have cm : cMax = 90000000000000 := rfl
  have b2 : bd 2 = 20 := rfl
  have b1 : bd 1 = 10 := rfl
  have go : ∀ {wz : Int}, ¬ wy = wz → ¬ V.int wy = V.int wz := fun h z => h (V.int.inj z)
  by_cases h0 : wy = 0
  · refine ⟨_, rfl, rfl, _, rfl, itDP (congrArg V.int h0) ?_⟩
    refine ⟨_, rfl, _, rfl, a, l, xs, rows, t, rfl, ta, by omega, el, hx, ho, hl, hal, fun v H1 k1 t1 he => ⟨(by show 2 ≤ sizeLine; omega), fun p hp => ?_⟩⟩
    have c1 := flag_c rows 2 t
    exact q (.leaf p (.tell _)) _ _ (k1.trans (Kl.of (Same.put hp))) (t1.same (Same.put hp)) (by omega) ⟨v, upd_same, he.same (Same.put hp)⟩ trivial (flag_kind ho ap 2 t).2 (Nat.zero_le _)
  refine ⟨_, rfl, rfl, _, rfl, itDN (go h0) ?_⟩
  by_cases h1 : wy = 1
  · refine ⟨_, rfl, rfl, _, rfl, itDP (congrArg V.int h1) ?_⟩
    refine ⟨_, rfl, _, rfl, _, rfl, 2, by decide, a, nl, names, t, rfl, ta, by omega, en, n0, by omega, nok, han, fun v H1 k1 t1 he => ⟨(by show 3 ≤ sizeLine; omega), fun p hp => ?_⟩⟩
    have c1 := expr_c names 2 t
    exact q (.leaf p (.set x _)) _ _ (k1.trans (Kl.of (Same.put hp))) (t1.same (Same.put hp)) (by omega) ⟨v, upd_same, he.same (Same.put hp)⟩ trivial ⟨ox, expr_ok n0 (by omega) nok 2 t⟩ (Nat.zero_le _)
  refine ⟨_, rfl, rfl, _, rfl, itDN (go h1) ?_⟩
  by_cases h2 : wy = 2
  · refine ⟨_, rfl, rfl, _, rfl, itDP (congrArg V.int h2) ?_⟩
    refine ⟨_, rfl, _, rfl, _, rfl, 1, by decide, a, nl, names, t, rfl, ta, by omega, en, n0, by omega, nok, han, fun v H1 k1 t1 he => ?_⟩
    have c1 := expr_c names 1 t
    refine ⟨_, rfl, _, rfl, 1, by decide, a, nl, names, _, rfl, t1, by omega, k1 _ _ en han.symm, n0, by omega, nok, han, fun v' H2 k2 t2 he' => ⟨(by show 4 ≤ sizeLine; omega), fun p hp => ?_⟩⟩
    have c2 := expr_c names 1 (exprM names 1 t).2
    exact q (.leaf p (.put x _ _)) _ _ ((k1.trans k2).trans (Kl.of (Same.put hp))) (t2.same (Same.put hp)) (by omega) ⟨v, v', upd_same, (he.kl t1 k2).same (Same.put hp), he'.same (Same.put hp)⟩ trivial ⟨ox, (expr_ok n0 (by omega) nok 1 t).le (by omega), (expr_ok n0 (by omega) nok 1 _).le (by omega)⟩ (Nat.zero_le _)
  refine ⟨_, rfl, rfl, _, rfl, itDN (go h2) ?_⟩
  by_cases h3 : wy = 3
  · refine ⟨_, rfl, rfl, _, rfl, itDP (congrArg V.int h3) ⟨_, rfl, (by show 2 ≤ sizeLine; omega), fun p hp => ?_⟩⟩
    exact q (.leaf p (.ask x)) _ _ (Kl.of (Same.put hp)) (ta.same (Same.put hp)) (by omega) upd_same trivial ox (Nat.zero_le _)
  refine ⟨_, rfl, rfl, _, rfl, itDN (go h3) ?_⟩
  by_cases h4 : wy = 4
  · refine ⟨_, rfl, rfl, _, rfl, itDP (congrArg V.int h4) ?_⟩
    refine ⟨_, rfl, _, rfl, 2, by decide, a, nl, names, t, rfl, ta, by omega, en, n0, by omega, nok, han, fun v H1 k1 t1 he => ?_⟩
    have c1 := expr_c names 2 t
    refine ⟨Nat.zero_le _, fun r1 hr1 => ⟨(by show 1 ≤ sizeLine; omega), fun ps hps => ⟨(by show 1 ≤ sizeLine; omega), fun r2 hr2 => ⟨(by show 4 ≤ sizeLine; omega), fun p hp => ?_⟩⟩⟩⟩
    have y1 := Same.put (o := .lst []) hr1
    have e1 : upd H1 r1 (.lst []) r1 = some (.lst []) := upd_same
    generalize upd H1 r1 (.lst []) = H2 at y1 e1 hps hr2 hp ⊢
    have y2 := Same.put (o := .tup [V.str "stop"]) hps
    have e2 : upd H2 ps (.tup [V.str "stop"]) ps = some (.tup [V.str "stop"]) := upd_same
    generalize upd H2 ps (.tup [V.str "stop"]) = H3 at y2 e2 hr2 hp ⊢
    have y3 := Same.put (o := .lst [V.ref ps]) hr2
    have e3 : upd H3 r2 (.lst [V.ref ps]) r2 = some (.lst [V.ref ps]) := upd_same
    generalize upd H3 r2 (.lst [V.ref ps]) = H4 at y3 e3 hp ⊢
    have y4 := Same.put (o := .tup [V.str "if", v, V.ref r1, V.ref r2]) hp
    have t1n : H1 a ≠ none := by rw [t1]; simp
    have s14 := y1.trans (y2.trans (y3.trans y4))
    refine q (.iff p _ r1 .nil r2 (.cons (.leaf ps .stop) .nil)) _ _ (k1.trans (Kl.of s14)) (t1.same s14) (by omega) ⟨v, upd_same, he.same s14, (y2.trans (y3.trans y4)) _ _ e1, trivial, y4 _ _ e3, ⟨(y3.trans y4) _ _ e2, trivial⟩, Nat.zero_le _, (by show 1 ≤ 10; decide)⟩ ⟨dom_free k1 t1n hr1, trivial, dom_free k1 t1n ((y1.trans y2).free hr2), trivial, trivial⟩ ⟨expr_ok n0 (by omega) nok 2 t, trivial, trivial, trivial⟩ ?_
    rw [Sm.nest, Bd.nest, Bd.nest, Sm.nest, Bd.nest]; decide
  refine ⟨_, rfl, rfl, _, rfl, itDN (go h4) ?_⟩
  refine ⟨_, rfl, _, rfl, a, l, xs, rows, t, rfl, ta, by omega, el, hx, ho, hl, hal, fun v H1 k1 t1 he => ?_⟩
  have c1 := num_c rows 1 t
  refine ⟨Nat.zero_le _, fun r1 hr1 => ⟨(by show 3 ≤ sizeLine; omega), fun p hp => ?_⟩⟩
  have y1 := Same.put (o := .lst []) hr1
  have e1 : upd H1 r1 (.lst []) r1 = some (.lst []) := upd_same
  generalize upd H1 r1 (.lst []) = H2 at y1 e1 hp ⊢
  have y2 := Same.put (o := .tup [V.str "while", v, V.ref r1]) hp
  have t1n : H1 a ≠ none := by rw [t1]; simp
  have s12 := y1.trans y2
  refine q (.wh p _ r1 .nil) _ _ (k1.trans (Kl.of s12)) (t1.same s12) (by omega) ⟨v, upd_same, he.same s12, y2 _ _ e1, trivial, Nat.zero_le _⟩ ⟨dom_free k1 t1n hr1, trivial⟩ ⟨(num_kind ho ap 1 t).2.le (by omega), trivial⟩ ?_
  rw [Sm.nest, Bd.nest]; decide
end
end K45

set_option Elab.async false
set_option linter.all false
set_option maxRecDepth 100000
set_option maxHeartbeats 4000000
namespace K45
open PySem L2
def sp_odd : Sp := fun vs H Q _ => ∃ (a l : Addr) (xs : List V) (rows : List VRow) (t : Tp), vs = [.ref a, .ref l] ∧ TapIs H a t ∧ t.c + 60 ≤ cMax ∧ H l = some (.lst xs) ∧ Paired (VarAt H) xs rows ∧ VarsOk rows ∧ (rows.map (·.2.1)).Nodup ∧ 0 < rows.length ∧ rows.length ≤ 9 ∧ a ≠ l ∧
  ∀ (sm : Sm) (H' : Hp) (t' : Tp), Kl a H H' → TapIs H' a t' → t'.c ≤ t.c + 47 → SmAt H' sm → SmNew H sm → SmOk sm → sm.nest ≤ 1 → Q sm.ref H'
theorem names_ok {rows : List VRow} (ho : VarsOk rows) : ∀ x ∈ rows.map (·.2.1), PyData.strOk x = true := fun x hx => by
  obtain ⟨p, hp, rfl⟩ := List.mem_map.mp hx
  exact (ho p hp).2
theorem names_take {rows : List VRow} {j : Nat} {p : VRow} (h : rows[j]? = some p) : (rows.take (j + 1)).map (fun p => V.str p.2.1) = (rows.take j).map (fun p => V.str p.2.1) ++ [V.str p.2.1] := by
  rw [List.take_add_one, h, List.map_append]; rfl
section
variable {P : Program} {w : World} {K : PySem.W.Frag} {mg : Str → Option Value} {base : Heap}
theorem ok_law_odd {f f1 f2 f3 f4 f5 f6 f7 : Addr} {fd d1 d2 d3 d4 d5 d6 d7 : FuncData} (F : Fun K "_law_odd" "_law_odd" s_law_odd f fd) (T : Bt mg) (z10 : Q0 K mg f1 d1) (z0 : Q1 K mg f2 d2) (z11 : Q2 K mg f3 d3) (z15 : Q5 K mg f4 d4) (z13 : Q6 K mg f5 d5) (z14 : Q7 K mg f6 d6) (z17 : Q3 K mg f7 d7) : FnOk P w K mg base CX0 8 f fd ["_law_tap_here", "_law_told"] sp_odd := by
  have z19 := ok_law_next (P := P) (w := w) (mg := mg) (base := base) z0.F z10
  refine F.ok (k := 7) sc_law_odd (fun vs H Q E h => ?_) (fun cdv A outer s H vs Q E hr h => ?_)
  · obtain ⟨a, l, xs, rows, t, rfl, _⟩ := h; rfl
  · obtain ⟨a, l, xs, rows, t, rfl, ta, hc, el, hx, ho, ap, r0, hl, hal, q⟩ := h
    have hs : sizeLine = 16777216 := sizeLine_eq
    have cm : cMax = 90000000000000 := rfl
    have lx : xs.length = rows.length := hx.length
    obtain ⟨uB, hB, kB⟩ := odd_B (P := P) (w := w) (base := base) (f := f) (fd := fd) (cdv := cdv) (outer := outer) (H0 := H) (E := E) T z10 z0 z11 z15 z13 z14 z17 hr
    refine ⟨_, (pss_cons (ps_setComp (i := 2) rfl (blk_of (sc0 := defScope s_law_odd) (N0 := ["_law_tap_here", "_law_told", "_law_names", "_law_name", "_law_way"]) (N' := ["_law_kind_here", "_law_name", "_law_size"]) (own := 3) (fv := []) (by decide +kernel) rfl rfl) sc_law_odd.nd rfl (Or.inl rfl) (pi_list (pv 1)) (fun _ _ _ _ => (pg_tupK (K := K) (n := 3) rfl (pgs_cons (pg_name (i := 0) (by show List.Nodup (["_law_kind_here", "_law_name", "_law_size"] : List Str); decide +kernel) rfl (Or.inl rfl)) (pgs_cons (pg_name (i := 1) (by show List.Nodup (["_law_kind_here", "_law_name", "_law_size"] : List Str); decide +kernel) rfl (Or.inl rfl)) (pgs_cons (pg_name (i := 2) (by show List.Nodup (["_law_kind_here", "_law_name", "_law_size"] : List Str); decide +kernel) rfl (Or.inl rfl)) pgs_nil))))) (fun _ _ _ _ => (pv 1)))
      (pss_cons (ps_set (i := 3) sc_law_odd.nd rfl (Or.inl rfl) (pe_ix ix_list (pv 2) (pe_call z19 (hr.mono (by decide)) rfl z0.m z0.F.kp z0.b .nil pass0 (pa_consN (pv 0) (pa_consN (pe_callB call_len_seq rfl T.b_len (by decide +kernel) (pa_consN (pv 2) pa_nil)) pa_nil))) (fun _ _ => rfl)))
      (pss_cons (ps_set (i := 4) sc_law_odd.nd rfl (Or.inl rfl) (pe_call z19 (hr.mono (by decide)) rfl z0.m z0.F.kp z0.b .nil pass0 (pa_consN (pv 0) (pa_consN pe_int pa_nil))))
      hB))), ?_⟩
    refine ⟨_, rfl, l, rfl, ⟨_, SqL.of el⟩, comp_tup3 (K := K) (a := l) (xs := xs) (fvals := []) (fun acc j H5 => H acc = none ∧ Same H H5 ∧ H5 acc = some (.lst ((rows.take j).map fun p => V.str p.2.1))) ?_ ?_ ?_ ?_ ?_⟩
    · rintro acc j H5 ⟨_, s5, _⟩
      exact SqL.of (s5 _ _ el)
    · intro acc hacc
      exact ⟨hacc, Same.put hacc, upd_same⟩
    · rintro acc j x H5 hx0 ⟨_, s5, _⟩
      obtain ⟨p, _, T0, rfl, eT⟩ := paired_at hx hx0
      exact ⟨T0, _, _, _, rfl, s5 _ _ eT⟩
    · rintro acc j T0 x1 x2 x3 H5 R hx0 eT ⟨hacc, s5, ea⟩ hR
      obtain ⟨p, hp, T1, e, e1⟩ := paired_at hx hx0
      cases e
      have := s5 _ _ e1
      rw [eT] at this
      cases this
      refine ⟨_, rfl, hR _ _ ⟨_, ea, by rw [List.length_map, List.length_take]; omega, hacc, Kl.same s5 hacc Kl.one, ?_⟩⟩
      rw [upd_same, names_take hp]
    · rintro nl H5 hnl ⟨_, y5, en⟩
      rw [lx, List.take_of_length_le (Nat.le_refl _)] at en
      have en : H5 nl = some (.lst ((rows.map (·.2.1)).map V.str)) := by rw [en, List.map_map]; rfl
      obtain ⟨names, hnm⟩ : ∃ z, rows.map (·.2.1) = z := ⟨_, rfl⟩
      have nok := names_ok ho
      have nlen : names.length = rows.length := by rw [← hnm, List.length_map]
      rw [hnm] at en nok
      have nla : a ≠ nl := fun z => by rw [← z, ta] at hnl; cases hnl
      have hlen : (((names.map V.str).length : Nat) : Int) = (names.length : Int) := by rw [List.length_map]
      refine ⟨_, rfl, _, rfl, _, rfl, nl, _, rfl, .inl (SqL.of en), ?_⟩
      rw [hlen]
      have b1 := next_bd t (size := names.length) (by omega)
      have c1 := next_c t names.length
      refine ⟨a, t, _, rfl, ta.same y5, by omega, by omega, by omega, fun H6 k6 t6 => ?_⟩
      obtain ⟨hmem, exn⟩ := str_ix (ss := names) b1.1 b1.2
      refine ⟨nl, _, _, _, rfl, rfl, SqL.of (k6 _ _ en nla.symm), exn, ?_⟩
      have b2 := next_bd (nextM t names.length).2 (size := 6) (by decide)
      have c2 := next_c (nextM t names.length).2 6
      refine ⟨_, rfl, a, _, 6, rfl, t6, by omega, by decide, by decide, fun H7 k7 t7 => ?_⟩
      have k07 := (Kl.of (l := a) y5).trans (k6.trans k7)
      have t7n : H7 a ≠ none := by rw [t7]; simp
      refine kB _ a l nl _ xs rows names _ _ H7 t7 (by omega) (k07 _ _ el hal.symm) (Paired.mapP hx fun _ _ z => z.keep (Kl.tup ta k07)) ho ap hl hal (k7 _ _ (k6 _ _ en nla.symm) nla.symm) (by omega) (by omega) nok nla (nok _ hmem) b2.1 b2.2 fun sm H' t' k' tt hc' sa sn so nn => ?_
      exact q sm H' t' (k07.trans k') tt (by omega) sa (sn.mono fun z hz => dom_free k07 t7n hz) so nn
end
end K45

set_option Elab.async false
set_option linter.all false
set_option maxRecDepth 100000
set_option maxHeartbeats 4000000
namespace K45
open PySem L2
def nameAt (names : List Str) (t : Tp) : Str := names.getD (nextM t names.length).1.toNat ""
def fiB (rec : Tp → List PyData × Tp) (rows : List VRow) (parts : List Str) (wy : Int) (t : Tp) : PyData × Tp :=
  if wy = 1 ∧ (rowsK rows "num").isEmpty = false then ((Lf.set (pickR (rowsK rows "num") t) (numX rows 2 (nextM t (rowsK rows "num").length).2).1).dat, (numX rows 2 (nextM t (rowsK rows "num").length).2).2)
  else if wy = 7 ∧ (rowsK rows "flag").isEmpty = false then ((Lf.set (pickR (rowsK rows "flag") t) (flagX rows 2 (nextM t (rowsK rows "flag").length).2).1).dat, (flagX rows 2 (nextM t (rowsK rows "flag").length).2).2)
  else if wy = 2 ∧ (rowsK rows "list").isEmpty = false then ((Lf.put (pickR (rowsK rows "list") t) (numX rows 1 (nextM t (rowsK rows "list").length).2).1 (numX rows 2 (numX rows 1 (nextM t (rowsK rows "list").length).2).2).1).dat, (numX rows 2 (numX rows 1 (nextM t (rowsK rows "list").length).2).2).2)
  else if wy = 3 ∧ (rowsK rows "num").isEmpty = false then ((Lf.ask (pickR (rowsK rows "num") t)).dat, (nextM t (rowsK rows "num").length).2)
  else if wy = 4 ∧ parts ≠ [] then ((Lf.does (nameAt parts t)).dat, (nextM t parts.length).2)
  else if wy = 5 then (.tuple [.str "if", exD (flagX rows 2 t).1, .list (rec (flagX rows 2 t).2).1, .list (rec (rec (flagX rows 2 t).2).2).1], (rec (rec (flagX rows 2 t).2).2).2)
  else if wy = 6 then (.tuple [.str "while", exD (flagX rows 2 t).1, .list (rec (flagX rows 2 t).2).1], (rec (flagX rows 2 t).2).2)
  else if wy = 8 then (if (nextM t 2).1 = 0 then Lf.stop.dat else Lf.way.dat, (nextM t 2).2)
  else ((Lf.tell (numX rows 2 t).1).dat, (numX rows 2 t).2)
def wayM (z : Bool) (t : Tp) : Int := if (z = true ∨ 60 < (nextM t 9).2.c) ∧ 4 < (nextM t 9).1 ∧ (nextM t 9).1 < 7 then (nextM t 9).1 - 5 else (nextM t 9).1
def stM (rec : Tp → List PyData × Tp) (z : Bool) (rows : List VRow) (parts : List Str) (t : Tp) : PyData × Tp := fiB rec rows parts (wayM z t) (nextM t 9).2
def bodF (stm : Tp → PyData × Tp) (s : List PyData × Tp) : Nat → List PyData × Tp
  | 0 => s
  | k + 1 => if (bodF stm s k).2.c < 70 then ((bodF stm s k).1 ++ [(stm (bodF stm s k).2).1], (stm (bodF stm s k).2).2) else bodF stm s k
def bodB (stm : Tp → PyData × Tp) (t : Tp) : List PyData × Tp := bodF stm ([], (nextM t 4).2) (nextM t 4).1.toNat
def bodM (rows : List VRow) (parts : List Str) : Nat → Tp → List PyData × Tp
  | 0 => bodB (stM (fun t => ([], t)) true rows parts)
  | n + 1 => bodB (stM (bodM rows parts n) false rows parts)
def recM (rows : List VRow) (parts : List Str) : Nat → Tp → List PyData × Tp
  | 0 => fun t => ([], t)
  | n + 1 => bodM rows parts n
def stmM (rows : List VRow) (parts : List Str) (n : Nat) : Tp → PyData × Tp := stM (recM rows parts n) (decide (n = 0)) rows parts
theorem bod_eq (rows : List VRow) (parts : List Str) (n : Nat) (t : Tp) : bodM rows parts n t = bodB (stmM rows parts n) t := by
  cases n <;> rfl
def Bb : Nat → Nat
  | 0 => 97
  | n + 1 => 97 + 6 * Bb n
theorem fiB_c {rec : Tp → List PyData × Tp} {rows : List VRow} {parts : List Str} {b : Nat} (hr : ∀ t, (rec t).2.c ≤ t.c + b) (wy : Int) (t : Tp) : (fiB rec rows parts wy t).2.c ≤ t.c + 31 + 2 * b := by
  have b2 : bd 2 = 20 := rfl
  have b1 : bd 1 = 10 := rfl
  have n2 := num_c rows 2
  have n1 := num_c rows 1
  have f2 := flag_c rows 2
  have cA := next_c t (rowsK rows "num").length
  have cB := next_c t (rowsK rows "flag").length
  have cC := next_c t (rowsK rows "list").length
  have cP := next_c t parts.length
  have c2 := next_c t 2
  have a1 := n2 (nextM t (rowsK rows "num").length).2
  have a2 := f2 (nextM t (rowsK rows "flag").length).2
  have a3 := n1 (nextM t (rowsK rows "list").length).2
  have a4 := n2 (numX rows 1 (nextM t (rowsK rows "list").length).2).2
  have a5 := f2 t
  have a6 := n2 t
  have r1 := hr (flagX rows 2 t).2
  have r2 := hr (rec (flagX rows 2 t).2).2
  unfold fiB
  split
  · show (numX rows 2 _).2.c ≤ _; omega
  split
  · show (flagX rows 2 _).2.c ≤ _; omega
  split
  · show (numX rows 2 _).2.c ≤ _; omega
  split
  · show (nextM _ _).2.c ≤ _; omega
  split
  · show (nextM _ _).2.c ≤ _; omega
  split
  · show (rec _).2.c ≤ _; omega
  split
  · show (rec _).2.c ≤ _; omega
  split
  · show (nextM _ _).2.c ≤ _; omega
  · show (numX rows 2 _).2.c ≤ _; omega
theorem bodF_c {stm : Tp → PyData × Tp} {b : Nat} (h : ∀ t, (stm t).2.c ≤ t.c + b) (s : List PyData × Tp) : ∀ k, (bodF stm s k).2.c ≤ s.2.c + k * b
  | 0 => by show s.2.c ≤ _; omega
  | k + 1 => by
    have ih := bodF_c h s k
    have h1 := h (bodF stm s k).2
    rw [Nat.succ_mul]
    show (if _ then _ else _ : List PyData × Tp).2.c ≤ _
    split
    · show (stm _).2.c ≤ _; omega
    · omega
theorem bodB_c {stm : Tp → PyData × Tp} {b : Nat} (h : ∀ t, (stm t).2.c ≤ t.c + b) (t : Tp) : (bodB stm t).2.c ≤ t.c + 1 + 3 * b := by
  have := bodF_c h ([], (nextM t 4).2) (nextM t 4).1.toNat
  have bn := next_bd t (size := 4) (by decide)
  have cn := next_c t 4
  unfold bodB
  have k3 : (nextM t 4).1.toNat * b ≤ 3 * b := Nat.mul_le_mul_right _ (by omega)
  have this : _ ≤ (nextM t 4).2.c + _ := this
  omega
theorem bod_c (rows : List VRow) (parts : List Str) : ∀ (n : Nat) (t : Tp), (bodM rows parts n t).2.c ≤ t.c + Bb n
  | 0, t => by
    have := bodB_c (stm := stM (fun t => ([], t)) true rows parts) (b := 32) (fun t => by
      have := fiB_c (rec := fun t => ([], t)) (rows := rows) (parts := parts) (b := 0) (fun t => Nat.le_refl _) (wayM true t) (nextM t 9).2
      have cn := next_c t 9
      show (fiB _ _ _ _ _).2.c ≤ _
      omega) t
    show (bodB _ t).2.c ≤ t.c + 97
    omega
  | n + 1, t => by
    have := bodB_c (stm := stM (bodM rows parts n) false rows parts) (b := 32 + 2 * Bb n) (fun t => by
      have := fiB_c (rec := bodM rows parts n) (rows := rows) (parts := parts) (b := Bb n) (bod_c rows parts n) (wayM false t) (nextM t 9).2
      have cn := next_c t 9
      show (fiB _ _ _ _ _).2.c ≤ _
      omega) t
    show (bodB _ t).2.c ≤ t.c + (97 + 6 * Bb n)
    omega
theorem stm_c (rows : List VRow) (parts : List Str) (n : Nat) (t : Tp) : (stmM rows parts n t).2.c ≤ t.c + 32 + 2 * Bb n := by
  have key : ∀ b, (∀ t, (recM rows parts n t).2.c ≤ t.c + b) → b ≤ Bb n → (stmM rows parts n t).2.c ≤ t.c + 32 + 2 * Bb n := fun b h hb => by
    have := fiB_c (rows := rows) (parts := parts) h (wayM (decide (n = 0)) t) (nextM t 9).2
    have cn := next_c t 9
    show (fiB _ _ _ _ _).2.c ≤ _
    omega
  cases n with
  | zero => exact key 0 (fun t => Nat.le_refl _) (Nat.zero_le _)
  | succ m => exact key (Bb m) (bod_c rows parts m) (by show Bb m ≤ 97 + 6 * Bb m; omega)
end K45

set_option Elab.async false
set_option linter.all false
set_option maxRecDepth 100000
set_option maxHeartbeats 4000000
namespace K45
open PySem L2
structure Wr (H : Hp) (a l pl : Addr) (xs : List V) (rows : List VRow) (parts : List Str) : Prop where
  el : H l = some (.lst xs)
  hx : Paired (VarAt H) xs rows
  ep : H pl = some (.lst (parts.map V.str))
  ho : VarsOk rows
  ap : (rows.map (·.2.1)).Nodup
  l9 : rows.length ≤ 9
  p1 : parts.length ≤ 1000
  okp : ∀ x ∈ parts, PyData.strOk x = true
  la : a ≠ l
  pa : a ≠ pl
theorem Wr.kl {H H' : Hp} {a l pl : Addr} {xs : List V} {rows : List VRow} {parts : List Str} {t : Tp} (h : Wr H a l pl xs rows parts) (ta : TapIs H a t) (k : Kl a H H') : Wr H' a l pl xs rows parts :=
  ⟨k _ _ h.el h.la.symm, Paired.mapP h.hx fun _ _ z => z.keep (Kl.tup ta k), k _ _ h.ep h.pa.symm, h.ho, h.ap, h.l9, h.p1, h.okp, h.la, h.pa⟩
theorem Wr.same {H H' : Hp} {a l pl : Addr} {xs : List V} {rows : List VRow} {parts : List Str} (h : Wr H a l pl xs rows parts) (s : Same H H') : Wr H' a l pl xs rows parts :=
  ⟨s _ _ h.el, Paired.mapP h.hx fun _ _ z => z.same s, s _ _ h.ep, h.ho, h.ap, h.l9, h.p1, h.okp, h.la, h.pa⟩
structure Kn (H : Hp) (a r : Addr) (rows : List VRow) (k : Str) (ys : List V) : Prop where
  er : H r = some (.lst ys)
  hy : Paired (VarAt H) ys (rowsK rows k)
  ra : a ≠ r
theorem Kn.same {H H' : Hp} {a r : Addr} {rows : List VRow} {k : Str} {ys : List V} (h : Kn H a r rows k ys) (s : Same H H') : Kn H' a r rows k ys := ⟨s _ _ h.er, Paired.mapP h.hy fun _ _ z => z.same s, h.ra⟩
def Wn : Nat → Nat
  | 0 => 0
  | n + 1 => 2 * (3 * (1 + Wn n))
structure Gd (rows : List VRow) (n : Nat) (s : Sm) : Prop where
  ok : SmOk s
  nest : s.nest ≤ n
  fit : s.fit rows = true
  all : ∀ x ∈ s.all, Sm.fit rows x = true
  cnt : s.all.length ≤ Wn n
structure GdB (rows : List VRow) (n : Nat) (b : Bd) : Prop where
  ok : BdOk b
  nest : b.nest ≤ n
  all : ∀ x ∈ b.all, Sm.fit rows x = true
  cnt : b.all.length ≤ b.refs.length * (1 + Wn n)
theorem Gd.leaf {rows : List VRow} {n : Nat} {p : Addr} {lf : Lf} (h : lf.Ok) (f : lf.fit rows = true) : Gd rows n (.leaf p lf) := ⟨h, Nat.zero_le _, f, fun x hx => (by rw [Sm.all] at hx; cases hx), by rw [Sm.all]; exact Nat.zero_le _⟩
def sp_fi (n : Nat) : Sp := fun vs H Q _ => ∃ (a l pl : Addr) (xs : List V) (rows : List VRow) (parts : List Str) (t : Tp), vs = [.ref a, .ref l, .ref pl, .int (n : Int)] ∧ TapIs H a t ∧ t.c + 40 + 2 * Bb n ≤ cMax ∧ Wr H a l pl xs rows parts ∧
  ∀ (s : Sm) (H' : Hp), Kl a H H' → TapIs H' a (stmM rows parts n t).2 → SmAt H' s → SmNew H s → s.dat = (stmM rows parts n t).1 → Gd rows n s → Q s.ref H'
def sp_fb (n : Nat) : Sp := fun vs H Q _ => ∃ (a l pl : Addr) (xs : List V) (rows : List VRow) (parts : List Str) (t : Tp), vs = [.ref a, .ref l, .ref pl, .int (n : Int)] ∧ TapIs H a t ∧ t.c + 130 + 7 * Bb n ≤ cMax ∧ Wr H a l pl xs rows parts ∧
  ∀ (r : Addr) (b : Bd) (H' : Hp), Kl a H H' → TapIs H' a (bodM rows parts n t).2 → H' r = some (.lst b.refs) → H r = none → BdAt H' b → BdNew H b → b.dat = (bodM rows parts n t).1 → GdB rows n b → b.refs.length ≤ 3 → Q (.ref r) H'
theorem FnOk.any12 {P : Program} {w : World} {K : PySem.W.Frag} {mg : Str → Option Value} {base : Heap} {CX : CXT} {k : Nat} {f : Addr} {fd : FuncData} {ps : List Str} {sp : Nat → Sp} (F : ∀ n, n ≤ 2 → FnOk P w K mg base CX k f fd ps (sp n)) : FnOk P w K mg base CX k f fd ps (fun vs H Q E => ∃ n, n ≤ 2 ∧ sp n vs H Q E) where
  len := fun vs H Q E ⟨n, hn, h⟩ => (F n hn).len vs H Q E h
  run := fun A outer s H args us vs Q E hr hb hi hv ⟨n, hn, h⟩ => (F n hn).run A outer s H args us vs Q E hr hb hi hv h
def fiC (rec : Tp → List PyData × Tp) (rows : List VRow) (wy : Int) (t : Tp) : PyData × Tp :=
  if wy = 5 then (.tuple [.str "if", exD (flagX rows 2 t).1, .list (rec (flagX rows 2 t).2).1, .list (rec (rec (flagX rows 2 t).2).2).1], (rec (rec (flagX rows 2 t).2).2).2)
  else if wy = 6 then (.tuple [.str "while", exD (flagX rows 2 t).1, .list (rec (flagX rows 2 t).2).1], (rec (flagX rows 2 t).2).2)
  else if wy = 8 then (if (nextM t 2).1 = 0 then Lf.stop.dat else Lf.way.dat, (nextM t 2).2)
  else ((Lf.tell (numX rows 2 t).1).dat, (numX rows 2 t).2)
section
variable {P : Program} {w : World} {K : PySem.W.Frag} {mg : Str → Option Value} {base : Heap}
theorem z45 : FnScope ["_law_tap_here", "_law_told", "_law_parts", "_law_deep", "_law_way", "_law_nums", "_law_flags", "_law_lists", "_law_name", "_law_expr_here", "_law_body"] ["_law_tap_here", "_law_told", "_law_parts", "_law_deep"] (defScope s_law_fitting) := ⟨rfl, rfl, rfl, by decide +kernel, rfl, by decide +kernel, by decide +kernel⟩
theorem fi_C {n : Nat} {prevB : Sp} {f f1 f2 f3 f4 f5 f6 f7 : Addr} {fd d1 d2 d3 d4 d5 d6 d7 : FuncData} (T : Bt mg) (z10 : Q0 K mg f1 d1) (z0 : Q1 K mg f2 d2) (z11 : Q2 K mg f3 d3) (z15 : Q5 K mg f4 d4) (z13 : Q6 K mg f5 d5) (z14 : Q7 K mg f6 d6) (z12 : Q18 K mg f7 d7)
    (hp : n = 0 ∨ ∃ m, n = m + 1 ∧ prevB = sp_fb m) (z27 : FnOk P w K mg base CX0 (2 * n + 6) f7 d7 ["_law_tap_here", "_law_told", "_law_parts", "_law_deep"] prevB) {cdv : Value} {A : Around} {outer : List Env} {s : Shared} {H0 : Hp} {E : XK} (hr : Room (2 * n + 6) (A.deeper (PyProof.Rows.envOfC "_law_fitting" (defScope s_law_fitting) s.heap.objs.size f cdv))) :
    ∃ u, PSs (cxOf CX0 P w K mg base ["_law_tap_here", "_law_told", "_law_parts", "_law_deep", "_law_way", "_law_nums", "_law_flags", "_law_lists", "_law_name", "_law_expr_here", "_law_body"] "_law_fitting" (defScope s_law_fitting) f cdv A outer s H0 E).nox ((defBody s_law_fitting).drop 8) u ∧
      ∀ (D : Ends) (v5 v6 v7 v8 v9 v10 : Option V) (a l pl : Addr) (xs : List V) (rows : List VRow) (parts : List Str) (t : Tp) (wy : Int) (H : Hp), TapIs H a t → t.c + 38 + 2 * Bb n ≤ cMax → Wr H a l pl xs rows parts → 0 ≤ wy → wy < 9 → (n = 0 → ¬ (4 < wy ∧ wy < 7)) →
        (∀ (s : Sm) (H' : Hp), Kl a H H' → TapIs H' a (fiC (recM rows parts n) rows wy t).2 → SmAt H' s → SmNew H s → s.dat = (fiC (recM rows parts n) rows wy t).1 → Gd rows n s → D.rt s.ref H') →
        u D [some (.ref a), some (.ref l), some (.ref pl), some (.int (n : Int)), some (.int wy), v5, v6, v7, v8, v9, v10] H := by
  have z19 := ok_law_next (P := P) (w := w) (mg := mg) (base := base) z0.F z10
  have z39 : FnOk P w K mg base CX0 6 _ _ ["_law_tap_here", "_law_told", "_law_deep"] (sp_num 2) := ok_law_num (P := P) (w := w) (base := base) T z10 z0 z11 z15 z13 2
  have z51 : FnOk P w K mg base CX0 6 _ _ ["_law_tap_here", "_law_told", "_law_deep"] (sp_flag 2) := ok_law_flag (P := P) (w := w) (base := base) T z10 z0 z11 z15 z13 z14 2
  refine ⟨_, (pss_cons (ps_if (pt_cmpR op_eq (pv 4) pe_int (nomark _))
        (pss_cons (ps_set (i := 9) z45.nd rfl (Or.inl rfl) (pe_call z51 (hr.mono (by omega)) rfl z14.m z14.F.kp z14.b .nil pass0 (pa_consN (pv 0) (pa_consN (pv 1) (pa_consN pe_int pa_nil)))))
        (pss_cons (ps_set (i := 10) z45.nd rfl (Or.inl rfl) (pe_call z27 (hr.mono (by omega)) rfl z12.m z12.F.kp z12.b .nil pass0 (pa_consN (pv 0) (pa_consN (pv 1) (pa_consN (pv 2) (pa_consN (pe_op op_sub (pv 3) pe_int) pa_nil))))))
        (pss_one (ps_ret (pe_tup (pa_consN pe_str (pa_consN (pv 9) (pa_consN (pv 10) (pa_consN (pe_call z27 (hr.mono (by omega)) rfl z12.m z12.F.kp z12.b .nil pass0 (pa_consN (pv 0) (pa_consN (pv 1) (pa_consN (pv 2) (pa_consN (pe_op op_sub (pv 3) pe_int) pa_nil))))) pa_nil)))))))))
        pss_nil)
      (pss_cons (ps_if (pt_cmpR op_eq (pv 4) pe_int (nomark _))
        (pss_one (ps_ret (pe_tup (pa_consN pe_str (pa_consN (pe_call z51 (hr.mono (by omega)) rfl z14.m z14.F.kp z14.b .nil pass0 (pa_consN (pv 0) (pa_consN (pv 1) (pa_consN pe_int pa_nil)))) (pa_consN (pe_call z27 (hr.mono (by omega)) rfl z12.m z12.F.kp z12.b .nil pass0 (pa_consN (pv 0) (pa_consN (pv 1) (pa_consN (pv 2) (pa_consN (pe_op op_sub (pv 3) pe_int) pa_nil))))) pa_nil))))))
        pss_nil)
      (pss_cons (ps_if (pt_cmpR op_eq (pv 4) pe_int (nomark _))
        (pss_one (ps_ret (pe_ix ix_list (pe_lst (pa_consN (pe_tup (pa_consN pe_str pa_nil)) (pa_consN (pe_tup (pa_consN pe_str pa_nil)) pa_nil))) (pe_call z19 (hr.mono (by omega)) rfl z0.m z0.F.kp z0.b .nil pass0 (pa_consN (pv 0) (pa_consN pe_int pa_nil))) (fun _ _ => rfl))))
        pss_nil)
      (pss_one (ps_ret (pe_tup (pa_consN pe_str (pa_consN (pe_call z39 (hr.mono (by omega)) rfl z13.m z13.F.kp z13.b .nil pass0 (pa_consN (pv 0) (pa_consN (pv 1) (pa_consN pe_int pa_nil)))) pa_nil)))))))), ?_⟩
  intro D v5 v6 v7 v8 v9 v10 a l pl xs rows parts t wy H ta hc nm w0 w9 wn q
  have hs : sizeLine = 16777216 := sizeLine_eq
  have cm : cMax = 90000000000000 := rfl
  have b2 : bd 2 = 20 := rfl
  have b1 : bd 1 = 10 := rfl
  unfold fiC at q
  have go : ∀ {wz : Int}, ¬ wy = wz → ¬ V.int wy = V.int wz := fun h z => h (V.int.inj z)
  have fk := flag_kind nm.ho nm.ap 2
  have nk := num_kind nm.ho nm.ap 2
  by_cases h56 : wy = 5 ∨ wy = 6
  · rcases hp with h | ⟨m, rfl, rfl⟩
    · exact absurd ⟨by omega, by omega⟩ (wn h)
    have em : [V.ref a, V.ref l, V.ref pl, V.int (((m + 1 : Nat) : Int) - 1)] = [V.ref a, V.ref l, V.ref pl, V.int (m : Int)] := by
      rw [show ((m + 1 : Nat) : Int) - 1 = (m : Int) by omega]
    have eB : Bb (m + 1) = 97 + 6 * Bb m := rfl
    have eR : recM rows parts (m + 1) = bodM rows parts m := rfl
    rw [eR] at q
    have ec := flag_c rows 2 t
    rcases h56 with h5 | h6
    · rw [if_pos h5] at q
      refine ⟨_, rfl, rfl, _, rfl, itDP (congrArg V.int h5) ?_⟩
      refine ⟨_, rfl, _, rfl, a, l, xs, rows, t, rfl, ta, by omega, nm.el, nm.hx, nm.ho, nm.l9, nm.la, fun v H1 k1 t1 he => ?_⟩
      have nm1 := nm.kl ta k1
      refine ⟨_, rfl, _, rfl, _, rfl, _, rfl, _, _, rfl, rfl, a, l, pl, xs, rows, parts, _, em, t1, by omega, nm1, fun r1 bb1 H2 k2 t2 er1 fr1 ba1 bn1 bd1 bg1 bl1 => ?_⟩
      have nm2 := nm1.kl t1 k2
      have bc := bod_c rows parts m (flagX rows 2 t).2
      refine ⟨_, rfl, _, rfl, _, rfl, _, rfl, _, rfl, _, rfl, _, _, rfl, rfl, a, l, pl, xs, rows, parts, _, em, t2, by omega, nm2, fun r2 bb2 H3 k3 t3 er2 fr2 ba2 bn2 bd2 bg2 bl2 => ⟨(by show 4 ≤ sizeLine; omega), fun p hp => ?_⟩⟩
      have yp := Same.put (o := .tup [V.str "if", v, V.ref r1, V.ref r2]) hp
      have r1a : r1 ≠ a := fun z => by rw [z, t1] at fr1; cases fr1
      have t1n : H1 a ≠ none := by rw [t1]; simp
      have t2n : H2 a ≠ none := by rw [t2]; simp
      refine q (.iff p (flagX rows 2 t).1 r1 bb1 r2 bb2) _ (((k1.trans k2).trans k3).trans (Kl.of yp)) (t3.same yp) ⟨v, upd_same, ((he.kl t1 k2).kl t2 k3).same yp, yp _ _ (k3 _ _ er1 r1a), (BdAt.kl t1n t2 k3 bn1 ba1).same yp, yp _ _ er2, ba2.same yp, by omega, by omega⟩ ⟨dom_free k1 t1n fr1, bn1.mono fun x hx => dom_free k1 t1n hx, dom_free (k1.trans k2) t2n fr2, bn2.mono fun x hx => dom_free (k1.trans k2) t2n hx⟩ ?_ ⟨⟨(fk t).2, bg1.ok, bg2.ok⟩, ?_, decide_eq_true (fk t).1, ?_, ?_⟩
      · rw [Sm.dat, bd1, bd2]
      · rw [Sm.nest]; have := bg1.nest; have := bg2.nest; omega
      · intro x hx
        rw [Sm.all] at hx
        rcases List.mem_append.mp hx with h | h
        · exact bg1.all x h
        · exact bg2.all x h
      · rw [Sm.all, List.length_append]
        have g1 := Nat.le_trans bg1.cnt (Nat.mul_le_mul_right _ bl1)
        have g2 := Nat.le_trans bg2.cnt (Nat.mul_le_mul_right _ bl2)
        show _ ≤ 2 * (3 * (1 + Wn m))
        omega
    · have h5 : ¬ wy = 5 := by omega
      rw [if_neg h5, if_pos h6] at q
      refine ⟨_, rfl, rfl, _, rfl, itDN (go h5) ⟨_, rfl, rfl, _, rfl, itDP (congrArg V.int h6) ?_⟩⟩
      refine ⟨_, rfl, _, rfl, a, l, xs, rows, t, rfl, ta, by omega, nm.el, nm.hx, nm.ho, nm.l9, nm.la, fun v H1 k1 t1 he => ?_⟩
      have nm1 := nm.kl ta k1
      refine ⟨_, rfl, _, rfl, _, rfl, _, rfl, _, _, rfl, rfl, a, l, pl, xs, rows, parts, _, em, t1, by omega, nm1, fun r1 bb1 H2 k2 t2 er1 fr1 ba1 bn1 bd1 bg1 bl1 => ⟨(by show 3 ≤ sizeLine; omega), fun p hp => ?_⟩⟩
      have yp := Same.put (o := .tup [V.str "while", v, V.ref r1]) hp
      have t1n : H1 a ≠ none := by rw [t1]; simp
      refine q (.wh p (flagX rows 2 t).1 r1 bb1) _ ((k1.trans k2).trans (Kl.of yp)) (t2.same yp) ⟨v, upd_same, (he.kl t1 k2).same yp, yp _ _ er1, ba1.same yp, by omega⟩ ⟨dom_free k1 t1n fr1, bn1.mono fun x hx => dom_free k1 t1n hx⟩ ?_ ⟨⟨(fk t).2, bg1.ok⟩, ?_, decide_eq_true (fk t).1, ?_, ?_⟩
      · rw [Sm.dat, bd1]
      · rw [Sm.nest]; have := bg1.nest; omega
      · intro x hx
        rw [Sm.all] at hx
        exact bg1.all x hx
      · rw [Sm.all]
        have g1 := Nat.le_trans bg1.cnt (Nat.mul_le_mul_right _ bl1)
        show _ ≤ 2 * (3 * (1 + Wn m))
        omega
  have h5 : ¬ wy = 5 := fun z => h56 (.inl z)
  have h6 : ¬ wy = 6 := fun z => h56 (.inr z)
  rw [if_neg h5, if_neg h6] at q
  refine ⟨_, rfl, rfl, _, rfl, itDN (go h5) ⟨_, rfl, rfl, _, rfl, itDN (go h6) ?_⟩⟩
  by_cases h8 : wy = 8
  · rw [if_pos h8] at q
    refine ⟨_, rfl, rfl, _, rfl, itDP (congrArg V.int h8) ⟨(by show 1 ≤ sizeLine; omega), fun p1 hp1 => ?_⟩⟩
    have y1 := Same.put (o := .tup [V.str "stop"]) hp1
    have e1 : upd H p1 (.tup [V.str "stop"]) p1 = some (.tup [V.str "stop"]) := upd_same
    generalize upd H p1 (.tup [V.str "stop"]) = H1 at y1 e1 ⊢
    refine ⟨(by show 1 ≤ sizeLine; omega), fun p2 hp2 => ?_⟩
    have y2 := Same.put (o := .tup [V.str "way"]) hp2
    have e2 : upd H1 p2 (.tup [V.str "way"]) p2 = some (.tup [V.str "way"]) := upd_same
    generalize upd H1 p2 (.tup [V.str "way"]) = H2 at y2 e2 ⊢
    refine ⟨(by show 2 ≤ sizeLine; omega), fun L hL => ?_⟩
    have y3 := Same.put (o := .lst [V.ref p1, V.ref p2]) hL
    have e3 : upd H2 L (.lst [V.ref p1, V.ref p2]) L = some (.lst [V.ref p1, V.ref p2]) := upd_same
    generalize upd H2 L (.lst [V.ref p1, V.ref p2]) = H3 at y3 e3 ⊢
    have y0 := (y1.trans y2).trans y3
    have La : a ≠ L := fun z => by rw [← z, (ta.same (y1.trans y2))] at hL; cases hL
    have bn := next_bd t (size := 2) (by decide)
    have ta3 := ta.same y0
    refine ⟨_, rfl, a, t, 2, rfl, ta3, by omega, by decide, by decide, fun H4 k4 t4 => ?_⟩
    have k04 := (Kl.of (l := a) y0).trans k4
    have : (nextM t 2).1 = 0 ∨ (nextM t 2).1 = 1 := by omega
    rcases this with hz | hz
    · rw [if_pos hz] at q
      rw [hz]
      refine ⟨L, _, _, _, rfl, rfl, SqL.of (k4 _ _ e3 La.symm), rfl, ?_⟩
      exact q (.leaf p1 .stop) _ k04 t4 (show H4 p1 = _ from Kl.tup ta3 k4 _ _ (y3 _ _ (y2 _ _ e1))) trivial rfl (.leaf trivial rfl)
    · rw [if_neg (by omega)] at q
      rw [hz]
      refine ⟨L, _, _, _, rfl, rfl, SqL.of (k4 _ _ e3 La.symm), rfl, ?_⟩
      exact q (.leaf p2 .way) _ k04 t4 (show H4 p2 = _ from Kl.tup ta3 k4 _ _ (y3 _ _ e2)) trivial rfl (.leaf trivial rfl)
  · rw [if_neg h8] at q
    refine ⟨_, rfl, rfl, _, rfl, itDN (go h8) ?_⟩
    refine ⟨_, rfl, _, rfl, a, l, xs, rows, t, rfl, ta, by omega, nm.el, nm.hx, nm.ho, nm.l9, nm.la, fun v H1 k1 t1 he => ⟨(by show 2 ≤ sizeLine; omega), fun p hp => ?_⟩⟩
    exact q (.leaf p (.tell _)) _ (k1.trans (Kl.of (Same.put hp))) (t1.same (Same.put hp)) ⟨v, upd_same, he.same (Same.put hp)⟩ trivial rfl (.leaf (nk t).2 (decide_eq_true (nk t).1))
end
end K45

set_option Elab.async false
set_option linter.all false
set_option maxRecDepth 100000
set_option maxHeartbeats 4000000
namespace K45
open PySem L2

theorem same_free {H H' : Hp} (s : Same H H') {x : Addr} (e : H' x = none) : H x = none := by
  cases z : H x with
  | none => rfl
  | some o => rw [s _ _ z] at e; cases e
theorem fiB_eq (rec : Tp → List PyData × Tp) (rows : List VRow) (parts : List Str) (wy : Int) (t : Tp) : fiB rec rows parts wy t =
  if wy = 1 ∧ (rowsK rows "num").isEmpty = false then ((Lf.set (pickR (rowsK rows "num") t) (numX rows 2 (nextM t (rowsK rows "num").length).2).1).dat, (numX rows 2 (nextM t (rowsK rows "num").length).2).2)
  else if wy = 7 ∧ (rowsK rows "flag").isEmpty = false then ((Lf.set (pickR (rowsK rows "flag") t) (flagX rows 2 (nextM t (rowsK rows "flag").length).2).1).dat, (flagX rows 2 (nextM t (rowsK rows "flag").length).2).2)
  else if wy = 2 ∧ (rowsK rows "list").isEmpty = false then ((Lf.put (pickR (rowsK rows "list") t) (numX rows 1 (nextM t (rowsK rows "list").length).2).1 (numX rows 2 (numX rows 1 (nextM t (rowsK rows "list").length).2).2).1).dat, (numX rows 2 (numX rows 1 (nextM t (rowsK rows "list").length).2).2).2)
  else if wy = 3 ∧ (rowsK rows "num").isEmpty = false then ((Lf.ask (pickR (rowsK rows "num") t)).dat, (nextM t (rowsK rows "num").length).2)
  else if wy = 4 ∧ parts ≠ [] then ((Lf.does (nameAt parts t)).dat, (nextM t parts.length).2)
  else fiC rec rows wy t := rfl
section
variable {P : Program} {w : World} {K : PySem.W.Frag} {mg : Str → Option Value} {base : Heap}
theorem fi_B {n : Nat} {prevB : Sp} {f f1 f2 f3 f4 f5 f6 f7 : Addr} {fd d1 d2 d3 d4 d5 d6 d7 : FuncData} (T : Bt mg) (z10 : Q0 K mg f1 d1) (z0 : Q1 K mg f2 d2) (z11 : Q2 K mg f3 d3) (z15 : Q5 K mg f4 d4) (z13 : Q6 K mg f5 d5) (z14 : Q7 K mg f6 d6) (z12 : Q18 K mg f7 d7)
    (hp : n = 0 ∨ ∃ m, n = m + 1 ∧ prevB = sp_fb m) (z27 : FnOk P w K mg base CX0 (2 * n + 6) f7 d7 ["_law_tap_here", "_law_told", "_law_parts", "_law_deep"] prevB) {cdv : Value} {A : Around} {outer : List Env} {s : Shared} {H0 : Hp} {E : XK} (hr : Room (2 * n + 6) (A.deeper (PyProof.Rows.envOfC "_law_fitting" (defScope s_law_fitting) s.heap.objs.size f cdv))) :
    ∃ u, PSs (cxOf CX0 P w K mg base ["_law_tap_here", "_law_told", "_law_parts", "_law_deep", "_law_way", "_law_nums", "_law_flags", "_law_lists", "_law_name", "_law_expr_here", "_law_body"] "_law_fitting" (defScope s_law_fitting) f cdv A outer s H0 E).nox ((defBody s_law_fitting).drop 3) u ∧
      ∀ (D : Ends) (v8 v9 v10 : Option V) (a l pl : Addr) (xs : List V) (rows : List VRow) (parts : List Str) (r1 r2 r3 : Addr) (ys1 ys2 ys3 : List V) (t : Tp) (wy : Int) (H : Hp), TapIs H a t → t.c + 38 + 2 * Bb n ≤ cMax → Wr H a l pl xs rows parts → Kn H a r1 rows "num" ys1 → Kn H a r2 rows "flag" ys2 → Kn H a r3 rows "list" ys3 → 0 ≤ wy → wy < 9 → (n = 0 → ¬ (4 < wy ∧ wy < 7)) →
        (∀ (s : Sm) (H' : Hp), Kl a H H' → TapIs H' a (fiB (recM rows parts n) rows parts wy t).2 → SmAt H' s → SmNew H s → s.dat = (fiB (recM rows parts n) rows parts wy t).1 → Gd rows n s → D.rt s.ref H') →
        u D [some (.ref a), some (.ref l), some (.ref pl), some (.int (n : Int)), some (.int wy), some (.ref r1), some (.ref r2), some (.ref r3), v8, v9, v10] H := by
  obtain ⟨uC, hC, kC⟩ := fi_C (P := P) (w := w) (base := base) (f := f) (fd := fd) (cdv := cdv) (outer := outer) (H0 := H0) (E := E) T z10 z0 z11 z15 z13 z14 z12 hp z27 hr
  have z19 := ok_law_next (P := P) (w := w) (mg := mg) (base := base) z0.F z10
  have z39 : FnOk P w K mg base CX0 6 _ _ ["_law_tap_here", "_law_told", "_law_deep"] (fun vs H Q E => ∃ k, k ≤ 2 ∧ sp_num k vs H Q E) := FnOk.any12 (sp := sp_num) fun k hk => (ok_law_num (P := P) (w := w) (base := base) T z10 z0 z11 z15 z13 k).mono (by omega)
  have z51 : FnOk P w K mg base CX0 6 _ _ ["_law_tap_here", "_law_told", "_law_deep"] (sp_flag 2) := ok_law_flag (P := P) (w := w) (base := base) T z10 z0 z11 z15 z13 z14 2
  refine ⟨_, (pss_cons (ps_if (PW.pt (pw_and (pt_cmpR op_eq (pv 4) pe_int (nomark _)) (pw_and1 (pt_cmpR (op_neD (hr.units)) (pv 5) (pe_lst pa_nil) (nomark _)))))
        (pss_one (ps_ret (pe_tup (pa_consN pe_str (pa_consN (pe_ix ix_tup (pe_ix ix_list (pv 5) (pe_call z19 (hr.mono (by omega)) rfl z0.m z0.F.kp z0.b .nil pass0 (pa_consN (pv 0) (pa_consN (pe_callB call_len_seq rfl T.b_len (by decide +kernel) (pa_consN (pv 5) pa_nil)) pa_nil))) (fun _ _ => rfl)) pe_int (fun _ _ => rfl)) (pa_consN (pe_call z39 (hr.mono (by omega)) rfl z13.m z13.F.kp z13.b .nil pass0 (pa_consN (pv 0) (pa_consN (pv 1) (pa_consN pe_int pa_nil)))) pa_nil))))))
        pss_nil)
      (pss_cons (ps_if (PW.pt (pw_and (pt_cmpR op_eq (pv 4) pe_int (nomark _)) (pw_and1 (pt_cmpR (op_neD (hr.units)) (pv 6) (pe_lst pa_nil) (nomark _)))))
        (pss_one (ps_ret (pe_tup (pa_consN pe_str (pa_consN (pe_ix ix_tup (pe_ix ix_list (pv 6) (pe_call z19 (hr.mono (by omega)) rfl z0.m z0.F.kp z0.b .nil pass0 (pa_consN (pv 0) (pa_consN (pe_callB call_len_seq rfl T.b_len (by decide +kernel) (pa_consN (pv 6) pa_nil)) pa_nil))) (fun _ _ => rfl)) pe_int (fun _ _ => rfl)) (pa_consN (pe_call z51 (hr.mono (by omega)) rfl z14.m z14.F.kp z14.b .nil pass0 (pa_consN (pv 0) (pa_consN (pv 1) (pa_consN pe_int pa_nil)))) pa_nil))))))
        pss_nil)
      (pss_cons (ps_if (PW.pt (pw_and (pt_cmpR op_eq (pv 4) pe_int (nomark _)) (pw_and1 (pt_cmpR (op_neD (hr.units)) (pv 7) (pe_lst pa_nil) (nomark _)))))
        (pss_cons (ps_set (i := 8) z45.nd rfl (Or.inl rfl) (pe_ix ix_tup (pe_ix ix_list (pv 7) (pe_call z19 (hr.mono (by omega)) rfl z0.m z0.F.kp z0.b .nil pass0 (pa_consN (pv 0) (pa_consN (pe_callB call_len_seq rfl T.b_len (by decide +kernel) (pa_consN (pv 7) pa_nil)) pa_nil))) (fun _ _ => rfl)) pe_int (fun _ _ => rfl)))
        (pss_one (ps_ret (pe_tup (pa_consN pe_str (pa_consN (pv 8) (pa_consN (pe_call z39 (hr.mono (by omega)) rfl z13.m z13.F.kp z13.b .nil pass0 (pa_consN (pv 0) (pa_consN (pv 1) (pa_consN pe_int pa_nil)))) (pa_consN (pe_call z39 (hr.mono (by omega)) rfl z13.m z13.F.kp z13.b .nil pass0 (pa_consN (pv 0) (pa_consN (pv 1) (pa_consN pe_int pa_nil)))) pa_nil))))))))
        pss_nil)
      (pss_cons (ps_if (PW.pt (pw_and (pt_cmpR op_eq (pv 4) pe_int (nomark _)) (pw_and1 (pt_cmpR (op_neD (hr.units)) (pv 5) (pe_lst pa_nil) (nomark _)))))
        (pss_one (ps_ret (pe_tup (pa_consN pe_str (pa_consN (pe_ix ix_tup (pe_ix ix_list (pv 5) (pe_call z19 (hr.mono (by omega)) rfl z0.m z0.F.kp z0.b .nil pass0 (pa_consN (pv 0) (pa_consN (pe_callB call_len_seq rfl T.b_len (by decide +kernel) (pa_consN (pv 5) pa_nil)) pa_nil))) (fun _ _ => rfl)) pe_int (fun _ _ => rfl)) pa_nil)))))
        pss_nil)
      (pss_cons (ps_if (PW.pt (pw_and (pt_cmpR op_eq (pv 4) pe_int (nomark _)) (pw_and1 (pt_cmpR (op_neD (hr.units)) (pv 2) (pe_lst pa_nil) (nomark _)))))
        (pss_one (ps_ret (pe_tup (pa_consN pe_str (pa_consN (pe_ix ix_list (pv 2) (pe_call z19 (hr.mono (by omega)) rfl z0.m z0.F.kp z0.b .nil pass0 (pa_consN (pv 0) (pa_consN (pe_callB call_len_seq rfl T.b_len (by decide +kernel) (pa_consN (pv 2) pa_nil)) pa_nil))) (fun _ _ => rfl)) pa_nil)))))
        pss_nil)
      hC))))), ?_⟩
  intro D v8 v9 v10 a l pl xs rows parts r1 r2 r3 ys1 ys2 ys3 t wy H ta hc nm kn1 kn2 kn3 w0 w9 wn q
  have hs : sizeLine = 16777216 := sizeLine_eq
  have cm : cMax = 90000000000000 := rfl
  have b2 : bd 2 = 20 := rfl
  have b1 : bd 1 = 10 := rfl
  rw [fiB_eq] at q
  have go : ∀ {wz : Int}, ¬ wy = wz → ¬ V.int wy = V.int wz := fun h z => h (V.int.inj z)
  have fk := flag_kind nm.ho nm.ap 2
  have nk := num_kind nm.ho nm.ap 2
  have nk1 := num_kind nm.ho nm.ap 1
  have p1 := nm.p1
  -- behind all tests
  have rest : ∀ (H2 : Hp), Same H H2 → (∀ (s : Sm) (H' : Hp), Kl a H H' → TapIs H' a (fiC (recM rows parts n) rows wy t).2 → SmAt H' s → SmNew H s → s.dat = (fiC (recM rows parts n) rows wy t).1 → Gd rows n s → D.rt s.ref H') → uC D [some (.ref a), some (.ref l), some (.ref pl), some (.int (n : Int)), some (.int wy), some (.ref r1), some (.ref r2), some (.ref r3), v8, v9, v10] H2 := fun H2 y2 q =>
    kC D _ _ _ _ _ _ a l pl xs rows parts t wy H2 (ta.same y2) hc (nm.same y2) w0 w9 wn fun s H' k' tt sa sn sd g => q s H' ((Kl.of y2).trans k') tt sa (sn.mono fun x hx => same_free y2 hx) sd g
  by_cases hw1 : wy = 1
  · refine ⟨_, rfl, rfl, _, rfl, itDP (congrArg V.int hw1) ⟨_, rfl, Nat.zero_le _, fun l0 hl0 => ?_⟩⟩
    have y2 := Same.put (o := .lst []) hl0
    refine ⟨_, .list [], .lst (SqL.of (y2 _ _ kn1.er)) (rep_vars K (Paired.mapP kn1.hy fun _ _ z => z.same y2)), .lst (SqL.of upd_same) .nil, lay_vars (nm.ho.filter _), rfl, (by show PyData.depthAll _ + 1 ≤ 64; have := dep_vars (rowsK rows "num"); omega), _, rfl, ?_⟩
    rw [eqv_emptyV]
    generalize upd H l0 (.lst []) = H2 at y2 ⊢
    by_cases he : (rowsK rows "num").isEmpty = true
    · rw [if_neg (fun z => by have := z.2; rw [he] at this; cases this), if_neg (fun z => by have := z.1; omega), if_neg (fun z => by have := z.1; omega), if_neg (fun z => by have := z.1; omega), if_neg (fun z => by have := z.1; omega)] at q
      rw [he]
      exact iteF (⟨_, rfl, rfl, _, rfl, itDN (go (by omega)) (iteF (⟨_, rfl, rfl, _, rfl, itDN (go (by omega)) (iteF (⟨_, rfl, rfl, _, rfl, itDN (go (by omega)) (iteF (⟨_, rfl, rfl, _, rfl, itDN (go (by omega)) (iteF (rest _ y2 q))⟩))⟩))⟩))⟩)
    · have he' : (rowsK rows "num").isEmpty = false := by simpa using he
      rw [if_pos ⟨hw1, he'⟩] at q
      rw [he']
      have ly : 0 < (rowsK rows "num").length := List.length_pos_iff.mpr (by intro z; rw [z] at he; exact he rfl)
      have ly9 : (rowsK rows "num").length ≤ 9 := Nat.le_trans (List.length_filter_le _ _) nm.l9
      have eL : ((ys1.length : Nat) : Int) = ((rowsK rows "num").length : Int) := by rw [kn1.hy.length]
      have bn := next_bd t (size := (rowsK rows "num").length) (by omega)
      have cn := next_c t (rowsK rows "num").length
      have kn' := kn1.same y2
      have ta2 := ta.same y2
      have nm2 := nm.same y2
      obtain ⟨px, hpx, epx⟩ := pick_mem he' t
      obtain ⟨hp1, hp2⟩ := rowsK_mem hpx
      have lk : lookF rows (pickR (rowsK rows "num") t) = some ("num" : Str) := by rw [epx, look_of nm.ap hp1, hp2]
      have sok : PyData.strOk (pickR (rowsK rows "num") t) = true := by rw [epx]; exact (nm.ho px hp1).2
      refine iteT ⟨_, rfl, _, rfl, _, rfl, r1, _, rfl, .inl (SqL.of kn'.er), ?_⟩
      rw [eL]
      refine ⟨a, t, _, rfl, ta2, by omega, by omega, by omega, fun H4 k4 t4 => ?_⟩
      obtain ⟨T0, _, eT, eT0⟩ := var_ixM kn'.hy bn.1 bn.2
      refine ⟨r1, _, _, _, rfl, rfl, SqL.of (k4 _ _ kn'.er kn'.ra.symm), eT, T0, _, _, _, rfl, rfl, SqT.of (Kl.tup ta2 k4 _ _ eT0), rfl, ?_⟩
      have k04 := (Kl.of (l := a) y2).trans k4
      have nm4 := nm2.kl ta2 k4
      refine ⟨_, rfl, _, rfl, 2, by decide, a, l, xs, rows, _, rfl, t4, by omega, nm4.el, nm4.hx, nm4.ho, nm4.l9, nm4.la, fun v H5 k5 t5 he5 => ⟨(by show 3 ≤ sizeLine; omega), fun p hp => ?_⟩⟩
      exact q (.leaf p (.set (pickR (rowsK rows "num") t) _)) _ ((k04.trans k5).trans (Kl.of (Same.put hp))) (t5.same (Same.put hp)) ⟨v, upd_same, he5.same (Same.put hp)⟩ trivial rfl (.leaf ⟨sok, (nk _).2⟩ (by show (match kindP rows (.nam (pickR (rowsK rows "num") t)) with | none => false | some k => decide (kindP rows _ = some k)) = true; rw [kind_nam lk (by decide +kernel)]; exact decide_eq_true (nk _).1))
  refine ⟨_, rfl, rfl, _, rfl, itDN (go hw1) (iteF ?_)⟩
  rw [if_neg (fun z => hw1 z.1)] at q
  by_cases hw7 : wy = 7
  · refine ⟨_, rfl, rfl, _, rfl, itDP (congrArg V.int hw7) ⟨_, rfl, Nat.zero_le _, fun l0 hl0 => ?_⟩⟩
    have y2 := Same.put (o := .lst []) hl0
    refine ⟨_, .list [], .lst (SqL.of (y2 _ _ kn2.er)) (rep_vars K (Paired.mapP kn2.hy fun _ _ z => z.same y2)), .lst (SqL.of upd_same) .nil, lay_vars (nm.ho.filter _), rfl, (by show PyData.depthAll _ + 1 ≤ 64; have := dep_vars (rowsK rows "flag"); omega), _, rfl, ?_⟩
    rw [eqv_emptyV]
    generalize upd H l0 (.lst []) = H2 at y2 ⊢
    by_cases he : (rowsK rows "flag").isEmpty = true
    · rw [if_neg (fun z => by have := z.2; rw [he] at this; cases this), if_neg (fun z => by have := z.1; omega), if_neg (fun z => by have := z.1; omega), if_neg (fun z => by have := z.1; omega)] at q
      rw [he]
      exact iteF (⟨_, rfl, rfl, _, rfl, itDN (go (by omega)) (iteF (⟨_, rfl, rfl, _, rfl, itDN (go (by omega)) (iteF (⟨_, rfl, rfl, _, rfl, itDN (go (by omega)) (iteF (rest _ y2 q))⟩))⟩))⟩)
    · have he' : (rowsK rows "flag").isEmpty = false := by simpa using he
      rw [if_pos ⟨hw7, he'⟩] at q
      rw [he']
      have ly : 0 < (rowsK rows "flag").length := List.length_pos_iff.mpr (by intro z; rw [z] at he; exact he rfl)
      have ly9 : (rowsK rows "flag").length ≤ 9 := Nat.le_trans (List.length_filter_le _ _) nm.l9
      have eL : ((ys2.length : Nat) : Int) = ((rowsK rows "flag").length : Int) := by rw [kn2.hy.length]
      have bn := next_bd t (size := (rowsK rows "flag").length) (by omega)
      have cn := next_c t (rowsK rows "flag").length
      have kn' := kn2.same y2
      have ta2 := ta.same y2
      have nm2 := nm.same y2
      obtain ⟨px, hpx, epx⟩ := pick_mem he' t
      obtain ⟨hp1, hp2⟩ := rowsK_mem hpx
      have lk : lookF rows (pickR (rowsK rows "flag") t) = some ("flag" : Str) := by rw [epx, look_of nm.ap hp1, hp2]
      have sok : PyData.strOk (pickR (rowsK rows "flag") t) = true := by rw [epx]; exact (nm.ho px hp1).2
      refine iteT ⟨_, rfl, _, rfl, _, rfl, r2, _, rfl, .inl (SqL.of kn'.er), ?_⟩
      rw [eL]
      refine ⟨a, t, _, rfl, ta2, by omega, by omega, by omega, fun H4 k4 t4 => ?_⟩
      obtain ⟨T0, _, eT, eT0⟩ := var_ixM kn'.hy bn.1 bn.2
      refine ⟨r2, _, _, _, rfl, rfl, SqL.of (k4 _ _ kn'.er kn'.ra.symm), eT, T0, _, _, _, rfl, rfl, SqT.of (Kl.tup ta2 k4 _ _ eT0), rfl, ?_⟩
      have k04 := (Kl.of (l := a) y2).trans k4
      have nm4 := nm2.kl ta2 k4
      refine ⟨_, rfl, _, rfl, a, l, xs, rows, _, rfl, t4, by omega, nm4.el, nm4.hx, nm4.ho, nm4.l9, nm4.la, fun v H5 k5 t5 he5 => ⟨(by show 3 ≤ sizeLine; omega), fun p hp => ?_⟩⟩
      exact q (.leaf p (.set (pickR (rowsK rows "flag") t) _)) _ ((k04.trans k5).trans (Kl.of (Same.put hp))) (t5.same (Same.put hp)) ⟨v, upd_same, he5.same (Same.put hp)⟩ trivial rfl (.leaf ⟨sok, (fk _).2⟩ (by show (match kindP rows (.nam (pickR (rowsK rows "flag") t)) with | none => false | some k => decide (kindP rows _ = some k)) = true; rw [kind_nam lk (by decide +kernel)]; exact decide_eq_true (fk _).1))
  refine ⟨_, rfl, rfl, _, rfl, itDN (go hw7) (iteF ?_)⟩
  rw [if_neg (fun z => hw7 z.1)] at q
  by_cases hw2 : wy = 2
  · refine ⟨_, rfl, rfl, _, rfl, itDP (congrArg V.int hw2) ⟨_, rfl, Nat.zero_le _, fun l0 hl0 => ?_⟩⟩
    have y2 := Same.put (o := .lst []) hl0
    refine ⟨_, .list [], .lst (SqL.of (y2 _ _ kn3.er)) (rep_vars K (Paired.mapP kn3.hy fun _ _ z => z.same y2)), .lst (SqL.of upd_same) .nil, lay_vars (nm.ho.filter _), rfl, (by show PyData.depthAll _ + 1 ≤ 64; have := dep_vars (rowsK rows "list"); omega), _, rfl, ?_⟩
    rw [eqv_emptyV]
    generalize upd H l0 (.lst []) = H2 at y2 ⊢
    by_cases he : (rowsK rows "list").isEmpty = true
    · rw [if_neg (fun z => by have := z.2; rw [he] at this; cases this), if_neg (fun z => by have := z.1; omega), if_neg (fun z => by have := z.1; omega)] at q
      rw [he]
      exact iteF (⟨_, rfl, rfl, _, rfl, itDN (go (by omega)) (iteF (⟨_, rfl, rfl, _, rfl, itDN (go (by omega)) (iteF (rest _ y2 q))⟩))⟩)
    · have he' : (rowsK rows "list").isEmpty = false := by simpa using he
      rw [if_pos ⟨hw2, he'⟩] at q
      rw [he']
      have ly : 0 < (rowsK rows "list").length := List.length_pos_iff.mpr (by intro z; rw [z] at he; exact he rfl)
      have ly9 : (rowsK rows "list").length ≤ 9 := Nat.le_trans (List.length_filter_le _ _) nm.l9
      have eL : ((ys3.length : Nat) : Int) = ((rowsK rows "list").length : Int) := by rw [kn3.hy.length]
      have bn := next_bd t (size := (rowsK rows "list").length) (by omega)
      have cn := next_c t (rowsK rows "list").length
      have kn' := kn3.same y2
      have ta2 := ta.same y2
      have nm2 := nm.same y2
      obtain ⟨px, hpx, epx⟩ := pick_mem he' t
      obtain ⟨hp1, hp2⟩ := rowsK_mem hpx
      have lk : lookF rows (pickR (rowsK rows "list") t) = some ("list" : Str) := by rw [epx, look_of nm.ap hp1, hp2]
      have sok : PyData.strOk (pickR (rowsK rows "list") t) = true := by rw [epx]; exact (nm.ho px hp1).2
      refine iteT ⟨_, rfl, _, rfl, _, rfl, r3, _, rfl, .inl (SqL.of kn'.er), ?_⟩
      rw [eL]
      refine ⟨a, t, _, rfl, ta2, by omega, by omega, by omega, fun H4 k4 t4 => ?_⟩
      obtain ⟨T0, _, eT, eT0⟩ := var_ixM kn'.hy bn.1 bn.2
      refine ⟨r3, _, _, _, rfl, rfl, SqL.of (k4 _ _ kn'.er kn'.ra.symm), eT, T0, _, _, _, rfl, rfl, SqT.of (Kl.tup ta2 k4 _ _ eT0), rfl, ?_⟩
      have k04 := (Kl.of (l := a) y2).trans k4
      have nm4 := nm2.kl ta2 k4
      refine ⟨_, rfl, _, rfl, _, rfl, 1, by decide, a, l, xs, rows, _, rfl, t4, by omega, nm4.el, nm4.hx, nm4.ho, nm4.l9, nm4.la, fun v H5 k5 t5 he5 => ?_⟩
      have nm5 := nm4.kl t4 k5
      have ec := num_c rows 1 (nextM t (rowsK rows "list").length).2
      refine ⟨_, rfl, _, rfl, 2, by decide, a, l, xs, rows, _, rfl, t5, by omega, nm5.el, nm5.hx, nm5.ho, nm5.l9, nm5.la, fun v' H6 k6 t6 he6 => ⟨(by show 4 ≤ sizeLine; omega), fun p hp => ?_⟩⟩
      exact q (.leaf p (.put _ _ _)) _ (((k04.trans k5).trans k6).trans (Kl.of (Same.put hp))) (t6.same (Same.put hp)) ⟨v, v', upd_same, (he5.kl t5 k6).same (Same.put hp), he6.same (Same.put hp)⟩ trivial rfl (.leaf ⟨sok, ⟨(nk1 _).2.ok, Nat.le_trans (nk1 _).2.dep (by decide)⟩, (nk _).2⟩ (decide_eq_true ⟨lk, (nk1 _).1, (nk _).1⟩))
  refine ⟨_, rfl, rfl, _, rfl, itDN (go hw2) (iteF ?_)⟩
  rw [if_neg (fun z => hw2 z.1)] at q
  by_cases hw3 : wy = 3
  · refine ⟨_, rfl, rfl, _, rfl, itDP (congrArg V.int hw3) ⟨_, rfl, Nat.zero_le _, fun l0 hl0 => ?_⟩⟩
    have y2 := Same.put (o := .lst []) hl0
    refine ⟨_, .list [], .lst (SqL.of (y2 _ _ kn1.er)) (rep_vars K (Paired.mapP kn1.hy fun _ _ z => z.same y2)), .lst (SqL.of upd_same) .nil, lay_vars (nm.ho.filter _), rfl, (by show PyData.depthAll _ + 1 ≤ 64; have := dep_vars (rowsK rows "num"); omega), _, rfl, ?_⟩
    rw [eqv_emptyV]
    generalize upd H l0 (.lst []) = H2 at y2 ⊢
    by_cases he : (rowsK rows "num").isEmpty = true
    · rw [if_neg (fun z => by have := z.2; rw [he] at this; cases this), if_neg (fun z => by have := z.1; omega)] at q
      rw [he]
      exact iteF (⟨_, rfl, rfl, _, rfl, itDN (go (by omega)) (iteF (rest _ y2 q))⟩)
    · have he' : (rowsK rows "num").isEmpty = false := by simpa using he
      rw [if_pos ⟨hw3, he'⟩] at q
      rw [he']
      have ly : 0 < (rowsK rows "num").length := List.length_pos_iff.mpr (by intro z; rw [z] at he; exact he rfl)
      have ly9 : (rowsK rows "num").length ≤ 9 := Nat.le_trans (List.length_filter_le _ _) nm.l9
      have eL : ((ys1.length : Nat) : Int) = ((rowsK rows "num").length : Int) := by rw [kn1.hy.length]
      have bn := next_bd t (size := (rowsK rows "num").length) (by omega)
      have cn := next_c t (rowsK rows "num").length
      have kn' := kn1.same y2
      have ta2 := ta.same y2
      have nm2 := nm.same y2
      obtain ⟨px, hpx, epx⟩ := pick_mem he' t
      obtain ⟨hp1, hp2⟩ := rowsK_mem hpx
      have lk : lookF rows (pickR (rowsK rows "num") t) = some ("num" : Str) := by rw [epx, look_of nm.ap hp1, hp2]
      have sok : PyData.strOk (pickR (rowsK rows "num") t) = true := by rw [epx]; exact (nm.ho px hp1).2
      refine iteT ⟨_, rfl, _, rfl, _, rfl, r1, _, rfl, .inl (SqL.of kn'.er), ?_⟩
      rw [eL]
      refine ⟨a, t, _, rfl, ta2, by omega, by omega, by omega, fun H4 k4 t4 => ?_⟩
      obtain ⟨T0, _, eT, eT0⟩ := var_ixM kn'.hy bn.1 bn.2
      refine ⟨r1, _, _, _, rfl, rfl, SqL.of (k4 _ _ kn'.er kn'.ra.symm), eT, T0, _, _, _, rfl, rfl, SqT.of (Kl.tup ta2 k4 _ _ eT0), rfl, ?_⟩
      have k04 := (Kl.of (l := a) y2).trans k4
      have nm4 := nm2.kl ta2 k4
      refine ⟨(by show 2 ≤ sizeLine; omega), fun p hp => ?_⟩
      exact q (.leaf p (.ask _)) _ (k04.trans (Kl.of (Same.put hp))) (t4.same (Same.put hp)) (show upd H4 p _ p = _ from upd_same) trivial rfl (.leaf sok (decide_eq_true lk))
  refine ⟨_, rfl, rfl, _, rfl, itDN (go hw3) (iteF ?_)⟩
  rw [if_neg (fun z => hw3 z.1)] at q
  by_cases h4 : wy = 4
  · refine ⟨_, rfl, rfl, _, rfl, itDP (congrArg V.int h4) ?_⟩
    refine ⟨_, rfl, Nat.zero_le _, fun l0 hl0 => ?_⟩
    have y0 := Same.put (o := .lst []) hl0
    refine ⟨.list (parts.map PyData.str), .list [], .lst (SqL.of (y0 _ _ nm.ep)) (rep_strs K _ parts), .lst (SqL.of upd_same) .nil, lay_strs nm.okp, rfl, by show PyData.depthAll (parts.map PyData.str) + 1 ≤ 64; have := dep_strs parts; omega, _, rfl, ?_⟩
    generalize upd H l0 (.lst []) = H1 at y0 ⊢
    have nm1 := nm.same y0
    have ta1 := ta.same y0
    by_cases hpn : parts = []
    · rw [if_neg (fun z => z.2 hpn)] at q
      have e0 : PyData.eqv (.list (parts.map PyData.str)) (.list []) = true := by rw [hpn]; rfl
      rw [e0]
      exact iteF (rest _ y0 q)
    · have hpl : 0 < parts.length := List.length_pos_iff.mpr hpn
      have hlenp : (((parts.map V.str).length : Nat) : Int) = (parts.length : Int) := by rw [List.length_map]
      rw [if_pos ⟨h4, hpn⟩] at q
      have bp := next_bd t (size := parts.length) (by omega)
      obtain ⟨hm, exp⟩ := str_ix (ss := parts) bp.1 bp.2
      rw [eqv_empty hpl]
      refine iteT ⟨_, rfl, _, rfl, _, rfl, pl, _, rfl, .inl (SqL.of nm1.ep), ?_⟩
      rw [hlenp]
      refine ⟨a, t, _, rfl, ta1, by omega, by omega, by omega, fun H2 k2 t2 => ?_⟩
      have nm2 := nm1.kl ta1 k2
      refine ⟨pl, _, _, _, rfl, rfl, SqL.of nm2.ep, exp, (by show 2 ≤ sizeLine; omega), fun p hp => ?_⟩
      exact q (.leaf p (.does _)) _ (((Kl.of y0).trans k2).trans (Kl.of (Same.put hp))) (t2.same (Same.put hp)) (show upd H2 p _ p = _ from upd_same) trivial rfl (.leaf (nm.okp _ hm) rfl)
  rw [if_neg (fun z => h4 z.1)] at q
  exact ⟨_, rfl, rfl, _, rfl, itDN (go h4) (iteF (rest H (Same.refl _) q))⟩
end
end K45

set_option Elab.async false
set_option linter.all false
set_option maxRecDepth 100000
set_option maxHeartbeats 4000000
namespace K45
open PySem L2
theorem bodF_take (stm : Tp → PyData × Tp) (s : List PyData × Tp) (k : Nat) : bodF stm s (k + 1) = if (bodF stm s k).2.c < 70 then ((bodF stm s k).1 ++ [(stm (bodF stm s k).2).1], (stm (bodF stm s k).2).2) else bodF stm s k := rfl

section
variable {P : Program} {w : World} {K : PySem.W.Frag} {mg : Str → Option Value} {base : Heap}
theorem fi_A {n : Nat} {prevB : Sp} {f f1 f2 f3 f4 f5 f6 f7 : Addr} {fd d1 d2 d3 d4 d5 d6 d7 : FuncData} (T : Bt mg) (z10 : Q0 K mg f1 d1) (z0 : Q1 K mg f2 d2) (z11 : Q2 K mg f3 d3) (z15 : Q5 K mg f4 d4) (z13 : Q6 K mg f5 d5) (z14 : Q7 K mg f6 d6) (z12 : Q18 K mg f7 d7)
    (hp : n = 0 ∨ ∃ m, n = m + 1 ∧ prevB = sp_fb m) (z27 : FnOk P w K mg base CX0 (2 * n + 6) f7 d7 ["_law_tap_here", "_law_told", "_law_parts", "_law_deep"] prevB) {cdv : Value} {A : Around} {outer : List Env} {s : Shared} {H0 : Hp} {E : XK} (hr : Room (2 * n + 6) (A.deeper (PyProof.Rows.envOfC "_law_fitting" (defScope s_law_fitting) s.heap.objs.size f cdv))) :
    ∃ u, PSs (cxOf CX0 P w K mg base ["_law_tap_here", "_law_told", "_law_parts", "_law_deep", "_law_way", "_law_nums", "_law_flags", "_law_lists", "_law_name", "_law_expr_here", "_law_body"] "_law_fitting" (defScope s_law_fitting) f cdv A outer s H0 E).nox ((defBody s_law_fitting).drop 2) u ∧
      ∀ (D : Ends) (v5 v6 v7 v8 v9 v10 : Option V) (a l pl : Addr) (xs : List V) (rows : List VRow) (parts : List Str) (t : Tp) (wy : Int) (H : Hp), TapIs H a t → t.c + 38 + 2 * Bb n ≤ cMax → Wr H a l pl xs rows parts → 0 ≤ wy → wy < 9 → (n = 0 → ¬ (4 < wy ∧ wy < 7)) →
        (∀ (s : Sm) (H' : Hp), Kl a H H' → TapIs H' a (fiB (recM rows parts n) rows parts wy t).2 → SmAt H' s → SmNew H s → s.dat = (fiB (recM rows parts n) rows parts wy t).1 → Gd rows n s → D.rt s.ref H') →
        u D [some (.ref a), some (.ref l), some (.ref pl), some (.int (n : Int)), some (.int wy), v5, v6, v7, v8, v9, v10] H := by
  obtain ⟨uB, hB, kB⟩ := fi_B (P := P) (w := w) (base := base) (f := f) (fd := fd) (cdv := cdv) (outer := outer) (H0 := H0) (E := E) T z10 z0 z11 z15 z13 z14 z12 hp z27 hr
  have z59 := ok_law_of (P := P) (w := w) (base := base) z15.F T
  refine ⟨_, (pss_cons (ps_par3 (i := 5) (j := 6) (k := 7) rfl z45.nd rfl rfl rfl (by decide) (by decide) (by decide) rfl rfl rfl (pa_consN (pe_call z59 (hr.mono (by omega)) rfl z15.m z15.F.kp z15.b .nil pass0 (pa_consN (pv 1) (pa_consN pe_str pa_nil))) (pa_consN (pe_call z59 (hr.mono (by omega)) rfl z15.m z15.F.kp z15.b .nil pass0 (pa_consN (pv 1) (pa_consN pe_str pa_nil))) (pa_consN (pe_call z59 (hr.mono (by omega)) rfl z15.m z15.F.kp z15.b .nil pass0 (pa_consN (pv 1) (pa_consN pe_str pa_nil))) pa_nil))))
      hB), ?_⟩
  intro D v5 v6 v7 v8 v9 v10 a l pl xs rows parts t wy H ta hc nm w0 w9 wn q
  have hs : sizeLine = 16777216 := sizeLine_eq
  refine ⟨_, rfl, l, "num", xs, rows, rfl, nm.el, nm.hx, nm.l9, fun r1 ys1 H1 s1 hr1 er1 hy1 => ?_⟩
  have nm1 := nm.same s1
  refine ⟨_, rfl, l, "flag", xs, rows, rfl, nm1.el, nm1.hx, nm.l9, fun r2 ys2 H2 s2 hr2 er2 hy2 => ?_⟩
  have nm2 := nm1.same s2
  refine ⟨_, rfl, l, "list", xs, rows, rfl, nm2.el, nm2.hx, nm.l9, fun r3 ys3 H3 s3 hr3 er3 hy3 => ?_⟩
  have ta1 := ta.same s1
  have ta2 := ta1.same s2
  have n1 : Kn H1 a r1 rows "num" ys1 := ⟨er1, hy1, fun z => by rw [← z, ta] at hr1; cases hr1⟩
  have n2 : Kn H2 a r2 rows "flag" ys2 := ⟨er2, hy2, fun z => by rw [← z, ta1] at hr2; cases hr2⟩
  have n3 : Kn H3 a r3 rows "list" ys3 := ⟨er3, hy3, fun z => by rw [← z, ta2] at hr3; cases hr3⟩
  refine ⟨_, _, _, rfl, ?_⟩
  have y0 := (s1.trans s2).trans s3
  exact kB D _ _ _ a l pl xs rows parts r1 r2 r3 ys1 ys2 ys3 t wy H3 (ta.same y0) hc (nm.same y0) (n1.same (s2.trans s3)) (n2.same s3) n3 w0 w9 wn fun s H' k' tt sa sn sd g => q s H' ((Kl.of y0).trans k') tt sa (sn.mono fun x hx => same_free y0 hx) sd g
theorem fi_step {n : Nat} {prevB : Sp} {f f1 f2 f3 f4 f5 f6 f7 : Addr} {fd d1 d2 d3 d4 d5 d6 d7 : FuncData} (T : Bt mg) (z10 : Q0 K mg f1 d1) (z0 : Q1 K mg f2 d2) (z11 : Q2 K mg f3 d3) (z15 : Q5 K mg f4 d4) (z13 : Q6 K mg f5 d5) (z14 : Q7 K mg f6 d6) (z12 : Q18 K mg f7 d7) (z25 : Q19 K mg f fd)
    (hp : n = 0 ∨ ∃ m, n = m + 1 ∧ prevB = sp_fb m) (z27 : FnOk P w K mg base CX0 (2 * n + 6) f7 d7 ["_law_tap_here", "_law_told", "_law_parts", "_law_deep"] prevB) : FnOk P w K mg base CX0 (2 * n + 7) f fd ["_law_tap_here", "_law_told", "_law_parts", "_law_deep"] (sp_fi n) := by
  have z19 := ok_law_next (P := P) (w := w) (mg := mg) (base := base) z0.F z10
  refine z25.F.ok (k := 2 * n + 6) z45 (fun vs H Q E h => ?_) (fun cdv A outer s H vs Q E hr h => ?_)
  · obtain ⟨a, l, pl, xs, rows, parts, t, rfl, _⟩ := h; rfl
  · obtain ⟨a, l, pl, xs, rows, parts, t, rfl, ta, hc, nm, q⟩ := h
    obtain ⟨uB, hB, kB⟩ := fi_A (P := P) (w := w) (base := base) (f := f) (fd := fd) (cdv := cdv) (outer := outer) (H0 := H) (E := E) T z10 z0 z11 z15 z13 z14 z12 hp z27 hr
    refine ⟨_, (pss_cons (ps_set (i := 4) z45.nd rfl (Or.inl rfl) (pe_call z19 (hr.mono (by omega)) rfl z0.m z0.F.kp z0.b .nil pass0 (pa_consN (pv 0) (pa_consN pe_int pa_nil))))
      (pss_cons (ps_if (PW.pt (pw_and (PW.pt (pw_or (pt_cmpR op_eq (pv 3) pe_int (nomark _)) (pw_or1 (pt_cmpR op_gt (pe_ix ix_list (pv 0) pe_int (fun _ _ => rfl)) pe_int (nomark _))))) (pw_and1 (pt_chain op_lt op_lt pe_int (pv 4) pe_int))))
        (pss_one (ps_set (i := 4) z45.nd rfl (Or.inl rfl) (pe_op op_sub (pv 4) pe_int)))
        pss_nil)
      hB)), ?_⟩
    have cm : cMax = 90000000000000 := rfl
    refine ⟨_, rfl, a, t, 9, rfl, ta, by omega, by decide, by decide, fun H1 k1 t1 => ?_⟩
    have bn := next_bd t (size := 9) (by decide)
    have cn := next_c t 9
    have t1n : H1 a ≠ none := by rw [t1]; simp
    unfold stmM stM wayM at q
    obtain ⟨wy, t', e⟩ : ∃ v t', nextM t 9 = (v, t') := ⟨_, _, rfl⟩
    rw [e] at q bn cn t1 ⊢
    have t1 : TapIs H1 a t' := t1
    have cn : t'.c = t.c + 1 := cn
    have bn : 0 ≤ wy ∧ wy < 9 := bn
    have q : ∀ (s : Sm) (H' : Hp), Kl a H H' → TapIs H' a (fiB (recM rows parts n) rows parts (if (decide (n = 0) = true ∨ 60 < t'.c) ∧ 4 < wy ∧ wy < 7 then wy - 5 else wy) t').2 → SmAt H' s → SmNew H s → s.dat = (fiB (recM rows parts n) rows parts (if (decide (n = 0) = true ∨ 60 < t'.c) ∧ 4 < wy ∧ wy < 7 then wy - 5 else wy) t').1 → Gd rows n s → Q s.ref H' := q
    have go : ∀ wz : Int, wz = (if (decide (n = 0) = true ∨ 60 < t'.c) ∧ 4 < wy ∧ wy < 7 then wy - 5 else wy) → 0 ≤ wz → wz < 9 → (n = 0 → ¬ (4 < wz ∧ wz < 7)) → uB { nx := fun _ H' => Q .non H', rt := Q } [some (.ref a), some (.ref l), some (.ref pl), some (.int (n : Int)), some (.int wz), none, none, none, none, none, none] H1 := fun wz hz g0 g9 gn =>
      kB _ _ _ _ _ _ _ a l pl xs rows parts t' wz H1 t1 (by omega) (nm.kl ta k1) g0 g9 gn fun s H' k' tt sa sn sd sq => q s H' (k1.trans k') (by rw [hz] at tt; exact tt) sa (sn.mono fun x hx => dom_free k1 t1n hx) (by rw [hz] at sd; exact sd) sq
    refine ⟨_, rfl, rfl, _, rfl, ite2 (fun h0 => ?_) (fun h0 => ?_)⟩
    · have hn : n = 0 := by have := V.int.inj (of_decide_eq_true h0); omega
      have hd : decide (n = 0) = true ∨ 60 < t'.c := .inl (decide_eq_true hn)
      refine iteT ⟨_, rfl, _, _, rfl, rfl, _, rfl, ite2 (fun g1 => ?_) (fun g1 => ?_)⟩
      · have g1 : (4 : Int) < wy := of_decide_eq_true g1
        refine ⟨_, _, rfl, rfl, _, rfl, ite2 (fun g2 => ?_) (fun g2 => ?_)⟩
        · have g2 : wy < (7 : Int) := of_decide_eq_true g2
          exact ⟨_, rfl, _, _, rfl, rfl, go (wy - 5) (by rw [if_pos ⟨hd, g1, g2⟩]) (by omega) (by omega) (fun _ => by omega)⟩
        · have g2 : ¬ wy < (7 : Int) := fun z => g2 (decide_eq_true z)
          exact go wy (by rw [if_neg (fun z => g2 z.2.2)]) bn.1 bn.2 (fun _ z => g2 z.2)
      · have g1 : ¬ (4 : Int) < wy := fun z => g1 (decide_eq_true z)
        exact ⟨_, rfl, iteF (go wy (by rw [if_neg (fun z => g1 z.2.1)]) bn.1 bn.2 (fun _ z => g1 z.1))⟩
    · have hn : n ≠ 0 := fun z => h0 (decide_eq_true (by rw [z]; rfl))
      refine ⟨_, rfl, a, _, _, _, rfl, rfl, SqL.of t1, rfl, _, _, rfl, rfl, _, rfl, ite2 (fun h1 => ?_) (fun h1 => ?_)⟩
      · have h1 : (60 : Int) < (t'.c : Int) := of_decide_eq_true h1
        have hd : decide (n = 0) = true ∨ 60 < t'.c := .inr (by omega)
        refine ⟨_, rfl, _, _, rfl, rfl, _, rfl, ite2 (fun g1 => ?_) (fun g1 => ?_)⟩
        · have g1 : (4 : Int) < wy := of_decide_eq_true g1
          refine ⟨_, _, rfl, rfl, _, rfl, ite2 (fun g2 => ?_) (fun g2 => ?_)⟩
          · have g2 : wy < (7 : Int) := of_decide_eq_true g2
            exact ⟨_, rfl, _, _, rfl, rfl, go (wy - 5) (by rw [if_pos ⟨hd, g1, g2⟩]) (by omega) (by omega) (fun _ => by omega)⟩
          · have g2 : ¬ wy < (7 : Int) := fun z => g2 (decide_eq_true z)
            exact go wy (by rw [if_neg (fun z => g2 z.2.2)]) bn.1 bn.2 (fun _ z => g2 z.2)
        · have g1 : ¬ (4 : Int) < wy := fun z => g1 (decide_eq_true z)
          exact ⟨_, rfl, iteF (go wy (by rw [if_neg (fun z => g1 z.2.1)]) bn.1 bn.2 (fun _ z => g1 z.1))⟩
      · have h1 : ¬ (60 : Int) < (t'.c : Int) := fun z => h1 (decide_eq_true z)
        exact iteF (go wy (by rw [if_neg (fun z => z.1.elim (fun y => hn (of_decide_eq_true y)) (fun y => h1 (by omega)))]) bn.1 bn.2 (fun z => absurd z hn))
theorem z49 : FnScope ["_law_tap_here", "_law_told", "_law_parts", "_law_deep", "_law_built", "_law_k"] ["_law_tap_here", "_law_told", "_law_parts", "_law_deep"] (defScope s_law_fitting_body) := ⟨rfl, rfl, rfl, by decide +kernel, rfl, by decide +kernel, by decide +kernel⟩
theorem fb_step {n : Nat} {f f1 f2 f6 : Addr} {fd d1 d2 d6 : FuncData} (T : Bt mg) (z10 : Q0 K mg f1 d1) (z0 : Q1 K mg f2 d2) (z25 : Q19 K mg f6 d6) (z12 : Q18 K mg f fd)
    (G_law_fitting : FnOk P w K mg base CX0 (2 * n + 7) f6 d6 ["_law_tap_here", "_law_told", "_law_parts", "_law_deep"] (sp_fi n)) : FnOk P w K mg base CX0 (2 * n + 8) f fd ["_law_tap_here", "_law_told", "_law_parts", "_law_deep"] (sp_fb n) := by
  have z19 := ok_law_next (P := P) (w := w) (mg := mg) (base := base) z0.F z10
  refine z12.F.ok (k := 2 * n + 7) z49 (fun vs H Q E h => ?_) (fun cdv A outer s H vs Q E hr h => ?_)
  · obtain ⟨a, l, pl, xs, rows, parts, t, rfl, _⟩ := h; rfl
  · obtain ⟨a, l, pl, xs, rows, parts, t, rfl, ta, hc, nm, q⟩ := h
    have hs : sizeLine = 16777216 := sizeLine_eq
    have cm : cMax = 90000000000000 := rfl
    rw [bod_eq] at q
    unfold bodB at q
    refine ⟨_, (pss_cons (ps_set (i := 4) z49.nd rfl (Or.inl rfl) (pe_lst pa_nil))
      (pss_cons (ps_for PassesOwn.never rfl (pi_range1 rfl T.b_range (pa_consN (pe_call z19 (hr.mono (by omega)) rfl z0.m z0.F.kp z0.b .nil pass0 (pa_consN (pv 0) (pa_consN pe_int pa_nil))) pa_nil)) (pg_name (i := 5) z49.nd rfl (Or.inl rfl))
        (pss_one (ps_if (pt_cmpR op_lt (pe_ix ix_list (pv 0) pe_int (fun _ _ => rfl)) pe_int (nomark _))
          (pss_one (ps_expr (pe_bm PySem.F.plainAttrs_list PySem.F.slot_list_append PySem.F.type_list_append mt_append (pv 4) (pa_consN (pe_call G_law_fitting (hr.mono (by omega)) rfl z25.m z25.F.kp z25.b .nil pass0 (pa_consN (pv 0) (pa_consN (pv 1) (pa_consN (pv 2) (pa_consN (pv 3) pa_nil))))) pa_nil))))
          pss_nil)))
      (pss_one (ps_ret (pv 4))))), ?_⟩
    refine ⟨Nat.zero_le _, fun r hr0 => ?_⟩
    have y1 := Same.put (o := .lst []) hr0
    have er : upd H r (.lst []) r = some (.lst []) := upd_same
    generalize upd H r (.lst []) = H1 at y1 er ⊢
    have ra : r ≠ a := fun z => by rw [z, ta] at hr0; cases hr0
    refine ⟨_, rfl, a, t, 4, rfl, ta.same y1, by omega, by decide, by decide, fun H2 k2 t2 => ?_⟩
    have bn := next_bd t (size := 4) (by decide)
    have cn := next_c t 4
    obtain ⟨kk, t', e⟩ : ∃ v t', nextM t 4 = (v, t') := ⟨_, _, rfl⟩
    rw [e] at q bn cn t2 ⊢
    have t2 : TapIs H2 a t' := t2
    have bn : 0 ≤ kk ∧ kk < 4 := bn
    have cn : t'.c = t.c + 1 := cn
    have q : ∀ (r : Addr) (b : Bd) (H' : Hp), Kl a H H' → TapIs H' a (bodF (stmM rows parts n) ([], t') kk.toNat).2 → H' r = some (.lst b.refs) → H r = none → BdAt H' b → BdNew H b → b.dat = (bodF (stmM rows parts n) ([], t') kk.toNat).1 → GdB rows n b → b.refs.length ≤ 3 → Q (.ref r) H' := q
    have k02 : Kl a H H2 := (Kl.of (l := a) y1).trans k2
    have er2 := k2 _ _ er ra
    have r2n : H2 r ≠ none := by rw [er2]; simp
    refine ⟨kk, rfl, by omega, by omega, for_range (lo := 0) (n := kk.toNat) (fun i σ H3 => ∃ (v5 : Option V) (b : Bd), σ = [some (.ref a), some (.ref l), some (.ref pl), some (.int (n : Int)), some (.ref r), v5] ∧ Kl a H H3 ∧ TapIs H3 a (bodF (stmM rows parts n) ([], t') i).2 ∧ H3 r = some (.lst b.refs) ∧ b.refs.length ≤ i ∧ BdAt H3 b ∧ BdNew H2 b ∧ b.dat = (bodF (stmM rows parts n) ([], t') i).1 ∧ GdB rows n b ∧ ∀ x, H3 x = none → H2 x = none)
      ⟨_, .nil, rfl, k02, t2, er2, Nat.le_refl _, trivial, trivial, by rw [Bd.dat]; rfl, ⟨trivial, Nat.zero_le _, fun x hx => (by rw [Bd.all] at hx; cases hx), by rw [Bd.all]; exact Nat.zero_le _⟩, fun x hx => hx⟩ ?_ ?_⟩
    · rintro i σ H3 hi ⟨v5, b, rfl, k3, t3, er3, hl, ba, bw, bdt, bns, dm⟩
      have hbc := bodF_c (stm := stmM rows parts n) (b := 32 + 2 * Bb n) (fun t => by have := stm_c rows parts n t; omega) ([], t') i
      have hbc : (bodF (stmM rows parts n) ([], t') i).2.c ≤ t'.c + i * (32 + 2 * Bb n) := hbc
      have hi3 : i * (32 + 2 * Bb n) ≤ 2 * (32 + 2 * Bb n) := Nat.mul_le_mul_right _ (by omega)
      have hnx := bodF_take (stmM rows parts n) ([], t') i
      obtain ⟨ds, u3, e3⟩ : ∃ v z, bodF (stmM rows parts n) ([], t') i = (v, z) := ⟨_, _, rfl⟩
      rw [hnx]
      rw [e3] at t3 bdt hbc ⊢
      have t3 : TapIs H3 a u3 := t3
      have hbc : u3.c ≤ t'.c + i * (32 + 2 * Bb n) := hbc
      have bdt : b.dat = ds := bdt
      refine ⟨_, rfl, a, _, _, _, rfl, rfl, SqL.of t3, rfl, _, _, rfl, rfl, _, rfl, ite2 (fun h => ?_) (fun h => ?_)⟩
      · have h : (u3.c : Int) < 70 := of_decide_eq_true h
        rw [if_pos (show ((ds, u3) : List PyData × Tp).2.c < 70 by show u3.c < 70; omega)]
        refine ⟨_, rfl, .inl ⟨rfl, _, SqL.of er3⟩, _, rfl, _, rfl, _, rfl, _, rfl, a, l, pl, xs, rows, parts, u3, rfl, t3, by omega, nm.kl ta k3, fun sm H4 k4 t4 sa sw sd sn => ?_⟩
        have er4 := k4 _ _ er3 ra
        refine ⟨r, _, _, rfl, rfl, er4, by omega, ?_⟩
        have t3n : H3 a ≠ none := by rw [t3]; simp
        have r3n : H3 r ≠ none := by rw [er3]; simp
        have k5 : Kl r H4 (upd H4 r (.lst (b.refs ++ [sm.ref]))) := Kl.one
        refine ⟨_, b.app (.cons sm .nil), rfl, fun x o ex hx => ?_, ?_, ?_, ?_, ?_, ?_, ?_, ?_, ?_⟩
        · rw [upd_ne (ne_of_none ex hr0)]
          exact k4 _ _ (k3 _ _ ex hx) hx
        · show upd H4 r _ a = _
          rw [upd_ne ra.symm]; exact t4
        · rw [upd_same, app_refs]; rfl
        · rw [app_refs, List.length_append]; show _ + 1 ≤ _; omega
        · refine app_at ?_ ⟨?_, trivial⟩
          · have b2n : H2 a ≠ none := by rw [t2]; simp
            exact BdAt.kl r2n er4 k5 bw (BdAt.kl b2n t3 k4 bw ba)
          · exact SmAt.kl r3n er4 k5 sw sa
        · exact app_all bw ⟨sw.mono dm, trivial⟩
        · rw [app_dat, bdt, Bd.dat, Bd.dat, sd]
        · refine ⟨app_ok bns.ok ⟨sn.ok, trivial⟩, ?_, fun x hx => ?_, ?_⟩
          · rw [app_nest, Bd.nest, Bd.nest]; have := bns.nest; have := sn.nest; omega
          · rw [app_allS, Bd.all, Bd.all, List.append_nil] at hx
            rcases List.mem_append.mp hx with h | h
            · exact bns.all x h
            · rcases List.mem_cons.mp h with e | h
              · rw [e]; exact sn.fit
              · exact sn.all x h
          · rw [app_allS, app_refs, Bd.all, Bd.all, List.append_nil, List.length_append, List.length_append, List.length_cons]
            show _ ≤ (_ + 1) * _
            rw [Nat.succ_mul]
            have := bns.cnt; have := sn.cnt; omega
        · intro x hx
          have xr : x ≠ r := fun z => by rw [z, upd_same] at hx; cases hx
          rw [upd_ne xr] at hx
          exact dm x (dom_free k4 (by rw [t4]; simp) hx)
      · have h : ¬ (u3.c : Int) < 70 := fun z => h (decide_eq_true z)
        rw [if_neg (show ¬ ((ds, u3) : List PyData × Tp).2.c < 70 by show ¬ u3.c < 70; omega)]
        exact ⟨_, b, rfl, k3, t3, er3, by omega, ba, bw, bdt, bns, dm⟩
    · rintro σ H3 ⟨v5, b, rfl, k3, t3, er3, hl, ba, bw, bdt, bns, dm⟩
      exact ⟨_, rfl, q r b H3 k3 t3 er3 hr0 ba (bw.mono fun x hx => dom_free k02 (by rw [t2]; simp) hx) bdt bns (by omega)⟩
end

section
variable {P : Program} {w : World} {K : PySem.W.Frag} {mg : Str → Option Value} {base : Heap}
theorem ok_law_fitting_body {f1 f2 f3 f4 f5 f6 f7 f8 : Addr} {d1 d2 d3 d4 d5 d6 d7 d8 : FuncData} (T : Bt mg) (z10 : Q0 K mg f1 d1) (z0 : Q1 K mg f2 d2) (z11 : Q2 K mg f3 d3) (z15 : Q5 K mg f4 d4) (z13 : Q6 K mg f5 d5) (z14 : Q7 K mg f6 d6) (z12 : Q18 K mg f7 d7) (z25 : Q19 K mg f8 d8) :
    ∀ n : Nat, FnOk P w K mg base CX0 (2 * n + 8) f7 d7 ["_law_tap_here", "_law_told", "_law_parts", "_law_deep"] (sp_fb n)
  | 0 => fb_step T z10 z0 z25 z12 (fi_step T z10 z0 z11 z15 z13 z14 z12 z25 (.inl rfl) (z12.F.ok (k := 5) (sp := fun _ _ _ _ => False) z49 (fun _ _ _ _ h => h.elim) (fun _ _ _ _ _ _ _ _ _ h => h.elim)))
  | n + 1 => fb_step T z10 z0 z25 z12 (fi_step T z10 z0 z11 z15 z13 z14 z12 z25 (.inr ⟨n, rfl, rfl⟩) (ok_law_fitting_body T z10 z0 z11 z15 z13 z14 z12 z25 n))
end
end K45

set_option Elab.async false
set_option linter.all false
set_option maxRecDepth 100000
set_option maxHeartbeats 4000000
namespace K45
open PySem L2
theorem all_mem {p : Addr → Prop} : ∀ {b : Bd}, BdAll p b → ∀ s ∈ b.toL, SmAll p s
  | .nil, _, s, h => by cases h
  | .cons x b, ⟨h1, h2⟩, s, h => by
    rcases List.mem_cons.mp h with rfl | z
    · exact h1
    · exact all_mem h2 s z
theorem SmAt.kn {H H' : Hp} {a : Addr} {t : Tp} (ta : TapIs H a t) (k : Kl a H H') {s : Sm} (n : SmAll (fun x => x ≠ a) s) (h : SmAt H s) : SmAt H' s :=
  h.keep (Kl.tup ta k) (fun x hx vs e => k _ _ e hx) n
theorem BdAt.kn {H H' : Hp} {a : Addr} {t : Tp} (ta : TapIs H a t) (k : Kl a H H') {s : Bd} (n : BdAll (fun x => x ≠ a) s) (h : BdAt H s) : BdAt H' s :=
  h.keep (Kl.tup ta k) (fun x hx vs e => k _ _ e hx) n
theorem all_zero : ∀ {b : Bd}, b.nest ≤ 0 → b.all.length = b.refs.length
  | .nil, _ => by rw [Bd.all]; rfl
  | .cons s b, h => by
    rw [Bd.nest] at h
    rw [Bd.all, List.length_cons, List.length_append, all_zero (b := b) (by omega)]
    have : s.all.length = 0 := by
      cases s with
      | leaf _ _ => rw [Sm.all]; rfl
      | iff _ _ _ _ _ _ => rw [Sm.nest] at h; omega
      | wh _ _ _ _ => rw [Sm.nest] at h; omega
    show _ = b.refs.length + 1
    omega
theorem all_one {H : Hp} {s : Sm} (h : SmAt H s) (n : s.nest ≤ 1) : s.all.length ≤ 20 := by
  cases s with
  | leaf _ _ => rw [Sm.all]; exact Nat.zero_le _
  | iff _ _ _ b1 _ b2 =>
    obtain ⟨_, _, _, _, _, _, _, l1, l2⟩ := h
    rw [Sm.nest] at n
    rw [Sm.all, List.length_append, all_zero (b := b1) (by omega), all_zero (b := b2) (by omega)]; omega
  | wh _ _ _ b1 =>
    obtain ⟨_, _, _, _, _, l1⟩ := h
    rw [Sm.nest] at n
    rw [Sm.all, all_zero (b := b1) (by omega)]; omega
structure Tv (H : Hp) (a l : Addr) (xs : List V) (rows : List VRow) : Prop where
  el : H l = some (.lst xs)
  hx : Paired (VarAt H) xs rows
  ho : VarsOk rows
  ap : (rows.map (·.2.1)).Nodup
  r0 : 0 < rows.length
  l9 : rows.length ≤ 9
  la : a ≠ l
theorem Tv.kl {H H' : Hp} {a l : Addr} {xs : List V} {rows : List VRow} {t : Tp} (h : Tv H a l xs rows) (ta : TapIs H a t) (k : Kl a H H') : Tv H' a l xs rows :=
  ⟨k _ _ h.el h.la.symm, Paired.mapP h.hx fun _ _ z => z.keep (Kl.tup ta k), h.ho, h.ap, h.r0, h.l9, h.la⟩
def sp_ex (n : Nat) : Sp := fun vs H Q _ => ∃ (a l r : Addr) (xs : List V) (rows : List VRow) (b : Bd) (t : Tp), vs = [.ref a, .ref l, .ref r] ∧ TapIs H a t ∧ t.c + 70 + 50 * b.all.length ≤ cMax ∧ Tv H a l xs rows ∧ H r = some (.lst b.refs) ∧ r ≠ a ∧ BdAt H b ∧ BdAll (fun x => x ≠ a) b ∧ BdOk b ∧ b.nest ≤ n ∧ b.refs.length ≤ 10 ∧
  ∀ (r' : Addr) (b' : Bd) (H' : Hp) (t' : Tp), Kl a H H' → TapIs H' a t' → t'.c ≤ t.c + 50 * b.all.length → H' r' = some (.lst b'.refs) → H r' = none → BdAt H' b' → BdNew H b' → BdOk b' → b'.nest ≤ n + 1 → b'.refs.length ≤ b.refs.length → b'.all.length ≤ 21 * b.all.length → Q (.ref r') H'
abbrev exLoop : List Stmt := forBody ((defBody s_law_exchanged).getD 1 (.Pass ⟨0, 0, 0, 0⟩))
section
variable {P : Program} {w : World} {K : PySem.W.Frag} {mg : Str → Option Value} {base : Heap}
theorem z37 : FnScope ["_law_tap_here", "_law_told", "_law_body", "_law_built", "_law_one"] ["_law_tap_here", "_law_told", "_law_body"] (defScope s_law_exchanged) := ⟨rfl, rfl, rfl, by decide +kernel, rfl, by decide +kernel, by decide +kernel⟩
theorem ex_T {k0 : Nat} {f f1 f2 f3 f4 f5 f6 f7 f8 : Addr} {fd d1 d2 d3 d4 d5 d6 d7 d8 : FuncData} (T : Bt mg) (z10 : Q0 K mg f1 d1) (z0 : Q1 K mg f2 d2) (z11 : Q2 K mg f3 d3) (z15 : Q5 K mg f4 d4) (z13 : Q6 K mg f5 d5) (z14 : Q7 K mg f6 d6) (z17 : Q3 K mg f7 d7) (z36 : Q20 K mg f8 d8) (hk0 : 8 ≤ k0)
    {cdv : Value} {A : Around} {outer : List Env} {s : Shared} {H0 : Hp} {E : XK} (hr : Room k0 (A.deeper (PyProof.Rows.envOfC "_law_exchanged" (defScope s_law_exchanged) s.heap.objs.size f cdv))) :
    ∃ u, PSs (cxOf CX0 P w K mg base ["_law_tap_here", "_law_told", "_law_body", "_law_built", "_law_one"] "_law_exchanged" (defScope s_law_exchanged) f cdv A outer s H0 E).nox (exLoop.drop 1) u ∧
      ∀ (D : Ends) (v2 : Option V) (a l bl : Addr) (sm : Sm) (xs vs : List V) (rows : List VRow) (t : Tp) (H : Hp), TapIs H a t → t.c + 65 ≤ cMax → Tv H a l xs rows → H bl = some (.lst vs) → bl ≠ a → vs.length ≤ 20 → SmAt H sm → SmOk sm → SmAll (fun x => x ≠ a) sm →
        (∀ (sm' : Sm) (H' : Hp) (t' : Tp), Kl a H H' → TapIs H' a t' → t'.c ≤ t.c + 48 → SmAt H' sm' → (sm' = sm ∨ SmNew H sm') → SmOk sm' → sm'.nest ≤ max sm.nest 1 → sm'.all.length ≤ max sm.all.length 20 → D.nx [some (.ref a), some (.ref l), v2, some (.ref bl), some sm'.ref] (upd H' bl (.lst (vs ++ [sm'.ref])))) →
        u D [some (.ref a), some (.ref l), v2, some (.ref bl), some sm.ref] H := by
  have z19 := ok_law_next (P := P) (w := w) (mg := mg) (base := base) z0.F z10
  have G_law_odd := ok_law_odd (P := P) (w := w) (base := base) z36.F T z10 z0 z11 z15 z13 z14 z17
  refine ⟨_, (pss_cons (ps_if (pt_cmpR op_eq (pe_call z19 (hr.mono (by omega)) rfl z0.m z0.F.kp z0.b .nil pass0 (pa_consN (pv 0) (pa_consN pe_int pa_nil))) pe_int (nomark _))
          (pss_one (ps_set (i := 4) z37.nd rfl (Or.inl rfl) (pe_call G_law_odd (hr.mono (by omega)) rfl z36.m z36.F.kp z36.b .nil pass0 (pa_consN (pv 0) (pa_consN (pv 1) pa_nil)))))
          pss_nil)
        (pss_one (ps_expr (pe_bm PySem.F.plainAttrs_list PySem.F.slot_list_append PySem.F.type_list_append mt_append (pv 3) (pa_consN (pv 4) pa_nil))))), ?_⟩
  intro D v2 a l bl sm xs vs rows t H ta hc tv eb hba hvl sa so sna q
  have hs : sizeLine = 16777216 := sizeLine_eq
  have cm : cMax = 90000000000000 := rfl
  refine ⟨_, rfl, a, t, 7, rfl, ta, by omega, by decide, by decide, fun H1 k1 t1 => ?_⟩
  have c1 := next_c t 7
  have t1n : H1 a ≠ none := by rw [t1]; simp
  refine ⟨rfl, _, rfl, ite2 (fun h => ?_) (fun h => ?_)⟩
  · have tv1 := tv.kl ta k1
    refine ⟨_, rfl, _, rfl, a, l, xs, rows, _, rfl, t1, by omega, tv1.el, tv1.hx, tv1.ho, tv1.ap, tv1.r0, tv1.l9, tv1.la, fun sm' H2 t2 k2 t2' hc2 sa' sn' so' nn' => ?_⟩
    have k02 := k1.trans k2
    have eb2 := k02 _ _ eb hba
    refine ⟨_, rfl, .inl ⟨rfl, _, SqL.of eb2⟩, _, rfl, bl, _, _, rfl, rfl, eb2, by omega, ?_⟩
    exact q sm' H2 t2 k02 t2' (by omega) sa' (.inr (sn'.mono fun z hz => dom_free k1 t1n hz)) so' (by omega) (by have := all_one sa' nn'; omega)
  · have eb1 := k1 _ _ eb hba
    refine ⟨_, rfl, .inl ⟨rfl, _, SqL.of eb1⟩, _, rfl, bl, _, _, rfl, rfl, eb1, by omega, ?_⟩
    exact q sm H1 _ k1 t1 (by omega) (sa.kn ta k1 sna) (.inl rfl) so (by omega) (by omega)
end
end K45

set_option Elab.async false
set_option linter.all false
set_option maxRecDepth 100000
set_option maxHeartbeats 4000000
namespace K45
open PySem L2
theorem allL_app (A B : List Sm) : allL (A ++ B) = allL A ++ allL B := by unfold allL; rw [List.map_append, List.flatten_append]
section
variable {P : Program} {w : World} {K : PySem.W.Frag} {mg : Str → Option Value} {base : Heap}
theorem ex_step {n : Nat} {prev : Sp} {f f1 f2 f3 f4 f5 f6 f7 f8 : Addr} {fd d1 d2 d3 d4 d5 d6 d7 d8 : FuncData} (T : Bt mg) (z10 : Q0 K mg f1 d1) (z0 : Q1 K mg f2 d2) (z11 : Q2 K mg f3 d3) (z15 : Q5 K mg f4 d4) (z13 : Q6 K mg f5 d5) (z14 : Q7 K mg f6 d6) (z17 : Q3 K mg f7 d7) (z36 : Q20 K mg f8 d8) (z16 : Q21 K mg f fd)
    (hp : n = 0 ∨ ∃ m, n = m + 1 ∧ prev = sp_ex m) (z47 : FnOk P w K mg base CX0 (n + 8) f fd ["_law_tap_here", "_law_told", "_law_body"] prev) : FnOk P w K mg base CX0 (n + 9) f fd ["_law_tap_here", "_law_told", "_law_body"] (sp_ex n) := by
  refine z16.F.ok (k := n + 8) z37 (fun vs H Q E h => ?_) (fun cdv A outer s H vs Q E hr h => ?_)
  · obtain ⟨a, l, r, xs, rows, b, t, rfl, _⟩ := h; rfl
  · obtain ⟨a, l, r, xs, rows, b, t, rfl, ta, hc, tv, er, hra, ba, bna, bo, hn, hbl, q⟩ := h
    have hs : sizeLine = 16777216 := sizeLine_eq
    have cm : cMax = 90000000000000 := rfl
    obtain ⟨uB, hB, kB⟩ := ex_T (P := P) (w := w) (base := base) (f := f) (fd := fd) (cdv := cdv) (outer := outer) (H0 := H) (E := E) T z10 z0 z11 z15 z13 z14 z17 z36 (k0 := n + 8) (by omega) hr
    refine ⟨_, (pss_cons (ps_set (i := 3) z37.nd rfl (Or.inl rfl) (pe_lst pa_nil))
      (pss_cons (ps_for PassesOwn.never rfl (pi_list (pv 2)) (pg_name (i := 4) z37.nd rfl (Or.inl rfl))
        (pss_cons (ps_if (pt_cmpR op_eq (pe_ix ix_tup (pv 4) pe_int (fun _ _ => rfl)) pe_str (nomark _))
          (pss_one (ps_set (i := 4) z37.nd rfl (Or.inl rfl) (pe_tup (pa_consN pe_str (pa_consN (pe_ix ix_tup (pv 4) pe_int (fun _ _ => rfl)) (pa_consN (pe_call z47 (hr.mono (by omega)) rfl z16.m z16.F.kp z16.b .nil pass0 (pa_consN (pv 0) (pa_consN (pv 1) (pa_consN (pe_ix ix_tup (pv 4) pe_int (fun _ _ => rfl)) pa_nil)))) (pa_consN (pe_call z47 (hr.mono (by omega)) rfl z16.m z16.F.kp z16.b .nil pass0 (pa_consN (pv 0) (pa_consN (pv 1) (pa_consN (pe_ix ix_tup (pv 4) pe_int (fun _ _ => rfl)) pa_nil)))) pa_nil)))))))
          (pss_one (ps_if (pt_cmpR op_eq (pe_ix ix_tup (pv 4) pe_int (fun _ _ => rfl)) pe_str (nomark _))
            (pss_one (ps_set (i := 4) z37.nd rfl (Or.inl rfl) (pe_tup (pa_consN pe_str (pa_consN (pe_ix ix_tup (pv 4) pe_int (fun _ _ => rfl)) (pa_consN (pe_call z47 (hr.mono (by omega)) rfl z16.m z16.F.kp z16.b .nil pass0 (pa_consN (pv 0) (pa_consN (pv 1) (pa_consN (pe_ix ix_tup (pv 4) pe_int (fun _ _ => rfl)) pa_nil)))) pa_nil))))))
            pss_nil)))
        hB))
      (pss_one (ps_ret (pv 3))))), ?_⟩
    rw [refs_eq] at er hbl
    rw [all_eq] at q hc
    have qq : ∀ (r' : Addr) (b' : Bd) (H' : Hp) (t' : Tp), Kl a H H' → TapIs H' a t' → t'.c ≤ t.c + 50 * (allL b.toL).length → H' r' = some (.lst b'.refs) → H r' = none → BdAt H' b' → BdNew H b' → BdOk b' → b'.nest ≤ n + 1 → b'.refs.length ≤ (b.toL.map Sm.ref).length → b'.all.length ≤ 21 * (allL b.toL).length → Q (.ref r') H' := fun r' b' H' t' h1 h2 h3 h4 h5 h6 h7 h8 h9 h10 h11 => q r' b' H' t' h1 h2 h3 h4 h5 h6 h7 h8 h9 (by rw [refs_eq b]; exact h10) h11
    clear q
    obtain ⟨L, hL⟩ : ∃ z, b.toL = z := ⟨_, rfl⟩
    have bm := at_mem ba
    have om := ok_mem bo
    have am := all_mem bna
    have nmm := nest_mem (b := b)
    rw [hL] at qq er bm om nmm hc am hbl
    rw [List.length_map] at qq hbl
    refine ⟨Nat.zero_le _, fun bl hbl0 => ?_⟩
    have y1 := Same.put (o := .lst []) hbl0
    have ebl : upd H bl (.lst []) bl = some (.lst []) := upd_same
    generalize upd H bl (.lst []) = H1 at y1 ebl ⊢
    have bla : bl ≠ a := fun z => by rw [z, ta] at hbl0; cases hbl0
    have ta1 := ta.same y1
    have h1n : H1 a ≠ none := by rw [ta1]; simp
    refine ⟨_, rfl, r, rfl, ⟨_, SqL.of (y1 _ _ er)⟩, for_list (K := K) (a := r) (xs := L.map Sm.ref) (fun i σ H3 => ∃ (v4 : Option V) (bb : Bd) (t3 : Tp), σ = [some (.ref a), some (.ref l), some (.ref r), some (.ref bl), v4] ∧ Kl a H H3 ∧ (∀ x, H3 x = none → H1 x = none) ∧ TapIs H3 a t3 ∧ t3.c ≤ t.c + 50 * (allL (L.take i)).length ∧ H3 bl = some (.lst bb.refs) ∧ bb.refs.length ≤ i ∧ BdAt H3 bb ∧ BdNew H1 bb ∧ BdOk bb ∧ bb.nest ≤ n + 1 ∧ bb.all.length ≤ 21 * (allL (L.take i)).length)
      ⟨_, .nil, t, rfl, Kl.of y1, fun x hx => hx, ta1, by omega, ebl, Nat.zero_le _, trivial, trivial, trivial, Nat.zero_le _, Nat.zero_le _⟩ ?_ ?_ ?_⟩
    · rintro i σ H3 _ ⟨v4, bb, t3, rfl, k3, _⟩
      exact SqL.of (k3 _ _ er hra)
    · rintro i x σ H3 hx0 ⟨v4, bb, t3, rfl, k3, dm, ta3, hc3, eb3, hl3, ba3, bn3, bo3, nb3, ac3⟩
      rw [List.getElem?_map] at hx0
      cases hLi : L[i]? with
      | none => rw [hLi] at hx0; cases hx0
      | some sm =>
        rw [hLi] at hx0
        cases hx0
        have hmem := List.mem_of_getElem? hLi
        have hiL : i < L.length := (List.getElem?_eq_some_iff.mp hLi).1
        have sa3 := (bm sm hmem).kn ta k3 (am sm hmem)
        have hT := allL_take hLi
        have hTl : (allL (L.take (i + 1))).length = (allL (L.take i)).length + 1 + sm.all.length := by rw [hT]; simp; omega
        have hTle : (allL (L.take (i + 1))).length ≤ (allL L).length := by
          have e : L = L.take (i + 1) ++ L.drop (i + 1) := (List.take_append_drop _ _).symm
          have : allL L = allL (L.take (i + 1)) ++ allL (L.drop (i + 1)) := by
            conv => lhs; rw [e]
            exact allL_app _ _
          rw [this, List.length_append]; omega
        have tv3 := tv.kl ta k3
        have sna := am sm hmem
        have hsn := nmm sm hmem
        have so := om sm hmem
        have t3n : H3 a ≠ none := by rw [ta3]; simp
        -- behind the first if: a statement that is put at the end
        have fin : ∀ (D : Ends), (∀ (v4 : Option V) (bb' : Bd) (t4 : Tp) (H' : Hp), Kl a H H' → (∀ x, H' x = none → H1 x = none) → TapIs H' a t4 → t4.c ≤ t.c + 50 * (allL (L.take (i + 1))).length → H' bl = some (.lst bb'.refs) → bb'.refs.length ≤ i + 1 → BdAt H' bb' → BdNew H1 bb' → BdOk bb' → bb'.nest ≤ n + 1 → bb'.all.length ≤ 21 * (allL (L.take (i + 1))).length → D.nx [some (.ref a), some (.ref l), some (.ref r), some (.ref bl), v4] H') →
            ∀ (sm' : Sm) (H4 : Hp) (t4 : Tp), Kl a H3 H4 → TapIs H4 a t4 → t4.c ≤ t3.c + 50 * sm.all.length → SmAt H4 sm' → SmNew H1 sm' → SmOk sm' → sm'.nest ≤ n + 1 → sm'.all.length ≤ 21 * sm.all.length → (SmAll (fun x => x ≠ a) sm') →
            uB D [some (.ref a), some (.ref l), some (.ref r), some (.ref bl), some sm'.ref] H4 := fun D hD sm' H4 t4 k4 ta4 hc4 sa4 sn4 so4 nn4 ac4 sna4 => by
          refine kB D _ a l bl sm' xs bb.refs rows t4 H4 ta4 (by omega) (tv3.kl ta3 k4) (k4 _ _ eb3 bla) bla (by omega) sa4 so4 sna4 fun sm'' H5 t5 k5 ta5 hc5 sa5 sn5 so5 nn5 ac5 => ?_
          have k05 := (k3.trans k4).trans k5
          have eb5 := k5 _ _ (k4 _ _ eb3 bla) bla
          have sn5' : SmNew H1 sm'' := by
            rcases sn5 with e | h
            · rw [e]; exact sn4
            · exact h.mono fun z hz => dm z (dom_free k4 (by rw [ta4]; simp) hz)
          have k6 : Kl bl H5 (upd H5 bl (.lst (bb.refs ++ [sm''.ref]))) := Kl.one
          have h1b : H1 bl ≠ none := by rw [ebl]; simp
          refine hD _ (bb.app (.cons sm'' .nil)) t5 _ (fun x o ex hx => ?_) (fun x hx => ?_) ?_ (by omega) ?_ ?_ ?_ ?_ ?_ ?_ ?_
          · rw [upd_ne (ne_of_none ex hbl0)]
            exact k05 _ _ ex hx
          · have xr : x ≠ bl := fun z => by rw [z, upd_same] at hx; cases hx
            rw [upd_ne xr] at hx
            exact dm x (dom_free (k4.trans k5) (by rw [ta5]; simp) hx)
          · show upd H5 bl _ a = _
            rw [upd_ne bla.symm]; exact ta5
          · rw [upd_same, app_refs]; rfl
          · rw [app_refs, List.length_append]; show _ + 1 ≤ _; omega
          · exact app_at (BdAt.kl h1b eb5 k6 bn3 (BdAt.kl h1n ta3 (k4.trans k5) bn3 ba3)) ⟨SmAt.kl h1b eb5 k6 sn5' sa5, trivial⟩
          · exact app_all bn3 ⟨sn5', trivial⟩
          · exact app_ok bo3 ⟨so5, trivial⟩
          · rw [app_nest, Bd.nest, Bd.nest]; omega
          · rw [app_allS, Bd.all, Bd.all, List.append_nil, List.length_append, List.length_cons]; omega
        have fin := fin
        cases sm with
        | leaf rr lf =>
          obtain ⟨tag, vs, e1, t1, t2, _⟩ := LfAt.tup sa3
          refine ⟨_, rfl, rr, _, _, _, rfl, rfl, SqT.of e1, at_zero _ _, rfl, _, rfl, itDN (fun z => t1 (V.str.inj z)) ?_⟩
          refine ⟨_, rfl, rr, _, _, _, rfl, rfl, SqT.of e1, at_zero _ _, rfl, _, rfl, itDN (fun z => t2 (V.str.inj z)) ?_⟩
          refine fin _ ?_ (.leaf rr lf) H3 t3 (Kl.of (Same.refl _)) ta3 (by omega) sa3 trivial so (Nat.zero_le _) (by omega) trivial
          exact fun v4 bb' t4 H' h1 h2 h3 h4 h5 h6 h7 h8 h9 h10 h11 => ⟨v4, bb', t4, rfl, h1, h2, h3, h4, h5, h6, h7, h8, h9, h10, h11⟩
        | iff rr e a1 b1 a2 b2 =>
          obtain ⟨v, e1, he, ea1, ba1, ea2, ba2, l1, l2⟩ := sa3
          rcases hp with h | ⟨m, rfl, rfl⟩
          · rw [Sm.nest] at hsn; omega
          have hal : (Sm.iff rr e a1 b1 a2 b2).all.length = b1.all.length + b2.all.length := by rw [Sm.all, List.length_append]
          have hnn : max b1.nest b2.nest + 1 ≤ m + 1 := by rw [Sm.nest] at hsn; omega
          rw [hal] at fin hTl
          refine ⟨_, rfl, rr, _, _, _, rfl, rfl, SqT.of e1, at_zero _ _, rfl, _, rfl, itDP rfl ?_⟩
          refine ⟨_, rfl, rr, _, _, _, rfl, rfl, SqT.of e1, rfl, ?_⟩
          refine ⟨_, rfl, _, rfl, _, rfl, rr, _, _, _, rfl, rfl, SqT.of e1, rfl, a, l, a1, xs, rows, b1, t3, rfl, ta3, by omega, tv3, ea1, sna.1, ba1, sna.2.1, so.2.1, by omega, l1, fun r1 c1 H4 t4 k4 ta4 hc4 er1 fr1 ca1 cn1 co1 nn1 ll1 ac1 => ?_⟩
          have t4n : H4 a ≠ none := by rw [ta4]; simp
          have e14 := Kl.tup ta3 k4 _ _ e1
          have r1a : r1 ≠ a := fun z => by rw [z, ta3] at fr1; cases fr1
          refine ⟨_, rfl, _, rfl, _, rfl, rr, _, _, _, rfl, rfl, SqT.of e14, rfl, a, l, a2, xs, rows, b2, t4, rfl, ta4, by omega, tv3.kl ta3 k4, k4 _ _ ea2 sna.2.2.1, sna.2.2.1, ba2.kn ta3 k4 sna.2.2.2, sna.2.2.2, so.2.2, by omega, l2, fun r2 c2 H5 t5 k5 ta5 hc5 er2 fr2 ca2 cn2 co2 nn2 ll2 ac2 => ⟨(by show 4 ≤ sizeLine; omega), fun p hp => ?_⟩⟩
          have yp := Same.put (o := .tup [V.str "if", v, V.ref r1, V.ref r2]) hp
          have ep : upd H5 p (.tup [V.str "if", v, V.ref r1, V.ref r2]) p = some (.tup [V.str "if", v, V.ref r1, V.ref r2]) := upd_same
          generalize upd H5 p (.tup [V.str "if", v, V.ref r1, V.ref r2]) = H6 at yp ep ⊢
          have t5n : H5 a ≠ none := by rw [ta5]; simp
          have f1 : H1 r1 = none := dm _ fr1
          have f2 : H1 r2 = none := dm _ (dom_free k4 t4n fr2)
          have nw : SmNew H1 (.iff p e r1 c1 r2 c2) := ⟨f1, cn1.mono fun z hz => dm z hz, f2, cn2.mono fun z hz => dm z (dom_free k4 t4n hz)⟩
          refine fin _ ?_ (.iff p e r1 c1 r2 c2) H6 t5 ((k4.trans k5).trans (Kl.of yp)) (ta5.same yp) (by omega) ⟨v, ep, ((he.kl ta3 k4).kl ta4 k5).same yp, yp _ _ (k5 _ _ er1 r1a), (BdAt.kl t3n ta4 k5 cn1 ca1).same yp, yp _ _ er2, ca2.same yp, by omega, by omega⟩ nw ⟨so.1, co1, co2⟩ (by rw [Sm.nest]; omega) (by rw [Sm.all, List.length_append]; omega) (nw.mono fun z (hz : H1 z = none) (zz : z = a) => h1n (zz ▸ hz))
          exact fun v4 bb' t4 H' h1 h2 h3 h4 h5 h6 h7 h8 h9 h10 h11 => ⟨v4, bb', t4, rfl, h1, h2, h3, h4, h5, h6, h7, h8, h9, h10, h11⟩
        | wh rr e a1 b1 =>
          obtain ⟨v, e1, he, ea1, ba1, l1⟩ := sa3
          rcases hp with h | ⟨m, rfl, rfl⟩
          · rw [Sm.nest] at hsn; omega
          have hal : (Sm.wh rr e a1 b1).all.length = b1.all.length := by rw [Sm.all]
          have hnn : b1.nest + 1 ≤ m + 1 := by rw [Sm.nest] at hsn; omega
          rw [hal] at fin hTl
          refine ⟨_, rfl, rr, _, _, _, rfl, rfl, SqT.of e1, at_zero _ _, rfl, _, rfl, itDN (fun z => by have := V.str.inj z; revert this; decide +kernel) ?_⟩
          refine ⟨_, rfl, rr, _, _, _, rfl, rfl, SqT.of e1, at_zero _ _, rfl, _, rfl, itDP rfl ?_⟩
          refine ⟨_, rfl, rr, _, _, _, rfl, rfl, SqT.of e1, rfl, ?_⟩
          refine ⟨_, rfl, _, rfl, _, rfl, rr, _, _, _, rfl, rfl, SqT.of e1, rfl, a, l, a1, xs, rows, b1, t3, rfl, ta3, by omega, tv3, ea1, sna.1, ba1, sna.2, so.2, by omega, l1, fun r1 c1 H4 t4 k4 ta4 hc4 er1 fr1 ca1 cn1 co1 nn1 ll1 ac1 => ⟨(by show 3 ≤ sizeLine; omega), fun p hp => ?_⟩⟩
          have yp := Same.put (o := .tup [V.str "while", v, V.ref r1]) hp
          have ep : upd H4 p (.tup [V.str "while", v, V.ref r1]) p = some (.tup [V.str "while", v, V.ref r1]) := upd_same
          generalize upd H4 p (.tup [V.str "while", v, V.ref r1]) = H6 at yp ep ⊢
          have t4n : H4 a ≠ none := by rw [ta4]; simp
          have r1a : r1 ≠ a := fun z => by rw [z, ta3] at fr1; cases fr1
          have nw : SmNew H1 (.wh p e r1 c1) := ⟨dm _ fr1, cn1.mono fun z hz => dm z hz⟩
          refine fin _ ?_ (.wh p e r1 c1) H6 t4 (k4.trans (Kl.of yp)) (ta4.same yp) (by omega) ⟨v, ep, (he.kl ta3 k4).same yp, yp _ _ er1, ca1.same yp, by omega⟩ nw ⟨so.1, co1⟩ (by rw [Sm.nest]; omega) (by rw [Sm.all]; omega) (nw.mono fun z (hz : H1 z = none) (zz : z = a) => h1n (zz ▸ hz))
          exact fun v4 bb' t4 H' h1 h2 h3 h4 h5 h6 h7 h8 h9 h10 h11 => ⟨v4, bb', t4, rfl, h1, h2, h3, h4, h5, h6, h7, h8, h9, h10, h11⟩
    · rintro σ H3 ⟨v4, bb, t3, rfl, k3, dm, ta3, hc3, eb3, hl3, ba3, bn3, bo3, nb3, ac3⟩
      rw [List.length_map, List.take_of_length_le (Nat.le_refl _)] at hc3 ac3
      rw [List.length_map] at hl3
      exact ⟨_, rfl, qq bl bb H3 t3 k3 ta3 hc3 eb3 hbl0 ba3 (bn3.mono fun x hx => same_free y1 hx) bo3 nb3 hl3 ac3⟩
theorem ok_law_exchanged {f f1 f2 f3 f4 f5 f6 f7 f8 : Addr} {fd d1 d2 d3 d4 d5 d6 d7 d8 : FuncData} (T : Bt mg) (z10 : Q0 K mg f1 d1) (z0 : Q1 K mg f2 d2) (z11 : Q2 K mg f3 d3) (z15 : Q5 K mg f4 d4) (z13 : Q6 K mg f5 d5) (z14 : Q7 K mg f6 d6) (z17 : Q3 K mg f7 d7) (z36 : Q20 K mg f8 d8) (z16 : Q21 K mg f fd) :
    ∀ n : Nat, FnOk P w K mg base CX0 (n + 9) f fd ["_law_tap_here", "_law_told", "_law_body"] (sp_ex n)
  | 0 => ex_step T z10 z0 z11 z15 z13 z14 z17 z36 z16 (.inl rfl) (z16.F.ok (k := 7) (sp := fun _ _ _ _ => False) z37 (fun _ _ _ _ h => h.elim) (fun _ _ _ _ _ _ _ _ _ h => h.elim))
  | n + 1 => ex_step T z10 z0 z11 z15 z13 z14 z17 z36 z16 (.inr ⟨n, rfl, rfl⟩) (ok_law_exchanged T z10 z0 z11 z15 z13 z14 z17 z36 z16 n)
end
end K45

set_option Elab.async false
set_option linter.all false
set_option maxRecDepth 100000
set_option maxHeartbeats 4000000
namespace K45
open PySem L2
def t0M (ns : List Int) : Tp := tapM (ns.getD 0 0)
def vM (ns : List Int) : List VRow × Tp := varsM (t0M ns) 7
def nC (ns : List Int) : Int × Tp := nextM (vM ns).2 3
def titleK (ns : List Int) (k : Nat) : Str := (titlesM (t0M ns) 3).1.getD k ""
def tapK (ns : List Int) (k : Nat) : Tp := tapM (ns.getD (1 + k) 0)
def partsM (ns : List Int) : Nat → List (Str × List PyData)
  | 0 => []
  | k + 1 => partsM ns k ++ [(titleK ns k, (bodM (vM ns).1 ((partsM ns k).map fun p => p.1) 2 (tapK ns k)).1)]
def ptsM (ns : List Int) : List (Str × List PyData) := partsM ns (nC ns).1.toNat
def ptit (ns : List Int) : List Str := (ptsM ns).map fun p => p.1
def mainM (ns : List Int) : Nat → List PyData
  | 0 => []
  | k + 1 => mainM ns k ++ (bodM (vM ns).1 (ptit ns) 3 (tapM (ns.getD (3 + k) 0))).1
structure TD3 where
  rows : List VRow
  parts : List (Str × List PyData)
  main : List PyData
def treeM (ns : List Int) : TD3 := ⟨(vM ns).1, ptsM ns, mainM ns 2⟩
theorem rows_facts (ns : List Int) : 0 < (vM ns).1.length ∧ (vM ns).1.length ≤ 7 ∧ VarsOk (vM ns).1 ∧ ((vM ns).1.map (·.2.1)).Nodup ∧ (vM ns).2.c ≤ 86 := by
  have f := vars_facts (t0M ns) (most := 7) (by decide) (by decide)
  have l := vars_len (t0M ns) (most := 7) (by decide)
  have c0 : (t0M ns).c = 0 := rfl
  exact ⟨f.2.1, by show (varsM _ _).1.length ≤ _; omega, f.2.2.2, vars_apart _ (by decide) (by decide), by have := f.1; show (varsM _ _).2.c ≤ _; omega⟩
theorem pts_bd (ns : List Int) : 0 ≤ (nC ns).1 ∧ (nC ns).1 < 3 := next_bd (vM ns).2 (size := 3) (by decide)
theorem parts_len (ns : List Int) : ∀ k, (partsM ns k).length = k
  | 0 => rfl
  | k + 1 => by show (_ ++ [_]).length = _; rw [List.length_append, parts_len ns k]; rfl
theorem title_ok2 (ns : List Int) {k : Nat} (h : k < 3) : PyData.strOk (titleK ns k) = true ∧ (titlesM (t0M ns) 3).1[k]? = some (titleK ns k) := by
  have l := titles_len (t0M ns) 3
  have e : (titlesM (t0M ns) 3).1[k]? = some (titleK ns k) := by
    unfold titleK
    rw [List.getD_eq_getElem?_getD, List.getElem?_eq_getElem (by omega)]; rfl
  exact ⟨titles_ok (t0M ns) (by decide) _ (List.mem_of_getElem? e), e⟩
theorem tit_ok (ns : List Int) : ∀ k, k ≤ 3 → ∀ x ∈ (partsM ns k).map (fun p => p.1), PyData.strOk x = true
  | 0, _, x, h => by cases h
  | k + 1, hk, x, h => by
    have h : x ∈ ((partsM ns k) ++ [_]).map _ := h
    rw [List.map_append] at h
    rcases List.mem_append.mp h with z | z
    · exact tit_ok ns k (by omega) x z
    · rw [List.mem_singleton.mp z]; exact (title_ok2 ns (by omega)).1
theorem ptit_facts (ns : List Int) : (ptit ns).length ≤ 3 ∧ ∀ x ∈ ptit ns, PyData.strOk x = true := by
  have b := pts_bd ns
  unfold ptit ptsM
  refine ⟨by rw [List.length_map, parts_len]; omega, tit_ok ns _ (by omega)⟩
def PNew (p : Addr → Prop) (ps : List Pt) : Prop := ∀ x ∈ ps, p x.2.1 ∧ BdAll p x.2.2
theorem parts_keep {H H' : Hp} {p : Addr → Prop} (k2 : ∀ b vs, H b = some (.tup vs) → H' b = some (.tup vs)) (k1 : ∀ a, p a → ∀ vs, H a = some (.lst vs) → H' a = some (.lst vs)) {xs : List V} {ps : List Pt} (h : Paired (PartAt H) xs ps) : PNew p ps → Paired (PartAt H') xs ps := by
  induction h with
  | nil => exact fun _ => .nil
  | cons a _ ih =>
    intro n
    obtain ⟨q, e, e1, e2, e3⟩ := a
    obtain ⟨n1, n2⟩ := n _ List.mem_cons_self
    exact .cons ⟨q, e, k2 _ _ e1, k1 _ n1 _ e2, e3.keep k2 k1 n2⟩ (ih fun x hx => n x (List.mem_cons_of_mem _ hx))
theorem PNew.snoc {p : Addr → Prop} {ps : List Pt} {x : Pt} (h : PNew p ps) (h1 : p x.2.1) (h2 : BdAll p x.2.2) : PNew p (ps ++ [x]) := fun y hy => by
  rcases List.mem_append.mp hy with z | z
  · exact h y z
  · rw [List.mem_singleton.mp z]; exact ⟨h1, h2⟩
structure S5 (H0 : Hp) (ns : List Int) (a0 pl told : Addr) (t : Tp) (vsV xs : List V) (ps : List Pt) (k : Nat) (H : Hp) : Prop where
  sm : Same H0 H
  f0 : H0 a0 = none
  ta : TapIs H a0 t
  etl : H told = some (.lst vsV)
  pv : Paired (VarAt H) vsV (vM ns).1
  epl : H pl = some (.lst xs)
  pp : Paired (PartAt H) xs ps
  dat : ps.map (fun p => (p.1, p.2.2.dat)) = partsM ns k
  np : ∀ p ∈ ps, GdB (vM ns).1 2 p.2.2 ∧ p.2.2.refs.length ≤ 3
  al : a0 ≠ told
  ap : a0 ≠ pl
  nw : PNew (fun x => x ≠ a0 ∧ x ≠ pl) ps
theorem S5.kl {H0 : Hp} {ns : List Int} {a0 pl told : Addr} {t t' : Tp} {vsV xs : List V} {ps : List Pt} {k : Nat} {H H' : Hp} (h : S5 H0 ns a0 pl told t vsV xs ps k H) (kl : Kl a0 H H') (ta : TapIs H' a0 t') : S5 H0 ns a0 pl told t' vsV xs ps k H' :=
  ⟨Kl.same h.sm h.f0 kl, h.f0, ta, kl _ _ h.etl h.al.symm, Paired.mapP h.pv fun _ _ z => z.keep (Kl.tup h.ta kl), kl _ _ h.epl h.ap.symm, parts_keep (Kl.tup h.ta kl) (fun a ha vs e => kl _ _ e ha.1) h.pp h.nw, h.dat, h.np, h.al, h.ap, h.nw⟩
theorem S5.same {H0 : Hp} {ns : List Int} {a0 pl told : Addr} {t : Tp} {vsV xs : List V} {ps : List Pt} {k : Nat} {H H' : Hp} (h : S5 H0 ns a0 pl told t vsV xs ps k H) (s : Same H H') : S5 H0 ns a0 pl told t vsV xs ps k H' := h.kl (Kl.of s) (h.ta.same s)
theorem dat_tit {ns : List Int} {ps : List Pt} {k : Nat} (h : ps.map (fun p => (p.1, p.2.2.dat)) = partsM ns k) : ps.map (fun p => p.1) = (partsM ns k).map fun p => p.1 := by
  rw [← h, List.map_map]; rfl
def sp_ftree (K : PySem.W.Frag) : Sp := fun vs H Q _ => ∃ (a : Addr) (ns : List Int), vs = [.ref a, .int 0] ∧ SqL K H a (ns.map V.int) ∧
  ∀ (T told pl ml : Addr) (vsV xs : List V) (ps : List Pt) (main : Bd) (H' : Hp), Same H H' → TreeAt H' T told pl ml vsV xs (treeM ns).rows ps main → ps.map (fun p => (p.1, p.2.2.dat)) = (treeM ns).parts → main.dat = (treeM ns).main → (∀ p ∈ ps, GdB (vM ns).1 2 p.2.2 ∧ p.2.2.refs.length ≤ 3) → GdB (vM ns).1 3 main → main.refs.length ≤ 6 → Q (.ref T) H'
theorem psFlat_sum {m : Nat} : ∀ {ps : List Pt}, (∀ p ∈ ps, p.2.2.all.length ≤ m) → (psFlat ps).length ≤ ps.length * m
  | [], _ => Nat.zero_le _
  | p :: r, h => by
    have ih := psFlat_sum (ps := r) fun q hq => h q (List.mem_cons_of_mem _ hq)
    have h1 := h p List.mem_cons_self
    have e : psFlat (p :: r) = p.2.2.flat ++ psFlat r := by unfold psFlat; rw [List.map_cons, List.flatten_cons]
    rw [e, List.length_append, Bd.all_refs, List.length_map, List.length_cons, Nat.succ_mul]; omega
end K45

set_option Elab.async false
set_option linter.all false
set_option maxRecDepth 100000
set_option maxHeartbeats 4000000
namespace K45
open PySem L2
section
variable {P : Program} {w : World} {K : PySem.W.Frag} {mg : Str → Option Value} {base : Heap}
theorem z29 : FnScope ["_law_script", "_law_at", "_law_tap_here", "_law_told", "_law_parts", "_law_k", "_law_one", "_law_title", "_law_main"] ["_law_script", "_law_at"] (defScope s_law_fitting_tree) := ⟨rfl, rfl, rfl, by decide +kernel, rfl, by decide +kernel, by decide +kernel⟩
theorem tree_C {x0 x1 x2 x3 x4 x5 x6 x7 x8 x9 x10 x11 x12 x13 x14 x15 x16 x17 x18 x19 x20 x21 x22 x23 x24 x25 x26 f : Addr} {e0 e1 e2 e3 e4 e5 e6 e7 e8 e9 e10 e11 e12 e13 e14 e15 e16 e17 e18 e19 e20 e21 e22 e23 e24 e25 e26 : FuncData} (T : Bt mg)
    (z35 : Q12 K mg x0 e0) (z22 : Q9 K mg x1 e1) (z20 : Q8 K mg x2 e2) (T_fits : Q13 K mg x3 e3) (z21 : Q11 K mg x4 e4) (z31 : Q14 K mg x5 e5) (z44 : Q15 K mg x6 e6) (z23 : Q22 K mg x7 e7) (z10 : Q0 K mg x8 e8) (z32 : Q23 K mg x9 e9) (z0 : Q1 K mg x10 e10) (z11 : Q2 K mg x11 e11) (z17 : Q3 K mg x12 e12) (z30 : Q4 K mg x13 e13) (z43 : Q24 K mg x14 e14) (z15 : Q5 K mg x15 e15) (z13 : Q6 K mg x16 e16) (z14 : Q7 K mg x17 e17) (z25 : Q19 K mg x18 e18) (z12 : Q18 K mg x19 e19) (z24 : Q25 K mg x20 e20) (z18 : Q10 K mg x21 e21) (z33 : Q17 K mg x22 e22) (z26 : Q16 K mg x23 e23) (z40 : Q26 K mg x24 e24) (z36 : Q20 K mg x25 e25) (z16 : Q21 K mg x26 e26) {cdv : Value} {A : Around} {outer : List Env} {s : Shared} {H00 : Hp} {E : XK} (hr : Room 15 (A.deeper (PyProof.Rows.envOfC "_law_fitting_tree" (defScope s_law_fitting_tree) s.heap.objs.size f cdv))) :
    ∃ u, PSs (cxOf CX0 P w K mg base ["_law_script", "_law_at", "_law_tap_here", "_law_told", "_law_parts", "_law_k", "_law_one", "_law_title", "_law_main"] "_law_fitting_tree" (defScope s_law_fitting_tree) f cdv A outer s H00 E).nox ((defBody s_law_fitting_tree).drop 4) u ∧
      ∀ (D : Ends) (v5 v6 v7 v8 : Option V) (a : Addr) (ns : List Int) (a0 pl told : Addr) (vsV xs : List V) (ps : List Pt) (H0 H : Hp), SqL K H0 a (ns.map V.int) → S5 H0 ns a0 pl told (nC ns).2 vsV xs ps (nC ns).1.toNat H →
        (∀ (T told pl ml : Addr) (vsV xs : List V) (ps : List Pt) (main : Bd) (H' : Hp), Same H0 H' → TreeAt H' T told pl ml vsV xs (treeM ns).rows ps main → ps.map (fun p => (p.1, p.2.2.dat)) = (treeM ns).parts → main.dat = (treeM ns).main → (∀ p ∈ ps, GdB (vM ns).1 2 p.2.2 ∧ p.2.2.refs.length ≤ 3) → GdB (vM ns).1 3 main → main.refs.length ≤ 6 → D.rt (.ref T) H') →
        u D [some (.ref a), some (.int 0), some (.ref a0), some (.ref told), some (.ref pl), v5, v6, v7, v8] H := by
  have G_law_tap := ok_law_tap (P := P) (w := w) (base := base) z32.F T
  have z50 := ok_law_cell_at (P := P) (w := w) (base := base) z23.F T
  have z27 : FnOk P w K mg base CX0 14 _ _ ["_law_tap_here", "_law_told", "_law_parts", "_law_deep"] (sp_fb 3) := ok_law_fitting_body (P := P) (w := w) (base := base) T z10 z0 z11 z15 z13 z14 z12 z25 3
  refine ⟨_, (pss_cons (ps_set (i := 8) z29.nd rfl (Or.inl rfl) (pe_lst pa_nil))
      (pss_cons (ps_for PassesOwn.never rfl (pi_range1 rfl T.b_range (pa_consN pe_int pa_nil)) (pg_name (i := 5) z29.nd rfl (Or.inl rfl))
        (pss_cons (ps_set (i := 6) z29.nd rfl (Or.inl rfl) (pe_call G_law_tap (hr.mono (by decide)) rfl z32.m z32.F.kp z32.b .nil pass0 (pa_consN (pe_call z50 (hr.mono (by decide)) rfl z23.m z23.F.kp z23.b .nil pass0 (pa_consN (pv 0) (pa_consN (pe_op op_add (pe_op op_add (pv 1) pe_int) (pv 5)) pa_nil))) pa_nil)))
        (pss_one (ps_set (i := 8) z29.nd rfl (Or.inl rfl) (pe_op op_cat (pv 8) (pe_call z27 (hr.mono (by decide)) rfl z12.m z12.F.kp z12.b .nil pass0 (pa_consN (pv 6) (pa_consN (pv 3) (pa_consN (pe_comp rfl (blk_of (sc0 := defScope s_law_fitting_tree) (N0 := ["_law_script", "_law_at", "_law_tap_here", "_law_told", "_law_parts", "_law_k", "_law_one", "_law_title", "_law_main"]) (N' := ["_law_name", "_law_body"]) (own := 2) (fv := []) (by decide +kernel) rfl rfl) (pi_list (pv 4)) (fun _ _ _ _ => (pg_tupK (K := K) (n := 2) rfl (pgs_cons (pg_name (i := 0) (by show List.Nodup (["_law_name", "_law_body"] : List Str); decide +kernel) rfl (Or.inl rfl)) (pgs_cons (pg_name (i := 1) (by show List.Nodup (["_law_name", "_law_body"] : List Str); decide +kernel) rfl (Or.inl rfl)) pgs_nil)))) (fun _ _ _ _ => (pv 0))) (pa_consN pe_int pa_nil))))))))))
      (pss_one (ps_ret (pe_tup (pa_consN (pv 3) (pa_consN (pv 4) (pa_consN (pv 8) pa_nil)))))))), ?_⟩
  intro D v5 v6 v7 v8 a ns a0 pl told vsV xs ps H0 H hq s5 q
  have hs : sizeLine = 16777216 := sizeLine_eq
  have cm : cMax = 90000000000000 := rfl
  have pb := pts_bd ns
  have rf := rows_facts ns
  have tf := ptit_facts ns
  have lp : ps.length ≤ 3 := by
    have := congrArg List.length s5.dat
    rw [List.length_map, parts_len] at this; omega
  have lx : xs.length = ps.length := s5.pp.length
  have htit : ps.map (fun p => p.1) = ptit ns := dat_tit s5.dat
  refine ⟨Nat.zero_le _, fun m0 hm0 => ?_⟩
  have y1 := Same.put (o := .lst []) hm0
  have em0 : upd H m0 (.lst []) m0 = some (.lst []) := upd_same
  generalize upd H m0 (.lst []) = H1 at y1 em0 ⊢
  have s51 := s5.same y1
  have gd0 : GdB (vM ns).1 3 .nil := ⟨trivial, Nat.zero_le _, fun x hx => (by rw [Bd.all] at hx; cases hx), by rw [Bd.all]; exact Nat.zero_le _⟩
  refine ⟨_, rfl, by decide, by decide, for_range (lo := 0) (n := 2) (fun k σ H3 => ∃ (v6 v7 v8 : Option V) (ml : Addr) (main : Bd), σ = [some (.ref a), some (.int 0), some (.ref a0), some (.ref told), some (.ref pl), v6, v7, v8, some (.ref ml)] ∧ S5 H0 ns a0 pl told (nC ns).2 vsV xs ps (nC ns).1.toNat H3 ∧ H3 ml = some (.lst main.refs) ∧ BdAt H3 main ∧ GdB (vM ns).1 3 main ∧ main.dat = mainM ns k ∧ main.refs.length ≤ 3 * k)
    ⟨_, _, _, m0, .nil, rfl, s51, em0, trivial, gd0, by rw [Bd.dat]; rfl, Nat.zero_le _⟩ ?_ ?_⟩
  · rintro k σ H3 hk ⟨v6, v7, v8, ml, main, rfl, s3, eml, bm, gm, dm, lm⟩
    have hk3 : k ≤ 1 := by omega
    have hq3 : SqL K H3 a (ns.map V.int) := s3.sm.seq hq
    refine ⟨_, rfl, _, rfl, _, _, rfl, rfl, _, rfl, _, _, rfl, rfl, a, ns, 3 + k, ?_, hq3, ?_⟩
    · show [V.ref a, V.int ((0 : Int) + 3 + (0 + (k : Int)))] = [V.ref a, V.int ((3 + k : Nat) : Int)]
      rw [show (0 : Int) + 3 + (0 + (k : Int)) = ((3 + k : Nat) : Int) by omega]
    refine ⟨_, rfl, fun a1 H4 ha1 y4 t4 => ?_⟩
    have a1a : a1 ≠ a0 := fun z => by rw [z, s3.ta] at ha1; cases ha1
    have a1told : a1 ≠ told := fun z => by rw [z, s3.etl] at ha1; cases ha1
    have s4 := s3.same y4
    refine ⟨_, rfl, _, rfl, _, rfl, _, rfl, pl, rfl, ⟨_, SqL.of s4.epl⟩, comp_tup2 (K := K) (a := pl) (xs := xs) (fvals := []) (fun acc j H5 => H4 acc = none ∧ Same H4 H5 ∧ H5 acc = some (.lst (((ps.take j).map fun p => V.str p.1)))) ?_ ?_ ?_ ?_ ?_⟩
    · rintro acc j H5 ⟨_, s5', _⟩
      exact SqL.of (s5' _ _ s4.epl)
    · intro acc hacc
      exact ⟨hacc, Same.put hacc, upd_same⟩
    · rintro acc j x H5 hx ⟨_, s5', _⟩
      obtain ⟨p, _, q0, rfl, e1, _⟩ := paired_at s4.pp hx
      exact ⟨q0, _, _, rfl, s5' _ _ e1⟩
    · rintro acc j T0 x1 x2 H5 R hx eT ⟨hacc, s5', ea⟩ hR
      obtain ⟨p, hp, q0, e, e1, e2, e3⟩ := paired_at s4.pp hx
      cases e
      have := s5' _ _ e1
      rw [eT] at this
      cases this
      have hj : j < xs.length := (List.getElem?_eq_some_iff.mp hx).1
      refine ⟨_, rfl, hR _ _ ⟨_, ea, by rw [List.length_map, List.length_take]; omega, hacc, Kl.same s5' hacc Kl.one, ?_⟩⟩
      rw [upd_same, List.take_add_one, hp, List.map_append]; rfl
    · rintro acc H5 hacc ⟨_, y5, ea⟩
      rw [lx, List.take_of_length_le (Nat.le_refl _)] at ea
      have ea2 : H5 acc = some (.lst ((ptit ns).map V.str)) := by rw [ea, ← htit, List.map_map]; rfl
      have acca1 : acc ≠ a1 := fun z => by rw [z, t4] at hacc; cases hacc
      have s55 := s4.same y5
      have t15 : TapIs H5 a1 (tapM (ns.getD (3 + k) 0)) := y5 _ _ t4
      have bb : Bb 3 = 25123 := rfl
      have c1 : (tapM (ns.getD (3 + k) 0)).c = 0 := rfl
      refine ⟨a1, told, acc, vsV, (vM ns).1, ptit ns, _, rfl, t15, by omega, ⟨s55.etl, s55.pv, ea2, rf.2.2.1, rf.2.2.2.1, by omega, by omega, tf.2, a1told, acca1.symm⟩, fun r b H8 k8 t8 er fr ba bw bd bg bl => ?_⟩
      have s38 : Same H3 H8 := fun x o e => k8 _ _ (y5 _ _ (y4 _ _ e)) (ne_of_none e ha1)
      have s8 := s3.same s38
      refine ⟨ml, r, _, _, rfl, rfl, s38 _ _ eml, er, by omega, fun p hp => ?_⟩
      have yp := Same.put (o := .lst (main.refs ++ b.refs)) hp
      refine ⟨_, _, _, p, main.app b, rfl, s8.same yp, by rw [upd_same, app_refs], app_at ((bm.same s38).same yp) (ba.same yp), ⟨app_ok gm.ok bg.ok, by rw [app_nest]; have := gm.nest; have := bg.nest; omega, fun x hx => ?_, ?_⟩, by rw [app_dat, dm, bd]; rfl, by rw [app_refs, List.length_append]; omega⟩
      · rw [app_allS] at hx
        rcases List.mem_append.mp hx with z | z
        · exact gm.all x z
        · exact bg.all x z
      · rw [app_allS, app_refs, List.length_append, List.length_append, Nat.add_mul]
        have := gm.cnt; have := bg.cnt; omega
  · rintro σ H3 ⟨v6, v7, v8, ml, main, rfl, s3, eml, bm, gm, dm, lm⟩
    refine ⟨_, rfl, _, rfl, _, rfl, (by show 3 ≤ sizeLine; omega), fun T0 hT0 => ?_⟩
    have y4 := Same.put (o := .tup [V.ref told, V.ref pl, V.ref ml]) hT0
    have s54 := s3.same y4
    have w2 : Wn 2 = 42 := rfl
    have w3 : Wn 3 = 258 := rfl
    have hcm : main.all.length ≤ 6 * (1 + Wn 3) := Nat.le_trans gm.cnt (Nat.mul_le_mul_right _ lm)
    have hcp : (psFlat ps).length ≤ ps.length * 129 := psFlat_sum fun p hp => by
      have h := Nat.le_trans (s5.np p hp).1.cnt (Nat.mul_le_mul_right _ (s5.np p hp).2)
      omega
    have hcp3 : ps.length * 129 ≤ 3 * 129 := Nat.mul_le_mul_right _ lp
    exact q T0 told pl ml vsV xs ps main _ s54.sm ⟨upd_same, s54.etl, s54.pv, s54.epl, s54.pp, y4 _ _ eml, bm.same y4, fun p hp => (by have := (s5.np p hp).1.nest; omega), by have := gm.nest; omega, by rw [Bd.all_refs, List.length_map]; omega⟩ s5.dat dm s5.np gm lm
end
end K45

set_option Elab.async false
set_option linter.all false
set_option maxRecDepth 100000
set_option maxHeartbeats 4000000
namespace K45
open PySem L2
section
variable {P : Program} {w : World} {K : PySem.W.Frag} {mg : Str → Option Value} {base : Heap}
theorem ok_law_fitting_tree {x0 x1 x2 x3 x4 x5 x6 x7 x8 x9 x10 x11 x12 x13 x14 x15 x16 x17 x18 x19 x20 x21 x22 x23 x24 x25 x26 f : Addr} {e0 e1 e2 e3 e4 e5 e6 e7 e8 e9 e10 e11 e12 e13 e14 e15 e16 e17 e18 e19 e20 e21 e22 e23 e24 e25 e26 fd : FuncData} (F : Fun K "_law_fitting_tree" "_law_fitting_tree" s_law_fitting_tree f fd) (T : Bt mg)
    (z35 : Q12 K mg x0 e0) (z22 : Q9 K mg x1 e1) (z20 : Q8 K mg x2 e2) (T_fits : Q13 K mg x3 e3) (z21 : Q11 K mg x4 e4) (z31 : Q14 K mg x5 e5) (z44 : Q15 K mg x6 e6) (z23 : Q22 K mg x7 e7) (z10 : Q0 K mg x8 e8) (z32 : Q23 K mg x9 e9) (z0 : Q1 K mg x10 e10) (z11 : Q2 K mg x11 e11) (z17 : Q3 K mg x12 e12) (z30 : Q4 K mg x13 e13) (z43 : Q24 K mg x14 e14) (z15 : Q5 K mg x15 e15) (z13 : Q6 K mg x16 e16) (z14 : Q7 K mg x17 e17) (z25 : Q19 K mg x18 e18) (z12 : Q18 K mg x19 e19) (z24 : Q25 K mg x20 e20) (z18 : Q10 K mg x21 e21) (z33 : Q17 K mg x22 e22) (z26 : Q16 K mg x23 e23) (z40 : Q26 K mg x24 e24) (z36 : Q20 K mg x25 e25) (z16 : Q21 K mg x26 e26) : FnOk P w K mg base CX0 16 f fd ["_law_script", "_law_at"] (sp_ftree K) := by
  have z19 := ok_law_next (P := P) (w := w) (mg := mg) (base := base) z0.F z10
  have G_law_tap := ok_law_tap (P := P) (w := w) (base := base) z32.F T
  have z50 := ok_law_cell_at (P := P) (w := w) (base := base) z23.F T
  have G_law_vars := ok_law_vars (P := P) (w := w) (base := base) z43.F T z10 z0 z30
  have G_law_titles := ok_law_titles (P := P) (w := w) (base := base) z30.F T z10 z0
  have z27 : FnOk P w K mg base CX0 12 _ _ ["_law_tap_here", "_law_told", "_law_parts", "_law_deep"] (sp_fb 2) := ok_law_fitting_body (P := P) (w := w) (base := base) T z10 z0 z11 z15 z13 z14 z12 z25 2
  refine F.ok (k := 15) z29 (fun vs H Q E h => ?_) (fun cdv A outer s H vs Q E hr h => ?_)
  · obtain ⟨a, ns, rfl, _⟩ := h; rfl
  · obtain ⟨a, ns, rfl, hq, q⟩ := h
    have hs : sizeLine = 16777216 := sizeLine_eq
    have cm : cMax = 90000000000000 := rfl
    obtain ⟨uC, hC, kC⟩ := tree_C (P := P) (w := w) (base := base) (f := f) (cdv := cdv) (outer := outer) (H00 := H) (E := E) T z35 z22 z20 T_fits z21 z31 z44 z23 z10 z32 z0 z11 z17 z30 z43 z15 z13 z14 z25 z12 z24 z18 z33 z26 z40 z36 z16 hr
    refine ⟨_, (pss_cons (ps_set (i := 2) z29.nd rfl (Or.inl rfl) (pe_call G_law_tap (hr.mono (by decide)) rfl z32.m z32.F.kp z32.b .nil pass0 (pa_consN (pe_call z50 (hr.mono (by decide)) rfl z23.m z23.F.kp z23.b .nil pass0 (pa_consN (pv 0) (pa_consN (pv 1) pa_nil))) pa_nil)))
      (pss_cons (ps_set (i := 3) z29.nd rfl (Or.inl rfl) (pe_call G_law_vars (hr.mono (by decide)) rfl z43.m z43.F.kp z43.b .nil pass0 (pa_consN (pv 2) (pa_consN pe_int pa_nil))))
      (pss_cons (ps_set (i := 4) z29.nd rfl (Or.inl rfl) (pe_lst pa_nil))
      (pss_cons (ps_for PassesOwn.never rfl (pi_range1 rfl T.b_range (pa_consN (pe_call z19 (hr.mono (by decide)) rfl z0.m z0.F.kp z0.b .nil pass0 (pa_consN (pv 2) (pa_consN pe_int pa_nil))) pa_nil)) (pg_name (i := 5) z29.nd rfl (Or.inl rfl))
        (pss_cons (ps_set (i := 6) z29.nd rfl (Or.inl rfl) (pe_call G_law_tap (hr.mono (by decide)) rfl z32.m z32.F.kp z32.b .nil pass0 (pa_consN (pe_call z50 (hr.mono (by decide)) rfl z23.m z23.F.kp z23.b .nil pass0 (pa_consN (pv 0) (pa_consN (pe_op op_add (pe_op op_add (pv 1) pe_int) (pv 5)) pa_nil))) pa_nil)))
        (pss_cons (ps_set (i := 7) z29.nd rfl (Or.inl rfl) (pe_ix ix_list (pe_call G_law_titles (hr.mono (by decide)) rfl z30.m z30.F.kp z30.b .nil pass0 (pa_consN (pe_call G_law_tap (hr.mono (by decide)) rfl z32.m z32.F.kp z32.b .nil pass0 (pa_consN (pe_call z50 (hr.mono (by decide)) rfl z23.m z23.F.kp z23.b .nil pass0 (pa_consN (pv 0) (pa_consN (pv 1) pa_nil))) pa_nil)) (pa_consN pe_int pa_nil))) (pv 5) (fun _ _ => rfl)))
        (pss_one (ps_expr (pe_bm PySem.F.plainAttrs_list PySem.F.slot_list_append PySem.F.type_list_append mt_append (pv 4) (pa_consN (pe_tup (pa_consN (pv 7) (pa_consN (pe_call z27 (hr.mono (by decide)) rfl z12.m z12.F.kp z12.b .nil pass0 (pa_consN (pv 6) (pa_consN (pv 3) (pa_consN (pe_comp rfl (blk_of (sc0 := defScope s_law_fitting_tree) (N0 := ["_law_script", "_law_at", "_law_tap_here", "_law_told", "_law_parts", "_law_k", "_law_one", "_law_title", "_law_main"]) (N' := ["_law_name", "_law_body"]) (own := 2) (fv := []) (by decide +kernel) rfl rfl) (pi_list (pv 4)) (fun _ _ _ _ => (pg_tupK (K := K) (n := 2) rfl (pgs_cons (pg_name (i := 0) (by show List.Nodup (["_law_name", "_law_body"] : List Str); decide +kernel) rfl (Or.inl rfl)) (pgs_cons (pg_name (i := 1) (by show List.Nodup (["_law_name", "_law_body"] : List Str); decide +kernel) rfl (Or.inl rfl)) pgs_nil)))) (fun _ _ _ _ => (pv 0))) (pa_consN pe_int pa_nil))))) pa_nil))) pa_nil)))))))
      hC)))), ?_⟩
    have rf := rows_facts ns
    have pb := pts_bd ns
    refine ⟨_, rfl, _, rfl, a, ns, 0, rfl, hq, _, rfl, fun a0 H1 ha0 y1 t1 => ?_⟩
    have t1 : TapIs H1 a0 (t0M ns) := t1
    have c0 : (t0M ns).c = 0 := rfl
    refine ⟨_, rfl, a0, t0M ns, 7, rfl, t1, by omega, by decide, by decide, fun told vsV H4 htold tolda k14 t4 etl pv => ?_⟩
    have t4 : TapIs H4 a0 (vM ns).2 := t4
    have pv : Paired (VarAt H4) vsV (vM ns).1 := pv
    have s4 : Same H H4 := Kl.same y1 ha0 k14
    have lv : vsV.length = (vM ns).1.length := pv.length
    refine ⟨Nat.zero_le _, fun pl hpl => ?_⟩
    have y6 := Same.put (o := .lst []) hpl
    have epl : upd H4 pl (.lst []) pl = some (.lst []) := upd_same
    generalize upd H4 pl (.lst []) = H6 at y6 epl ⊢
    have t6 : TapIs H6 a0 (vM ns).2 := t4.same y6
    have pla : pl ≠ a0 := fun z => by rw [z, t4] at hpl; cases hpl
    refine ⟨_, rfl, a0, (vM ns).2, 3, rfl, t6, by omega, by decide, by decide, fun H9 k69 t9 => ?_⟩
    have t9 : TapIs H9 a0 (nC ns).2 := t9
    have k49 : Kl a0 H4 H9 := (Kl.of (l := a0) y6).trans k69
    have s9 : Same H H9 := Kl.same s4 ha0 k49
    have epl9 := k69 _ _ epl pla
    have pltold : pl ≠ told := fun z => by rw [z, etl] at hpl; cases hpl
    have s59 : S5 H ns a0 pl told (nC ns).2 vsV [] [] 0 H9 := ⟨s9, ha0, t9, k49 _ _ etl tolda, Paired.mapP pv fun _ _ z => z.keep (Kl.tup t4 k49), epl9, .nil, rfl, fun p h => (by cases h), tolda.symm, pla.symm, fun p h => (by cases h)⟩
    have plH : H pl = none := s4.free hpl
    refine ⟨_, rfl, by show -(2 ^ 62) ≤ (nC ns).1; omega, by show (nC ns).1 < 2 ^ 62; omega, for_range (lo := 0) (n := (nC ns).1.toNat) (fun k σ Hk => ∃ (v6 v7 v8 : Option V) (xs : List V) (ps : List Pt), σ = [some (.ref a), some (.int 0), some (.ref a0), some (.ref told), some (.ref pl), v6, v7, v8, none] ∧ S5 H ns a0 pl told (nC ns).2 vsV xs ps k Hk) ⟨_, _, _, [], [], rfl, s59⟩ ?_ ?_⟩
    · rintro k σ Hk hk ⟨v6, v7, v8, xs, ps, rfl, sk⟩
      have hk13 : k < 3 := by omega
      have hqk : SqL K Hk a (ns.map V.int) := sk.sm.seq hq
      have lps : ps.length = k := by
        have := congrArg List.length sk.dat
        rw [List.length_map, parts_len] at this; exact this
      have lx : xs.length = ps.length := sk.pp.length
      have htit : ps.map (fun p => p.1) = (partsM ns k).map fun p => p.1 := dat_tit sk.dat
      refine ⟨_, rfl, _, rfl, _, _, rfl, rfl, _, rfl, _, _, rfl, rfl, a, ns, 1 + k, ?_, hqk, ?_⟩
      · show [V.ref a, V.int ((0 : Int) + 1 + (0 + (k : Int)))] = [V.ref a, V.int ((1 + k : Nat) : Int)]
        rw [show (0 : Int) + 1 + (0 + (k : Int)) = ((1 + k : Nat) : Int) by omega]
      refine ⟨_, rfl, fun a1 Ha ha1 ya ta => ?_⟩
      have ta : TapIs Ha a1 (tapK ns k) := ta
      have sa := sk.same ya
      have a1a : a1 ≠ a0 := fun z => by rw [z, sk.ta] at ha1; cases ha1
      have a1told : a1 ≠ told := fun z => by rw [z, sk.etl] at ha1; cases ha1
      refine ⟨_, rfl, _, rfl, a, ns, 0, rfl, sa.sm.seq hq, _, rfl, fun a2 Hb ha2 yb tb => ?_⟩
      have tb : TapIs Hb a2 (t0M ns) := tb
      refine ⟨a2, t0M ns, 3, rfl, tb, by omega, by decide, fun tl Hc htl kc tc etl2 => ?_⟩
      obtain ⟨tok, tix⟩ := title_ok2 ns hk13
      refine ⟨_, rfl, tl, _, _, _, rfl, rfl, SqL.of etl2, by rw [Int.zero_add]; exact atI_nat (by rw [List.getElem?_map, tix]; rfl), ?_⟩
      have sc : Same Ha Hc := Kl.same yb ha2 kc
      have s5c := sa.same sc
      refine ⟨_, rfl, .inl ⟨rfl, _, SqL.of s5c.epl⟩, _, rfl, _, rfl, _, rfl, _, rfl, pl, rfl, ⟨_, SqL.of s5c.epl⟩, comp_tup2 (K := K) (a := pl) (xs := xs) (fvals := []) (fun acc j He => Hc acc = none ∧ Same Hc He ∧ He acc = some (.lst (((ps.take j).map fun p => V.str p.1)))) ?_ ?_ ?_ ?_ ?_⟩
      · rintro acc j He ⟨_, se, _⟩
        exact SqL.of (se _ _ s5c.epl)
      · intro acc hacc
        exact ⟨hacc, Same.put hacc, upd_same⟩
      · rintro acc j x He hx ⟨_, se, _⟩
        obtain ⟨p, _, q0, rfl, e1, _⟩ := paired_at s5c.pp hx
        exact ⟨q0, _, _, rfl, se _ _ e1⟩
      · rintro acc j T0 x1 x2 He R hx eT ⟨hacc, se, ea⟩ hR
        obtain ⟨p, hp, q0, e, e1, e2, e3⟩ := paired_at s5c.pp hx
        cases e
        have := se _ _ e1
        rw [eT] at this
        cases this
        have hj : j < xs.length := (List.getElem?_eq_some_iff.mp hx).1
        refine ⟨_, rfl, hR _ _ ⟨_, ea, by rw [List.length_map, List.length_take]; omega, hacc, Kl.same se hacc Kl.one, ?_⟩⟩
        rw [upd_same, List.take_add_one, hp, List.map_append]; rfl
      · rintro acc He hacc ⟨_, ye, ea⟩
        rw [lx, List.take_of_length_le (Nat.le_refl _)] at ea
        have ea2 : He acc = some (.lst (((partsM ns k).map fun p => p.1).map V.str)) := by rw [ea, ← htit, List.map_map]; rfl
        have s5e := s5c.same ye
        have tae : TapIs He a1 (tapK ns k) := (sc.trans ye) _ _ ta
        have acca1 : acc ≠ a1 := fun z => by rw [z, sc _ _ ta] at hacc; cases hacc
        have ck : (tapK ns k).c = 0 := rfl
        have b2 : Bb 2 = 4171 := rfl
        refine ⟨a1, told, acc, vsV, (vM ns).1, _, tapK ns k, rfl, tae, by omega, ⟨s5e.etl, s5e.pv, ea2, rf.2.2.1, rf.2.2.2.1, by omega, by rw [List.length_map, parts_len]; omega, tit_ok ns k (by omega), a1told, acca1.symm⟩, fun r b Hf kf tf er fr ba bw bd bg bl => ⟨(by show 2 ≤ sizeLine; omega), fun q0 hq0 => ?_⟩⟩
        have yq := Same.put (o := .tup [V.str (titleK ns k), V.ref r]) hq0
        have eq0 : upd Hf q0 (.tup [V.str (titleK ns k), V.ref r]) q0 = some (.tup [V.str (titleK ns k), V.ref r]) := upd_same
        generalize upd Hf q0 (.tup [V.str (titleK ns k), V.ref r]) = Hg at yq eq0 ⊢
        have hke : ∀ x o, Hk x = some o → He x = some o := fun x o e => ye _ _ (sc _ _ (ya _ _ e))
        have skg : Same Hk Hg := fun x o e => yq _ _ (kf _ _ (hke x o e) (ne_of_none e ha1))
        have sg := sk.same skg
        refine ⟨pl, _, _, rfl, rfl, sg.epl, by omega, ?_⟩
        have Hea : He a0 ≠ none := by rw [s5e.ta]; simp
        have Hep : He pl ≠ none := by rw [s5e.epl]; simp
        have xa : ∀ x, He x = none → x ≠ a0 ∧ x ≠ pl := fun x hx => ⟨fun z => Hea (by rw [← z]; exact hx), fun z => Hep (by rw [← z]; exact hx)⟩
        have kp : ∀ x o, Hg x = some o → x ≠ pl → upd Hg pl (.lst (xs ++ [V.ref q0])) x = some o := fun x o e n => by rw [upd_ne n]; exact e
        have tp : ∀ x vs, Hg x = some (.tup vs) → upd Hg pl (.lst (xs ++ [V.ref q0])) x = some (.tup vs) := fun x vs e => kp _ _ e (ne_of e sg.epl (by intro z; cases z))
        have xr := xa r fr
        have bx : BdAll (fun x => x ≠ a0 ∧ x ≠ pl) b := BdAll.mono xa bw
        refine ⟨_, _, _, xs ++ [.ref q0], ps ++ [(titleK ns k, r, b)], rfl, ⟨fun x o e => kp _ _ (sg.sm _ _ e) (ne_of_none e plH), ha0, kp _ _ sg.ta sg.ap, kp _ _ sg.etl pltold.symm, Paired.mapP sg.pv fun _ _ z => z.keep tp, upd_same, Paired.app (parts_keep tp (fun x hx vs e => kp _ _ e hx.2) sg.pp sg.nw) (.cons ⟨q0, rfl, tp _ _ eq0, kp _ _ (yq _ _ er) xr.2, (ba.same yq).keep tp (fun x hx vs e => kp _ _ e hx.2) bx⟩ .nil), ?_, fun p hp => ?_, sg.al, sg.ap, sg.nw.snoc xr bx⟩⟩
        · rw [List.map_append, sg.dat]
          show _ ++ [(titleK ns k, b.dat)] = _
          rw [bd]; rfl
        · rcases List.mem_append.mp hp with z | z
          · exact sg.np p z
          · rw [List.mem_singleton.mp z]; exact ⟨bg, bl⟩
    · rintro σ Hk ⟨v6, v7, v8, xs, ps, rfl, sk⟩
      exact kC _ _ _ _ _ a ns a0 pl told vsV xs ps H Hk hq sk q
end
end K45

set_option Elab.async false
set_option linter.all false
set_option maxRecDepth 100000
set_option maxHeartbeats 4000000
namespace K45
open PySem L2
structure Xr (K : PySem.W.Frag) (mg : Str → Option Value) (TE C b1 b2 b3 b4 b5 b6 b7 : Addr) : Prop where
  m_TownError : mg "TownError" = some (.ref TE)
  k_TownError : XcOk K TE
  m_BadKind : mg "BadKind" = some (.ref C)
  m_BadLine : mg "BadLine" = some (.ref b1)
  m_BadRow : mg "BadRow" = some (.ref b2)
  m_GivenTwice : mg "GivenTwice" = some (.ref b3)
  m_Lacking : mg "Lacking" = some (.ref b4)
  m_NoFile : mg "NoFile" = some (.ref b5)
  m_NoRoom : mg "NoRoom" = some (.ref b6)
  m_TooLong : mg "TooLong" = some (.ref b7)
  kk : PySem.W.kitOne K (.ref C) (.ref C) = some true
  kv : PySem.W.kitOne K (.ref C) (.type "ValueError") = some true
  ka : PySem.W.kitAny K (.ref C) [.ref b1, .ref b2, .ref b3, .ref b4, .ref b5, .ref b6, .ref b7] = some false
def sp_right : Sp := fun vs H Q _ => ∃ (T told pl ml : Addr) (vsV xs : List V) (rows : List VRow) (ps : List Pt) (main : Bd), vs = [.ref T, optI (fF rows (psAll ps ++ main.all) 0)] ∧ TreeAt H T told pl ml vsV xs rows ps main ∧ VarsOk rows ∧ rows.length ≤ 9 ∧ (∀ x ∈ psAll ps ++ main.all, SmAt H x ∧ SmOk x) ∧
  ∀ H', Same H H' → Q (.bl true) H'
section
variable {P : Program} {w : World} {K : PySem.W.Frag} {mg : Str → Option Value} {base : Heap}
theorem z57 : FnScope ["_law_tree", "_law_due_here", "_law_told", "e", "_law_others"] ["_law_tree", "_law_due_here"] (defScope s_law_right) := ⟨rfl, rfl, rfl, by decide +kernel, rfl, by decide +kernel, by decide +kernel⟩
theorem ok_law_right {f f1 f2 f3 f4 f5 f6 f7 TE C fi b1 b2 b3 b4 b5 b6 b7 : Addr} {fd d1 d2 d3 d4 d5 d6 d7 di : FuncData} (F : Fun K "_law_right" "_law_right" s_law_right f fd) (T : Bt mg) (z35 : Q12 K mg f1 d1) (z22 : Q9 K mg f2 d2) (z20 : Q8 K mg f3 d3) (T_fits : Q13 K mg f4 d4) (z21 : Q11 K mg f5 d5) (z31 : Q14 K mg f6 d6) (z44 : Q15 K mg f7 d7)
    (X_BadKind : Xi K mg "BadKind" "BadKind.__init__" s_BadKind___init__ "place" C TE fi di) (XR : Xr K mg TE C b1 b2 b3 b4 b5 b6 b7) : FnOk P w K mg base CX0 13 f fd ["_law_tree", "_law_due_here"] sp_right := by
  have G_looked := ok_looked (P := P) (w := w) (base := base) T z35 z22 z20 T_fits z21 z31 z44 X_BadKind
  refine F.ok (k := 12) z57 (fun vs H Q E h => ?_) (fun cdv A outer s H vs Q E hr h => ?_)
  · obtain ⟨T0, told, pl, ml, vsV, xs, rows, ps, main, rfl, _⟩ := h; rfl
  · obtain ⟨T0, told, pl, ml, vsV, xs, rows, ps, main, rfl, tr, ho, hl, hsm, q⟩ := h
    have hs : sizeLine = 16777216 := sizeLine_eq
    refine ⟨_, (pss_cons (ps_set (i := 2) z57.nd rfl (Or.inl rfl) (pe_un un_neg pe_int))
      (pss_cons (ps_tryAs2 (i := 3) rfl rfl rfl z57.nd rfl rfl (Or.inl rfl) rfl XR.m_TownError XR.k_TownError (fun _ _ _ hW => (pss_one (ps_if (pt_cmpR op_isB (pe_callV G_looked (hr.mono (by decide)) rfl z44.m z44.F.kp z44.b hW (pa_consN (pv 0) pa_nil)) pe_bl (nomark _))
          (pss_one (ps_set (i := 2) z57.nd rfl (Or.inl rfl) pe_non))
          pss_nil))) (fun _ => (pss_cons (ps_set (i := 4) z57.nd rfl (Or.inl rfl) (pe_callB (call_isyTK (K := K)) rfl T.b_isinstance (by decide +kernel) (pa_consN (pv 3) (pa_consN (pe_tup (pa_consN (pe_glob (v := .ref _) rfl XR.m_BadLine rfl) (pa_consN (pe_glob (v := .ref _) rfl XR.m_BadRow rfl) (pa_consN (pe_glob (v := .ref _) rfl XR.m_GivenTwice rfl) (pa_consN (pe_glob (v := .ref _) rfl XR.m_Lacking rfl) (pa_consN (pe_glob (v := .ref _) rfl XR.m_NoFile rfl) (pa_consN (pe_glob (v := .ref _) rfl XR.m_NoRoom rfl) (pa_consN (pe_glob (v := .ref _) rfl XR.m_TooLong rfl) pa_nil)))))))) pa_nil))))
        (pss_one (ps_if (PW.pt (pw_and (pt_val (pe_callB (call_isyOK (K := K)) rfl T.b_isinstance (by decide +kernel) (pa_consN (pv 3) (pa_consN (pe_glob (v := .ref _) rfl XR.m_BadKind rfl) pa_nil)))) (pw_and (pt_val (pe_callB (call_isyBK (K := K) (T := "ValueError")) rfl T.b_isinstance (by decide +kernel) (pa_consN (pv 3) (pa_consN (pe_bltn (v := .ty "ValueError") (u := .type "ValueError") rfl T.b_ValueError (by decide +kernel) rfl) pa_nil)))) (pw_and (pt_not (pt_val (pv 4))) (pw_and1 (pt_not (pt_val (pe_callB (call_isiK (K := K) (T := "bool")) rfl T.b_isinstance (by decide +kernel) (pa_consN (pe_xaK (K := K) (pv 3) rfl) (pa_consN (pe_bltn (v := .ty "bool") (u := .type "bool") rfl T.b_bool (by decide +kernel) rfl) pa_nil))))))))))
          (pss_one (ps_set (i := 2) z57.nd rfl (Or.inl rfl) (pe_xaK (K := K) (pv 3) rfl)))
          pss_nil)))))
      (pss_one (ps_ret (pe_cmpR (op_eqD (hr.units)) (pv 2) (pv 1) (nomark _)))))), ?_⟩
    refine ⟨_, rfl, ?_⟩
    refine ⟨_, rfl, T0, told, pl, ml, vsV, xs, rows, ps, main, rfl, tr, ho, hl, hsm, fun hn H1 s1 => ?_, fun i hi dx H1 s1 hdx edx => ⟨⟨C, rfl, X_BadKind.k, X_BadKind.up⟩, fun ea hea => ?_⟩⟩
    · have e0 : fF rows (psAll ps ++ main.all) 0 = none := by unfold fF; rw [hn]; rfl
      rw [e0]
      refine ⟨_, _, rfl, rfl, _, rfl, ?_⟩
      refine iteT ?_
      refine ⟨_, rfl, _, rfl, .none, .none, .non, .non, rfl, rfl, (by decide), ?_⟩
      exact q H1 s1
    · have e0 : fF rows (psAll ps ++ main.all) 0 = some (i : Int) := by unfold fF; rw [hi]; show some (0 + (i : Int)) = _; rw [Int.zero_add]
      rw [e0]
      have y2 := Same.put (o := XOd (.ref C) (some dx) ea) hea
      have ee : upd H1 ea (XOd (.ref C) (some dx) ea) ea = some (XOd (.ref C) (some dx) ea) := upd_same
      generalize upd H1 ea (XOd (.ref C) (some dx) ea) = H2 at y2 ee ⊢
      have ed2 := y2 _ _ edx
      refine ⟨_, rfl, (by show 7 ≤ sizeLine; omega), fun tp htp => ?_⟩
      have y3 := Same.put (o := .tup [V.ref b1, V.ref b2, V.ref b3, V.ref b4, V.ref b5, V.ref b6, V.ref b7]) htp
      have etp : upd H2 tp (.tup [V.ref b1, V.ref b2, V.ref b3, V.ref b4, V.ref b5, V.ref b6, V.ref b7]) tp = some (.tup (([b1, b2, b3, b4, b5, b6, b7] : List Addr).map V.ref)) := upd_same
      generalize upd H2 tp (.tup [V.ref b1, V.ref b2, V.ref b3, V.ref b4, V.ref b5, V.ref b6, V.ref b7]) = H3 at y3 etp ⊢
      have ee3 := y3 _ _ ee
      have ed3 := y3 _ _ ed2
      refine ⟨ea, C, tp, _, [b1, b2, b3, b4, b5, b6, b7], false, rfl, ee3, X_BadKind.xi, etp, XR.ka, ?_⟩
      refine ⟨_, rfl, ea, C, C, _, true, rfl, ee3, X_BadKind.xi, XR.kk, _, rfl, ?_⟩
      refine iteT ?_
      refine ⟨_, rfl, ea, C, _, true, rfl, ee3, X_BadKind.xi, XR.kv, _, rfl, ?_⟩
      refine iteT ?_
      refine ⟨_, rfl, _, rfl, ?_⟩
      refine iteT ?_
      refine ⟨_, rfl, ea, C, dx, _, _, rfl, ee3, X_BadKind.xa, ed3, rfl, _, _, false, rfl, .int _, rfl, _, rfl, ?_⟩
      refine iteT ?_
      refine ⟨_, rfl, ea, C, dx, _, _, rfl, ee3, X_BadKind.xa, ed3, rfl, ?_⟩
      refine ⟨_, rfl, _, rfl, .int i, .int i, .int _, .int _, rfl, rfl, (by show 0 ≤ 64; decide), ?_⟩
      rw [show (if false = true then !PyData.eqv (.int (i : Int)) (.int (i : Int)) else PyData.eqv (.int (i : Int)) (.int (i : Int))) = true from SeqAt.eqv_refl _ rfl]
      exact q H3 ((s1.trans y2).trans y3)
end
end K45

set_option Elab.async false
set_option linter.all false
set_option maxRecDepth 100000
set_option maxHeartbeats 4000000
namespace K45
open PySem L2
theorem ex_depth : ∀ e : Ex, PyData.depth (exD e) ≤ e.dep + 1
  | .num _ => by show max 0 (max 0 0) + 1 ≤ 0 + 1; decide
  | .nam _ => by show max 0 (max 0 0) + 1 ≤ 0 + 1; decide
  | .flg _ => by show max 0 (max 0 0) + 1 ≤ 0 + 1; decide
  | .pl _ e => by
    have := ex_depth e
    show max 0 (max 0 (max (PyData.depth (exD e)) 0)) + 1 ≤ e.dep + 1 + 1; omega
  | .nt e => by
    have := ex_depth e
    show max 0 (max (PyData.depth (exD e)) 0) + 1 ≤ e.dep + 1 + 1; omega
  | .bin _ a b => by
    have := ex_depth a
    have := ex_depth b
    show max 0 (max (PyData.depth (exD a)) (max (PyData.depth (exD b)) 0)) + 1 ≤ max a.dep b.dep + 1 + 1; omega
theorem w_tell : PyData.strOk "tell" = true := by decide +kernel
theorem w_set : PyData.strOk "set" = true := by decide +kernel
theorem w_put : PyData.strOk "put" = true := by decide +kernel
theorem w_ask : PyData.strOk "ask" = true := by decide +kernel
theorem w_do : PyData.strOk "do" = true := by decide +kernel
theorem w_stop : PyData.strOk "stop" = true := by decide +kernel
theorem w_way : PyData.strOk "way" = true := by decide +kernel
theorem w_if : PyData.strOk "if" = true := by decide +kernel
theorem w_while : PyData.strOk "while" = true := by decide +kernel
theorem Lf.lay {l : Lf} (h : l.Ok) : PyData.canLay0 l.dat = true := by
  cases l with
  | tell e => show (PyData.strOk "tell" && (PyData.canLay0 (exD e) && true)) = true; rw [w_tell, lay_ex h.ok]; rfl
  | set x e => show (PyData.strOk "set" && (PyData.strOk x && (PyData.canLay0 (exD e) && true))) = true; rw [w_set, h.1, lay_ex h.2.ok]; rfl
  | put x e1 e2 => show (PyData.strOk "put" && (PyData.strOk x && (PyData.canLay0 (exD e1) && (PyData.canLay0 (exD e2) && true)))) = true; rw [w_put, h.1, lay_ex h.2.1.ok, lay_ex h.2.2.ok]; rfl
  | ask x => show (PyData.strOk "ask" && (PyData.strOk x && true)) = true; rw [w_ask, show PyData.strOk x = true from h]; rfl
  | does x => show (PyData.strOk "do" && (PyData.strOk x && true)) = true; rw [w_do, show PyData.strOk x = true from h]; rfl
  | stop => show (PyData.strOk "stop" && true) = true; rw [w_stop]; rfl
  | way => show (PyData.strOk "way" && true) = true; rw [w_way]; rfl
theorem Lf.dep {l : Lf} (h : l.Ok) : PyData.depth l.dat ≤ 4 := by
  cases l with
  | tell e => show max 0 (max (PyData.depth (exD e)) 0) + 1 ≤ 4; have := ex_depth e; have := h.dep; omega
  | set x e => show max 0 (max 0 (max (PyData.depth (exD e)) 0)) + 1 ≤ 4; have := ex_depth e; have := h.2.dep; omega
  | put x e1 e2 => show max 0 (max 0 (max (PyData.depth (exD e1)) (max (PyData.depth (exD e2)) 0))) + 1 ≤ 4; have := ex_depth e1; have := h.2.1.dep; have := ex_depth e2; have := h.2.2.dep; omega
  | ask x => show max 0 (max 0 0) + 1 ≤ 4; decide
  | does x => show max 0 (max 0 0) + 1 ≤ 4; decide
  | stop => show max 0 0 + 1 ≤ 4; decide
  | way => show max 0 0 + 1 ≤ 4; decide
mutual
theorem Sm.lay : ∀ {s : Sm}, SmOk s → PyData.canLay0 s.dat = true ∧ PyData.depth s.dat ≤ 2 * s.nest + 4
  | .leaf _ l, h => by rw [Sm.dat]; exact ⟨Lf.lay h, Nat.le_trans (Lf.dep h) (by omega)⟩
  | .iff _ e _ b1 _ b2, ⟨h1, h2, h3⟩ => by
    have l1 := Bd.lay h2
    have l2 := Bd.lay h3
    have e1 := ex_depth e
    have e2 := h1.dep
    rw [Sm.dat, Sm.nest]
    refine ⟨?_, ?_⟩
    · show (PyData.strOk "if" && (PyData.canLay0 (exD e) && (PyData.canLayAll0 b1.dat && (PyData.canLayAll0 b2.dat && true)))) = true
      rw [w_if, lay_ex h1.ok, l1.1, l2.1]; rfl
    · show max 0 (max (PyData.depth (exD e)) (max (PyData.depthAll b1.dat + 1) (max (PyData.depthAll b2.dat + 1) 0))) + 1 ≤ _
      have := l1.2; have := l2.2; omega
  | .wh _ e _ b1, ⟨h1, h2⟩ => by
    have l1 := Bd.lay h2
    have e1 := ex_depth e
    have e2 := h1.dep
    rw [Sm.dat, Sm.nest]
    refine ⟨?_, ?_⟩
    · show (PyData.strOk "while" && (PyData.canLay0 (exD e) && (PyData.canLayAll0 b1.dat && true))) = true
      rw [w_while, lay_ex h1.ok, l1.1]; rfl
    · show max 0 (max (PyData.depth (exD e)) (max (PyData.depthAll b1.dat + 1) 0)) + 1 ≤ _
      have := l1.2; omega
theorem Bd.lay : ∀ {b : Bd}, BdOk b → PyData.canLayAll0 b.dat = true ∧ PyData.depthAll b.dat ≤ 2 * b.nest + 4
  | .nil, _ => by rw [Bd.dat]; exact ⟨rfl, Nat.zero_le _⟩
  | .cons s b, ⟨h1, h2⟩ => by
    have l1 := Sm.lay h1
    have l2 := Bd.lay h2
    rw [Bd.dat, Bd.nest]
    refine ⟨?_, ?_⟩
    · show (PyData.canLay0 s.dat && PyData.canLayAll0 b.dat) = true
      rw [l1.1, l2.1]; rfl
    · show max (PyData.depth s.dat) (PyData.depthAll b.dat) ≤ _
      have := l1.2; have := l2.2; omega
end
theorem LfAt.rep (K : PySem.W.Frag) {H : Hp} {r : Addr} : ∀ {l : Lf}, LfAt H r l → Rep K H (.ref r) l.dat
  | .tell _, ⟨v, h, e⟩ => .tup (SqT.of h) (.cons (.str _) (.cons (e.rep K) .nil))
  | .set _ _, ⟨v, h, e⟩ => .tup (SqT.of h) (.cons (.str _) (.cons (.str _) (.cons (e.rep K) .nil)))
  | .put _ _ _, ⟨v1, v2, h, e1, e2⟩ => .tup (SqT.of h) (.cons (.str _) (.cons (.str _) (.cons (e1.rep K) (.cons (e2.rep K) .nil))))
  | .ask _, h => .tup (SqT.of h) (.cons (.str _) (.cons (.str _) .nil))
  | .does _, h => .tup (SqT.of h) (.cons (.str _) (.cons (.str _) .nil))
  | .stop, h => .tup (SqT.of h) (.cons (.str _) .nil)
  | .way, h => .tup (SqT.of h) (.cons (.str _) .nil)
mutual
theorem SmAt.rep (K : PySem.W.Frag) {H : Hp} : ∀ {s : Sm}, SmAt H s → Rep K H s.ref s.dat
  | .leaf _ _, h => by rw [Sm.dat]; exact LfAt.rep K h
  | .iff _ _ _ b1 _ b2, ⟨v, h1, h2, h3, h4, h5, h6, _⟩ => by
    rw [Sm.dat]
    exact .tup (SqT.of h1) (.cons (.str _) (.cons (h2.rep K) (.cons (.lst (SqL.of h3) (BdAt.rep K h4)) (.cons (.lst (SqL.of h5) (BdAt.rep K h6)) .nil))))
  | .wh _ _ _ b1, ⟨v, h1, h2, h3, h4, _⟩ => by
    rw [Sm.dat]
    exact .tup (SqT.of h1) (.cons (.str _) (.cons (h2.rep K) (.cons (.lst (SqL.of h3) (BdAt.rep K h4)) .nil)))
theorem BdAt.rep (K : PySem.W.Frag) {H : Hp} : ∀ {b : Bd}, BdAt H b → RepAll K H b.refs b.dat
  | .nil, _ => by rw [Bd.dat]; exact .nil
  | .cons s b, ⟨h1, h2⟩ => by rw [Bd.dat]; exact .cons (SmAt.rep K h1) (BdAt.rep K h2)
end
def dPart (p : Str × List PyData) : PyData := .tuple [.str p.1, .list p.2]
def dTree (t : TD3) : PyData := .tuple [.list (t.rows.map dVar), .list (t.parts.map dPart), .list t.main]
theorem parts_rep {K : PySem.W.Frag} {H : Hp} {xs : List V} {ps : List Pt} (h : Paired (PartAt H) xs ps) : RepAll K H xs ((ps.map fun p => (p.1, p.2.2.dat)).map dPart) := by
  induction h with
  | nil => exact .nil
  | cons a _ ih =>
    obtain ⟨q, rfl, e1, e2, e3⟩ := a
    exact .cons (.tup (SqT.of e1) (.cons (.str _) (.cons (.lst (SqL.of e2) (e3.rep K)) .nil))) ih
theorem tree_rep {K : PySem.W.Frag} {H : Hp} {T told pl ml : Addr} {vsV xs : List V} {t : TD3} {ps : List Pt} {main : Bd} (h : TreeAt H T told pl ml vsV xs t.rows ps main) (h1 : ps.map (fun p => (p.1, p.2.2.dat)) = t.parts) (h2 : main.dat = t.main) : Rep K H (.ref T) (dTree t) := by
  have e1 : RepAll K H xs (t.parts.map dPart) := by rw [← h1]; exact parts_rep h.pp
  have e2 : RepAll K H main.refs t.main := by rw [← h2]; exact h.bm.rep K
  exact .tup (SqT.of h.et) (.cons (.lst (SqL.of h.etl) (rep_vars K h.pv)) (.cons (.lst (SqL.of h.epl) e1) (.cons (.lst (SqL.of h.eml) e2) .nil)))
theorem lay_parts : ∀ {ps : List (Str × List PyData)}, (∀ p ∈ ps, PyData.strOk p.1 = true ∧ PyData.canLayAll0 p.2 = true ∧ PyData.depthAll p.2 ≤ 8) → PyData.canLayAll0 (ps.map dPart) = true ∧ PyData.depthAll (ps.map dPart) ≤ 10
  | [], _ => ⟨rfl, Nat.zero_le _⟩
  | p :: r, h => by
    have hp := h p List.mem_cons_self
    have ih := lay_parts fun x hx => h x (List.mem_cons_of_mem _ hx)
    refine ⟨?_, ?_⟩
    · show (PyData.canLay0 (dPart p) && PyData.canLayAll0 (r.map dPart)) = true
      rw [ih.1]
      have : PyData.canLay0 (dPart p) = true := by
        show (PyData.strOk p.1 && (PyData.canLayAll0 p.2 && true)) = true
        rw [hp.1, hp.2.1]; rfl
      rw [this]; rfl
    · show max (max 0 (max (PyData.depthAll p.2 + 1) 0) + 1) (PyData.depthAll (r.map dPart)) ≤ 10
      have := hp.2.2; have := ih.2; omega
theorem tree_lay {ns : List Int} {ps : List Pt} {main : Bd} (h1 : ps.map (fun p => (p.1, p.2.2.dat)) = (treeM ns).parts) (h2 : main.dat = (treeM ns).main) (gp : ∀ p ∈ ps, GdB (vM ns).1 2 p.2.2 ∧ p.2.2.refs.length ≤ 3) (gm : GdB (vM ns).1 3 main) : PyData.canLay0 (dTree (treeM ns)) = true ∧ PyData.depth (dTree (treeM ns)) ≤ 64 := by
  have rf := rows_facts ns
  have pb := pts_bd ns
  have p := lay_parts (ps := (treeM ns).parts) fun x hx => by
    have hx1 : x ∈ ptsM ns := hx
    have t1 := tit_ok ns (nC ns).1.toNat (by omega) x.1 (List.mem_map.mpr ⟨x, hx1, rfl⟩)
    rw [← h1] at hx
    obtain ⟨y, hy, rfl⟩ := List.mem_map.mp hx
    have l := Bd.lay (gp y hy).1.ok
    have := (gp y hy).1.nest
    exact ⟨t1, l.1, by show PyData.depthAll y.2.2.dat ≤ 8; omega⟩
  have m := Bd.lay gm.ok
  rw [h2] at m
  have := gm.nest
  refine ⟨?_, ?_⟩
  · show (PyData.canLayAll0 ((vM ns).1.map dVar) && (PyData.canLayAll0 ((treeM ns).parts.map dPart) && (PyData.canLayAll0 (treeM ns).main && true))) = true
    rw [lay_vars rf.2.2.1, p.1, m.1]; rfl
  · show max (PyData.depthAll ((vM ns).1.map dVar) + 1) (max (PyData.depthAll ((treeM ns).parts.map dPart) + 1) (max (PyData.depthAll (treeM ns).main + 1) 0)) + 1 ≤ 64
    have := dep_vars (vM ns).1; have := p.2; have := m.2; omega
theorem bad_none {rows : List VRow} : ∀ {L : List Sm}, (∀ x ∈ L, Sm.fit rows x = true) → firstBad rows L = none
  | [], _ => rfl
  | s :: r, h => by
    show (if s.fit rows = true then (firstBad rows r).map (· + 1) else some 0) = none
    rw [if_pos (h s List.mem_cons_self), bad_none fun x hx => h x (List.mem_cons_of_mem _ hx)]; rfl
theorem psAll_mem {ps : List Pt} {x : Sm} (h : x ∈ psAll ps) : ∃ p ∈ ps, x ∈ p.2.2.all := by
  obtain ⟨l, hl, hx⟩ := List.mem_flatten.mp h
  obtain ⟨p, hp, rfl⟩ := List.mem_map.mp hl
  exact ⟨p, hp, hx⟩
mutual
theorem SmAt.ne {H : Hp} {a : Addr} (ha : H a = none) : ∀ {s : Sm}, SmAt H s → SmAll (fun x => x ≠ a) s
  | .leaf _ _, _ => trivial
  | .iff _ _ _ b1 _ b2, ⟨v, h1, h2, h3, h4, h5, h6, _⟩ => ⟨ne_of_none h3 ha, BdAt.ne ha h4, ne_of_none h5 ha, BdAt.ne ha h6⟩
  | .wh _ _ _ b1, ⟨v, h1, h2, h3, h4, _⟩ => ⟨ne_of_none h3 ha, BdAt.ne ha h4⟩
theorem BdAt.ne {H : Hp} {a : Addr} (ha : H a = none) : ∀ {b : Bd}, BdAt H b → BdAll (fun x => x ≠ a) b
  | .nil, _ => trivial
  | .cons s b, ⟨h1, h2⟩ => ⟨SmAt.ne ha h1, BdAt.ne ha h2⟩
end
structure TrOk (H : Hp) (T told pl ml : Addr) (vsV xs : List V) (rows : List VRow) (ps : List Pt) (main : Bd) : Prop where
  at' : TreeAt H T told pl ml vsV xs rows ps main
  ho : VarsOk rows
  l9 : rows.length ≤ 9
  po : ∀ p ∈ ps, BdOk p.2.2
  mo : BdOk main
  sz : (psBd ps).refs.length + main.refs.length ≤ 1000000
theorem TrOk.same {H H' : Hp} {T told pl ml : Addr} {vsV xs : List V} {rows : List VRow} {ps : List Pt} {main : Bd} (h : TrOk H T told pl ml vsV xs rows ps main) (s : Same H H') : TrOk H' T told pl ml vsV xs rows ps main := ⟨h.at'.same s, h.ho, h.l9, h.po, h.mo, h.sz⟩
theorem part_at {H : Hp} {xs : List V} {ps : List Pt} (h : Paired (PartAt H) xs ps) : ∀ p ∈ ps, BdAt H p.2.2 ∧ H p.2.1 = some (.lst p.2.2.refs) := by
  induction h with
  | nil => exact fun p hp => by cases hp
  | cons a _ ih =>
    intro p hp
    rcases List.mem_cons.mp hp with rfl | z
    · obtain ⟨q, _, _, e2, e3⟩ := a
      exact ⟨e3, e2⟩
    · exact ih p z
theorem TrOk.all {H : Hp} {T told pl ml : Addr} {vsV xs : List V} {rows : List VRow} {ps : List Pt} {main : Bd} (h : TrOk H T told pl ml vsV xs rows ps main) : ∀ x ∈ psAll ps ++ main.all, SmAt H x ∧ SmOk x := fun x hx => by
  rcases List.mem_append.mp hx with z | z
  · obtain ⟨p, hp, hx⟩ := psAll_mem z
    exact Bd.all_at (part_at h.at'.pp p hp).1 (h.po p hp) x hx
  · exact Bd.all_at h.at'.bm h.mo x z
theorem psBd_len {m : Nat} : ∀ {ps : List Pt}, (∀ p ∈ ps, p.2.2.refs.length ≤ m) → (psBd ps).refs.length ≤ ps.length * m
  | [], _ => Nat.zero_le _
  | p :: r, h => by
    have ih := psBd_len (ps := r) fun q hq => h q (List.mem_cons_of_mem _ hq)
    have h1 := h p List.mem_cons_self
    show (p.2.2.app (psBd r)).refs.length ≤ _
    rw [app_refs, List.length_append, List.length_cons, Nat.succ_mul]; omega
end K45

set_option Elab.async false
set_option linter.all false
set_option maxRecDepth 100000
set_option maxHeartbeats 4000000
namespace K45
open PySem L2
structure T1 (H : Hp) (ns : List Int) (T told pl ml : Addr) (vsV xs : List V) (ps : List Pt) (main : Bd) : Prop where
  tr : TreeAt H T told pl ml vsV xs (treeM ns).rows ps main
  d1 : ps.map (fun p => (p.1, p.2.2.dat)) = (treeM ns).parts
  d2 : main.dat = (treeM ns).main
  gp : ∀ p ∈ ps, GdB (vM ns).1 2 p.2.2 ∧ p.2.2.refs.length ≤ 3
  gm : GdB (vM ns).1 3 main
  l6 : main.refs.length ≤ 6
theorem T1.same {H H' : Hp} {ns : List Int} {T told pl ml : Addr} {vsV xs : List V} {ps : List Pt} {main : Bd} (h : T1 H ns T told pl ml vsV xs ps main) (s : Same H H') : T1 H' ns T told pl ml vsV xs ps main := ⟨h.tr.same s, h.d1, h.d2, h.gp, h.gm, h.l6⟩
theorem T1.plen {H : Hp} {ns : List Int} {T told pl ml : Addr} {vsV xs : List V} {ps : List Pt} {main : Bd} (h : T1 H ns T told pl ml vsV xs ps main) : ps.length ≤ 3 := by
  have := congrArg List.length h.d1
  have pb := pts_bd ns
  rw [List.length_map] at this
  have e : (treeM ns).parts.length = (nC ns).1.toNat := parts_len ns _
  omega
theorem T1.ok {H : Hp} {ns : List Int} {T told pl ml : Addr} {vsV xs : List V} {ps : List Pt} {main : Bd} (h : T1 H ns T told pl ml vsV xs ps main) : TrOk H T told pl ml vsV xs (treeM ns).rows ps main := by
  have rf := rows_facts ns
  have l := psBd_len (m := 3) fun p hp => (h.gp p hp).2
  have l3 : ps.length * 3 ≤ 3 * 3 := Nat.mul_le_mul_right _ h.plen
  have := h.l6
  exact ⟨h.tr, rf.2.2.1, (by show (vM ns).1.length ≤ 9; omega), fun p hp => (h.gp p hp).1.ok, h.gm.ok, by omega⟩
theorem T1.none {H : Hp} {ns : List Int} {T told pl ml : Addr} {vsV xs : List V} {ps : List Pt} {main : Bd} (h : T1 H ns T told pl ml vsV xs ps main) : fF (treeM ns).rows (psAll ps ++ main.all) 0 = none := by
  unfold fF
  rw [bad_none fun x hx => ?_]
  · rfl
  · rcases List.mem_append.mp hx with z | z
    · obtain ⟨p, hp, hx⟩ := psAll_mem z
      exact (h.gp p hp).1.all x hx
    · exact h.gm.all x z
theorem all_nilB : Bd.nil.all = [] := by rw [Bd.all]
theorem flat_nilB : Bd.nil.flat = [] := by rw [Bd.flat]
theorem all_oneB (t : Addr) (l : Lf) : (Bd.cons (.leaf t l) .nil).all = [.leaf t l] := by rw [Bd.all, Sm.all, Bd.all]; rfl
theorem flat_oneB (t : Addr) (l : Lf) : (Bd.cons (.leaf t l) .nil).flat = [V.ref t] := by rw [Bd.flat, Sm.inner, Bd.flat]; rfl
theorem fit_flag (t : Addr) : Sm.fit [] (.leaf t (.tell (.flg true))) = false := by
  show decide (kindP [] (.flg true) = some ("num" : Str)) = false
  decide +kernel
theorem none0 : fF [] (psAll [] ++ Bd.nil.all) 0 = none := by rw [all_nilB]; rfl
theorem some0 (t bl : Addr) : fF [] (psAll [("p", bl, .cons (.leaf t (.tell (.flg true))) .nil)] ++ Bd.nil.all) 0 = some 0 := by
  have e : psAll [(("p" : Str), bl, Bd.cons (.leaf t (.tell (.flg true))) .nil)] = [.leaf t (.tell (.flg true))] := by
    show [(Bd.cons (.leaf t (.tell (.flg true))) .nil).all].flatten = _
    rw [all_oneB]; rfl
  rw [e, all_nilB]
  unfold fF
  have : firstBad [] ([.leaf t (.tell (.flg true))] ++ []) = some 0 := by
    show (if Sm.fit [] (.leaf t (.tell (.flg true))) = true then (firstBad [] []).map (· + 1) else some 0) = some 0
    rw [fit_flag]; rfl
  rw [this]; rfl
section
variable {X : Cx}
theorem lit1 {p4 p5 p6 : Pos} {j3 j4} {k1} : PE X (.Tuple [.Constant (.str "flag") j3 p4, .Constant (.bool true) j4 p5] k1 p6) (tTup (tCons (tC (.str "flag")) (tCons (tC (.bl true)) tNil))) := pe_tup (pa_consN pe_str (pa_consN pe_bl pa_nil))
theorem lit2 {p3 p7 : Pos} {j2} {k2} {e : Expr} {te : TE} (a1 : PE X e te) (h : notStar e = true) : PE X (.Tuple [.Constant (.str "tell") j2 p3, e] k2 p7) (tTup (tCons (tC (.str "tell")) (tCons te tNil))) := pe_tup (pa_consN pe_str (pa_consN a1 pa_nil h))
theorem lit3 {p8 : Pos} {e : Expr} {te : TE} (a1 : PE X e te) (h : notStar e = true) : PE X (.List [e] p8) (tLst (tCons te tNil)) := pe_lst (pa_consN a1 pa_nil h)
theorem lit4 {p3 p7 : Pos} {j2} {k2} {e : Expr} {te : TE} (a1 : PE X e te) (h : notStar e = true) : PE X (.Tuple [.Constant (.str "p") j2 p3, e] k2 p7) (tTup (tCons (tC (.str "p")) (tCons te tNil))) := pe_tup (pa_consN pe_str (pa_consN a1 pa_nil h))
theorem lit5 {p1 p2 p3 : Pos} {k2} {e : Expr} {te : TE} (a1 : PE X e te) (h : notStar e = true) : PE X (.Tuple [.List [] p1, e, .List [] p2] k2 p3) (tTup (tCons (tLst tNil) (tCons te (tCons (tLst tNil) tNil)))) := pe_tup (pa_consN (pe_lst pa_nil) (pa_consN a1 (pa_consN (pe_lst pa_nil) pa_nil) h))
theorem pe_lit {p1 p2 p3 p4 p5 p6 p7 p8 p9 p10 p11 p12 : Pos} {j1 j2 j3 j4} {k1 k2 k3 k4} : PE X (.Tuple [.List [] p1, .List [.Tuple [.Constant (.str "p") j1 p2, .List [.Tuple [.Constant (.str "tell") j2 p3, .Tuple [.Constant (.str "flag") j3 p4, .Constant (.bool true) j4 p5] k1 p6] k2 p7] p8] k3 p9] p10, .List [] p11] k4 p12)
    (tTup (tCons (tLst tNil) (tCons (tLst (tCons (tTup (tCons (tC (.str "p")) (tCons (tLst (tCons (tTup (tCons (tC (.str "tell")) (tCons (tTup (tCons (tC (.str "flag")) (tCons (tC (.bl true)) tNil))) tNil))) tNil)) tNil))) tNil)) (tCons (tLst tNil) tNil)))) :=
  @lit5 X p1 p11 p12 k4 _ _ (@lit3 X p10 _ _ (@lit4 X p2 p9 j1 k3 _ _ (@lit3 X p8 _ _ (@lit2 X p3 p7 j2 k2 _ _ (@lit1 X p4 p5 p6 j3 j4 k1) rfl) rfl) rfl) rfl) rfl
end
section
variable {P : Program} {w : World} {K : PySem.W.Frag} {mg : Str → Option Value} {base : Heap}
theorem sc_law : FnScope ["_law_script", "_law_tree", "_law_tap_here", "_law_told", "_law_parts", "_law_other", "_law_turn"] ["_law_script"] (defScope s_law) := ⟨rfl, rfl, rfl, by decide +kernel, rfl, by decide +kernel, by decide +kernel⟩
theorem law_C {x0 x1 x2 x3 x4 x5 x6 x7 x8 x9 x10 x11 x12 x13 x14 x15 x16 x17 x18 x19 x20 x21 x22 x23 x24 x25 x26 x27 f TE C fi b1 b2 b3 b4 b5 b6 b7 : Addr} {e0 e1 e2 e3 e4 e5 e6 e7 e8 e9 e10 e11 e12 e13 e14 e15 e16 e17 e18 e19 e20 e21 e22 e23 e24 e25 e26 e27 di : FuncData} (T : Bt mg)
    (z35 : Q12 K mg x0 e0) (z22 : Q9 K mg x1 e1) (z20 : Q8 K mg x2 e2) (T_fits : Q13 K mg x3 e3) (z21 : Q11 K mg x4 e4) (z31 : Q14 K mg x5 e5) (z44 : Q15 K mg x6 e6) (z23 : Q22 K mg x7 e7) (z10 : Q0 K mg x8 e8) (z32 : Q23 K mg x9 e9) (z0 : Q1 K mg x10 e10) (z11 : Q2 K mg x11 e11) (z17 : Q3 K mg x12 e12) (z30 : Q4 K mg x13 e13) (z43 : Q24 K mg x14 e14) (z15 : Q5 K mg x15 e15) (z13 : Q6 K mg x16 e16) (z14 : Q7 K mg x17 e17) (z25 : Q19 K mg x18 e18) (z12 : Q18 K mg x19 e19) (z24 : Q25 K mg x20 e20) (z18 : Q10 K mg x21 e21) (z33 : Q17 K mg x22 e22) (z26 : Q16 K mg x23 e23) (z40 : Q26 K mg x24 e24) (z36 : Q20 K mg x25 e25) (z16 : Q21 K mg x26 e26) (z34 : Q27 K mg x27 e27) (X_BadKind : Xi K mg "BadKind" "BadKind.__init__" s_BadKind___init__ "place" C TE fi di) (XR : Xr K mg TE C b1 b2 b3 b4 b5 b6 b7) {cdv : Value} {A : Around} {outer : List Env} {s : Shared} {H00 : Hp} {E : XK} (hr : Room 20 (A.deeper (PyProof.Rows.envOfC "law" (defScope s_law) s.heap.objs.size f cdv))) :
    ∃ u, PSs (cxOf CX0 P w K mg base ["_law_script", "_law_tree", "_law_tap_here", "_law_told", "_law_parts", "_law_other", "_law_turn"] "law" (defScope s_law) f cdv A outer s H00 E).nox ((defBody s_law).drop 7) u ∧
      ∀ (D : Ends) (v2 v3 v4 v5 v6 : Option V) (a : Addr) (ns : List Int) (T0 told pl ml : Addr) (vsV xs : List V) (ps : List Pt) (main : Bd) (H : Hp), SqL K H a (ns.map V.int) → T1 H ns T0 told pl ml vsV xs ps main →
        (∀ H', D.rt (.bl true) H') →
        u D [some (.ref a), some (.ref T0), v2, v3, v4, v5, v6] H := by
  have z61 := ok_law_fitting_tree (P := P) (w := w) (base := base) z24.F T z35 z22 z20 T_fits z21 z31 z44 z23 z10 z32 z0 z11 z17 z30 z43 z15 z13 z14 z25 z12 z24 z18 z33 z26 z40 z36 z16
  have G_law_right := ok_law_right (P := P) (w := w) (base := base) z34.F T z35 z22 z20 T_fits z21 z31 z44 X_BadKind XR
  refine ⟨_, (pss_cons (ps_if (PW.pt (pw_or (pt_not (pt_val (pe_call G_law_right (hr.mono (by decide)) rfl z34.m z34.F.kp z34.b .nil pass0 (pa_consN (pe_tup (pa_consN (pe_lst pa_nil) (pa_consN (pe_lst pa_nil) (pa_consN (pe_lst pa_nil) pa_nil)))) (pa_consN pe_non pa_nil))))) (pw_or1 (pt_not (pt_val (pe_call G_law_right (hr.mono (by decide)) rfl z34.m z34.F.kp z34.b .nil pass0 (@pa_consN _ _ _ _ _ (@pe_lit _ _ _ _ _ _ _ _ _ _ _ _ _ _ _ _ _ _ _ _ _) (pa_consN pe_int pa_nil) rfl) (he := star_of rfl)))))))
        (pss_one (ps_ret pe_bl))
        pss_nil)
      (pss_one (ps_ret (pe_cmpR (op_eqD (hr.units)) (pv 1) (pe_call z61 (hr.mono (by decide)) rfl z24.m z24.F.kp z24.b .nil pass0 (pa_consN (pv 0) (pa_consN pe_int pa_nil))) (nomark _))))), ?_⟩
  intro D v2 v3 v4 v5 v6 a ns T0 told pl ml vsV xs ps main H hq t1 q
  have hs : sizeLine = 16777216 := sizeLine_eq
  have two : 2 ≤ sizeLine := by omega
  have three : 3 ≤ sizeLine := by omega
  have one : 1 ≤ sizeLine := by omega
  refine ⟨Nat.zero_le _, fun l1 h1 => ⟨Nat.zero_le _, fun l2 h2 => ⟨Nat.zero_le _, fun l3 h3 => ⟨three, fun Ta hTa => ?_⟩⟩⟩⟩
  have y1 := Same.put (o := .lst []) h1
  have e1 : upd H l1 (.lst []) l1 = some (.lst []) := upd_same
  generalize upd H l1 (.lst []) = H1 at y1 e1 h2 h3 hTa ⊢
  have y2 := Same.put (o := .lst []) h2
  have e2 : upd H1 l2 (.lst []) l2 = some (.lst []) := upd_same
  generalize upd H1 l2 (.lst []) = H2 at y2 e2 h3 hTa ⊢
  have y3 := Same.put (o := .lst []) h3
  have e3 : upd H2 l3 (.lst []) l3 = some (.lst []) := upd_same
  generalize upd H2 l3 (.lst []) = H3 at y3 e3 hTa ⊢
  have y4 := Same.put (o := .tup [V.ref l1, V.ref l2, V.ref l3]) hTa
  have e4 : upd H3 Ta (.tup [V.ref l1, V.ref l2, V.ref l3]) Ta = some (.tup [V.ref l1, V.ref l2, V.ref l3]) := upd_same
  generalize upd H3 Ta (.tup [V.ref l1, V.ref l2, V.ref l3]) = H4 at y4 e4 ⊢
  have ok0 : TrOk H4 Ta l1 l2 l3 [] [] [] [] .nil := ⟨⟨e4, (y2.trans (y3.trans y4)) _ _ e1, .nil, (y3.trans y4) _ _ e2, .nil, y4 _ _ e3, trivial, fun p hp => (by cases hp), (by rw [Bd.nest]; omega), (by rw [flat_nilB]; exact Nat.zero_le _)⟩, fun p hp => (by cases hp), Nat.zero_le _, fun p hp => (by cases hp), trivial, Nat.zero_le _⟩
  refine ⟨Ta, l1, l2, l3, [], [], [], [], .nil, (by rw [none0]; rfl), ok0.at', ok0.ho, ok0.l9, ok0.all, fun H5 s5 => ?_⟩
  refine ⟨_, rfl, ?_⟩
  refine iteF ?_
  have y5 := ((y1.trans y2).trans (y3.trans y4)).trans s5
  clear ok0
  refine ⟨Nat.zero_le _, fun m1 g1 => ⟨two, fun fl g2 => ⟨two, fun tl g3 => ⟨one, fun bl g4 => ⟨two, fun pp g5 => ⟨one, fun pl2 g6 => ⟨Nat.zero_le _, fun m2 g7 => ⟨three, fun Tb g8 => ?_⟩⟩⟩⟩⟩⟩⟩⟩
  have z1 := Same.put (o := .lst []) g1
  have i1 : upd H5 m1 (.lst []) m1 = some (.lst []) := upd_same
  generalize upd H5 m1 (.lst []) = J1 at z1 i1 g2 g3 g4 g5 g6 g7 g8 ⊢
  have z2 := Same.put (o := .tup [V.str "flag", V.bl true]) g2
  have i2 : upd J1 fl (.tup [V.str "flag", V.bl true]) fl = some (.tup [V.str "flag", V.bl true]) := upd_same
  generalize upd J1 fl (.tup [V.str "flag", V.bl true]) = J2 at z2 i2 g3 g4 g5 g6 g7 g8 ⊢
  have z3 := Same.put (o := .tup [V.str "tell", V.ref fl]) g3
  have i3 : upd J2 tl (.tup [V.str "tell", V.ref fl]) tl = some (.tup [V.str "tell", V.ref fl]) := upd_same
  generalize upd J2 tl (.tup [V.str "tell", V.ref fl]) = J3 at z3 i3 g4 g5 g6 g7 g8 ⊢
  have z4 := Same.put (o := .lst [V.ref tl]) g4
  have i4 : upd J3 bl (.lst [V.ref tl]) bl = some (.lst [V.ref tl]) := upd_same
  generalize upd J3 bl (.lst [V.ref tl]) = J4 at z4 i4 g5 g6 g7 g8 ⊢
  have z5 := Same.put (o := .tup [V.str "p", V.ref bl]) g5
  have i5 : upd J4 pp (.tup [V.str "p", V.ref bl]) pp = some (.tup [V.str "p", V.ref bl]) := upd_same
  generalize upd J4 pp (.tup [V.str "p", V.ref bl]) = J5 at z5 i5 g6 g7 g8 ⊢
  have z6 := Same.put (o := .lst [V.ref pp]) g6
  have i6 : upd J5 pl2 (.lst [V.ref pp]) pl2 = some (.lst [V.ref pp]) := upd_same
  generalize upd J5 pl2 (.lst [V.ref pp]) = J6 at z6 i6 g7 g8 ⊢
  have z7 := Same.put (o := .lst []) g7
  have i7 : upd J6 m2 (.lst []) m2 = some (.lst []) := upd_same
  generalize upd J6 m2 (.lst []) = J7 at z7 i7 g8 ⊢
  have z8 := Same.put (o := .tup [V.ref m1, V.ref pl2, V.ref m2]) g8
  have i8 : upd J7 Tb (.tup [V.ref m1, V.ref pl2, V.ref m2]) Tb = some (.tup [V.ref m1, V.ref pl2, V.ref m2]) := upd_same
  generalize upd J7 Tb (.tup [V.ref m1, V.ref pl2, V.ref m2]) = J8 at z8 i8 ⊢
  have z78 := z7.trans z8
  have z68 := z6.trans z78
  have z58 := z5.trans z68
  have z48 := z4.trans z58
  have z38 := z3.trans z48
  have z28 := z2.trans z38
  have sm : SmAt J8 (.leaf tl (.tell (.flg true))) := ⟨V.ref fl, z48 _ _ i3, fl, rfl, z38 _ _ i2⟩
  have ok1 : TrOk J8 Tb m1 pl2 m2 [] [V.ref pp] [] [("p", bl, .cons (.leaf tl (.tell (.flg true))) .nil)] .nil := by
    refine ⟨⟨i8, z28 _ _ i1, .nil, z78 _ _ i6, .cons ⟨pp, rfl, z68 _ _ i5, z58 _ _ i4, sm, trivial⟩ .nil, z8 _ _ i7, trivial, fun p hp => ?_, (by rw [Bd.nest]; omega), ?_⟩, fun p hp => (by cases hp), Nat.zero_le _, fun p hp => ?_, trivial, ?_⟩
    · rw [List.mem_singleton.mp hp]; show (Bd.cons (.leaf tl (.tell (.flg true))) .nil).nest ≤ 8; rw [Bd.nest, Sm.nest, Bd.nest]; decide
    · have : psFlat [(("p" : Str), bl, Bd.cons (.leaf tl (.tell (.flg true))) .nil)] = [V.ref tl] := by
        show [(Bd.cons (.leaf tl (.tell (.flg true))) .nil).flat].flatten = _
        rw [flat_oneB]; rfl
      rw [this, flat_nilB]; show 1 + 0 ≤ 1000000; decide
    · rw [List.mem_singleton.mp hp]; exact ⟨⟨trivial, Nat.zero_le _⟩, trivial⟩
    · show 1 + 0 ≤ 1000000; decide
  refine ⟨Tb, m1, pl2, m2, [], [V.ref pp], [], _, .nil, (by rw [some0]; rfl), ok1.at', ok1.ho, ok1.l9, ok1.all, fun H6 s6 => ?_⟩
  refine ⟨_, rfl, ?_⟩
  refine iteF ?_
  have y6 : Same H H6 := y5.trans ((z1.trans z28).trans s6)
  have t6 := t1.same y6
  refine ⟨_, rfl, _, rfl, a, ns, rfl, y6.seq hq, fun T2 told2 pl3 ml2 vsV2 xs2 ps2 main2 H7 s7 tr2 e1 e2 gp2 gm2 l62 => ?_⟩
  have t7 := t6.same s7
  have ly := tree_lay t7.d1 t7.d2 t7.gp t7.gm
  refine ⟨dTree (treeM ns), dTree (treeM ns), tree_rep t7.tr t7.d1 t7.d2, tree_rep tr2 e1 e2, ly.1, ly.1, ly.2, ?_⟩
  rw [show (if false = true then !PyData.eqv (dTree (treeM ns)) (dTree (treeM ns)) else PyData.eqv (dTree (treeM ns)) (dTree (treeM ns))) = true from SeqAt.eqv_refl _ ly.1]
  exact q H7
end
end K45

set_option Elab.async false
set_option linter.all false
set_option maxRecDepth 100000
set_option maxHeartbeats 4000000
namespace K45
open PySem L2
section
variable {P : Program} {w : World} {K : PySem.W.Frag} {mg : Str → Option Value} {base : Heap}
theorem law_B {x0 x1 x2 x3 x4 x5 x6 x7 x8 x9 x10 x11 x12 x13 x14 x15 x16 x17 x18 x19 x20 x21 x22 x23 x24 x25 x26 x27 f TE C fi b1 b2 b3 b4 b5 b6 b7 : Addr} {e0 e1 e2 e3 e4 e5 e6 e7 e8 e9 e10 e11 e12 e13 e14 e15 e16 e17 e18 e19 e20 e21 e22 e23 e24 e25 e26 e27 di : FuncData} (T : Bt mg)
    (z35 : Q12 K mg x0 e0) (z22 : Q9 K mg x1 e1) (z20 : Q8 K mg x2 e2) (T_fits : Q13 K mg x3 e3) (z21 : Q11 K mg x4 e4) (z31 : Q14 K mg x5 e5) (z44 : Q15 K mg x6 e6) (z23 : Q22 K mg x7 e7) (z10 : Q0 K mg x8 e8) (z32 : Q23 K mg x9 e9) (z0 : Q1 K mg x10 e10) (z11 : Q2 K mg x11 e11) (z17 : Q3 K mg x12 e12) (z30 : Q4 K mg x13 e13) (z43 : Q24 K mg x14 e14) (z15 : Q5 K mg x15 e15) (z13 : Q6 K mg x16 e16) (z14 : Q7 K mg x17 e17) (z25 : Q19 K mg x18 e18) (z12 : Q18 K mg x19 e19) (z24 : Q25 K mg x20 e20) (z18 : Q10 K mg x21 e21) (z33 : Q17 K mg x22 e22) (z26 : Q16 K mg x23 e23) (z40 : Q26 K mg x24 e24) (z36 : Q20 K mg x25 e25) (z16 : Q21 K mg x26 e26) (z34 : Q27 K mg x27 e27) (X_BadKind : Xi K mg "BadKind" "BadKind.__init__" s_BadKind___init__ "place" C TE fi di) (XR : Xr K mg TE C b1 b2 b3 b4 b5 b6 b7) {cdv : Value} {A : Around} {outer : List Env} {s : Shared} {H00 : Hp} {E : XK} (hr : Room 20 (A.deeper (PyProof.Rows.envOfC "law" (defScope s_law) s.heap.objs.size f cdv))) :
    ∃ u, PSs (cxOf CX0 P w K mg base ["_law_script", "_law_tree", "_law_tap_here", "_law_told", "_law_parts", "_law_other", "_law_turn"] "law" (defScope s_law) f cdv A outer s H00 E).nox ((defBody s_law).drop 5) u ∧
      ∀ (D : Ends) (v2 v3 v4 v6 : Option V) (a : Addr) (ns : List Int) (T0 told pl ml : Addr) (vsV xs : List V) (ps : List Pt) (main : Bd) (Tx toldx plx mlx : Addr) (vsx xsx : List V) (rowsx : List VRow) (psx : List Pt) (mainx : Bd) (H : Hp), SqL K H a (ns.map V.int) → T1 H ns T0 told pl ml vsV xs ps main → TrOk H Tx toldx plx mlx vsx xsx rowsx psx mainx →
        (∀ H', D.rt (.bl true) H') →
        u D [some (.ref a), some (.ref T0), v2, v3, v4, some (.ref Tx), v6] H := by
  have G_law_due := ok_law_due (P := P) (w := w) (base := base) z40.F T z18 z33 z26
  have G_law_right := ok_law_right (P := P) (w := w) (base := base) z34.F T z35 z22 z20 T_fits z21 z31 z44 X_BadKind XR
  obtain ⟨uC, hC, kC⟩ := law_C (P := P) (w := w) (base := base) (f := f) (cdv := cdv) (outer := outer) (H00 := H00) (E := E) T z35 z22 z20 T_fits z21 z31 z44 z23 z10 z32 z0 z11 z17 z30 z43 z15 z13 z14 z25 z12 z24 z18 z33 z26 z40 z36 z16 z34 X_BadKind XR hr
  refine ⟨_, (pss_cons (ps_if (PW.pt (pw_or (pt_cmpR op_notN (pe_call G_law_due (hr.mono (by decide)) rfl z40.m z40.F.kp z40.b .nil pass0 (pa_consN (pv 1) pa_nil)) pe_non (nomark _)) (pw_or1 (pt_not (pt_val (pe_call G_law_right (hr.mono (by decide)) rfl z34.m z34.F.kp z34.b .nil pass0 (pa_consN (pv 1) (pa_consN pe_non pa_nil))))))))
        (pss_one (ps_ret pe_bl))
        pss_nil)
      (pss_cons (ps_for PassesOwn.never rfl (pi_range1 rfl T.b_range (pa_consN pe_int pa_nil)) (pg_name (i := 6) sc_law.nd rfl (Or.inl rfl))
        (pss_one (ps_if (pt_not (pt_val (pe_call G_law_right (hr.mono (by decide)) rfl z34.m z34.F.kp z34.b .nil pass0 (pa_consN (pv 5) (pa_consN (pe_call G_law_due (hr.mono (by decide)) rfl z40.m z40.F.kp z40.b .nil pass0 (pa_consN (pv 5) pa_nil)) pa_nil)))))
          (pss_one (ps_ret pe_bl))
          pss_nil)))
      hC)), ?_⟩
  intro D v2 v3 v4 v6 a ns T0 told pl ml vsV xs ps main Tx toldx plx mlx vsx xsx rowsx psx mainx H hq t1 tx q
  have hs : sizeLine = 16777216 := sizeLine_eq
  have ok1 := t1.ok
  refine ⟨_, rfl, T0, told, pl, ml, vsV, xs, (treeM ns).rows, ps, main, rfl, ok1.at', ok1.ho, ok1.l9, ok1.po, ok1.mo, ok1.sz, fun H1 s1 => ?_⟩
  rw [t1.none]
  have t2 := t1.same s1
  have ok2 := t2.ok
  refine ⟨rfl, _, rfl, ?_⟩
  refine iteF ?_
  refine ⟨_, rfl, T0, told, pl, ml, vsV, xs, (treeM ns).rows, ps, main, (by rw [t1.none]; rfl), ok2.at', ok2.ho, ok2.l9, ok2.all, fun H2 s2 => ?_⟩
  refine ⟨_, rfl, ?_⟩
  refine iteF ?_
  have s02 := s1.trans s2
  refine ⟨_, rfl, by decide, by decide, for_range (lo := 0) (n := 2) (fun k σ H3 => ∃ (v6 : Option V), σ = [some (.ref a), some (.ref T0), v2, v3, v4, some (.ref Tx), v6] ∧ Same H H3) ⟨_, rfl, s02⟩ ?_ ?_⟩
  · rintro k σ H3 hk ⟨v6, rfl, s3⟩
    have x3 := tx.same s3
    refine ⟨_, rfl, _, rfl, Tx, toldx, plx, mlx, vsx, xsx, rowsx, psx, mainx, rfl, x3.at', x3.ho, x3.l9, x3.po, x3.mo, x3.sz, fun H4 s4 => ?_⟩
    have x4 := x3.same s4
    refine ⟨Tx, toldx, plx, mlx, vsx, xsx, rowsx, psx, mainx, rfl, x4.at', x4.ho, x4.l9, x4.all, fun H5 s5 => ?_⟩
    refine ⟨_, rfl, ?_⟩
    refine iteF ?_
    exact ⟨_, rfl, (s3.trans s4).trans s5⟩
  · rintro σ H3 ⟨v6, rfl, s3⟩
    exact kC D _ _ _ _ _ a ns T0 told pl ml vsV xs ps main H3 (s3.seq hq) (t1.same s3) q
end
end K45

set_option Elab.async false
set_option linter.all false
set_option maxRecDepth 100000
set_option maxHeartbeats 4000000
namespace K45
open PySem L2
def sp_law (K : PySem.W.Frag) : Sp := fun vs H Q _ => ∃ (a : Addr) (ns : List Int), vs = [.ref a] ∧ SqL K H a (ns.map V.int) ∧ ns.length ≤ 63 ∧ ∀ H', Q (.bl true) H'
structure Px (p : Pt) : Prop where
  ok : BdOk p.2.2
  nest : p.2.2.nest ≤ 4
  len : p.2.2.refs.length ≤ 3
  cnt : p.2.2.all.length ≤ 3000
section
variable {P : Program} {w : World} {K : PySem.W.Frag} {mg : Str → Option Value} {base : Heap}
theorem ok_law {x0 x1 x2 x3 x4 x5 x6 x7 x8 x9 x10 x11 x12 x13 x14 x15 x16 x17 x18 x19 x20 x21 x22 x23 x24 x25 x26 x27 f TE C fi b1 b2 b3 b4 b5 b6 b7 : Addr} {e0 e1 e2 e3 e4 e5 e6 e7 e8 e9 e10 e11 e12 e13 e14 e15 e16 e17 e18 e19 e20 e21 e22 e23 e24 e25 e26 e27 fd di : FuncData} (F : Fun K "law" "law" s_law f fd) (T : Bt mg)
    (z35 : Q12 K mg x0 e0) (z22 : Q9 K mg x1 e1) (z20 : Q8 K mg x2 e2) (T_fits : Q13 K mg x3 e3) (z21 : Q11 K mg x4 e4) (z31 : Q14 K mg x5 e5) (z44 : Q15 K mg x6 e6) (z23 : Q22 K mg x7 e7) (z10 : Q0 K mg x8 e8) (z32 : Q23 K mg x9 e9) (z0 : Q1 K mg x10 e10) (z11 : Q2 K mg x11 e11) (z17 : Q3 K mg x12 e12) (z30 : Q4 K mg x13 e13) (z43 : Q24 K mg x14 e14) (z15 : Q5 K mg x15 e15) (z13 : Q6 K mg x16 e16) (z14 : Q7 K mg x17 e17) (z25 : Q19 K mg x18 e18) (z12 : Q18 K mg x19 e19) (z24 : Q25 K mg x20 e20) (z18 : Q10 K mg x21 e21) (z33 : Q17 K mg x22 e22) (z26 : Q16 K mg x23 e23) (z40 : Q26 K mg x24 e24) (z36 : Q20 K mg x25 e25) (z16 : Q21 K mg x26 e26) (z34 : Q27 K mg x27 e27) (X_BadKind : Xi K mg "BadKind" "BadKind.__init__" s_BadKind___init__ "place" C TE fi di) (XR : Xr K mg TE C b1 b2 b3 b4 b5 b6 b7) : FnOk P w K mg base CX0 21 f fd ["_law_script"] (sp_law K) := by
  have z61 := ok_law_fitting_tree (P := P) (w := w) (base := base) z24.F T z35 z22 z20 T_fits z21 z31 z44 z23 z10 z32 z0 z11 z17 z30 z43 z15 z13 z14 z25 z12 z24 z18 z33 z26 z40 z36 z16
  have G_law_tap := ok_law_tap (P := P) (w := w) (base := base) z32.F T
  have z50 := ok_law_cell_at (P := P) (w := w) (base := base) z23.F T
  have z47 : FnOk P w K mg base CX0 12 _ _ ["_law_tap_here", "_law_told", "_law_body"] (sp_ex 3) := ok_law_exchanged (P := P) (w := w) (base := base) T z10 z0 z11 z15 z13 z14 z17 z36 z16 3
  refine F.ok (k := 20) sc_law (fun vs H Q E h => ?_) (fun cdv A outer s H vs Q E hr h => ?_)
  · obtain ⟨a, ns, rfl, _⟩ := h; rfl
  · obtain ⟨a, ns, rfl, hq, hn63, q⟩ := h
    have hs : sizeLine = 16777216 := sizeLine_eq
    have cm : cMax = 90000000000000 := rfl
    obtain ⟨uB, hB, kB⟩ := law_B (P := P) (w := w) (base := base) (f := f) (cdv := cdv) (outer := outer) (H00 := H) (E := E) T z35 z22 z20 T_fits z21 z31 z44 z23 z10 z32 z0 z11 z17 z30 z43 z15 z13 z14 z25 z12 z24 z18 z33 z26 z40 z36 z16 z34 X_BadKind XR hr
    refine ⟨_, (pss_cons (ps_set (i := 1) sc_law.nd rfl (Or.inl rfl) (pe_call z61 (hr.mono (by decide)) rfl z24.m z24.F.kp z24.b .nil pass0 (pa_consN (pv 0) (pa_consN pe_int pa_nil))))
      (pss_cons (ps_set (i := 2) sc_law.nd rfl (Or.inr rfl) (pe_call G_law_tap (hr.mono (by decide)) rfl z32.m z32.F.kp z32.b .nil pass0 (pa_consN (pe_call z50 (hr.mono (by decide)) rfl z23.m z23.F.kp z23.b .nil pass0 (pa_consN (pv 0) (pa_consN pe_int pa_nil))) pa_nil)))
      (pss_cons (ps_set (i := 3) sc_law.nd rfl (Or.inr rfl) (pe_ix ix_tup (pv 1) pe_int (fun _ _ => rfl)))
      (pss_cons (ps_setComp (i := 4) rfl (blk_of (sc0 := defScope s_law) (N0 := ["_law_script", "_law_tree", "_law_tap_here", "_law_told", "_law_parts", "_law_other", "_law_turn"]) (N' := ["_law_name", "_law_body", "_law_tap_here", "_law_told"]) (own := 2) (fv := [2, 3]) (by decide +kernel) rfl rfl) sc_law.nd rfl (Or.inl rfl) (pi_list (pe_ix ix_tup (pv 1) pe_int (fun _ _ => rfl))) (fun _ _ _ _ => (pg_tupK (K := K) (n := 2) rfl (pgs_cons (pg_name (i := 0) (by show List.Nodup (["_law_name", "_law_body", "_law_tap_here", "_law_told"] : List Str); decide +kernel) rfl (Or.inl rfl)) (pgs_cons (pg_name (i := 1) (by show List.Nodup (["_law_name", "_law_body", "_law_tap_here", "_law_told"] : List Str); decide +kernel) rfl (Or.inl rfl)) pgs_nil)))) (fun _ _ _ _ => (pe_tup (pa_consN (pv 0) (pa_consN (pe_call z47 (hr.mono (by decide)) rfl z16.m z16.F.kp z16.b .nil pass0 (pa_consN (pv 2) (pa_consN (pv 3) (pa_consN (pv 1) pa_nil)))) pa_nil)))))
      (pss_cons (ps_set (i := 5) sc_law.nd rfl (Or.inl rfl) (pe_tup (pa_consN (pv 3) (pa_consN (pv 4) (pa_consN (pe_call z47 (hr.mono (by decide)) rfl z16.m z16.F.kp z16.b .nil pass0 (pa_consN (pv 2) (pa_consN (pv 3) (pa_consN (pe_ix ix_tup (pv 1) pe_int (fun _ _ => rfl)) pa_nil)))) pa_nil)))))
      hB))))), ?_⟩
    refine ⟨_, rfl, a, ns, rfl, hq, fun T0 told pl ml vsV xs ps main H1 s1 tr e1 e2 gp gm l6 => ?_⟩
    have t1 : T1 H1 ns T0 told pl ml vsV xs ps main := ⟨tr, e1, e2, gp, gm, l6⟩
    refine ⟨_, rfl, a, ns, 6, rfl, s1.seq hq, _, rfl, fun a6 H2 ha6 s2 ta6 => ?_⟩
    have c6 : (tapM (ns.getD 6 0)).c = 0 := rfl
    have rf := rows_facts ns
    have tv2 : Tv H2 a6 told vsV (vM ns).1 := ⟨s2 _ _ tr.etl, Paired.mapP tr.pv fun _ _ z => z.same s2, rf.2.2.1, rf.2.2.2.1, rf.1, by omega, fun z => by rw [z, tr.etl] at ha6; cases ha6⟩
    refine ⟨_, rfl, T0, _, _, _, rfl, rfl, SqT.of (s2 _ _ tr.et), rfl, ?_⟩
    have k0 : ∀ {H' : Hp}, Kl a6 H2 H' → Same H1 H' := fun k => Kl.same s2 ha6 k
    have t2n : H2 a6 ≠ none := by rw [ta6]; simp
    have pat := part_at tr.pp
    have lx : xs.length = ps.length := tr.pp.length
    have lp := t1.plen
    have w2 : Wn 2 = 42 := rfl
    have w3 : Wn 3 = 258 := rfl
    have hcm : main.all.length ≤ 6 * (1 + Wn 3) := Nat.le_trans gm.cnt (Nat.mul_le_mul_right _ l6)
    refine ⟨_, rfl, T0, _, _, _, rfl, rfl, SqT.of (s2 _ _ tr.et), rfl, pl, rfl, ⟨_, SqL.of (s2 _ _ tr.epl)⟩, comp_tup2 (K := K) (a := pl) (xs := xs) (fvals := [some (.ref a6), some (.ref told)]) (fun acc j H5 => ∃ (t5 : Tp) (xs' : List V) (ps' : List Pt), H2 acc = none ∧ Kl a6 H2 H5 ∧ TapIs H5 a6 t5 ∧ t5.c ≤ 20000 * j ∧ H5 acc = some (.lst xs') ∧ xs'.length = j ∧ Paired (PartAt H5) xs' ps' ∧ PNew (fun x => x ≠ a6 ∧ x ≠ acc) ps' ∧ ∀ p ∈ ps', Px p) ?_ ?_ ?_ ?_ ?_⟩
    · rintro acc j H5 ⟨t5, xs', ps', _, k5, _⟩
      exact SqL.of (k0 k5 _ _ tr.epl)
    · intro acc hacc
      refine ⟨_, [], [], hacc, Kl.of (Same.put hacc), ta6.same (Same.put hacc), by omega, upd_same, rfl, .nil, fun p hp => (by cases hp), fun p hp => (by cases hp)⟩
    · rintro acc j x H5 hx ⟨t5, xs', ps', _, k5, _⟩
      obtain ⟨p, _, q0, rfl, e1, _⟩ := paired_at tr.pp hx
      exact ⟨q0, _, _, rfl, k0 k5 _ _ e1⟩
    · rintro acc j q0 x1 x2 H5 R hx eT ⟨t5, xs', ps', hacc, k5, ta5, hc5, ea5, lx5, pp5, pn5, px5⟩ hR
      obtain ⟨p, hp, q1, e, f1, f2, f3⟩ := paired_at tr.pp hx
      cases e
      have := k0 k5 _ _ f1
      rw [eT] at this
      cases this
      have hj : j < xs.length := (List.getElem?_eq_some_iff.mp hx).1
      have gpp := gp p (List.mem_of_getElem? hp)
      have hcp : p.2.2.all.length ≤ 3 * (1 + Wn 2) := Nat.le_trans gpp.1.cnt (Nat.mul_le_mul_right _ gpp.2)
      have sn := k0 k5
      have hnest := gpp.1.nest
      refine ⟨_, rfl, _, rfl, _, rfl, _, rfl, a6, told, p.2.1, vsV, (vM ns).1, p.2.2, t5, rfl, ta5, by omega, tv2.kl ta6 k5, sn _ _ f2, ne_of_none f2 ha6, f3.same sn, BdAt.ne ha6 f3, gpp.1.ok, by omega, by have := gpp.2; omega, fun r b' H6 t6 k6 ta6' hc6 er fr ba bn bo nn ll ac => ⟨(by show 2 ≤ sizeLine; omega), fun q2 hq2 => ?_⟩⟩
      have yq := Same.put (o := .tup [V.str p.1, V.ref r]) hq2
      have eq2 : upd H6 q2 (.tup [V.str p.1, V.ref r]) q2 = some (.tup [V.str p.1, V.ref r]) := upd_same
      generalize upd H6 q2 (.tup [V.str p.1, V.ref r]) = H7 at yq eq2 ⊢
      have acca : acc ≠ a6 := fun z => by rw [z, ta6] at hacc; cases hacc
      have k57 : Kl a6 H5 H7 := k6.trans (Kl.of yq)
      have ea7 := k57 _ _ ea5 acca
      have ta7 := ta6'.same yq
      have tp : ∀ x vs, H7 x = some (.tup vs) → upd H7 acc (.lst (xs' ++ [V.ref q2])) x = some (.tup vs) := fun x vs e => by rw [upd_ne (ne_of e ea7 (by intro z; cases z))]; exact e
      have kp : ∀ x o, H7 x = some o → x ≠ acc → upd H7 acc (.lst (xs' ++ [V.ref q2])) x = some o := fun x o e n => by rw [upd_ne n]; exact e
      have H5a : H5 a6 ≠ none := by rw [ta5]; simp
      have H5c : H5 acc ≠ none := by rw [ea5]; simp
      have xa : ∀ x, H5 x = none → x ≠ a6 ∧ x ≠ acc := fun x hx => ⟨fun z => H5a (by rw [← z]; exact hx), fun z => H5c (by rw [← z]; exact hx)⟩
      have bx : BdAll (fun x => x ≠ a6 ∧ x ≠ acc) b' := BdAll.mono xa bn
      have xr := xa r fr
      refine hR _ _ ⟨xs', ea7, by omega, t6, xs' ++ [V.ref q2], ps' ++ [(p.1, r, b')], hacc, fun x o e n => ?_, ?_, by omega, upd_same, by rw [List.length_append, lx5]; rfl, ?_, pn5.snoc xr bx, fun z hz => ?_⟩
      · rw [upd_ne (ne_of_none e hacc)]
        exact k57 _ _ (k5 _ _ e n) n
      · show upd H7 acc _ a6 = _
        rw [upd_ne acca.symm]; exact ta7
      · refine Paired.app (parts_keep tp (fun x hx vs e => kp _ _ e hx.2) (parts_keep (Kl.tup ta5 k57) (fun x hx vs e => k57 _ _ e hx.1) pp5 pn5) pn5) (.cons ⟨q2, rfl, tp _ _ eq2, kp _ _ (yq _ _ er) xr.2, (ba.same yq).keep tp (fun x hx vs e => kp _ _ e hx.2) bx⟩ .nil)
      · rcases List.mem_append.mp hz with h | h
        · exact px5 z h
        · rw [List.mem_singleton.mp h]
          exact ⟨bo, nn, by show b'.refs.length ≤ 3; have := gpp.2; omega, by show b'.all.length ≤ 3000; omega⟩
    · rintro acc H5 hacc ⟨t5, xs', ps', _, k5, ta5, hc5, ea5, lx5, pp5, pn5, px5⟩
      have sn := k0 k5
      have lp5 : ps'.length = xs.length := by rw [← pp5.length, lx5]
      have acca : acc ≠ a6 := fun z => by rw [z, ta6] at hacc; cases hacc
      have hnest := gm.nest
      refine ⟨_, rfl, _, rfl, _, rfl, _, rfl, _, rfl, T0, _, _, _, rfl, rfl, SqT.of (sn _ _ tr.et), rfl, a6, told, ml, vsV, (vM ns).1, main, t5, rfl, ta5, by omega, tv2.kl ta6 k5, sn _ _ tr.eml, ne_of_none tr.eml ha6, tr.bm.same sn, BdAt.ne ha6 tr.bm, gm.ok, hnest, by omega, fun r b' H6 t6 k6 ta6' hc6 er fr ba bn bo nn ll ac => ⟨(by show 3 ≤ sizeLine; omega), fun Tx hTx => ?_⟩⟩
      have yT := Same.put (o := .tup [V.ref told, V.ref acc, V.ref r]) hTx
      have eT : upd H6 Tx (.tup [V.ref told, V.ref acc, V.ref r]) Tx = some (.tup [V.ref told, V.ref acc, V.ref r]) := upd_same
      generalize upd H6 Tx (.tup [V.ref told, V.ref acc, V.ref r]) = H7 at yT eT ⊢
      have k57 : Kl a6 H5 H7 := k6.trans (Kl.of yT)
      have k27 : Kl a6 H2 H7 := k5.trans k57
      have s17 := k0 k27
      have pp7 := parts_keep (Kl.tup ta5 k57) (fun x hx vs e => k57 _ _ e hx.1) pp5 pn5
      have hps : (psFlat ps').length ≤ ps'.length * 3000 := psFlat_sum fun p hp => (px5 p hp).cnt
      have hps3 : ps'.length * 3000 ≤ 3 * 3000 := Nat.mul_le_mul_right _ (by omega)
      have hpl := psBd_len (m := 3) fun p hp => (px5 p hp).len
      have hpl3 : ps'.length * 3 ≤ 3 * 3 := Nat.mul_le_mul_right _ (by omega)
      have tv7 := tv2.kl ta6 k27
      have tx : TrOk H7 Tx told acc r vsV xs' (vM ns).1 ps' b' := ⟨⟨eT, tv7.el, tv7.hx, k57 _ _ ea5 acca, pp7, yT _ _ er, ba.same yT, fun p hp => (by have := (px5 p hp).nest; omega), by omega, by rw [Bd.all_refs, List.length_map]; omega⟩, tv7.ho, tv7.l9, fun p hp => (px5 p hp).ok, bo, by omega⟩
      exact kB _ _ _ _ _ a ns T0 told pl ml vsV xs ps main Tx told acc r vsV xs' (vM ns).1 ps' b' H7 ((s1.trans s17).seq hq) (t1.same s17) tx q
end
end K45

set_option Elab.async false
set_option linter.all false
set_option maxRecDepth 100000
set_option maxHeartbeats 4000000
namespace K45
open PySem L2
theorem all_mk {l : PySem.W.OpenLaw} {w : World} {K : PySem.W.Frag} {h : Heap} {mg : Str → Option Value} {fz : Addr} {tk : Tok} (X : K.In h) (G : h.Ns mainGlobals mg) (hfa : mg "law" = some (.ref fz))
    {f0 : Addr} {od0 an0 : Option Addr} {sl0 : Array (Option Value)} {oc0 kV0 dc0 pm0 cd0 ct0 : Value}
    {f1 : Addr} {od1 an1 : Option Addr} {sl1 : Array (Option Value)} {oc1 kV1 dc1 pm1 cd1 ct1 : Value}
    {f2 : Addr} {od2 an2 : Option Addr} {sl2 : Array (Option Value)} {oc2 kV2 dc2 pm2 cd2 ct2 : Value}
    {f3 : Addr} {od3 an3 : Option Addr} {sl3 : Array (Option Value)} {oc3 kV3 dc3 pm3 cd3 ct3 : Value}
    {f4 : Addr} {od4 an4 : Option Addr} {sl4 : Array (Option Value)} {oc4 kV4 dc4 pm4 cd4 ct4 : Value}
    {f5 : Addr} {od5 an5 : Option Addr} {sl5 : Array (Option Value)} {oc5 kV5 dc5 pm5 cd5 ct5 : Value}
    {f6 : Addr} {od6 an6 : Option Addr} {sl6 : Array (Option Value)} {oc6 kV6 dc6 pm6 cd6 ct6 : Value}
    {f7 : Addr} {od7 an7 : Option Addr} {sl7 : Array (Option Value)} {oc7 kV7 dc7 pm7 cd7 ct7 : Value}
    {f8 : Addr} {od8 an8 : Option Addr} {sl8 : Array (Option Value)} {oc8 kV8 dc8 pm8 cd8 ct8 : Value}
    {f9 : Addr} {od9 an9 : Option Addr} {sl9 : Array (Option Value)} {oc9 kV9 dc9 pm9 cd9 ct9 : Value}
    {f10 : Addr} {od10 an10 : Option Addr} {sl10 : Array (Option Value)} {oc10 kV10 dc10 pm10 cd10 ct10 : Value}
    {f11 : Addr} {od11 an11 : Option Addr} {sl11 : Array (Option Value)} {oc11 kV11 dc11 pm11 cd11 ct11 : Value}
    {f12 : Addr} {od12 an12 : Option Addr} {sl12 : Array (Option Value)} {oc12 kV12 dc12 pm12 cd12 ct12 : Value}
    {f13 : Addr} {od13 an13 : Option Addr} {sl13 : Array (Option Value)} {oc13 kV13 dc13 pm13 cd13 ct13 : Value}
    {f14 : Addr} {od14 an14 : Option Addr} {sl14 : Array (Option Value)} {oc14 kV14 dc14 pm14 cd14 ct14 : Value}
    {f15 : Addr} {od15 an15 : Option Addr} {sl15 : Array (Option Value)} {oc15 kV15 dc15 pm15 cd15 ct15 : Value}
    {f16 : Addr} {od16 an16 : Option Addr} {sl16 : Array (Option Value)} {oc16 kV16 dc16 pm16 cd16 ct16 : Value}
    {f17 : Addr} {od17 an17 : Option Addr} {sl17 : Array (Option Value)} {oc17 kV17 dc17 pm17 cd17 ct17 : Value}
    {f18 : Addr} {od18 an18 : Option Addr} {sl18 : Array (Option Value)} {oc18 kV18 dc18 pm18 cd18 ct18 : Value}
    {f19 : Addr} {od19 an19 : Option Addr} {sl19 : Array (Option Value)} {oc19 kV19 dc19 pm19 cd19 ct19 : Value}
    {f20 : Addr} {od20 an20 : Option Addr} {sl20 : Array (Option Value)} {oc20 kV20 dc20 pm20 cd20 ct20 : Value}
    {f21 : Addr} {od21 an21 : Option Addr} {sl21 : Array (Option Value)} {oc21 kV21 dc21 pm21 cd21 ct21 : Value}
    {f22 : Addr} {od22 an22 : Option Addr} {sl22 : Array (Option Value)} {oc22 kV22 dc22 pm22 cd22 ct22 : Value}
    {f23 : Addr} {od23 an23 : Option Addr} {sl23 : Array (Option Value)} {oc23 kV23 dc23 pm23 cd23 ct23 : Value}
    {f24 : Addr} {od24 an24 : Option Addr} {sl24 : Array (Option Value)} {oc24 kV24 dc24 pm24 cd24 ct24 : Value}
    {f25 : Addr} {od25 an25 : Option Addr} {sl25 : Array (Option Value)} {oc25 kV25 dc25 pm25 cd25 ct25 : Value}
    {f26 : Addr} {od26 an26 : Option Addr} {sl26 : Array (Option Value)} {oc26 kV26 dc26 pm26 cd26 ct26 : Value}
    {f27 : Addr} {od27 an27 : Option Addr} {sl27 : Array (Option Value)} {oc27 kV27 dc27 pm27 cd27 ct27 : Value}
    {f28 : Addr} {od28 an28 : Option Addr} {sl28 : Array (Option Value)} {oc28 kV28 dc28 pm28 cd28 ct28 : Value}
    (a0 : PySem.W.nsIn K mainGlobals "kinds_of" = some (some (.ref f0))) (l0 : K.lookup f0 = some ⟨oc0, od0, .func (PySem.W.fnOf "kinds_of" "kinds_of" (defArgs s_kinds_of) (defBody s_kinds_of) (defScope s_kinds_of) .none kV0 dc0 pm0 an0 cd0 ct0), sl0⟩) (c0 : PySem.W.codeIn K cd0 "kinds_of" = true) (k0 : PySem.W.keepIn K (.ref f0) = true)
    (a1 : PySem.W.nsIn K mainGlobals "joined_kind" = some (some (.ref f1))) (l1 : K.lookup f1 = some ⟨oc1, od1, .func (PySem.W.fnOf "joined_kind" "joined_kind" (defArgs s_joined_kind) (defBody s_joined_kind) (defScope s_joined_kind) .none kV1 dc1 pm1 an1 cd1 ct1), sl1⟩) (c1 : PySem.W.codeIn K cd1 "joined_kind" = true) (k1 : PySem.W.keepIn K (.ref f1) = true)
    (a2 : PySem.W.nsIn K mainGlobals "kind_by" = some (some (.ref f2))) (l2 : K.lookup f2 = some ⟨oc2, od2, .func (PySem.W.fnOf "kind_by" "kind_by" (defArgs s_kind_by) (defBody s_kind_by) (defScope s_kind_by) .none kV2 dc2 pm2 an2 cd2 ct2), sl2⟩) (c2 : PySem.W.codeIn K cd2 "kind_by" = true) (k2 : PySem.W.keepIn K (.ref f2) = true)
    (a3 : PySem.W.nsIn K mainGlobals "fits" = some (some (.ref f3))) (l3 : K.lookup f3 = some ⟨oc3, od3, .func (PySem.W.fnOf "fits" "fits" (defArgs s_fits) (defBody s_fits) (defScope s_fits) .none kV3 dc3 pm3 an3 cd3 ct3), sl3⟩) (c3 : PySem.W.codeIn K cd3 "fits" = true) (k3 : PySem.W.keepIn K (.ref f3) = true)
    (a4 : PySem.W.nsIn K mainGlobals "with_inner" = some (some (.ref f4))) (l4 : K.lookup f4 = some ⟨oc4, od4, .func (PySem.W.fnOf "with_inner" "with_inner" (defArgs s_with_inner) (defBody s_with_inner) (defScope s_with_inner) .none kV4 dc4 pm4 an4 cd4 ct4), sl4⟩) (c4 : PySem.W.codeIn K cd4 "with_inner" = true) (k4 : PySem.W.keepIn K (.ref f4) = true)
    (a5 : PySem.W.nsIn K mainGlobals "statements" = some (some (.ref f5))) (l5 : K.lookup f5 = some ⟨oc5, od5, .func (PySem.W.fnOf "statements" "statements" (defArgs s_statements) (defBody s_statements) (defScope s_statements) .none kV5 dc5 pm5 an5 cd5 ct5), sl5⟩) (c5 : PySem.W.codeIn K cd5 "statements" = true) (k5 : PySem.W.keepIn K (.ref f5) = true)
    (a6 : PySem.W.nsIn K mainGlobals "looked" = some (some (.ref f6))) (l6 : K.lookup f6 = some ⟨oc6, od6, .func (PySem.W.fnOf "looked" "looked" (defArgs s_looked) (defBody s_looked) (defScope s_looked) .none kV6 dc6 pm6 an6 cd6 ct6), sl6⟩) (c6 : PySem.W.codeIn K cd6 "looked" = true) (k6 : PySem.W.keepIn K (.ref f6) = true)
    (a7 : PySem.W.nsIn K mainGlobals "_law_cell_at" = some (some (.ref f7))) (l7 : K.lookup f7 = some ⟨oc7, od7, .func (PySem.W.fnOf "_law_cell_at" "_law_cell_at" (defArgs s_law_cell_at) (defBody s_law_cell_at) (defScope s_law_cell_at) .none kV7 dc7 pm7 an7 cd7 ct7), sl7⟩) (c7 : PySem.W.codeIn K cd7 "_law_cell_at" = true) (k7 : PySem.W.keepIn K (.ref f7) = true)
    (a8 : PySem.W.nsIn K mainGlobals "_law_mixed" = some (some (.ref f8))) (l8 : K.lookup f8 = some ⟨oc8, od8, .func (PySem.W.fnOf "_law_mixed" "_law_mixed" (defArgs s_law_mixed) (defBody s_law_mixed) (defScope s_law_mixed) .none kV8 dc8 pm8 an8 cd8 ct8), sl8⟩) (c8 : PySem.W.codeIn K cd8 "_law_mixed" = true) (k8 : PySem.W.keepIn K (.ref f8) = true)
    (a9 : PySem.W.nsIn K mainGlobals "_law_tap" = some (some (.ref f9))) (l9 : K.lookup f9 = some ⟨oc9, od9, .func (PySem.W.fnOf "_law_tap" "_law_tap" (defArgs s_law_tap) (defBody s_law_tap) (defScope s_law_tap) .none kV9 dc9 pm9 an9 cd9 ct9), sl9⟩) (c9 : PySem.W.codeIn K cd9 "_law_tap" = true) (k9 : PySem.W.keepIn K (.ref f9) = true)
    (a10 : PySem.W.nsIn K mainGlobals "_law_next" = some (some (.ref f10))) (l10 : K.lookup f10 = some ⟨oc10, od10, .func (PySem.W.fnOf "_law_next" "_law_next" (defArgs s_law_next) (defBody s_law_next) (defScope s_law_next) .none kV10 dc10 pm10 an10 cd10 ct10), sl10⟩) (c10 : PySem.W.codeIn K cd10 "_law_next" = true) (k10 : PySem.W.keepIn K (.ref f10) = true)
    (a11 : PySem.W.nsIn K mainGlobals "_law_number" = some (some (.ref f11))) (l11 : K.lookup f11 = some ⟨oc11, od11, .func (PySem.W.fnOf "_law_number" "_law_number" (defArgs s_law_number) (defBody s_law_number) (defScope s_law_number) .none kV11 dc11 pm11 an11 cd11 ct11), sl11⟩) (c11 : PySem.W.codeIn K cd11 "_law_number" = true) (k11 : PySem.W.keepIn K (.ref f11) = true)
    (a12 : PySem.W.nsIn K mainGlobals "_law_expr" = some (some (.ref f12))) (l12 : K.lookup f12 = some ⟨oc12, od12, .func (PySem.W.fnOf "_law_expr" "_law_expr" (defArgs s_law_expr) (defBody s_law_expr) (defScope s_law_expr) .none kV12 dc12 pm12 an12 cd12 ct12), sl12⟩) (c12 : PySem.W.codeIn K cd12 "_law_expr" = true) (k12 : PySem.W.keepIn K (.ref f12) = true)
    (a13 : PySem.W.nsIn K mainGlobals "_law_titles" = some (some (.ref f13))) (l13 : K.lookup f13 = some ⟨oc13, od13, .func (PySem.W.fnOf "_law_titles" "_law_titles" (defArgs s_law_titles) (defBody s_law_titles) (defScope s_law_titles) .none kV13 dc13 pm13 an13 cd13 ct13), sl13⟩) (c13 : PySem.W.codeIn K cd13 "_law_titles" = true) (k13 : PySem.W.keepIn K (.ref f13) = true)
    (a14 : PySem.W.nsIn K mainGlobals "_law_vars" = some (some (.ref f14))) (l14 : K.lookup f14 = some ⟨oc14, od14, .func (PySem.W.fnOf "_law_vars" "_law_vars" (defArgs s_law_vars) (defBody s_law_vars) (defScope s_law_vars) .none kV14 dc14 pm14 an14 cd14 ct14), sl14⟩) (c14 : PySem.W.codeIn K cd14 "_law_vars" = true) (k14 : PySem.W.keepIn K (.ref f14) = true)
    (a15 : PySem.W.nsIn K mainGlobals "_law_of" = some (some (.ref f15))) (l15 : K.lookup f15 = some ⟨oc15, od15, .func (PySem.W.fnOf "_law_of" "_law_of" (defArgs s_law_of) (defBody s_law_of) (defScope s_law_of) .none kV15 dc15 pm15 an15 cd15 ct15), sl15⟩) (c15 : PySem.W.codeIn K cd15 "_law_of" = true) (k15 : PySem.W.keepIn K (.ref f15) = true)
    (a16 : PySem.W.nsIn K mainGlobals "_law_num" = some (some (.ref f16))) (l16 : K.lookup f16 = some ⟨oc16, od16, .func (PySem.W.fnOf "_law_num" "_law_num" (defArgs s_law_num) (defBody s_law_num) (defScope s_law_num) .none kV16 dc16 pm16 an16 cd16 ct16), sl16⟩) (c16 : PySem.W.codeIn K cd16 "_law_num" = true) (k16 : PySem.W.keepIn K (.ref f16) = true)
    (a17 : PySem.W.nsIn K mainGlobals "_law_flag" = some (some (.ref f17))) (l17 : K.lookup f17 = some ⟨oc17, od17, .func (PySem.W.fnOf "_law_flag" "_law_flag" (defArgs s_law_flag) (defBody s_law_flag) (defScope s_law_flag) .none kV17 dc17 pm17 an17 cd17 ct17), sl17⟩) (c17 : PySem.W.codeIn K cd17 "_law_flag" = true) (k17 : PySem.W.keepIn K (.ref f17) = true)
    (a18 : PySem.W.nsIn K mainGlobals "_law_fitting" = some (some (.ref f18))) (l18 : K.lookup f18 = some ⟨oc18, od18, .func (PySem.W.fnOf "_law_fitting" "_law_fitting" (defArgs s_law_fitting) (defBody s_law_fitting) (defScope s_law_fitting) .none kV18 dc18 pm18 an18 cd18 ct18), sl18⟩) (c18 : PySem.W.codeIn K cd18 "_law_fitting" = true) (k18 : PySem.W.keepIn K (.ref f18) = true)
    (a19 : PySem.W.nsIn K mainGlobals "_law_fitting_body" = some (some (.ref f19))) (l19 : K.lookup f19 = some ⟨oc19, od19, .func (PySem.W.fnOf "_law_fitting_body" "_law_fitting_body" (defArgs s_law_fitting_body) (defBody s_law_fitting_body) (defScope s_law_fitting_body) .none kV19 dc19 pm19 an19 cd19 ct19), sl19⟩) (c19 : PySem.W.codeIn K cd19 "_law_fitting_body" = true) (k19 : PySem.W.keepIn K (.ref f19) = true)
    (a20 : PySem.W.nsIn K mainGlobals "_law_fitting_tree" = some (some (.ref f20))) (l20 : K.lookup f20 = some ⟨oc20, od20, .func (PySem.W.fnOf "_law_fitting_tree" "_law_fitting_tree" (defArgs s_law_fitting_tree) (defBody s_law_fitting_tree) (defScope s_law_fitting_tree) .none kV20 dc20 pm20 an20 cd20 ct20), sl20⟩) (c20 : PySem.W.codeIn K cd20 "_law_fitting_tree" = true) (k20 : PySem.W.keepIn K (.ref f20) = true)
    (a21 : PySem.W.nsIn K mainGlobals "_law_kind" = some (some (.ref f21))) (l21 : K.lookup f21 = some ⟨oc21, od21, .func (PySem.W.fnOf "_law_kind" "_law_kind" (defArgs s_law_kind) (defBody s_law_kind) (defScope s_law_kind) .none kV21 dc21 pm21 an21 cd21 ct21), sl21⟩) (c21 : PySem.W.codeIn K cd21 "_law_kind" = true) (k21 : PySem.W.keepIn K (.ref f21) = true)
    (a22 : PySem.W.nsIn K mainGlobals "_law_fits" = some (some (.ref f22))) (l22 : K.lookup f22 = some ⟨oc22, od22, .func (PySem.W.fnOf "_law_fits" "_law_fits" (defArgs s_law_fits) (defBody s_law_fits) (defScope s_law_fits) .none kV22 dc22 pm22 an22 cd22 ct22), sl22⟩) (c22 : PySem.W.codeIn K cd22 "_law_fits" = true) (k22 : PySem.W.keepIn K (.ref f22) = true)
    (a23 : PySem.W.nsIn K mainGlobals "_law_first" = some (some (.ref f23))) (l23 : K.lookup f23 = some ⟨oc23, od23, .func (PySem.W.fnOf "_law_first" "_law_first" (defArgs s_law_first) (defBody s_law_first) (defScope s_law_first) .none kV23 dc23 pm23 an23 cd23 ct23), sl23⟩) (c23 : PySem.W.codeIn K cd23 "_law_first" = true) (k23 : PySem.W.keepIn K (.ref f23) = true)
    (a24 : PySem.W.nsIn K mainGlobals "_law_due" = some (some (.ref f24))) (l24 : K.lookup f24 = some ⟨oc24, od24, .func (PySem.W.fnOf "_law_due" "_law_due" (defArgs s_law_due) (defBody s_law_due) (defScope s_law_due) .none kV24 dc24 pm24 an24 cd24 ct24), sl24⟩) (c24 : PySem.W.codeIn K cd24 "_law_due" = true) (k24 : PySem.W.keepIn K (.ref f24) = true)
    (a25 : PySem.W.nsIn K mainGlobals "_law_odd" = some (some (.ref f25))) (l25 : K.lookup f25 = some ⟨oc25, od25, .func (PySem.W.fnOf "_law_odd" "_law_odd" (defArgs s_law_odd) (defBody s_law_odd) (defScope s_law_odd) .none kV25 dc25 pm25 an25 cd25 ct25), sl25⟩) (c25 : PySem.W.codeIn K cd25 "_law_odd" = true) (k25 : PySem.W.keepIn K (.ref f25) = true)
    (a26 : PySem.W.nsIn K mainGlobals "_law_exchanged" = some (some (.ref f26))) (l26 : K.lookup f26 = some ⟨oc26, od26, .func (PySem.W.fnOf "_law_exchanged" "_law_exchanged" (defArgs s_law_exchanged) (defBody s_law_exchanged) (defScope s_law_exchanged) .none kV26 dc26 pm26 an26 cd26 ct26), sl26⟩) (c26 : PySem.W.codeIn K cd26 "_law_exchanged" = true) (k26 : PySem.W.keepIn K (.ref f26) = true)
    (a27 : PySem.W.nsIn K mainGlobals "_law_right" = some (some (.ref f27))) (l27 : K.lookup f27 = some ⟨oc27, od27, .func (PySem.W.fnOf "_law_right" "_law_right" (defArgs s_law_right) (defBody s_law_right) (defScope s_law_right) .none kV27 dc27 pm27 an27 cd27 ct27), sl27⟩) (c27 : PySem.W.codeIn K cd27 "_law_right" = true) (k27 : PySem.W.keepIn K (.ref f27) = true)
    (a28 : PySem.W.nsIn K mainGlobals "law" = some (some (.ref f28))) (l28 : K.lookup f28 = some ⟨oc28, od28, .func (PySem.W.fnOf "law" "law" (defArgs s_law) (defBody s_law) (defScope s_law) .none kV28 dc28 pm28 an28 cd28 ct28), sl28⟩) (c28 : PySem.W.codeIn K cd28 "law" = true) (k28 : PySem.W.keepIn K (.ref f28) = true)
    {E_TownError : Addr} (ae_TownError : PySem.W.nsIn K mainGlobals "TownError" = some (some (.ref E_TownError)))
    {E_BadKind : Addr} (ae_BadKind : PySem.W.nsIn K mainGlobals "BadKind" = some (some (.ref E_BadKind)))
    {E_BadLine : Addr} (ae_BadLine : PySem.W.nsIn K mainGlobals "BadLine" = some (some (.ref E_BadLine)))
    {E_BadRow : Addr} (ae_BadRow : PySem.W.nsIn K mainGlobals "BadRow" = some (some (.ref E_BadRow)))
    {E_GivenTwice : Addr} (ae_GivenTwice : PySem.W.nsIn K mainGlobals "GivenTwice" = some (some (.ref E_GivenTwice)))
    {E_Lacking : Addr} (ae_Lacking : PySem.W.nsIn K mainGlobals "Lacking" = some (some (.ref E_Lacking)))
    {E_NoFile : Addr} (ae_NoFile : PySem.W.nsIn K mainGlobals "NoFile" = some (some (.ref E_NoFile)))
    {E_NoRoom : Addr} (ae_NoRoom : PySem.W.nsIn K mainGlobals "NoRoom" = some (some (.ref E_NoRoom)))
    {E_TooLong : Addr} (ae_TooLong : PySem.W.nsIn K mainGlobals "TooLong" = some (some (.ref E_TooLong)))
    {f_BadKind___init__ : Addr} {od_BadKind___init__ an_BadKind___init__ : Option Addr} {sl_BadKind___init__ : Array (Option Value)} {oc_BadKind___init__ kV_BadKind___init__ dc_BadKind___init__ pm_BadKind___init__ cd_BadKind___init__ ct_BadKind___init__ : Value}
    (a_BadKind___init__ : PySem.W.findIn K (.ref E_BadKind) "__init__" = some (some (.ref f_BadKind___init__))) (i_BadKind___init__ : PySem.W.isFn K (.ref f_BadKind___init__) = true) (l_BadKind___init__ : K.lookup f_BadKind___init__ = some ⟨oc_BadKind___init__, od_BadKind___init__, .func (PySem.W.fnOf "__init__" "BadKind.__init__" (defArgs s_BadKind___init__) (defBody s_BadKind___init__) (defScope s_BadKind___init__) .none kV_BadKind___init__ dc_BadKind___init__ pm_BadKind___init__ an_BadKind___init__ cd_BadKind___init__ ct_BadKind___init__), sl_BadKind___init__⟩) (c_BadKind___init__ : PySem.W.codeIn K cd_BadKind___init__ "BadKind.__init__" = true) (k_BadKind___init__ : PySem.W.keepIn K (.ref f_BadKind___init__) = true)
    (x1 : xinIn K E_BadKind f_BadKind___init__ = true) (x2 : PySem.W.keepIn K (.ref E_BadKind) = true) (x3 : PySem.W.ktsIn K E_BadKind "BaseException" = true) (x4 : (Value.ref E_BadKind :: xcMro K E_BadKind).contains (.ref E_TownError) = true) (x5 : PySem.W.findIn K (.ref E_BadKind) "__setattr__" = some (some (.builtin "object.__setattr__"))) (x6 : PySem.W.findIn K (.ref E_BadKind) "place" = some none) (x7 : PySem.W.mroIn K E_BadKind (.type "object") = some true) (x8 : PySem.W.hasDictIn K E_BadKind = true) (x9 : (PySem.W.clsIn K E_BadKind).any (fun cd => refsThen cd.mro) = true)
    (x10 : PySem.W.findIn K (.ref E_BadKind) "__getattribute__" = some (some (.builtin "BaseException.__getattribute__"))) (x11 : PySem.W.findIn K (.ref E_BadKind) "__getattr__" = some none) (x12 : PySem.W.mroIn K E_BadKind (.type "BaseException") = some true) (x13 : PySem.W.findIn K (.ref E_BadKind) "__class__" = some (some (.builtin "object.__class__"))) (x14 : PySem.W.ktsIn K E_TownError "BaseException" = true)
    (x15 : PySem.W.kitOne K (.ref E_BadKind) (.ref E_BadKind) = some true) (x16 : PySem.W.kitOne K (.ref E_BadKind) (.type "ValueError") = some true) (x17 : PySem.W.kitAny K (.ref E_BadKind) [.ref E_BadLine, .ref E_BadRow, .ref E_GivenTwice, .ref E_Lacking, .ref E_NoFile, .ref E_NoRoom, .ref E_TooLong] = some false)
    (z_len : PySem.W.nsIn K mainGlobals "len" = some none)
    (z_range : PySem.W.nsIn K mainGlobals "range" = some none)
    (z_list : PySem.W.nsIn K mainGlobals "list" = some none)
    (z_isinstance : PySem.W.nsIn K mainGlobals "isinstance" = some none)
    (z_int : PySem.W.nsIn K mainGlobals "int" = some none)
    (z_tuple : PySem.W.nsIn K mainGlobals "tuple" = some none)
    (z_bool : PySem.W.nsIn K mainGlobals "bool" = some none)
    (z_enumerate : PySem.W.nsIn K mainGlobals "enumerate" = some none)
    (z_ValueError : PySem.W.nsIn K mainGlobals "ValueError" = some none)
    : ∃ fd : FuncData, (∀ (s : Shared) (v : Value), BindsTo s fd ⟨[v], []⟩ [("_law_script", v)]) ∧ ∀ base : Heap, K.In base → base.Ns mainGlobals mg → FnOk l.prog w K mg base CX0 21 fz fd ["_law_script"] (sp_law K) := by
  have e := hfa.symm.trans (PySem.W.mg_of X G a28)
  cases e
  have T : Bt mg := ⟨PySem.W.mg_none_of X G z_len, PySem.W.mg_none_of X G z_range, PySem.W.mg_none_of X G z_list, PySem.W.mg_none_of X G z_isinstance, PySem.W.mg_none_of X G z_int, PySem.W.mg_none_of X G z_tuple, PySem.W.mg_none_of X G z_bool, PySem.W.mg_none_of X G z_enumerate, PySem.W.mg_none_of X G z_ValueError⟩
  have F0 := fun_mk (st := s_kinds_of) l0 c0 k0
  have b0 := F0.binds (ps := ["variables"]) fun _ _ _ _ _ _ us hl => match us, hl with | [_], _ => rfl
  have F1 := fun_mk (st := s_joined_kind) l1 c1 k1
  have b1 := F1.binds (ps := ["kinds", "expr"]) fun _ _ _ _ _ _ us hl => match us, hl with | [_, _], _ => rfl
  have F2 := fun_mk (st := s_kind_by) l2 c2 k2
  have b2 := F2.binds (ps := ["kinds", "expr"]) fun _ _ _ _ _ _ us hl => match us, hl with | [_, _], _ => rfl
  have F3 := fun_mk (st := s_fits) l3 c3 k3
  have b3 := F3.binds (ps := ["kinds", "statement"]) fun _ _ _ _ _ _ us hl => match us, hl with | [_, _], _ => rfl
  have F4 := fun_mk (st := s_with_inner) l4 c4 k4
  have b4 := F4.binds (ps := ["body"]) fun _ _ _ _ _ _ us hl => match us, hl with | [_], _ => rfl
  have F5 := fun_mk (st := s_statements) l5 c5 k5
  have b5 := F5.binds (ps := ["tree"]) fun _ _ _ _ _ _ us hl => match us, hl with | [_], _ => rfl
  have F6 := fun_mk (st := s_looked) l6 c6 k6
  have b6 := F6.binds (ps := ["tree"]) fun _ _ _ _ _ _ us hl => match us, hl with | [_], _ => rfl
  have F7 := fun_mk (st := s_law_cell_at) l7 c7 k7
  have b7 := F7.binds (ps := ["_law_script", "_law_k"]) fun _ _ _ _ _ _ us hl => match us, hl with | [_, _], _ => rfl
  have F8 := fun_mk (st := s_law_mixed) l8 c8 k8
  have b8 := F8.binds (ps := ["_law_number_here", "_law_k"]) fun _ _ _ _ _ _ us hl => match us, hl with | [_, _], _ => rfl
  have F9 := fun_mk (st := s_law_tap) l9 c9 k9
  have b9 := F9.binds (ps := ["_law_cell"]) fun _ _ _ _ _ _ us hl => match us, hl with | [_], _ => rfl
  have F10 := fun_mk (st := s_law_next) l10 c10 k10
  have b10 := F10.binds (ps := ["_law_tap_here", "_law_size"]) fun _ _ _ _ _ _ us hl => match us, hl with | [_, _], _ => rfl
  have F11 := fun_mk (st := s_law_number) l11 c11 k11
  have b11 := F11.binds (ps := ["_law_tap_here"]) fun _ _ _ _ _ _ us hl => match us, hl with | [_], _ => rfl
  have F12 := fun_mk (st := s_law_expr) l12 c12 k12
  have b12 := F12.binds (ps := ["_law_tap_here", "_law_names", "_law_deep"]) fun _ _ _ _ _ _ us hl => match us, hl with | [_, _, _], _ => rfl
  have F13 := fun_mk (st := s_law_titles) l13 c13 k13
  have b13 := F13.binds (ps := ["_law_tap_here", "_law_many"]) fun _ _ _ _ _ _ us hl => match us, hl with | [_, _], _ => rfl
  have F14 := fun_mk (st := s_law_vars) l14 c14 k14
  have b14 := F14.binds (ps := ["_law_tap_here", "_law_most"]) fun _ _ _ _ _ _ us hl => match us, hl with | [_, _], _ => rfl
  have F15 := fun_mk (st := s_law_of) l15 c15 k15
  have b15 := F15.binds (ps := ["_law_told", "_law_kind_here"]) fun _ _ _ _ _ _ us hl => match us, hl with | [_, _], _ => rfl
  have F16 := fun_mk (st := s_law_num) l16 c16 k16
  have b16 := F16.binds (ps := ["_law_tap_here", "_law_told", "_law_deep"]) fun _ _ _ _ _ _ us hl => match us, hl with | [_, _, _], _ => rfl
  have F17 := fun_mk (st := s_law_flag) l17 c17 k17
  have b17 := F17.binds (ps := ["_law_tap_here", "_law_told", "_law_deep"]) fun _ _ _ _ _ _ us hl => match us, hl with | [_, _, _], _ => rfl
  have F18 := fun_mk (st := s_law_fitting) l18 c18 k18
  have b18 := F18.binds (ps := ["_law_tap_here", "_law_told", "_law_parts", "_law_deep"]) fun _ _ _ _ _ _ us hl => match us, hl with | [_, _, _, _], _ => rfl
  have F19 := fun_mk (st := s_law_fitting_body) l19 c19 k19
  have b19 := F19.binds (ps := ["_law_tap_here", "_law_told", "_law_parts", "_law_deep"]) fun _ _ _ _ _ _ us hl => match us, hl with | [_, _, _, _], _ => rfl
  have F20 := fun_mk (st := s_law_fitting_tree) l20 c20 k20
  have b20 := F20.binds (ps := ["_law_script", "_law_at"]) fun _ _ _ _ _ _ us hl => match us, hl with | [_, _], _ => rfl
  have F21 := fun_mk (st := s_law_kind) l21 c21 k21
  have b21 := F21.binds (ps := ["_law_told", "_law_expr_here"]) fun _ _ _ _ _ _ us hl => match us, hl with | [_, _], _ => rfl
  have F22 := fun_mk (st := s_law_fits) l22 c22 k22
  have b22 := F22.binds (ps := ["_law_told", "_law_one"]) fun _ _ _ _ _ _ us hl => match us, hl with | [_, _], _ => rfl
  have F23 := fun_mk (st := s_law_first) l23 c23 k23
  have b23 := F23.binds (ps := ["_law_told", "_law_body", "_law_number_here"]) fun _ _ _ _ _ _ us hl => match us, hl with | [_, _, _], _ => rfl
  have F24 := fun_mk (st := s_law_due) l24 c24 k24
  have b24 := F24.binds (ps := ["_law_tree"]) fun _ _ _ _ _ _ us hl => match us, hl with | [_], _ => rfl
  have F25 := fun_mk (st := s_law_odd) l25 c25 k25
  have b25 := F25.binds (ps := ["_law_tap_here", "_law_told"]) fun _ _ _ _ _ _ us hl => match us, hl with | [_, _], _ => rfl
  have F26 := fun_mk (st := s_law_exchanged) l26 c26 k26
  have b26 := F26.binds (ps := ["_law_tap_here", "_law_told", "_law_body"]) fun _ _ _ _ _ _ us hl => match us, hl with | [_, _, _], _ => rfl
  have F27 := fun_mk (st := s_law_right) l27 c27 k27
  have b27 := F27.binds (ps := ["_law_tree", "_law_due_here"]) fun _ _ _ _ _ _ us hl => match us, hl with | [_, _], _ => rfl
  have F28 := fun_mk (st := s_law) l28 c28 k28
  have F_BadKind___init__ := fun_mk (st := s_BadKind___init__) l_BadKind___init__ c_BadKind___init__ k_BadKind___init__
  have b_BadKind___init__ := F_BadKind___init__.binds (ps := ["self", "place"]) fun _ _ _ _ _ _ us hl => match us, hl with | [_, _], _ => rfl
  have X_BadKind : Xi K mg "BadKind" "BadKind.__init__" s_BadKind___init__ "place" E_BadKind E_TownError f_BadKind___init__ _ := ⟨PySem.W.mg_of X G ae_BadKind, ⟨x1, i_BadKind___init__, x2⟩, x3, x4, F_BadKind___init__, b_BadKind___init__, ⟨x5, x6, x7, x8, x9⟩, ⟨x10, x11, x6, x12, x8⟩, ⟨x10, x11, x13, x12, x7⟩⟩
  have XR : Xr K mg E_TownError E_BadKind E_BadLine E_BadRow E_GivenTwice E_Lacking E_NoFile E_NoRoom E_TooLong := ⟨PySem.W.mg_of X G ae_TownError, x14, PySem.W.mg_of X G ae_BadKind, PySem.W.mg_of X G ae_BadLine, PySem.W.mg_of X G ae_BadRow, PySem.W.mg_of X G ae_GivenTwice, PySem.W.mg_of X G ae_Lacking, PySem.W.mg_of X G ae_NoFile, PySem.W.mg_of X G ae_NoRoom, PySem.W.mg_of X G ae_TooLong, x15, x16, x17⟩
  exact ⟨PySem.W.fnOf "law" "law" (defArgs s_law) (defBody s_law) (defScope s_law) .none kV28 dc28 pm28 an28 cd28 ct28, fun s v => .of_eq rfl, fun base _ _ => ok_law F28 T ⟨F0, PySem.W.mg_of X G a0, b0⟩ ⟨F1, PySem.W.mg_of X G a1, b1⟩ ⟨F2, PySem.W.mg_of X G a2, b2⟩ ⟨F3, PySem.W.mg_of X G a3, b3⟩ ⟨F4, PySem.W.mg_of X G a4, b4⟩ ⟨F5, PySem.W.mg_of X G a5, b5⟩ ⟨F6, PySem.W.mg_of X G a6, b6⟩ ⟨F7, PySem.W.mg_of X G a7, b7⟩ ⟨F8, PySem.W.mg_of X G a8, b8⟩ ⟨F9, PySem.W.mg_of X G a9, b9⟩ ⟨F10, PySem.W.mg_of X G a10, b10⟩ ⟨F11, PySem.W.mg_of X G a11, b11⟩ ⟨F12, PySem.W.mg_of X G a12, b12⟩ ⟨F13, PySem.W.mg_of X G a13, b13⟩ ⟨F14, PySem.W.mg_of X G a14, b14⟩ ⟨F15, PySem.W.mg_of X G a15, b15⟩ ⟨F16, PySem.W.mg_of X G a16, b16⟩ ⟨F17, PySem.W.mg_of X G a17, b17⟩ ⟨F18, PySem.W.mg_of X G a18, b18⟩ ⟨F19, PySem.W.mg_of X G a19, b19⟩ ⟨F20, PySem.W.mg_of X G a20, b20⟩ ⟨F21, PySem.W.mg_of X G a21, b21⟩ ⟨F22, PySem.W.mg_of X G a22, b22⟩ ⟨F23, PySem.W.mg_of X G a23, b23⟩ ⟨F24, PySem.W.mg_of X G a24, b24⟩ ⟨F25, PySem.W.mg_of X G a25, b25⟩ ⟨F26, PySem.W.mg_of X G a26, b26⟩ ⟨F27, PySem.W.mg_of X G a27, b27⟩ X_BadKind XR⟩
theorem walk {l : PySem.W.OpenLaw} {q : Program} {loose : List Str} {XP : (Str → Option Value) → Heap → Prop} {YP : World → Heap → Prop} {d : DefRec} {K : Params → PySem.W.Frag} (hn : l.most = some 63) (hdf : d.params.defaults = [])
    (hY : ∀ (w : World) (h : Heap), YP w h → (K w.params).In h)
    (F : ∀ (w : World) (mg : Str → Option Value) (fa : Addr) (h : Heap), (K w.params).In h → h.Ns mainGlobals mg → mg d.name = some (.ref fa) →
      ∃ fd : FuncData, (∀ (s : Shared) (u : Value), BindsTo s fd ⟨[u], []⟩ [("_law_script", u)]) ∧ ∀ base : Heap, (K w.params).In base → base.Ns mainGlobals mg → FnOk l.prog w (K w.params) mg base CX0 21 fa fd ["_law_script"] (sp_law (K w.params))) :
    PySem.W.WalkO q loose XP YP l.row.toRowW d [] (fun f vs => PySem.call f vs) :=
  L2.walk_of (n := 63) (k := 21) (x := "_law_script") (CX := fun _ => CX0) (sp := fun w => sp_law (K w.params)) hn (by decide) hdf ⟨rfl, by decide, by decide⟩ hY F (fun _ _ a ns hl _ hS => ⟨a, ns, rfl, hS, hl, fun _ => rfl⟩) fun _ _ _ _ _ z => z
end K45
namespace PySem.W.Fast
def tw12661818495074384110:=()
def tw16864485186285381451:=()
def tw8327529619436677036:=()
def tw6436452837193414404:=()
def tw12335532249059319378:=()
def tw10037350068540556495:=()
def tw2098918955736081806:=()
def tw6380607429262847005:=()
def tw10194468196283534649:=()
def tw14648085254038700704:=()
def tw7202408821950622842:=()
def tw9084574091622273873:=()
def tw11551288960093731218:=()
def tw15819604262057243941:=()
def tw8196962843801453224:=()
def tw8554666557047802406:=()
def tw13524118034171312782:=()
def tw17664201738408164942:=()
def tw13995852267783229347:=()
def tw688716560278192687:=()
def tw14101220213334534635:=()
def tw10304735073204188558:=()
def tw3986439361730071824:=()
def tw10141520990023413628:=()
def tw3416478229258878731:=()
def tw11899971461407337539:=()
def tw2283821817219572416:=()
def tw16967302325018276350:=()
def tw5326435545793801463:=()
def tw5521217191272414974:=()
def tw9108576096077980387:=()
def tw15976004918659410433:=()
def tw13093915362908799560:=()
def tw1544789262711439683:=()
def tw13474615306266166880:=()
def tw417137213434861898:=()
def tw10895672021940048122:=()
def tw13570170653516689710:=()
def tw4733183306456757414:=()
def tw9751001757800582632:=()
def tw13314949642405188130:=()
def tw10169718001620918535:=()
def tw16571339690079063776:=()
def tw16144706960787829267:=()
def tw8956162699179630147:=()
def tw15733101758661297310:=()
def tw1273792878833211189:=()
def tw13051214479051084258:=()
def tw1437754264456269530:=()
def tw2131048435580028519:=()
def tw10045887380157354733:=()
def tw4976791831377212634:=()
def tw5182514552916573619:=()
def tw1290736970077169371:=()
def tw18118694580596942372:=()
def tw3007227463895980424:=()
def tw14507730213856596748:=()
def tw5935105692884278556:=()
def tw15128950635227515828:=()
def tw9809155341207685195:=()
def tw12764102265441690701:=()
def tw10533491753712053881:=()
def tw2311090156661800980:=()
def tw7408137733914862266:=()
def tw4383102098601470077:=()
def tw10814765232733988:=()
def tw9751352366479812121:=()
def tw9555617740365915562:=()
def tw8796638421385313498:=()
def tw16334054276507867748:=()
def tw11422634325597033867:=()
def tw18022623129891416440:=()
def tw2174613273509090579:=()
def tw7323956129824403087:=()
def tw9702354427008002516:=()
def tw2118134841291312473:=()
def tw15289948721521542052:=()
def tw15672480140541453766:=()
def tw12899419387823073325:=()
def tw16539542694576756717:=()
def tw2015345675833661863:=()
def tw16828047973738003396:=()
def tw15379701419401053764:=()
def tw2364079706311506303:=()
def tw5120915105388773319:=()
def tw11439774774371584275:=()
def tw13592756992444900844:=()
def tw15157519485538541326:=()
def tw4979475286960671252:=()
def tw17377859630619803770:=()
def tw2105115572841392387:=()
def tw11167572061823331074:=()
def tw1429682833073152754:=()
def tw16134960380465825183:=()
def tw17246472673586146425:=()
def tw2047394772330934392:=()
def tw5003264412473559975:=()
def tw6447562809867315223:=()
def tw11504512043657211354:=()
def tw1476553382012572495:=()
def tw17178682584834344989:=()
def tw3185190683614195551:=()
def tw1329006469119314271:=()
def tw17652266195661847739:=()
def tw16808903660956633305:=()
def tw2378254520467728344:=()
def tw8693921320386503640:=()
def tw9032628291023926747:=()
def tw16855514783955136532:=()
def tw4327538366653600405:=()
def tw15357106368023287440:=()
def tw16843344126818816290:=()
def tw6235700611714312196:=()
def tw2196811883911279627:=()
def tw18306628139337909498:=()
def tw11734083739311316174:=()
def tw16206599050176348667:=()
def tw16194200949521641601:=()
def tw3816237435311701827:=()
def tw18254705360233407654:=()
def tw10159669552610386426:=()
def tw5613587446266381038:=()
def tw11619822065971319827:=()
def tw8191356146895601203:=()
def tw17866787926947127014:=()
def tw3190527939488864816:=()
def tw6083581929448007898:=()
def tw15624269661654759372:=()
def tw16685681876049811141:=()
def tw2511894898039691797:=()
def tw1700585423832186775:=()
def tw12563865500583903172:=()
def tw11794513958473289290:=()
def tw7984246642789988905:=()
def tw16602362495463202994:=()
def tw2270247810029446920:=()
def tw5615157041577212019:=()
def tw4448123860037019669:=()
def tw13335096568054008301:=()
def tw11119733833276160639:=()
def tw10360630911121376353:=()
def tw15459364306650140973:=()
def tw15505224456014703265:=()
def tw11317176196279790049:=()
def tw16215245958984222803:=()
def tw8361682103002192507:=()
def tw17543006822262957601:=()
def tw4553701089497537491:=()
def tw13430391116962014953:=()
def tw13524780892684648730:=()
def tw4846724858206543814:=()
def tw836785791098305533:=()
def tw2851962323413835846:=()
def tw3909150539302919267:=()
def tw13838145556373417536:=()
def tw9461914740482946890:=()
def tw7918022512416745440:=()
def tw13666431448987274940:=()
def tw1176670121434461084:=()
def tw17232094146144223633:=()
def tw3907278696778729663:=()
def tw14138977836242640270:=()
def tw16865766147730171698:=()
def tw7366267256331050589:=()
def tw985710364567306380:=()
def tw4823260674229966804:=()
def tw13408620397547382153:=()
def tw10475971644823670436:=()
def tw8293562541570039122:=()
def tw4231673257587885877:=()
def tw11113899320456739405:=()
def tw2643998164649964674:=()
def tw15578860637108497306:=()
def tw10511412782526250926:=()
def tw3183241804169639119:=()
def tw10100763204184756929:=()
def tw3837274511361114617:=()
def tw8341507567849771479:=()
def tw17136945349301031086:=()
def tw4015020543639246370:=()
def tw17892576041008743455:=()
def tw7784451148397264154:=()
def tw2854197207488663310:=()
def tw13714383780161171980:=()
def tw10920978747573942625:=()
def tw16347646696359719077:=()
def tw10667344915634855670:=()
def tw7834082552914148987:=()
def tw102223463474703253:=()
def tw12295864051588016130:=()
def tw11120604013104961912:=()
def tw12539149552255957381:=()
def tw11954073510101589448:=()
def tw9215009381195577118:=()
def tw10417472182108391917:=()
def tw3009476894938460920:=()
def tw7347243422759556339:=()
def tw16783316944916993864:=()
def tw6412566341413730003:=()
def tw3617345938043568757:=()
def tw443598152906700511:=()
def tw5932853038945814437:=()
def tw156845504659117099:=()
def tw2463586575355642004:=()
def tw1720997018580790514:=()
def tw18077144763244090556:=()
def tw13384696681257486290:=()
def tw13684781595711870063:=()
def tw5030924906641364059:=()
def tw14799957153209956522:=()
def tw5466896797889485642:=()
def tw10852395414997241192:=()
def tw45995006993811302:=()
def tw10611995790868486379:=()
def tw13150488573953131382:=()
def tw9067044759778274383:=()
def tw5159516834606868990:=()
def tw8098417540262216084:=()
def tw4786528113588625867:=()
def tw16517173281264961909:=()
def tw9764237058981691266:=()
def tw17129880140057539420:=()
def tw3687573617796247209:=()
def tw6916120441587512980:=()
def tw5997057034321217179:=()
def tw6479390091642379601:=()
def tw10669507850453620248:=()
def tw855251039887590216:=()
def tw17825366688216823833:=()
def tw12766078376672711940:=()
def tw16727833859676247956:=()
def tw15884995140193652127:=()
def tw9785116706165667983:=()
def tw18337981652872516821:=()
def tw10674480760374761625:=()
def tw2926336450700254655:=()
def tw4217915128212112814:=()
def tw1644197779091284794:=()
def tw17942608999446571098:=()
def tw13258993573104935997:=()
def tw6665815256106096219:=()
def tw17571937302748395629:=()
def tw12199553656045874015:=()
def tw3140057818883919005:=()
def tw7096810455666110935:=()
def tw5345808201301927695:=()
def tw10071074780290788089:=()
def tw7036693787386635538:=()
def tw5229075796597959434:=()
def tw5469997411681808112:=()
def tw5087907849292925075:=()
def tw6759044723577952713:=()
def tw17098209061210406457:=()
def tw17397326648280680532:=()
def tw12614857709474176059:=()
def tw13379545445783807293:=()
def tw18131687241646824279:=()
def tw10516231099157346755:=()
def tw5133756698919374280:=()
def tw4359251545659313281:=()
def tw15325966828306432204:=()
def tw4735941010622570518:=()
def tw16360034123348291982:=()
def tw14181779035825458695:=()
def tw11111865889540717356:=()
def tw15024264837935659220:=()
def tw5273748507850799368:=()
def tw547254788219872594:=()
def tw15144582591542499482:=()
def tw8326325361516064538:=()
def tw2076044917909233593:=()
def tw10134258700399488441:=()
def tw18388954577539057713:=()
def tw1418015282055221571:=()
def tw7430814648007867013:=()
def tw12470691262801289073:=()
def tw16705620100640534217:=()
def tw13281301519345825236:=()
def tw182935856793795342:=()
def tw8376015682338841071:=()
def tw5509771688436429945:=()
def tw11853569523303618085:=()
def tw11965457618311361180:=()
def tw11901677013452963505:=()
def tw12162836282265272067:=()
def tw7696781558822355927:=()
def tw521476263713538397:=()
def tw4661498379135010696:=()
def tw2605765893746124583:=()
def tw1760374967207078135:=()
def tw12674638090325186465:=()
def tw17189269937225487275:=()
def tw10604146340689604176:=()
def tw6063744440654065181:=()
def tw7931609954101389405:=()
def tw14301895105373589347:=()
def tw7118647257302675304:=()
def tw4175026579021992348:=()
def tw2016142243200896091:=()
def tw10797954811853355383:=()
def tw4442850014091149692:=()
def tw2277295386569902731:=()
def tw16105979774121189945:=()
def tw12933894677564889303:=()
def tw2954607024778523875:=()
def tw7093704943126808025:=()
def tw1083154057522274699:=()
def tw13128809073845603558:=()
def tw6612728440088602589:=()
def tw15583012838400771127:=()
def tw1796334806262482152:=()
def tw6812999442982533707:=()
def tw2964415072943451188:=()
def tw5676064338953946443:=()
def tw17948281660256765104:=()
def tw5255622126002344316:=()
def tw2618384394162543787:=()
def tw13108128881748994018:=()
def tw9330513977019874763:=()
def tw12549821673445246991:=()
def tw17464567964261954033:=()
def tw1082450607227966134:=()
def tw691911468419859637:=()
def tw5638942982993021272:=()
def tw15618655478103483784:=()
def tw4155409739595672242:=()
def tw15228782926861104718:=()
def tw1347681485725055075:=()
def tw456763157073912974:=()
def tw1980358739988346831:=()
def tw11969922561227391330:=()
def tw3063927242928950654:=()
def tw14718943741361187079:=()
def tw15423536257638734164:=()
def tw13436539125627564897:=()
def tw13110973424494210325:=()
def tw9264153863950360563:=()
def tw17185258232794909482:=()
def tw9174425671563591584:=()
def tw9037092777243584273:=()
def tw685341328768483924:=()
def tw18145494665467674510:=()
def tw1416411711786472458:=()
def tw4824800982369756735:=()
def tw3153712080881237568:=()
def tw11862898310768719934:=()
end PySem.W.Fast
open PySem PySem.W PyProof.Rows
set_option maxRecDepth 100000 in
set_option maxHeartbeats 0 in
theorem PySem.Challenge.cw_gatetown_k45_programs_looked_over_holds : PySem.Challenge.rw_gatetown_k45_programs_looked_over.Holds := by
  w_on; o_law; k_head; (case hw => w_witness2)
  k_fill
  refine K45.walk (l := PySem.Challenge.rw_gatetown_k45_programs_looked_over) rfl rfl (fun w h Y => PySem.W.kIn_of Y) ?F
  case F =>
    intro w mg fa h KX G hmg
    refine' K45.all_mk (tk := 0) KX G hmg ?a0 ?l0 ?c0 ?k0 ?a1 ?l1 ?c1 ?k1 ?a2 ?l2 ?c2 ?k2 ?a3 ?l3 ?c3 ?k3 ?a4 ?l4 ?c4 ?k4 ?a5 ?l5 ?c5 ?k5 ?a6 ?l6 ?c6 ?k6 ?a7 ?l7 ?c7 ?k7 ?a8 ?l8 ?c8 ?k8 ?a9 ?l9 ?c9 ?k9 ?a10 ?l10 ?c10 ?k10 ?a11 ?l11 ?c11 ?k11 ?a12 ?l12 ?c12 ?k12 ?a13 ?l13 ?c13 ?k13 ?a14 ?l14 ?c14 ?k14 ?a15 ?l15 ?c15 ?k15 ?a16 ?l16 ?c16 ?k16 ?a17 ?l17 ?c17 ?k17 ?a18 ?l18 ?c18 ?k18 ?a19 ?l19 ?c19 ?k19 ?a20 ?l20 ?c20 ?k20 ?a21 ?l21 ?c21 ?k21 ?a22 ?l22 ?c22 ?k22 ?a23 ?l23 ?c23 ?k23 ?a24 ?l24 ?c24 ?k24 ?a25 ?l25 ?c25 ?k25 ?a26 ?l26 ?c26 ?k26 ?a27 ?l27 ?c27 ?k27 ?a28 ?l28 ?c28 ?k28 ?ae_TownError ?ae_BadKind ?ae_BadLine ?ae_BadRow ?ae_GivenTwice ?ae_Lacking ?ae_NoFile ?ae_NoRoom ?ae_TooLong ?a_BadKind___init__ ?i_BadKind___init__ ?l_BadKind___init__ ?c_BadKind___init__ ?k_BadKind___init__ ?x1 ?x2 ?x3 ?x4 ?x5 ?x6 ?x7 ?x8 ?x9 ?x10 ?x11 ?x12 ?x13 ?x14 ?x15 ?x16 ?x17 ?z_len ?z_range ?z_list ?z_isinstance ?z_int ?z_tuple ?z_bool ?z_enumerate ?z_ValueError
    (case a0 => k_is)
    (case l0 => k_is)
    (case c0 => k_is)
    (case k0 => k_is)
    (case a1 => k_is)
    (case l1 => k_is)
    (case c1 => k_is)
    (case k1 => k_is)
    (case a2 => k_is)
    (case l2 => k_is)
    (case c2 => k_is)
    (case k2 => k_is)
    (case a3 => k_is)
    (case l3 => k_is)
    (case c3 => k_is)
    (case k3 => k_is)
    (case a4 => k_is)
    (case l4 => k_is)
    (case c4 => k_is)
    (case k4 => k_is)
    (case a5 => k_is)
    (case l5 => k_is)
    (case c5 => k_is)
    (case k5 => k_is)
    (case a6 => k_is)
    (case l6 => k_is)
    (case c6 => k_is)
    (case k6 => k_is)
    (case a7 => k_is)
    (case l7 => k_is)
    (case c7 => k_is)
    (case k7 => k_is)
    (case a8 => k_is)
    (case l8 => k_is)
    (case c8 => k_is)
    (case k8 => k_is)
    (case a9 => k_is)
    (case l9 => k_is)
    (case c9 => k_is)
    (case k9 => k_is)
    (case a10 => k_is)
    (case l10 => k_is)
    (case c10 => k_is)
    (case k10 => k_is)
    (case a11 => k_is)
    (case l11 => k_is)
    (case c11 => k_is)
    (case k11 => k_is)
    (case a12 => k_is)
    (case l12 => k_is)
    (case c12 => k_is)
    (case k12 => k_is)
    (case a13 => k_is)
    (case l13 => k_is)
    (case c13 => k_is)
    (case k13 => k_is)
    (case a14 => k_is)
    (case l14 => k_is)
    (case c14 => k_is)
    (case k14 => k_is)
    (case a15 => k_is)
    (case l15 => k_is)
    (case c15 => k_is)
    (case k15 => k_is)
    (case a16 => k_is)
    (case l16 => k_is)
    (case c16 => k_is)
    (case k16 => k_is)
    (case a17 => k_is)
    (case l17 => k_is)
    (case c17 => k_is)
    (case k17 => k_is)
    (case a18 => k_is)
    (case l18 => k_is)
    (case c18 => k_is)
    (case k18 => k_is)
    (case a19 => k_is)
    (case l19 => k_is)
    (case c19 => k_is)
    (case k19 => k_is)
    (case a20 => k_is)
    (case l20 => k_is)
    (case c20 => k_is)
    (case k20 => k_is)
    (case a21 => k_is)
    (case l21 => k_is)
    (case c21 => k_is)
    (case k21 => k_is)
    (case a22 => k_is)
    (case l22 => k_is)
    (case c22 => k_is)
    (case k22 => k_is)
    (case a23 => k_is)
    (case l23 => k_is)
    (case c23 => k_is)
    (case k23 => k_is)
    (case a24 => k_is)
    (case l24 => k_is)
    (case c24 => k_is)
    (case k24 => k_is)
    (case a25 => k_is)
    (case l25 => k_is)
    (case c25 => k_is)
    (case k25 => k_is)
    (case a26 => k_is)
    (case l26 => k_is)
    (case c26 => k_is)
    (case k26 => k_is)
    (case a27 => k_is)
    (case l27 => k_is)
    (case c27 => k_is)
    (case k27 => k_is)
    (case a28 => k_is)
    (case l28 => k_is)
    (case c28 => k_is)
    (case k28 => k_is)
    (case ae_TownError => k_is)
    (case ae_BadKind => k_is)
    (case ae_BadLine => k_is)
    (case ae_BadRow => k_is)
    (case ae_GivenTwice => k_is)
    (case ae_Lacking => k_is)
    (case ae_NoFile => k_is)
    (case ae_NoRoom => k_is)
    (case ae_TooLong => k_is)
    (case a_BadKind___init__ => k_is)
    (case i_BadKind___init__ => k_is)
    (case l_BadKind___init__ => k_is)
    (case c_BadKind___init__ => k_is)
    (case k_BadKind___init__ => k_is)
    (case x1 => first | k_is | kernel_rfl | rfl)
    (case x2 => first | k_is | kernel_rfl | rfl)
    (case x3 => first | k_is | kernel_rfl | rfl)
    (case x4 => first | k_is | kernel_rfl | rfl)
    (case x5 => first | k_is | kernel_rfl | rfl)
    (case x6 => first | k_is | kernel_rfl | rfl)
    (case x7 => first | k_is | kernel_rfl | rfl)
    (case x8 => first | k_is | kernel_rfl | rfl)
    (case x9 => first | k_is | kernel_rfl | rfl)
    (case x10 => first | k_is | kernel_rfl | rfl)
    (case x11 => first | k_is | kernel_rfl | rfl)
    (case x12 => first | k_is | kernel_rfl | rfl)
    (case x13 => first | k_is | kernel_rfl | rfl)
    (case x14 => first | k_is | kernel_rfl | rfl)
    (case x15 => first | k_is | kernel_rfl | rfl)
    (case x16 => first | k_is | kernel_rfl | rfl)
    (case x17 => first | k_is | kernel_rfl | rfl)
    (case z_len => k_is)
    (case z_range => k_is)
    (case z_list => k_is)
    (case z_isinstance => k_is)
    (case z_int => k_is)
    (case z_tuple => k_is)
    (case z_bool => k_is)
    (case z_enumerate => k_is)
    (case z_ValueError => k_is)
