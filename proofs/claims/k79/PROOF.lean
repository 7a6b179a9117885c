import PyProof.Rows.All
import Wide.All
import OpenK.AllK
import Wide.FinOn
import Lean
import PyProof.EqAt
import PyProof.EqKinds
import PyProof.TupleCall
import PyProof.NeData
import PyProof.StrWalks
import PyProof.MeetsStr
import PyProof.Draws
import PyProof.EnumMake
import PyProof.Rows.Range3
import PyProof.AttrMissHeap
import PyProof.CollectWalk
import PyProof.TupleIter
import KE.KDictOf
import KE.KEqDict
import OpenK.KOwn
import KE.KTryOn
import PyProof.NsDelKeeps
import PyProof.ExcClass3
import PyProof.DictWalks
import PyProof.ListMulRoad
import PyProof.StrOps2
import PyProof.StrBlockG
import PyProof.ListStr
import PyProof.Rows.SortStr
import PyProof.ExcArgsOwn
import KE.KIsAll
import PyProof.ExcAttrAll.ValueError
import PyProof.Rows.SortShell
import KE.KSortTup
import PySem.Challenge.RW_gatetown_k79_floors_apart
set_option Elab.async false
set_option linter.all false
set_option maxRecDepth 100000
namespace L2
open PySem PySem.Spec PyProof.Rows

abbrev Key := Sum Int Str
def keyIs : Key → Value → Bool
  | .inl k, v => Value.isInt k v
  | .inr x, v => Value.isStrOf x v
def keyH (w : World) : Key → Int
  | .inl k => hashInt k
  | .inr x => hashStr w x
theorem keyIs_shape : ∀ {k : Key} {v : Value}, keyIs k v = true → (∃ i t, k = Sum.inl i ∧ v = Value.int i t) ∨ (∃ x t, k = Sum.inr x ∧ v = Value.str x t)
  | .inl i, v, h => by
    obtain ⟨t, e⟩ := Value.isInt_shape (k := i) (v := v) h
    exact .inl ⟨i, t, rfl, e⟩
  | .inr x, v, h => by
    obtain ⟨t, e⟩ := Value.isStrOf_shape (x := x) (v := v) h
    exact .inr ⟨x, t, rfl, e⟩
theorem keyIs_int (i : Int) (t : Tok) : keyIs (.inl i) (.int i t) = true := by simp [keyIs, Value.isInt]
theorem keyIs_str (x : Str) (t : Tok) : keyIs (.inr x) (.str x t) = true := by simp [keyIs, Value.isStrOf]
theorem key_ll (a b : Int) : decide ((Sum.inl a : Key) = Sum.inl b) = (a == b) := by
  by_cases e : a = b
  · subst e; simp
  · have h : ¬ (Sum.inl a : Key) = Sum.inl b := fun q => e (Sum.inl.inj q)
    rw [decide_eq_false h]
    exact (beq_eq_false_iff_ne.mpr e).symm
theorem key_rr (a b : Str) : decide ((Sum.inr a : Key) = Sum.inr b) = decide (a = b) := by
  by_cases e : a = b
  · subst e; simp
  · have h : ¬ (Sum.inr a : Key) = Sum.inr b := fun q => e (Sum.inr.inj q)
    rw [decide_eq_false h, decide_eq_false e]
theorem key_lr (a : Int) (b : Str) : decide ((Sum.inl a : Key) = Sum.inr b) = false := decide_eq_false (fun q => nomatch q)
theorem key_rl (a : Str) (b : Int) : decide ((Sum.inr a : Key) = Sum.inl b) = false := decide_eq_false (fun q => nomatch q)

def mixKind (prog : Program) (w : World) : PySem.KeyKind prog w Key where
  is := keyIs
  hash := keyH w
  inj := fun v a b ha hb => by
    rcases keyIs_shape ha with ⟨i, t, rfl, rfl⟩ | ⟨x, t, rfl, rfl⟩
    · rcases keyIs_shape hb with ⟨j, u, rfl, e⟩ | ⟨y, u, rfl, e⟩
      · injection e with e1 _; rw [e1]
      · exact nomatch e
    · rcases keyIs_shape hb with ⟨j, u, rfl, e⟩ | ⟨y, u, rfl, e⟩
      · exact nomatch e
      · injection e with e1 _; rw [e1]
  byValue := fun k v h => by
    rcases keyIs_shape h with ⟨i, t, rfl, rfl⟩ | ⟨x, t, rfl, rfl⟩ <;> rfl
  pyHash := fun hv h => by
    rcases keyIs_shape hv with ⟨i, t, rfl, rfl⟩ | ⟨x, t, rfl, rfl⟩
    · exact wpAny_pyHash_int h
    · exact wpAny_pyHash_str h
  eqBool := fun hu hv h => by
    rcases keyIs_shape hu with ⟨i, t, rfl, rfl⟩ | ⟨x, t, rfl, rfl⟩
    · rcases keyIs_shape hv with ⟨j, u, rfl, rfl⟩ | ⟨y, u, rfl, rfl⟩
      · rw [key_ll] at h; exact wpAny_eqBool_int h
      · rw [key_lr] at h; exact SeqAt.EqAt.int_str i t y u _ _ _ _ h
    · rcases keyIs_shape hv with ⟨j, u, rfl, rfl⟩ | ⟨y, u, rfl, rfl⟩
      · rw [key_rl] at h; exact SeqAt.EqAt.str_int x t j u _ _ _ _ h
      · rw [key_rr] at h; exact wpAny_eqBool_str h
  «strs» := fun k x t v h => by
    rcases keyIs_shape h with ⟨i, u, rfl, e⟩ | ⟨y, u, rfl, e⟩
    · exact nomatch e
    · injection e with e1 _
      subst e1
      cases v <;> rfl

theorem mixKind_is (prog : Program) (w : World) (k : Key) (v : Value) : (mixKind prog w).is k v = keyIs k v := rfl
theorem mixKind_int (prog : Program) (w : World) (i : Int) (t : Tok) : (mixKind prog w).is (.inl i) (.int i t) = true := keyIs_int i t
theorem mixKind_str (prog : Program) (w : World) (x : Str) (t : Tok) : (mixKind prog w).is (.inr x) (.str x t) = true := keyIs_str x t
end L2

namespace L2
open PySem PySem.Spec PyProof.Rows

inductive V where
  | non | bl (b : Bool) | int (i : Int) | str (x : Str) | byt (b : Array UInt8) | flt (b : UInt64) | ref (a : Addr) | ty (n : String)
  deriving DecidableEq

def RelV : V → Value → Prop
  | .non, u => u = Value.none
  | .bl b, u => u = Value.bool b
  | .int i, u => ∃ t, u = Value.int i t
  | .str x, u => ∃ t, u = Value.str x t
  | .byt b, u => ∃ t, u = Value.bytes b t
  | .flt b, u => ∃ t, u = Value.float b t
  | .ref a, u => u = Value.ref a
  | .ty n, u => u = Value.type n

abbrev Vals : List V → List Value → Prop := Paired RelV
theorem Vals.length {xs : List V} {us : List Value} (r : Vals xs us) : xs.length = us.length := Paired.length r
theorem Vals.get : ∀ {xs : List V} {us : List Value} {i : Nat} {x : V}, Vals xs us → xs[i]? = some x → ∃ u, us[i]? = some u ∧ RelV x u
  | _, _, _, _, .nil, e => by simp at e
  | _, _, 0, _, .cons r _, e => by simp at e; subst e; exact ⟨_, rfl, r⟩
  | _, _, i + 1, x, .cons _ t, e => by
    obtain ⟨u, h1, h2⟩ := Vals.get (i := i) (x := x) t (by simpa using e)
    exact ⟨u, by simpa using h1, h2⟩
theorem Vals.set {x : V} {u : Value} (r : RelV x u) : ∀ {xs : List V} {us : List Value} (i : Nat), Vals xs us → Vals (xs.set i x) (us.set i u)
  | _, _, _, .nil => .nil
  | _, _, 0, .cons _ t => .cons r t
  | _, _, i + 1, .cons q t => .cons q (Vals.set r i t)
theorem Vals.append : ∀ {xs ys : List V} {us ws : List Value}, Vals xs us → Vals ys ws → Vals (xs ++ ys) (us ++ ws)
  | _, _, _, _, .nil, s => s
  | _, _, _, _, .cons r t, s => .cons r (Vals.append t s)
theorem Vals.take : ∀ {xs : List V} {us : List Value} (n : Nat), Vals xs us → Vals (xs.take n) (us.take n)
  | _, _, 0, _ => .nil
  | _, _, _ + 1, .nil => .nil
  | _, _, n + 1, .cons r t => .cons r (Vals.take n t)
theorem Vals.drop : ∀ {xs : List V} {us : List Value} (n : Nat), Vals xs us → Vals (xs.drop n) (us.drop n)
  | _, _, 0, r => r
  | _, _, _ + 1, .nil => .nil
  | _, _, n + 1, .cons _ t => Vals.drop n t

def RelO : Option V → Option Value → Prop
  | some v, some u => RelV v u
  | none, none => True
  | _, _ => False
def KV {κ : Type} : List (κ × V) → List (κ × Value) → Prop := Paired fun (p : κ × V) (q : κ × Value) => p.1 = q.1 ∧ RelV p.2 q.2

def kV : Key → V
  | .inl i => .int i
  | .inr x => .str x

inductive HO where
    | lst (xs : List V)
    | tup (xs : List V)
    | dK (kvs : List (Key × V)) | dT (kvs : List (List Key × V))
    | set (S : Int → Bool) (n : Nat)
    | ins (C dx : Addr) (fs : List (Str × V))
    | own (x : Addr)
    | xd (fs : List (Str × V))
    | met (f x : Addr)
    | rng (lo hi : Int)
    | frz (o : Obj) (u : HO)
    | tbl (ps : Array Value)
    | ext (φ : Heap → Prop)

abbrev Hp := Addr → Option HO
def upd (H : Hp) (a : Addr) (o : HO) : Hp := fun b => if b = a then some o else H b
theorem upd_same {H : Hp} {a : Addr} {o : HO} : upd H a o a = some o := by unfold upd; rw [if_pos rfl]
theorem upd_ne {H : Hp} {a b : Addr} {o : HO} (h : b ≠ a) : upd H a o b = H b := by unfold upd; rw [if_neg h]
theorem ne_of {H : Hp} {a b : Addr} {o u : HO} (h : H a = some o) (h' : H b = some u) (d : o ≠ u) : a ≠ b := by
  intro e; subst e; rw [h] at h'; exact d (Option.some.inj h')
theorem ne_of_none {H : Hp} {a b : Addr} {o : HO} (h : H a = some o) (h' : H b = none) : a ≠ b := by
  intro e; subst e; rw [h] at h'; cases h'

section
variable (P : Program) (w : World)
def ObjOk (H : Hp) (h : Heap) (a : Addr) : HO → Prop
  | .lst xs => xs.length ≤ sizeLine ∧ ∃ (its : List Value) (n : Nat), Vals xs its ∧ h.get? a = some { cls := .type "list", data := .seq its.toArray n }
  | .tup xs => xs.length ≤ sizeLine ∧ ∃ its : List Value, Vals xs its ∧ IsTup h a its.toArray
  | .dK kvs => kvs.length ≤ sizeLine ∧ (a == sysModules) = false ∧ ∃ vs, KV kvs vs ∧ h.DictOf (mixKind P w) a vs
  | .dT kvs => kvs.length ≤ sizeLine ∧ (a == sysModules) = false ∧ ∃ xs : List (List Key × Addr × Value),
      Paired (fun (p : List Key × V) (q : List Key × Addr × Value) => p.1 = q.1 ∧ H q.2.1 = some (.tup (p.1.map kV)) ∧ RelV p.2 q.2.2) kvs xs ∧
      ∃ o es ep, h.get? a = some o ∧ o.ExactDict ∧ o.data = .dict es ep ∧ es.toList = xs.map (entryOfKey (tupleKind (mixKind P w))) ∧ (xs.map (·.1)).Nodup
  | .set S n => h.SetOf (intKind P w) a S n
  | .ins C dx fs => H dx = some (.own a) ∧ fs.length ≤ 1000 ∧ dx ≠ a ∧ h.get? a = some (PySem.W.instObj C dx) ∧
      ∃ mA, h.Ns1 dx mA ∧ (∀ f, RelO (fs.lookup f) (mA f)) ∧ PySem.Within mA (fs.map (·.1))
  | .own _ => ∃ o, h.get? a = some o
  | .xd fs => ∃ mA, h.Ns1 a mA ∧ ∀ f, RelO (fs.lookup f) (mA f)
  | .rng lo hi => ∃ t u v, h.get? a = some { cls := .type "range", data := .fields #[.int lo t, .int hi u, .int 1 v] }
  | .frz o u => h.get? a = some o ∧ ObjOk H h a u
  | .tbl ps => h.get? a = some { cls := .none, data := .fields ps }
  | .met f x => h.get? a = some (PySem.W.methodObj (.ref f) (.ref x))
  | .ext φ => φ h ∧ (∃ o, h.get? a = some o) ∧ ∀ h1 h2 : Heap, φ h1 → (∀ o, h1.get? a = some o → h2.get? a = some o) → φ h2
def HOk (H : Hp) (h : Heap) : Prop := ∀ a o, H a = some o → ObjOk P w H h a o
end

section
variable {P : Program} {w : World} {H H' : Hp} {h h' : Heap} {a : Addr} {o : HO}
theorem ObjOk.lt (x : ObjOk P w H h a o) : a < h.objs.size := by
  cases o with
  | lst xs => obtain ⟨_, _, _, _, e⟩ := x; exact Heap.lt_size e
  | tup xs => obtain ⟨_, _, _, p⟩ := x; exact p.lt
  | dK kvs => obtain ⟨_, _, _, _, o, _, _, e, _⟩ := x; exact Heap.lt_size e
  | dT kvs => obtain ⟨_, _, _, _, o, _, _, e, _⟩ := x; exact Heap.lt_size e
  | set S n => obtain ⟨o, _, _, _, e, _⟩ := x; exact Heap.lt_size e
  | ins C dx fs => obtain ⟨_, _, _, e, _⟩ := x; exact Heap.lt_size e
  | own y => obtain ⟨_, e⟩ := x; exact Heap.lt_size e
  | xd fs => obtain ⟨_, ⟨_, _, _, e, _⟩, _⟩ := x; exact Heap.lt_size e
  | rng lo hi => obtain ⟨_, _, _, e⟩ := x; exact Heap.lt_size e
  | frz ob u => obtain ⟨e, _⟩ := x; exact Heap.lt_size e
  | tbl ps => exact Heap.lt_size (show h.get? a = some _ from x)
  | met f y => exact Heap.lt_size (show h.get? a = some _ from x)
  | ext φ => obtain ⟨_, ⟨_, e⟩, _⟩ := x; exact Heap.lt_size e
theorem Paired.mapP {α β : Type} {F G : α → β → Prop} : ∀ {l₁ : List α} {l₂ : List β}, Paired F l₁ l₂ → (∀ a b, F a b → G a b) → Paired G l₁ l₂
  | _, _, .nil, _ => .nil
  | _, _, .cons r t, f => .cons (f _ _ r) (Paired.mapP t f)
theorem ObjOk.stay (x : ObjOk P w H h a o) (k : ∀ b u, (b = a ∨ H b = some (.own a)) → h.get? b = some u → h'.get? b = some u)
    (ho : ∀ b, H b = some (.own a) → H' b = some (.own a)) (ht : ∀ b xs, H b = some (.tup xs) → H' b = some (.tup xs)) : ObjOk P w H' h' a o := by
  induction o with
  | lst xs => obtain ⟨z, its, n, r, e⟩ := x; exact ⟨z, its, n, r, k _ _ (.inl rfl) e⟩
  | tup xs => obtain ⟨z, its, r, ob, e, c⟩ := x; exact ⟨z, its, r, ob, k _ _ (.inl rfl) e, c⟩
  | dK kvs => obtain ⟨z, y, vs, r, ob, es, ep, e, c⟩ := x; exact ⟨z, y, vs, r, ob, es, ep, k _ _ (.inl rfl) e, c⟩
  | dT kvs =>
    obtain ⟨z, y, xs, r, ob, es, ep, e, c⟩ := x
    exact ⟨z, y, xs, Paired.mapP r fun p q z => ⟨z.1, ht _ _ z.2.1, z.2.2⟩, ob, es, ep, k _ _ (.inl rfl) e, c⟩
  | set S n => obtain ⟨ob, es, ep, t, e, c⟩ := x; exact ⟨ob, es, ep, t, k _ _ (.inl rfl) e, c⟩
  | ins C dx fs =>
    obtain ⟨d, z, ne, e, mA, ⟨od, es, ep, e2, c⟩, r⟩ := x
    exact ⟨ho _ d, z, ne, k _ _ (.inl rfl) e, mA, ⟨od, es, ep, k _ _ (.inr d) e2, c⟩, r⟩
  | own y => obtain ⟨ob, e⟩ := x; exact ⟨ob, k _ _ (.inl rfl) e⟩
  | xd fs => obtain ⟨mA, ⟨od, es, ep, e, c⟩, r⟩ := x; exact ⟨mA, ⟨od, es, ep, k _ _ (.inl rfl) e, c⟩, r⟩
  | rng lo hi => obtain ⟨t, u, v, e⟩ := x; exact ⟨t, u, v, k _ _ (.inl rfl) e⟩
  | frz ob u ih => obtain ⟨e, q⟩ := x; exact ⟨k _ _ (.inl rfl) e, ih q⟩
  | tbl ps =>
    have e : h.get? a = some { cls := .none, data := .fields ps } := x
    show h'.get? a = some { cls := .none, data := .fields ps }
    exact k a _ (.inl rfl) e
  | met f y =>
    have e : h.get? a = some (PySem.W.methodObj (.ref f) (.ref y)) := x
    show h'.get? a = some (PySem.W.methodObj (.ref f) (.ref y))
    exact k a _ (.inl rfl) e
  | ext φ => obtain ⟨p, ⟨o, e⟩, st⟩ := x; exact ⟨st _ _ p fun o q => k _ _ (.inl rfl) q, ⟨o, k _ _ (.inl rfl) e⟩, st⟩
theorem HOk.lt (x : HOk P w H h) (e : H a = some o) : a < h.objs.size := (x a o e).lt
theorem HOk.fresh (x : HOk P w H h) (e : h.objs.size ≤ a) : H a = none := by
  cases q : H a with
  | none => rfl
  | some u => exact absurd (Nat.lt_of_lt_of_le (x.lt q) e) (Nat.lt_irrefl _)
theorem HOk.kept (x : HOk P w H h) (k : ∀ b u, h.get? b = some u → h'.get? b = some u) : HOk P w H h' := fun a o e =>
  (x a o e).stay (fun b u _ q => k b u q) (fun _ q => q) fun _ _ q => q
theorem HOk.laid (x : HOk P w H h) (k : ∀ b u, h.get? b = some u → h'.get? b = some u) (hp : h.objs.size ≤ a) (new : ObjOk P w (upd H a o) h' a o) : HOk P w (upd H a o) h' := fun b u e => by
  have hn := x.fresh hp
  by_cases hb : b = a
  · subst hb; rw [upd_same] at e; cases e; exact new
  · rw [upd_ne hb] at e
    exact (x b u e).stay (fun c v _ q => k c v q) (fun c q => by rw [upd_ne (ne_of_none q hn)]; exact q) fun c xs q => by rw [upd_ne (ne_of_none q hn)]; exact q
end

def Rd (H : Hp) (a : Addr) (u : HO) : Prop := H a = some u ∨ ∃ o, H a = some (.frz o u)
theorem Rd.ok {P : Program} {w : World} {H : Hp} {h : Heap} {a : Addr} {u : HO} (r : Rd H a u) (x : HOk P w H h) : ObjOk P w H h a u := by
  rcases r with r | ⟨o, r⟩
  · exact x a u r
  · obtain ⟨_, q⟩ := x a _ r
    exact q
def Mut : Option HO → Prop
  | some (.lst _) => True
  | some (.dK _) => True
  | some (.dT _) => True
  | some (.set _ _) => True
  | some (.ins _ _ _) => True
  | some (.ext _) => True
  | _ => False
section
variable {P : Program} {w : World} {H : Hp} {h h' : Heap} {x e : Addr} {o' : HO}
theorem HOk.write (ok : HOk P w H h) (mu : Mut (H x)) (he : e = x ∨ H e = some (.own x)) (k : ∀ b u, b ≠ e → h.get? b = some u → h'.get? b = some u) (heo : ∃ u, h'.get? e = some u)
    (new : ObjOk P w (upd H x o') h' x o') : HOk P w (upd H x o') h' := fun b u q => by
  have nown : ∀ c y, H c = some (.own y) → c ≠ x := fun c y r z => by subst z; rw [r] at mu; exact mu
  have ntup : ∀ c xs, H c = some (.tup xs) → c ≠ x := fun c xs r z => by subst z; rw [r] at mu; exact mu
  by_cases hb : b = x
  · subst hb; rw [upd_same] at q; cases q; exact new
  · rw [upd_ne hb] at q
    by_cases hbe : b = e
    · have q' : H b = some (.own x) := by
        rcases he with z | z
        · exact absurd (hbe.trans z) hb
        · rw [hbe]; exact z
      rw [q] at q'; cases q'
      obtain ⟨v, hv⟩ := heo
      exact ⟨v, by rw [hbe]; exact hv⟩
    · refine (ok b u q).stay (fun c v hc r => k c v ?_ r) (fun c r => by rw [upd_ne (nown c b r)]; exact r) fun c xs r => by rw [upd_ne (ntup c xs r)]; exact r
      rcases hc with rfl | hc
      · exact hbe
      · rintro rfl
        rcases he with z | z
        · exact nown c b hc z
        · rw [hc] at z; cases z; exact hb rfl
end

structure Un (fs ex : List Addr) (H H' : Hp) (h h' : Heap) : Prop where
  keep : ∀ b o, h.get? b = some o → H b = none → b ∉ fs → b ∉ ex → h'.get? b = some o
  slot : ∀ b o, h.get? b = some o → H b = none → b ∈ fs → b ∉ ex → ∃ sl, h'.get? b = some { o with slots := sl }
  free : ∀ b o, h.get? b = some o → H b = none → b ∉ ex → H' b = none
  there : ∀ b o, h.get? b = some o → b ∉ ex → ∃ o', h'.get? b = some o'
  tups : ∀ b xs, H b = some (.tup xs) → H' b = some (.tup xs)
  frzs : ∀ b o u, H b = some (.frz o u) → H' b = some (.frz o u)
  tbls : ∀ b ps, H b = some (.tbl ps) → ∃ more, H' b = some (.tbl (ps ++ more))
section
variable {fs fs' ex ex' : List Addr} {H H1 H2 : Hp} {h h1 h2 h' : Heap} {a x e : Addr} {o : HO}
theorem Un.any (u : Un fs ex H H1 h h1) {b : Addr} {ob : Obj} (q : h.get? b = some ob) (n : H b = none) (hx : b ∉ ex) : ∃ sl, h1.get? b = some { ob with slots := sl } := by
  by_cases hb : b ∈ fs
  · exact u.slot b ob q n hb hx
  · exact ⟨ob.slots, u.keep b ob q n hb hx⟩
theorem Un.kept (k : ∀ b u, h.get? b = some u → h'.get? b = some u) : Un fs ex H H h h' :=
  ⟨fun b ob q _ _ _ => k b ob q, fun b ob q _ _ _ => ⟨ob.slots, k b ob q⟩, fun _ _ _ n _ => n, fun b ob q _ => ⟨ob, k b ob q⟩, fun _ _ q => q, fun _ _ _ q => q, fun _ ps q => ⟨#[], by rw [q]; simp⟩⟩
theorem Un.refl : Un fs ex H H h h := Un.kept fun _ _ q => q
theorem Un.laid (k : ∀ b u, h.get? b = some u → h'.get? b = some u) (hp : h.objs.size ≤ a) (hn : H a = none) : Un fs ex H (upd H a o) h h' where
  keep := fun b u q _ _ _ => k b u q
  slot := fun b u q _ _ _ => ⟨u.slots, k b u q⟩
  free := fun b u q n _ => by rw [upd_ne (Nat.ne_of_lt (Nat.lt_of_lt_of_le (Heap.lt_size q) hp))]; exact n
  there := fun b u q _ => ⟨u, k b u q⟩
  tups := fun b xs q => by rw [upd_ne (ne_of_none q hn)]; exact q
  frzs := fun b u xs q => by rw [upd_ne (ne_of_none q hn)]; exact q
  tbls := fun b ps q => ⟨#[], by rw [upd_ne (ne_of_none q hn), q]; simp⟩
theorem Un.write (mu : Mut (H x)) (he : e = x ∨ H e = some (.own x)) (k : ∀ b u, b ≠ e → h.get? b = some u → h'.get? b = some u) (heo : ∃ u, h'.get? e = some u) : Un fs ex H (upd H x o) h h' := by
  have hx : ∀ b, H b = none → b ≠ x := fun b n z => by subst z; rw [n] at mu; exact mu
  have hb : ∀ b, H b = none → b ≠ e := fun b n z => by
    subst z
    rcases he with r | r
    · exact hx b n r
    · rw [n] at r; cases r
  have hm : ∀ b u, H b = some u → ¬ Mut (some u) → b ≠ x := fun b u q nm z => by subst z; rw [q] at mu; exact nm mu
  refine ⟨fun b u q n _ _ => k b u (hb b n) q, fun b u q n _ _ => ⟨u.slots, k b u (hb b n) q⟩, fun b u q n _ => by rw [upd_ne (hx b n)]; exact n, fun b u q _ => ?_,
    fun b xs q => by rw [upd_ne (hm b _ q fun z => z)]; exact q, fun b u xs q => by rw [upd_ne (hm b _ q fun z => z)]; exact q, fun b ps q => ⟨#[], by rw [upd_ne (hm b _ q fun z => z), q]; simp⟩⟩
  by_cases hbe : b = e
  · subst hbe; exact heo
  · exact ⟨u, k b u hbe q⟩
end

def trk (h : Heap) (H : Hp) : List Addr := (List.range h.objs.size).filter fun a => (H a).isSome
def hidT (h : Heap) (H : Hp) : Heap := PySem.W.hideAll h (trk h H)
theorem hidT_size (h : Heap) (H : Hp) : (hidT h H).objs.size = h.objs.size := PySem.W.hideAll_size _ _
theorem hidT_get {h : Heap} {H : Hp} {b : Addr} {o : Obj} (e : h.get? b = some o) (n : H b = none) : (hidT h H).get? b = some o :=
  PySem.W.hideAll_get _ e fun hm => by
    have q : (H b).isSome = true := (List.mem_filter.mp hm).2
    rw [n] at q; simp at q
theorem of_hidT {h : Heap} {H : Hp} {b : Addr} {o : Obj} (e : (hidT h H).get? b = some o) : h.get? b = some o ∧ H b = none := by
  have e' : h.get? b = some o := PySem.W.of_hideAll (trk h H) e
  refine ⟨e', ?_⟩
  cases q : H b with
  | none => rfl
  | some x =>
    have hm : b ∈ trk h H := List.mem_filter.mpr ⟨List.mem_range.mpr (Heap.lt_size e'), by simp [q]⟩
    have z : (hidT h H).get? b = none := PySem.W.hideAll_none (trk h H) hm
    rw [z] at e; cases e

end L2

namespace L2
open PySem PySem.Spec PyProof.Rows

structure Mod (K : PySem.W.Frag) (mg : Str → Option Value) (base : Heap) : Prop where
  kin : K.In base
  glob : base.Ns mainGlobals mg
  blt : ∃ mb, base.Ns builtinsNs mb ∧ ∀ x : Str, x ≠ "__name__" → mb x = bootBuiltins x
  nolimit : base.NoLimit

structure Cx where
  prog : Program
  w : World
  K : PySem.W.Frag
  mg : Str → Option Value
  base : Heap
  A : Around
  N : List Str
  s₀ : Shared
  H₀ : Hp
  env : Env
  outer : List Env
  stack : List Env
  ex : List Addr
  fn : Str → Bool
  calm : Bool
  pn : List (Addr × Obj)
  xe : Value → Shared → Prop
def frs (l : List Env) : List Addr := l.filterMap (·.frame)
abbrev Cx.fs (X : Cx) : List Addr := frs X.outer

def Vis (sc : Scope) (x : Str) : Prop := sc.names.lookup x = some .local ∨ sc.names.lookup x = some .cell ∨ sc.names.lookup x = some .free
def Loc (sc : Scope) (x : Str) : Prop := sc.names.lookup x = some .local ∨ sc.names.lookup x = some .cell
def Look (env : Env) (h : Heap) (m : Str → Option Value) (x : Str) (u : Value) : Prop :=
  (env.kindOf x = some .local ∧ m x = some u) ∨ ((env.kindOf x = some .cell ∨ env.kindOf x = some .free) ∧ ∃ c, env.cells.lookup x = some c ∧ h.IsCell c (some u))

structure Cx.Ok (X : Cx) : Prop where
  mod : Mod X.K X.mg X.base
  kind : X.env.scope.kind = .function
  glob : X.env.globals = mainGlobals
  blt : X.env.builtins = builtinsNs
  above : X.s₀.heap.objs.size ≤ X.env.locals
  inj : ∀ x y c, X.env.cells.lookup x = some c → X.env.cells.lookup y = some c → x = y
  has : ∀ x, (X.env.kindOf x = some .cell ∨ X.env.kindOf x = some .free) → ∃ c, X.env.cells.lookup x = some c
  cab : ∀ x c, X.fn x = true → X.env.cells.lookup x = some c → X.s₀.heap.objs.size ≤ c
  hd : X.calm = true → X.A.handled = none
  frames : X.A.frames = some X.stack
  stk : X.stack = X.outer ∨ (X.stack = X.env :: X.outer ∧ X.env.frame = some X.env.locals)
  exf : ∀ b ∈ X.ex, b ≠ X.env.locals ∧ ∀ x c, X.env.cells.lookup x = some c → c ≠ b
  bs : ∀ b o, X.base.get? b = some o → X.s₀.heap.get? b = some o ∧ X.H₀ b = none
  bsz : X.base.objs.size ≤ X.s₀.heap.objs.size
  noex : ∀ b o, X.base.get? b = some o → b ∉ X.ex
  exfs : ∀ b ∈ X.ex, b ∉ X.fs
  funs : X.s₀.heap.FunFrames X.base X.outer
  frf : ∀ b ∈ X.fs, X.H₀ b = none

structure Inv (X : Cx) (pins : List (Addr × Obj)) (σ : List (Option V)) (H : Hp) (s : Shared) : Prop where
  ok : X.Ok
  os : s.os = X.s₀.os
  bare : AllBare s.gens
  base : Un X.fs X.ex X.H₀ H X.s₀.heap s.heap
  loc : ∃ m, s.heap.Ns X.env.locals m ∧ ∀ (i : Nat) (x : Str) (v : V), X.N[i]? = some x → σ[i]? = some (some v) → Vis X.env.scope x → ∃ u, RelV v u ∧ Look X.env s.heap m x u
  cell : ∀ x c, X.env.cells.lookup x = some c → ∃ v, s.heap.IsCell c v
  free : H X.env.locals = none
  freeC : ∀ x c, X.env.cells.lookup x = some c → H c = none
  pin : ∀ p ∈ X.pn ++ pins, s.heap.get? p.1 = some p.2 ∧ H p.1 = none ∧ p.1 ≠ X.env.locals ∧ p.1 ∉ X.fs ∧ ∀ v, p.2.data ≠ .cell v
  hok : HOk X.prog X.w H s.heap
  len : σ.length = X.N.length

section
variable {X : Cx} {pins : List (Addr × Obj)} {σ : List (Option V)} {H H' : Hp} {s : Shared} {h' : Heap}

theorem Cx.Ok.nofr (ok : X.Ok) {b : Addr} {o : Obj} (e : X.base.get? b = some o) : b ∉ X.fs := fun hb => by
  have := (ok.funs.mem hb).1
  rw [e] at this; cases this
theorem Inv.bs (I : Inv X pins σ H s) : ∀ b o, X.base.get? b = some o → s.heap.get? b = some o ∧ H b = none := fun b o e =>
  ⟨I.base.keep b o (I.ok.bs b o e).1 (I.ok.bs b o e).2 (I.ok.nofr e) (I.ok.noex b o e), I.base.free b o (I.ok.bs b o e).1 (I.ok.bs b o e).2 (I.ok.noex b o e)⟩
theorem Inv.bk (I : Inv X pins σ H s) : ∀ b o, X.base.get? b = some o → s.heap.get? b = some o := fun b o e => (I.bs b o e).1
theorem Inv.mod (I : Inv X pins σ H s) : Mod X.K X.mg X.base := I.ok.mod
theorem Inv.kIn (I : Inv X pins σ H s) : X.K.In s.heap := I.ok.mod.kin.keeps I.bk
theorem Inv.lt (I : Inv X pins σ H s) : X.env.locals < s.heap.objs.size := let ⟨_, hn, _⟩ := I.loc; hn.lt
theorem Inv.sz (I : Inv X pins σ H s) : X.s₀.heap.objs.size ≤ s.heap.objs.size := Nat.le_trans I.ok.above (Nat.le_of_lt I.lt)
theorem Inv.nofs (I : Inv X pins σ H s) {a : Addr} (h : s.heap.objs.size ≤ a) : a ∉ X.fs := fun hb => by
  obtain ⟨_, o, ho, _⟩ := I.ok.funs.mem hb
  exact absurd (Nat.lt_of_lt_of_le (Heap.lt_size ho) (Nat.le_trans I.sz h)) (Nat.lt_irrefl _)
theorem Inv.cne (I : Inv X pins σ H s) : ∀ x c, X.env.cells.lookup x = some c → c ≠ X.env.locals := fun x c e z => by
  obtain ⟨v, o, ho, hd⟩ := I.cell x c e
  obtain ⟨m, ⟨o', es, ep, ho', hd', _⟩, _⟩ := I.loc
  rw [z, ho'] at ho; cases ho; rw [hd'] at hd; cases hd
theorem Inv.funs (I : Inv X pins σ H s) : s.heap.FunFrames X.base X.outer := by
  have all : ∀ (l : List Env), (∀ b ∈ frs l, b ∈ X.fs) → X.s₀.heap.FunFrames X.base l → s.heap.FunFrames X.base l := by
    intro l
    induction l with
    | nil => intro _ _; trivial
    | cons env r ih =>
      intro hs hl
      obtain ⟨hk, ⟨L, o, hf, hn, ho, hd⟩, hr⟩ := hl
      have hL : L ∈ X.fs := hs L (by unfold frs; rw [List.filterMap_cons, hf]; exact List.mem_cons_self)
      obtain ⟨sl, e⟩ := I.base.slot L o ho (I.ok.frf L hL) hL fun z => I.ok.exfs L z hL
      exact ⟨hk, ⟨L, _, hf, hn, e, hd⟩, ih (fun b hb => hs b (by unfold frs; rw [List.filterMap_cons, hf]; exact List.mem_cons_of_mem _ hb)) hr⟩
  exact all X.outer (fun _ hb => hb) I.ok.funs

theorem Inv.stack (I : Inv X pins σ H s) : s.heap.FunFrames X.base X.stack := by
  rcases I.ok.stk with e | ⟨e, hf⟩
  · rw [e]; exact I.funs
  · rw [e]
    obtain ⟨m, hn, _⟩ := I.loc
    refine .cons (by rw [I.ok.kind]; decide) hf hn ?_ I.funs
    exact Heap.get?_none_of_le (Nat.le_trans I.ok.bsz I.ok.above)
theorem Inv.stkSub (I : Inv X pins σ H s) : ∀ b ∈ frs X.stack, b ∈ X.env.locals :: X.fs := fun b hb => by
  rcases I.ok.stk with e | ⟨e, hf⟩
  · rw [e] at hb; exact List.mem_cons_of_mem _ hb
  · rw [e] at hb
    unfold frs at hb
    rw [List.filterMap_cons, hf] at hb
    exact hb
theorem Inv.stkFree (I : Inv X pins σ H s) : ∀ b ∈ frs X.stack, H b = none := fun b hb => by
  rcases List.mem_cons.mp (I.stkSub b hb) with e | hb
  · rw [e]; exact I.free
  · obtain ⟨_, o, ho, _⟩ := I.ok.funs.mem hb
    exact I.base.free b o ho (I.ok.frf b hb) fun z => I.ok.exfs b z hb

theorem Inv.step {g' : Array GenState} {t' : Nat} {d' : Drawn} {ch : List Addr} (I : Inv X pins σ H s)
    (hch : ∀ b ∈ ch, (b ∈ X.ex ∨ X.s₀.heap.objs.size ≤ b) ∧ b ≠ X.env.locals ∧ (∀ x c, X.env.cells.lookup x = some c → c ≠ b) ∧ ∀ p ∈ X.pn ++ pins, p.1 ≠ b)
    (keep : ∀ b o, b ≠ X.env.locals → b ∉ X.fs → b ∉ ch → s.heap.get? b = some o → H b = none → h'.get? b = some o)
    (slot : ∀ b o, b ≠ X.env.locals → b ∈ X.fs → b ∉ ch → s.heap.get? b = some o → H b = none → ∃ sl, h'.get? b = some { o with slots := sl }) (free : ∀ b o, b ∉ ch → s.heap.get? b = some o → H b = none → H' b = none)
    (there : ∀ b o, b ∉ ch → s.heap.get? b = some o → ∃ o', h'.get? b = some o')
    (tups : ∀ b xs, H b = some (.tup xs) → H' b = some (.tup xs)) (frzs : ∀ b o u, H b = some (.frz o u) → H' b = some (.frz o u)) (tbls : ∀ b ps, H b = some (.tbl ps) → ∃ more, H' b = some (.tbl (ps ++ more)))
    (ns : ∀ m, s.heap.Ns X.env.locals m → h'.Ns X.env.locals m) (hok : HOk X.prog X.w H' h') (hg : AllBare g') :
    Inv X pins σ H' { s with heap := h', gens := g', drawn := d', toks := t' } := by
  have neL : ∀ b o, X.s₀.heap.get? b = some o → b ≠ X.env.locals := fun b o e => Nat.ne_of_lt (Nat.lt_of_lt_of_le (Heap.lt_size e) I.ok.above)
  have neC : ∀ b o, X.s₀.heap.get? b = some o → b ∉ X.ex → b ∉ ch := fun b o e hx hb => by
    rcases (hch b hb).1 with z | z
    · exact hx z
    · exact absurd (Nat.lt_of_lt_of_le (Heap.lt_size e) z) (Nat.lt_irrefl _)
  have cellK : ∀ x c, X.env.cells.lookup x = some c → ∀ v, s.heap.IsCell c v → h'.IsCell c v := fun x c e v ⟨o, ho, hd⟩ => by
    have nch : c ∉ ch := fun z => (hch c z).2.2.1 x c e rfl
    by_cases hc : c ∈ X.fs
    · obtain ⟨sl, q⟩ := slot c o (I.cne x c e) hc nch ho (I.freeC x c e)
      exact ⟨_, q, hd⟩
    · exact ⟨o, keep c o (I.cne x c e) hc nch ho (I.freeC x c e), hd⟩
  refine ⟨I.ok, I.os, hg, ⟨fun b o e n hb hx => ?_, fun b o e n hb hx => ?_, fun b o e n hx => ?_, fun b o e hx => ?_, fun b xs e => tups b xs (I.base.tups b xs e), fun b o xs e => frzs b o xs (I.base.frzs b o xs e), fun b ps e => ?_⟩, ?_, fun x c e => ?_, ?_, fun x c e => ?_, fun p hp => ?_, hok, I.len⟩
  · exact keep b o (neL b o e) hb (neC b o e hx) (I.base.keep b o e n hb hx) (I.base.free b o e n hx)
  · obtain ⟨sl, e1⟩ := I.base.slot b o e n hb hx
    obtain ⟨sl', e2⟩ := slot b _ (neL b o e) hb (neC b o e hx) e1 (I.base.free b o e n hx)
    exact ⟨sl', e2⟩
  · obtain ⟨o', e1⟩ := I.base.there b o e hx
    exact free b o' (neC b o e hx) e1 (I.base.free b o e n hx)
  · obtain ⟨o', e1⟩ := I.base.there b o e hx
    exact there b o' (neC b o e hx) e1
  · obtain ⟨m1, e1⟩ := I.base.tbls b ps e
    obtain ⟨m2, e2⟩ := tbls b _ e1
    exact ⟨m1 ++ m2, by rw [e2, Array.append_assoc]⟩
  · obtain ⟨m, hn, hl⟩ := I.loc
    refine ⟨m, ns m hn, fun i x v e1 e2 e3 => ?_⟩
    obtain ⟨u, r, l⟩ := hl i x v e1 e2 e3
    refine ⟨u, r, ?_⟩
    rcases l with l | ⟨k, c, e, z⟩
    · exact .inl l
    · exact .inr ⟨k, c, e, cellK x c e _ z⟩
  · obtain ⟨v, z⟩ := I.cell x c e
    exact ⟨v, cellK x c e v z⟩
  · obtain ⟨m, ⟨o, _, _, ho, _⟩, _⟩ := I.loc
    exact free _ o (fun z => (hch _ z).2.1 rfl) ho I.free
  · obtain ⟨v, o, ho, hd⟩ := I.cell x c e
    exact free c o (fun z => (hch c z).2.2.1 x c e rfl) ho (I.freeC x c e)
  · obtain ⟨e, n, ne, nf, d⟩ := I.pin p hp
    have nch : p.1 ∉ ch := fun z => (hch p.1 z).2.2.2 p hp rfl
    exact ⟨keep p.1 p.2 ne nf nch e n, free p.1 p.2 nch e n, ne, nf, d⟩
theorem Inv.un {t' : Nat} (I : Inv X pins σ H s) (u : Un X.fs [] H H' s.heap h') (hok : HOk X.prog X.w H' h') : Inv X pins σ H' { s with heap := h', toks := t' } := by
  obtain ⟨m, ⟨o, es, ep, ho, r⟩, _⟩ := id I.loc
  obtain ⟨sl, hL⟩ := u.any ho I.free (by simp)
  exact I.step (g' := s.gens) (d' := s.drawn) (ch := []) (fun _ z => nomatch z) (fun b o _ hb _ e n => u.keep b o e n hb (by simp)) (fun b o _ hb _ e n => u.slot b o e n hb (by simp)) (fun b o _ e n => u.free b o e n (by simp)) (fun b o _ e => u.there b o e (by simp)) u.tups u.frzs u.tbls (fun m' hm => by
    obtain ⟨o', es', ep', ho', r'⟩ := hm
    rw [ho] at ho'; cases ho'
    exact ⟨_, es', ep', hL, r'⟩) hok I.bare
theorem Inv.call {g' : Array GenState} {t' : Nat} {d' : Drawn} {ch : List Addr} (I : Inv X pins σ H s) (u : Un (frs X.stack) ch H H' s.heap h') (hok : HOk X.prog X.w H' h') (hg : AllBare g')
    (hch : ∀ b ∈ ch, (b ∈ X.ex ∨ X.s₀.heap.objs.size ≤ b) ∧ b ≠ X.env.locals ∧ (∀ x c, X.env.cells.lookup x = some c → c ≠ b) ∧ ∀ p ∈ X.pn ++ pins, p.1 ≠ b) :
    Inv X pins σ H' { s with heap := h', gens := g', drawn := d', toks := t' } := by
  obtain ⟨m, ⟨o, es, ep, ho, r⟩, _⟩ := id I.loc
  obtain ⟨sl, hL⟩ := u.any ho I.free fun z => (hch _ z).2.1 rfl
  exact I.step (ch := ch) hch (fun b o hL hb hc e n => u.keep b o e n (fun z => (List.mem_cons.mp (I.stkSub b z)).elim hL hb) hc) (fun b o _ _ hc e n => u.any e n hc) (fun b o hc e n => u.free b o e n hc) (fun b o hc e => u.there b o e hc) u.tups u.frzs u.tbls (fun m' hm => by
    obtain ⟨o', es', ep', ho', r'⟩ := hm
    rw [ho] at ho'; cases ho'
    exact ⟨_, es', ep', hL, r'⟩) hok hg
theorem Inv.turned {t' : Nat} {it : Addr} (I : Inv X pins σ H s) (k : ∀ b o, b ≠ it → s.heap.get? b = some o → h'.get? b = some o) (hn : H it = none) (hL : it ≠ X.env.locals)
    (h1 : it ∈ X.ex ∨ X.s₀.heap.objs.size ≤ it) (h2 : ∀ x c, X.env.cells.lookup x = some c → c ≠ it) (h3 : ∀ p ∈ X.pn ++ pins, p.1 ≠ it) : Inv X pins σ H { s with heap := h', toks := t' } := by
  have nit : ∀ b u, H b = some u → b ≠ it := fun b u e z => by rw [z, hn] at e; cases e
  refine I.step (g' := s.gens) (d' := s.drawn) (ch := [it]) (fun b hb => ?_) (fun b o _ _ hc e _ => k b o (fun z => hc (by simp [z])) e) (fun b o _ _ hc e _ => ⟨o.slots, k b o (fun z => hc (by simp [z])) e⟩) (fun _ _ _ _ n => n)
    (fun b o hc e => ⟨o, k b o (fun z => hc (by simp [z])) e⟩) (fun _ _ e => e) (fun _ _ _ e => e) (fun b ps e => ⟨#[], by rw [e]; simp⟩) (fun m hm => ?_) (fun b u e => ?_) I.bare
  · have e : b = it := by simpa using hb
    subst e
    exact ⟨h1, hL, h2, h3⟩
  · obtain ⟨o, es, ep, ho, r⟩ := hm
    exact ⟨o, es, ep, k _ o (Ne.symm hL) ho, r⟩
  · refine (I.hok b u e).stay (fun c v hc q => k c v ?_ q) (fun _ q => q) fun _ _ q => q
    rcases hc with z | z
    · rw [z]; exact nit b u e
    · exact nit c _ z
theorem Inv.tok (I : Inv X pins σ H s) (t : Nat) : Inv X pins σ H { s with toks := t } := I.un (h' := s.heap) (t' := t) Un.refl I.hok
theorem Inv.kept {t' : Nat} (I : Inv X pins σ H s) (k : ∀ b u, s.heap.get? b = some u → h'.get? b = some u) : Inv X pins σ H { s with heap := h', toks := t' } := I.un (Un.kept k) (I.hok.kept k)
theorem Inv.laid {a : Addr} {o : HO} {t' : Nat} (I : Inv X pins σ H s) (k : ∀ b u, s.heap.get? b = some u → h'.get? b = some u) (hp : s.heap.objs.size ≤ a) (new : ObjOk X.prog X.w (upd H a o) h' a o) :
    Inv X pins σ (upd H a o) { s with heap := h', toks := t' } := I.un (Un.laid k hp (I.hok.fresh hp)) (I.hok.laid k hp new)
theorem Inv.write {x e : Addr} {o : HO} {t' : Nat} (I : Inv X pins σ H s) (mu : Mut (H x)) (he : e = x ∨ H e = some (.own x)) (k : ∀ b u, b ≠ e → s.heap.get? b = some u → h'.get? b = some u) (heo : ∃ u, h'.get? e = some u)
    (new : ObjOk X.prog X.w (upd H x o) h' x o) : Inv X pins σ (upd H x o) { s with heap := h', toks := t' } := I.un (Un.write mu he k heo) (I.hok.write mu he k heo new)
theorem Inv.pins_of {pins' : List (Addr × Obj)} (I : Inv X pins σ H s) (h : ∀ p ∈ pins', s.heap.get? p.1 = some p.2 ∧ H p.1 = none ∧ p.1 ≠ X.env.locals ∧ p.1 ∉ X.fs ∧ ∀ v, p.2.data ≠ .cell v) : Inv X pins' σ H s :=
  ⟨I.ok, I.os, I.bare, I.base, I.loc, I.cell, I.free, I.freeC, fun p hp => (List.mem_append.mp hp).elim (fun z => I.pin p (List.mem_append_left _ z)) (h p), I.hok, I.len⟩

theorem nodup_ix {N : List Str} (hN : N.Nodup) {i j : Nat} {x : Str} (a : N[i]? = some x) (b : N[j]? = some x) : i = j := by
  obtain ⟨h1, e1⟩ := List.getElem?_eq_some_iff.mp a
  obtain ⟨h2, e2⟩ := List.getElem?_eq_some_iff.mp b
  exact (List.getElem_inj hN).mp (e1.trans e2.symm)

theorem store_ok2 {M : Model} {A : Around} {E : Value → Shared → Prop} {i : Nat} {x : Str} {v : V} {u : Value} {Q : Unit → Shared → Prop} (I : Inv X pins σ H s) (hN : X.N.Nodup) (hi : X.N[i]? = some x) (hx : Loc X.env.scope x) (r : RelV v u)
    (h : ∀ s', Inv X pins (σ.set i (some v)) H s' → (∃ a, Heap.SameBut a s.heap s'.heap ∧ (a = X.env.locals ∨ X.env.cells.lookup x = some a)) → Q () s') (hf : X.fn x = true ∨ X.env.scope.names.lookup x = some .local := by first | exact .inl rfl | exact .inr rfl | assumption) : wpAny M A (storeName X.env x u) Q E s := by
  obtain ⟨m, hn, hl⟩ := id I.loc
  have hcls : (X.env.scope.kind == .class || (X.env.scope.kind == .module && X.env.locals != X.env.globals)) = false := by rw [I.ok.kind]; rfl
  have hiσ : i < σ.length := by rw [I.len]; exact (List.getElem?_eq_some_iff.mp hi).1
  have cne := I.cne
  have tracked : ∀ {a : Addr} {h' : Heap}, (∃ o, s.heap.get? a = some o ∧ H a = none) → Heap.SameBut a s.heap h' → HOk X.prog X.w H h' := fun {a h'} ha hs b ob e => by
    obtain ⟨_, _, hfree⟩ := ha
    refine (I.hok b ob e).stay (fun c w' hc q => (hs.2 c ?_).trans q) (fun _ q => q) fun _ _ q => q
    rintro rfl
    rcases hc with rfl | hc
    · rw [hfree] at e; cases e
    · rw [hfree] at hc; cases hc
  rcases hx with hk | hk
  · refine wpAny_storeName_local hk hn (fun h' hn' hs => ?_) hcls
    obtain ⟨oL, _, _, hoL, _⟩ := id hn
    refine h _ ⟨I.ok, I.os, I.bare, ⟨fun b o e n hb hx => ?_, fun b o e n hb hx => ?_, I.base.free, fun b o e hx => ?_, I.base.tups, I.base.frzs, I.base.tbls⟩, ⟨_, hn', fun j y v' e1 e2 e3 => ?_⟩, fun y c e => ?_, I.free, I.freeC, fun p hp => ?_, tracked ⟨oL, hoL, I.free⟩ hs, by simpa using I.len⟩ ⟨_, hs, .inl rfl⟩
    · exact (hs.2 b (Nat.ne_of_lt (Nat.lt_of_lt_of_le (Heap.lt_size e) I.ok.above))).trans (I.base.keep b o e n hb hx)
    · obtain ⟨sl, e1⟩ := I.base.slot b o e n hb hx
      exact ⟨sl, (hs.2 b (Nat.ne_of_lt (Nat.lt_of_lt_of_le (Heap.lt_size e) I.ok.above))).trans e1⟩
    · obtain ⟨o', e1⟩ := I.base.there b o e hx
      exact ⟨o', (hs.2 b (Nat.ne_of_lt (Nat.lt_of_lt_of_le (Heap.lt_size e) I.ok.above))).trans e1⟩
    · by_cases hj : j = i
      · subst hj
        rw [hi] at e1; cases e1
        rw [List.getElem?_set_self hiσ] at e2
        cases e2
        exact ⟨u, r, .inl ⟨hk, by simp⟩⟩
      · rw [List.getElem?_set_ne (Ne.symm hj)] at e2
        obtain ⟨u', r', q⟩ := hl j y v' e1 e2 e3
        refine ⟨u', r', ?_⟩
        rcases q with ⟨k, e⟩ | ⟨k, c, e, z⟩
        · refine .inl ⟨k, ?_⟩
          have : y ≠ x := fun e => hj (nodup_ix hN e1 (e ▸ hi))
          simp [this, e]
        · exact .inr ⟨k, c, e, z.sameBut hs (cne y c e)⟩
    · obtain ⟨w', z⟩ := I.cell y c e
      exact ⟨w', z.sameBut hs (cne y c e)⟩
    · obtain ⟨e, n, ne, nf, d⟩ := I.pin p hp
      exact ⟨(hs.2 p.1 ne).trans e, n, ne, nf, d⟩
  · have hfn : X.fn x = true := by
      rcases hf with z | z
      · exact z
      · rw [z] at hk; cases hk
    obtain ⟨c, hc⟩ := I.ok.has x (.inl hk)
    obtain ⟨w', z⟩ := I.cell x c hc
    refine wpAny_storeName_cell I.ok.kind hk hc z (fun h' hc' hs => ?_)
    obtain ⟨oc, hoc, hocd⟩ := id z
    refine h { s with heap := h' } ⟨I.ok, I.os, I.bare, ⟨fun b o e n hb hx => ?_, fun b o e n hb hx => ?_, I.base.free, fun b o e hx => ?_, I.base.tups, I.base.frzs, I.base.tbls⟩, ⟨m, hn.sameBut hs (Ne.symm (cne x c hc)), fun j y v' e1 e2 e3 => ?_⟩, fun y c' e => ?_, I.free, I.freeC, fun p hp => ?_, tracked ⟨oc, hoc, I.freeC x c hc⟩ hs, by simpa using I.len⟩ ⟨c, hs, .inr hc⟩
    · exact (hs.2 b (Nat.ne_of_lt (Nat.lt_of_lt_of_le (Heap.lt_size e) (I.ok.cab x c hfn hc)))).trans (I.base.keep b o e n hb hx)
    · obtain ⟨sl, e1⟩ := I.base.slot b o e n hb hx
      exact ⟨sl, (hs.2 b (Nat.ne_of_lt (Nat.lt_of_lt_of_le (Heap.lt_size e) (I.ok.cab x c hfn hc)))).trans e1⟩
    · obtain ⟨o', e1⟩ := I.base.there b o e hx
      exact ⟨o', (hs.2 b (Nat.ne_of_lt (Nat.lt_of_lt_of_le (Heap.lt_size e) (I.ok.cab x c hfn hc)))).trans e1⟩
    · by_cases hj : j = i
      · subst hj
        rw [hi] at e1; cases e1
        rw [List.getElem?_set_self hiσ] at e2
        cases e2
        exact ⟨u, r, .inr ⟨.inl hk, c, hc, hc'⟩⟩
      · rw [List.getElem?_set_ne (Ne.symm hj)] at e2
        obtain ⟨u', r', q⟩ := hl j y v' e1 e2 e3
        refine ⟨u', r', ?_⟩
        rcases q with q | ⟨k, c', e, z'⟩
        · exact .inl q
        · refine .inr ⟨k, c', e, z'.sameBut hs ?_⟩
          rintro rfl
          exact hj (nodup_ix hN e1 (I.ok.inj _ _ _ e hc ▸ hi))
    · by_cases hcc : c' = c
      · subst hcc; exact ⟨_, hc'⟩
      · obtain ⟨w2, z2⟩ := I.cell y c' e
        exact ⟨w2, z2.sameBut hs hcc⟩
    · obtain ⟨e, n, ne, nf, d⟩ := I.pin p hp
      refine ⟨(hs.2 p.1 ?_).trans e, n, ne, nf, d⟩
      intro q
      rw [q, hoc] at e
      have q' : oc = p.2 := Option.some.inj e
      exact d w' (by rw [← q']; exact hocd)
theorem store_ok {M : Model} {A : Around} {E : Value → Shared → Prop} {i : Nat} {x : Str} {v : V} {u : Value} {Q : Unit → Shared → Prop} (I : Inv X pins σ H s) (hN : X.N.Nodup) (hi : X.N[i]? = some x) (hx : Loc X.env.scope x) (r : RelV v u)
    (h : ∀ s', Inv X pins (σ.set i (some v)) H s' → Q () s') (hf : X.fn x = true ∨ X.env.scope.names.lookup x = some .local := by first | exact .inl rfl | exact .inr rfl | assumption) : wpAny M A (storeName X.env x u) Q E s :=
  store_ok2 I hN hi hx r (fun s' I' _ => h s' I') hf
theorem Inv.call' {s' : Shared} {ch : List Addr} (I : Inv X pins σ H s) (ho : s'.os = s.os) (u : Un (frs X.stack) ch H H' s.heap s'.heap) (hok : HOk X.prog X.w H' s'.heap) (hg : AllBare s'.gens)
    (hch : ∀ b ∈ ch, (b ∈ X.ex ∨ X.s₀.heap.objs.size ≤ b) ∧ b ≠ X.env.locals ∧ (∀ x c, X.env.cells.lookup x = some c → c ≠ b) ∧ ∀ p ∈ X.pn ++ pins, p.1 ≠ b) : Inv X pins σ H' s' := by
  obtain ⟨h', g', d', t', o'⟩ := s'
  have e : o' = s.os := ho
  subst e
  exact I.call (g' := g') (t' := t') (d' := d') u hok hg hch
end

abbrev XK := Value → Option Addr → Hp → Prop
abbrev St := List (Option V)
abbrev VK := V → Hp → Prop
abbrev TE := St → Hp → VK → Prop
abbrev TT := St → Hp → (Bool → Hp → Prop) → Prop
abbrev TA := St → Hp → (List V → Hp → Prop) → Prop
structure Ends where
  nx : St → Hp → Prop
  rt : VK
  bk : St → Hp → Prop := fun _ _ => False
  ct : St → Hp → Prop := fun _ _ => False
abbrev TS := Ends → St → Hp → Prop

def EP (X : Cx) (pins : List (Addr × Obj)) (σ : St) (Q : VK) (u : Value) (s' : Shared) : Prop := ∃ v H', Inv X pins σ H' s' ∧ RelV v u ∧ Q v H'
def TP (X : Cx) (pins : List (Addr × Obj)) (σ : St) (Q : Bool → Hp → Prop) (b : Bool) (s' : Shared) : Prop := ∃ H', Inv X pins σ H' s' ∧ Q b H'
def AP (X : Cx) (pins : List (Addr × Obj)) (σ : St) (Q : List V → Hp → Prop) (us : List Value) (s' : Shared) : Prop := ∃ vs H', Inv X pins σ H' s' ∧ Vals vs us ∧ Q vs H'
def SP (X : Cx) (pins : List (Addr × Obj)) (D : Ends) (f : Flow) (s' : Shared) : Prop :=
  match f with
  | .next => ∃ σ' H', Inv X pins σ' H' s' ∧ D.nx σ' H'
  | .brk => ∃ σ' H', Inv X pins σ' H' s' ∧ D.bk σ' H'
  | .cont => ∃ σ' H', Inv X pins σ' H' s' ∧ D.ct σ' H'
  | .ret u => ∃ v σ' H', Inv X pins σ' H' s' ∧ RelV v u ∧ D.rt v H'

def PE (X : Cx) (e : Expr) (t : TE) : Prop :=
  ∀ (pins : List (Addr × Obj)) (s : Shared) (σ : St) (H : Hp) (Q : VK), Inv X pins σ H s → t σ H Q → wpAny (model X.prog X.w) X.A (eval e X.env) (EP X pins σ Q) X.xe s
def PT (X : Cx) (e : Expr) (t : TT) : Prop :=
  ∀ (pins : List (Addr × Obj)) (s : Shared) (σ : St) (H : Hp) (Q : Bool → Hp → Prop), Inv X pins σ H s → t σ H Q → wpAny (model X.prog X.w) X.A (isTrue e X.env (eval e X.env)) (TP X pins σ Q) X.xe s
def PW (X : Cx) (e : Expr) (t : TT) : Prop :=
  ∀ (whole : Sem Value) (pins : List (Addr × Obj)) (s : Shared) (σ : St) (H : Hp) (Q : Bool → Hp → Prop), Inv X pins σ H s → t σ H Q → wpAny (model X.prog X.w) X.A (isTrue e X.env whole) (TP X pins σ Q) X.xe s
theorem PW.pt {X : Cx} {e : Expr} {t : TT} (h : PW X e t) : PT X e t := h _
def PA (X : Cx) (es : List Expr) (t : TA) : Prop :=
  ∀ (pos : Pos) (pins : List (Addr × Obj)) (s : Shared) (σ : St) (H : Hp) (Q : List V → Hp → Prop), Inv X pins σ H s → t σ H Q → wpAny (model X.prog X.w) X.A (spliced (backTo pos (starEach es X.env))) (AP X pins σ Q) X.xe s
def PS (X : Cx) (st : Stmt) (t : TS) : Prop :=
  ∀ (pins : List (Addr × Obj)) (s : Shared) (σ : St) (H : Hp) (D : Ends), Inv X pins σ H s → t D σ H → wpAny (model X.prog X.w) X.A (exec st X.env) (SP X pins D) X.xe s
def PSs (X : Cx) (st : List Stmt) (t : TS) : Prop :=
  ∀ (pins : List (Addr × Obj)) (s : Shared) (σ : St) (H : Hp) (D : Ends), Inv X pins σ H s → t D σ H → wpAny (model X.prog X.w) X.A (execs st X.env) (SP X pins D) X.xe s
theorem thn {α : Type} {t : Sem α} {Q Q' : α → Shared → Prop} {M : Model} {A : Around} {E : Value → Shared → Prop} {s : Shared} (h : wpAny M A t Q E s) (hQ : ∀ a s, Q a s → Q' a s) : wpAny M A t Q' E s := wpAny_mono h hQ fun _ _ x => x
end L2

namespace L2
open PySem PySem.Spec PyProof.Rows
section
variable {X : Cx}

theorem bin {a b : Expr} {ta tb : TE} (ha : PE X a ta) (hb : PE X b tb) {pins : List (Addr × Obj)} {s : Shared} {σ : St} {H : Hp} {R : V → V → Hp → Prop} (I : Inv X pins σ H s) (h : ta σ H fun x H1 => tb σ H1 fun y H2 => R x y H2)
    {α : Type} {Q : α → Shared → Prop} {f : Value → Value → Sem α}
    (hf : ∀ v u s2 x y H2, Inv X pins σ H2 s2 → RelV x v → RelV y u → R x y H2 → wpAny (model X.prog X.w) X.A (f v u) Q X.xe s2) :
    wpAny (model X.prog X.w) X.A (eval a X.env) (fun v s₁ => wpAny (model X.prog X.w) X.A (eval b X.env) (fun u s₂ => wpAny (model X.prog X.w) X.A (f v u) Q X.xe s₂) X.xe s₁) X.xe s := by
  refine thn (ha pins s σ H _ I h) fun v s1 ⟨x, H1, I1, r1, q1⟩ => ?_
  refine thn (hb pins s1 σ H1 _ I1 q1) fun u s2 ⟨y, H2, I2, r2, q2⟩ => ?_
  exact hf v u s2 x y H2 I2 r1 r2 q2

def tVar (i : Nat) : TE := fun σ H Q => ∃ v, σ[i]? = some (some v) ∧ Q v H
def tC (v : V) : TE := fun _ H Q => Q v H
theorem pe_var {i : Nat} {x : Str} {pos : Pos} (hN : X.N[i]? = some x) (hv : Vis X.env.scope x) (hd : (x == ("__debug__" : Str)) = false := by decide) (hcd : (x == ("__classdict__" : Str)) = false := by decide) : PE X (.Name x pos) (tVar i) := by
  intro pins s σ H Q I h
  obtain ⟨v, e, h⟩ := h
  obtain ⟨m, hn, hl⟩ := I.loc
  obtain ⟨u, r, l⟩ := hl i x v hN e hv
  have fin : EP X pins σ Q u s := ⟨v, H, I, r, h⟩
  rcases l with ⟨hk, hm⟩ | ⟨hk, c, hc, hcell⟩
  · exact wpAny_Name (wpAny_loadName_local I.ok.kind hk hn hm fin) hd
  · rcases hk with hk | hk
    · exact wpAny_Name (wpAny_loadName_cell I.ok.kind hk hc hcell fin) hd
    · exact wpAny_Name (wpAny_loadName_free I.ok.kind hk hc hcell fin hcd) hd
theorem pe_int {i j pos} : PE X (.Constant (.int i) j pos) (tC (.int i)) := fun _ _ _ H _ I h => wpAny_Constant_int ⟨.int i, H, I.tok _, ⟨_, rfl⟩, h⟩
theorem pe_bl {b j pos} : PE X (.Constant (.bool b) j pos) (tC (.bl b)) := fun _ _ _ H _ I h => Constant_bool ⟨.bl b, H, I, rfl, h⟩
theorem pe_non {j pos} : PE X (.Constant .none j pos) (tC .non) := fun _ _ _ H _ I h => Constant_none ⟨.non, H, I, rfl, h⟩
theorem pe_str {x j pos} : PE X (.Constant (.str x) j pos) (tC (.str x)) := fun _ _ _ H _ I h => Calls.Constant_str ⟨.str x, H, I.tok _, ⟨_, rfl⟩, h⟩

def Gl (X : Cx) (x : Str) : Prop := X.env.kindOf x = some .globalImplicit
theorem ld_glob {E : Value → Shared → Prop} {pins : List (Addr × Obj)} {s : Shared} {σ : St} {H : Hp} {x : Str} {u : Value} {pos : Pos} {Q : Value → Shared → Prop} (I : Inv X pins σ H s) (hg : Gl X x) (hm : X.mg x = some u) (h : Q u s)
    (hd : (x == ("__debug__" : Str)) = false := by decide) : wpAny (model X.prog X.w) X.A (eval (.Name x pos) X.env) Q E s :=
  Calls.Name_function_global I.ok.kind hg (Calls.loadGlobal_global (by rw [I.ok.glob]; exact I.mod.glob.keeps I.bk) hm h) hd
theorem ld_blt {E : Value → Shared → Prop} {pins : List (Addr × Obj)} {s : Shared} {σ : St} {H : Hp} {x : Str} {u : Value} {pos : Pos} {Q : Value → Shared → Prop} (I : Inv X pins σ H s) (hg : Gl X x) (hm : X.mg x = none) (hv : bootBuiltins x = some u) (h : Q u s)
    (hn : x ≠ "__name__" := by decide) (hd : (x == ("__debug__" : Str)) = false := by decide) : wpAny (model X.prog X.w) X.A (eval (.Name x pos) X.env) Q E s := by
  obtain ⟨mb, h1, h2⟩ := I.mod.blt
  exact Calls.Name_function_global I.ok.kind hg (Calls.loadGlobal_builtin (by rw [I.ok.glob]; exact I.mod.glob.keeps I.bk) hm (by rw [I.ok.blt]; exact h1.keeps I.bk) ((h2 x hn).trans hv) h) hd
theorem pe_glob {x : Str} {v : V} {u : Value} {pos : Pos} (hg : Gl X x) (hm : X.mg x = some u) (r : RelV v u) (hd : (x == ("__debug__" : Str)) = false := by decide) : PE X (.Name x pos) (tC v) :=
  fun _ _ _ H _ I h => ld_glob I hg hm ⟨v, H, I, r, h⟩ hd

variable {a b : Expr} {ta tb : TE} {pos : Pos}

def PC (X : Cx) (op : CmpOp) (a b : Expr) (t : TE) : Prop :=
  ∀ (pins : List (Addr × Obj)) (s : Shared) (σ : St) (H : Hp) (Q : VK), Inv X pins σ H s → t σ H Q →
    wpAny (model X.prog X.w) X.A (eval a X.env) (fun v s₁ => wpAny (model X.prog X.w) X.A (eval b X.env) (fun u s₂ => wpAny (model X.prog X.w) X.A (compareOp op v u) (EP X pins σ Q) X.xe s₂) X.xe s₁) X.xe s
def tB (t : TE) : TT := fun σ H Q => t σ H fun x H1 => ∃ c, x = .bl c ∧ Q c H1
theorem pt_cmp {op : CmpOp} {t : TE} (h : PC X op a b t) (h1 : behindInMarks op b = false := by first | exact nobehind _ (by decide) (by decide) | rfl) : PT X (.Compare a [op] [b] pos) (tB t) := by
  intro pins s σ H Q I hw
  refine wpAny_isTrue_Compare1 (thn (h pins s σ H _ I hw) fun v s1 h1 => thn h1 fun u s2 h2 => thn h2 fun c s3 ⟨x, H1, I1, r1, q1⟩ => ?_) h1
  obtain ⟨d, rfl, q⟩ := q1
  cases r1
  exact wpAny_truthy_bool ⟨H1, I1, q⟩
theorem pt_val {e : Expr} {t : TE} (h : PE X e t) (he : ∀ whole, isTrue e X.env whole = (do let v ← whole; standAt e.pos; holding [v] (truthy v)) := by intro _; rfl) : PT X e (tB t) := by
  intro pins s σ H Q I hw
  refine isTrue_plain (thn (h pins s σ H _ I hw) fun v s1 ⟨x, H1, I1, r1, q1⟩ => ?_) (he _)
  obtain ⟨d, rfl, q⟩ := q1
  cases r1
  exact wpAny_truthy_bool ⟨H1, I1, q⟩

variable {tA tB' : TT} {rest : List Expr}
def tAnd (t u : TT) : TT := fun σ H Q => t σ H fun c H1 => if c = true then u σ H1 Q else Q false H1
theorem pw_and1 (ha : PT X a tA) : PW X (.BoolOp .And [a] pos) tA := by
  intro wh pins s σ H Q I h
  refine isTrue_and (thn (ha pins s σ H Q I h) fun c s1 e => ?_)
  cases c with
  | true => exact isTrue_and_nil e
  | false => exact e
theorem pw_and (ha : PT X a tA) (hb : PW X (.BoolOp .And (b :: rest) pos) tB') : PW X (.BoolOp .And (a :: b :: rest) pos) (tAnd tA tB') := by
  intro wh pins s σ H Q I h
  refine isTrue_and (thn (ha pins s σ H _ I h) fun c s1 ⟨H1, I1, q1⟩ => ?_)
  cases c with
  | true => exact hb wh pins s1 σ H1 Q I1 q1
  | false => exact ⟨H1, I1, q1⟩
end
end L2

namespace L2
open PySem PySem.Spec PyProof.Rows

def SqL (K : PySem.W.Frag) (H : Hp) (a : Addr) (xs : List V) : Prop :=
  Rd H a (.lst xs) ∨
    ∃ (o : Obj) (its : Array Value) (n : Nat), K.lookup a = some o ∧ o.cls = .type "list" ∧ o.dict = none ∧ o.data = .seq its n ∧ its.size ≤ sizeLine ∧ Vals xs its.toList
def SqT (K : PySem.W.Frag) (H : Hp) (a : Addr) (xs : List V) : Prop :=
  Rd H a (.tup xs) ∨
    ∃ (o : Obj) (its : Array Value) (n : Nat), K.lookup a = some o ∧ o.cls = .type "tuple" ∧ o.data = .seq its n ∧ its.size ≤ sizeLine ∧ Vals xs its.toList
def absV : Value → Option V
  | .none => some .non
  | .bool b => some (.bl b)
  | .int i _ => some (.int i)
  | .str x _ => some (.str x)
  | .bytes b _ => some (.byt b)
  | .float b _ => some (.flt b)
  | .ref a => some (.ref a)
  | .type n => some (.ty n)
  | _ => none
theorem RelV.abs {x : V} {u : Value} (r : RelV x u) : absV u = some x := by
  cases x with
  | non => cases r; rfl
  | bl _ => cases r; rfl
  | int _ => obtain ⟨t, rfl⟩ := r; rfl
  | str _ => obtain ⟨t, rfl⟩ := r; rfl
  | byt _ => obtain ⟨t, rfl⟩ := r; rfl
  | flt _ => obtain ⟨t, rfl⟩ := r; rfl
  | ref _ => cases r; rfl
  | ty _ => cases r; rfl
theorem RelV.inj {x y : V} {u : Value} (r : RelV x u) (q : RelV y u) : x = y := Option.some.inj (r.abs.symm.trans q.abs)
theorem Vals.inj : ∀ {xs ys : List V} {us : List Value}, Vals xs us → Vals ys us → xs = ys
  | _, _, _, .nil, .nil => rfl
  | _, _, _, .cons r t, .cons r' t' => by rw [r.inj r', Vals.inj t t']
section
variable {X : Cx} {pins : List (Addr × Obj)} {σ : St} {H : Hp} {s : Shared} {a : Addr} {xs ys : List V}
theorem SqL.of {K : PySem.W.Frag} (h : H a = some (.lst xs)) : SqL K H a xs := .inl (.inl h)
theorem SqT.of {K : PySem.W.Frag} (h : H a = some (.tup xs)) : SqT K H a xs := .inl (.inl h)
theorem Inv.list (I : Inv X pins σ H s) (h : SqL X.K H a xs) : ∃ its : List Value, Vals xs its ∧ PlainL s.heap a its.toArray ∧ xs.length ≤ sizeLine := by
  rcases h with h | ⟨o, its, n, hk, hc, hd, hs, hz, r⟩
  · obtain ⟨z, its, n, r, e⟩ := h.ok I.hok
    exact ⟨its, r, ⟨_, n, e, rfl, rfl, rfl⟩, z⟩
  · refine ⟨its.toList, r, ⟨o, n, I.kIn a o hk, hc, hd, by simpa using hs⟩, ?_⟩
    have e := r.length
    simp only [Array.length_toList] at e
    omega
theorem Inv.tuple (I : Inv X pins σ H s) (h : SqT X.K H a xs) : ∃ its : List Value, Vals xs its ∧ IsTup s.heap a its.toArray ∧ xs.length ≤ sizeLine := by
  rcases h with h | ⟨o, its, n, hk, hc, hs, hz, r⟩
  · obtain ⟨z, its, r, p⟩ := h.ok I.hok
    exact ⟨its, r, p, z⟩
  · refine ⟨its.toList, r, ⟨o, I.kIn a o hk, hc, n, by simpa using hs⟩, ?_⟩
    have e := r.length
    simp only [Array.length_toList] at e
    omega
theorem Inv.list_inj (I : Inv X pins σ H s) (h : SqL X.K H a xs) (h' : SqL X.K H a ys) : xs = ys := by
  obtain ⟨its, r, ⟨o, n, e, _, _, d⟩, _⟩ := I.list h
  obtain ⟨its', r', ⟨o', n', e', _, _, d'⟩, _⟩ := I.list h'
  rw [e] at e'; cases e'
  rw [d] at d'
  injection d' with d1 _
  have : its = its' := by simpa using congrArg Array.toList d1
  subst this
  exact r.inj r'
end

abbrev Cx.wish (X : Cx) (E : Value → Shared → Prop) : Cx := { X with xe := E }
abbrev Cx.nox (X : Cx) : Cx := X.wish fun _ _ => False
theorem Cx.Ok.wish {X : Cx} (ok : X.Ok) (E : Value → Shared → Prop) : (X.wish E).Ok :=
  ⟨ok.mod, ok.kind, ok.glob, ok.blt, ok.above, ok.inj, ok.has, ok.cab, ok.hd, ok.frames, ok.stk, ok.exf, ok.bs, ok.bsz, ok.noex, ok.exfs, ok.funs, ok.frf⟩
theorem Cx.Ok.unwish {X : Cx} {E : Value → Shared → Prop} (ok : (X.wish E).Ok) : X.Ok :=
  ⟨ok.mod, ok.kind, ok.glob, ok.blt, ok.above, ok.inj, ok.has, ok.cab, ok.hd, ok.frames, ok.stk, ok.exf, ok.bs, ok.bsz, ok.noex, ok.exfs, ok.funs, ok.frf⟩
section
variable {X : Cx} {pins : List (Addr × Obj)} {σ : St} {H : Hp} {s : Shared} {E : Value → Shared → Prop}
theorem Inv.wish (I : Inv X pins σ H s) (E : Value → Shared → Prop) : Inv (X.wish E) pins σ H s := ⟨I.ok.wish E, I.os, I.bare, I.base, I.loc, I.cell, I.free, I.freeC, I.pin, I.hok, I.len⟩
theorem Inv.unwish (I : Inv (X.wish E) pins σ H s) : Inv X pins σ H s := ⟨I.ok.unwish, I.os, I.bare, I.base, I.loc, I.cell, I.free, I.freeC, I.pin, I.hok, I.len⟩
theorem SP.unwish {D : Ends} {f : Flow} {s' : Shared} (h : SP (X.wish E) pins D f s') : SP X pins D f s' := by
  cases f with
  | next => obtain ⟨σ', H', I, q⟩ := h; exact ⟨σ', H', I.unwish, q⟩
  | brk => obtain ⟨σ', H', I, q⟩ := h; exact ⟨σ', H', I.unwish, q⟩
  | cont => obtain ⟨σ', H', I, q⟩ := h; exact ⟨σ', H', I.unwish, q⟩
  | ret u => obtain ⟨v, σ', H', I, r, q⟩ := h; exact ⟨v, σ', H', I.unwish, r, q⟩
theorem PSs.nox {st : List Stmt} {t : TS} (h : PSs X.nox st t) : PSs X st t := fun pins s σ H D I hw =>
  wpAny_mono (h pins s σ H D (I.wish _) hw) (fun _ _ q => q.unwish) fun _ _ z => False.elim z
end

section
variable {X : Cx} {st : Stmt} {rest : List Stmt} {t u : TS} {e : Expr} {te : TE} {pos : Pos}
def tNext : TS := fun D σ H => D.nx σ H
def tSeq (t u : TS) : TS := fun D σ H => t { D with nx := u D } σ H
theorem pss_nil : PSs X [] tNext := fun _ _ σ H _ I h => wpAny_execs_nil ⟨σ, H, I, h⟩
theorem pss_cons (h1 : PS X st t) (h2 : PSs X rest u) : PSs X (st :: rest) (tSeq t u) := by
  intro pins s σ H D I h
  refine wpAny_execs_cons (thn (h1 pins s σ H { D with nx := u D } I h) fun f s1 q => ?_)
  cases f with
  | next =>
    obtain ⟨σ', H', I', q⟩ := q
    exact h2 pins s1 σ' H' D I' q
  | ret v => exact q
  | brk => exact q
  | cont => exact q
theorem pss_one (h1 : PS X st t) : PSs X [st] t := by
  intro pins s σ H D I h
  refine wpAny_execs_cons (thn (h1 pins s σ H D I h) fun f s1 q => ?_)
  cases f with
  | next => exact wpAny_execs_nil q
  | ret v => exact q
  | brk => exact q
  | cont => exact q
theorem Inv.quiet {pins : List (Addr × Obj)} {σ : St} {H : Hp} {s : Shared} (I : Inv X pins σ H s) : interactive X.env = false := by simp [interactive, I.ok.kind]
def tDrop (te : TE) : TS := fun D σ H => te σ H fun _ H1 => D.nx σ H1
theorem ps_expr (he : PE X e te) (hs : swapsWith e none pos.line X.env = pure false := by rfl) : PS X (.Expr e pos) (tDrop te) := by
  intro pins s σ H D I h
  exact wpAny_Expr_any (thn (he pins s σ H _ I h) fun v s1 ⟨x, H1, I1, r1, q1⟩ => ⟨σ, H1, I1, q1⟩) I.quiet hs
def tRet (te : TE) : TS := fun D σ H => te σ H D.rt
theorem ps_ret (he : PE X e te) : PS X (.Return (some e) pos) (tRet te) := by
  intro pins s σ H D I h
  exact wpAny_Return_some (thn (he pins s σ H _ I h) fun v s1 ⟨x, H1, I1, r1, q1⟩ => ⟨x, σ, H1, I1, r1, q1⟩)
def tIfS (c : TT) (t u : TS) : TS := fun D σ H => c σ H fun b H1 => if b = true then t D σ H1 else u D σ H1
theorem ps_if {c : Expr} {a b : List Stmt} {tc : TT} (hc : PT X c tc) (ha : PSs X a t) (hb : PSs X b u) : PS X (.If c a b pos) (tIfS tc t u) := by
  intro pins s σ H D I h
  refine wpAny_If (thn (hc pins s σ H _ I h) fun d s1 ⟨H1, I1, q1⟩ => ?_)
  cases d with
  | true => exact ha pins s1 σ H1 D I1 q1
  | false => exact hb pins s1 σ H1 D I1 q1
end

abbrev TG := V → St → Hp → (St → Hp → Prop) → Prop
abbrev TGs := List V → St → Hp → (St → Hp → Prop) → Prop
def PG (X : Cx) (target : Expr) (t : TG) : Prop :=
  ∀ (pins : List (Addr × Obj)) (s : Shared) (σ : St) (H : Hp) (v : V) (u : Value) (Q : St → Hp → Prop), Inv X pins σ H s → RelV v u → t v σ H Q →
    wpAny (model X.prog X.w) X.A (assign target X.env u) (fun _ s' => ∃ σ' H', Inv X pins σ' H' s' ∧ Q σ' H') X.xe s
def PGs (X : Cx) (ts : List Expr) (t : TGs) : Prop :=
  ∀ (pins : List (Addr × Obj)) (s : Shared) (σ : St) (H : Hp) (vs : List V) (us : List Value) (Q : St → Hp → Prop), Inv X pins σ H s → Vals vs us → t vs σ H Q →
    wpAny (model X.prog X.w) X.A (assignInOrder ((assignEach ts X.env).map (·.2)) us) (fun _ s' => ∃ σ' H', Inv X pins σ' H' s' ∧ Q σ' H') X.xe s
abbrev TSet := V → V → V → Hp → (Hp → Prop) → Prop
def PSet (X : Cx) (t : TSet) : Prop :=
  ∀ (pins : List (Addr × Obj)) (s : Shared) (σ : St) (H : Hp) (o i v : V) (ov iv u : Value) (Q : Hp → Prop), Inv X pins σ H s → RelV o ov → RelV i iv → RelV v u → t o i v H Q →
    wpAny (model X.prog X.w) X.A (setItem ov iv u) (fun _ s' => ∃ H', Inv X pins σ H' s' ∧ Q H') X.xe s
section
variable {X : Cx} {pos : Pos}
def gName (i : Nat) : TG := fun v σ H Q => Q (σ.set i (some v)) H
theorem pg_name {i : Nat} {x : Str} (hN : X.N.Nodup) (hi : X.N[i]? = some x) (hx : Loc X.env.scope x) (hf : X.fn x = true ∨ X.env.scope.names.lookup x = some .local := by first | exact .inl rfl | exact .inr rfl | assumption) : PG X (.Name x pos) (gName i) := by
  intro pins s σ H v u Q I r h
  exact wpAny_assign_Name (store_ok I hN hi hx r (fun s' I' => ⟨_, H, I', h⟩) hf)
def gNil : TGs := fun vs σ H Q => vs = [] ∧ Q σ H
def gCons (t : TG) (u : TGs) : TGs := fun vs σ H Q => ∃ v r, vs = v :: r ∧ t v σ H fun σ' H' => u r σ' H' Q
theorem pgs_nil : PGs X [] gNil := by
  intro pins s σ H vs us Q I r h
  obtain ⟨e, h⟩ := h
  subst e
  cases r
  exact assignInOrder_nil ⟨σ, H, I, h⟩
theorem pgs_cons {e : Expr} {es : List Expr} {t : TG} {u : TGs} (h1 : PG X e t) (h2 : PGs X es u)
    (hs : (assignEach (e :: es) X.env).map (·.2) = assign e X.env :: (assignEach es X.env).map (·.2) := by rfl) : PGs X (e :: es) (gCons t u) := by
  intro pins s σ H vs us Q I r h
  obtain ⟨v, vr, e1, h⟩ := h
  subst e1
  cases r with
  | cons r rr =>
    rw [hs]
    refine assignInOrder_cons (thn (h1 pins s σ H _ _ _ I r h) fun _ s1 ⟨σ1, H1, I1, q1⟩ => ?_)
    exact h2 pins s1 σ1 H1 _ _ Q I1 rr q1
def gTup (K : PySem.W.Frag) (n : Nat) (t : TGs) : TG := fun v σ H Q => ∃ a xs, v = .ref a ∧ SqT K H a xs ∧ xs.length = n ∧ t xs σ H Q
theorem pg_tup {es : List Expr} {k : Nat} {t : TGs} {n : Nat} (hc : X.calm = true) (h : PGs X es t)
    (hn : (assignEach es X.env).length = n := by rfl) (hst : (assignEach es X.env).findIdx? (·.1) = none := by rfl) : PG X (.Tuple es k pos) (gTup X.K n t) := by
  intro pins s σ H v u Q I r hw
  obtain ⟨a, xs, e1, hq, hl, hw⟩ := hw
  subst e1
  cases r
  obtain ⟨its, rv, ht, hz⟩ := I.tuple hq
  refine assign_Tuple_tuple (I.ok.hd hc) ht (by simp [hn, ← hl, rv.length]) hst fun h' hx => ?_
  have I1 : Inv X pins σ H { s with heap := h' } := I.kept (t' := s.toks) fun b o e => hx b o (Nat.ne_of_lt (Heap.lt_size e)) e
  exact h pins _ σ H xs _ Q I1 (by simpa using rv) hw
def gSub (to ti : TE) (t : TSet) : TG := fun v σ H Q => to σ H fun o H1 => ti σ H1 fun i H2 => t o i v H2 fun H3 => Q σ H3
theorem pg_sub {o i : Expr} {to ti : TE} {t : TSet} (ho : PE X o to) (hi : PE X i ti) (hs : PSet X t)
    (ha : ∀ v, assign (.Subscript o i pos) X.env v = (do
      let ov ← holding [v] (eval o X.env)
      let iv ← holding [v, ov] (eval i X.env)
      standAt pos
      holding [v, ov, iv] (setItem ov iv v)
      release [v, ov, iv] []) := by intro _; rfl) : PG X (.Subscript o i pos) (gSub to ti t) := by
  intro pins s σ H v u Q I r h
  rw [ha]
  refine wpAny_bind (wpAny_holding (thn (ho pins s σ H _ I h) fun ov s1 ⟨x, H1, I1, r1, q1⟩ => ?_))
  refine wpAny_bind (wpAny_holding (thn (hi pins s1 σ H1 _ I1 q1) fun iv s2 ⟨y, H2, I2, r2, q2⟩ => ?_))
  refine wpAny_bind (wpAny_standAt (wpAny_bind (wpAny_holding (thn (hs pins s2 σ H2 x y v ov iv u _ I2 r1 r2 r q2) fun _ s3 ⟨H3, I3, q3⟩ => ?_))))
  exact wpAny_release ⟨σ, H3, I3, q3⟩
def tAsg (te : TE) (g : TG) : TS := fun D σ H => te σ H fun x H1 => g x σ H1 D.nx
theorem ps_asg {tg e : Expr} {te : TE} {g : TG} (he : PE X e te) (hg : PG X tg g) (hs : swapsWithSole [tg] e pos.line X.env = pure false := by rfl) (hw : swappedStores [tg] e X.env = pure none := by rfl)
    (h1 : (assignEach [tg] X.env).map (·.2) = [assign tg X.env] := by rfl) : PS X (.Assign [tg] e pos) (tAsg te g) := by
  intro pins s σ H D I h
  refine wpAny_Assign_stores (thn (he pins s σ H _ I h) fun v s1 ⟨x, H1, I1, r1, q1⟩ => ?_) hs hw
  rw [h1]
  exact thn (hg pins s1 σ H1 x v _ I1 r1 q1) fun _ s2 q => q
theorem ps_set {i : Nat} {x : Str} {e : Expr} {te : TE} {pos' : Pos} (hN : X.N.Nodup) (hi : X.N[i]? = some x) (hx : Loc X.env.scope x) (he : PE X e te) (hs : swapsWith e (some (.Name x pos')) pos.line X.env = pure false := by rfl) (hf : X.fn x = true ∨ X.env.scope.names.lookup x = some .local := by first | exact .inl rfl | exact .inr rfl | assumption) :
    PS X (.Assign [.Name x pos'] e pos) (tAsg te (gName i)) := by
  intro pins s σ H D I h
  refine wpAny_Assign_Name (thn (he pins s σ H _ I h) fun v s1 ⟨y, H1, I1, r1, q1⟩ => ?_) hs
  exact store_ok I1 hN hi hx r1 (fun s2 I2 => ⟨_, H1, I2, q1⟩) hf
end

section
variable {X : Cx} {pos : Pos}
end

structure It where
  go : Nat → Hp → Prop
  yld : Nat → Hp → V → Hp → Prop
  stop : Nat → Hp → Prop
def FpOk (X : Cx) (pins : List (Addr × Obj)) (H : Hp) (b : Addr) : Prop :=
  H b = none ∧ b ≠ X.env.locals ∧ b ∉ X.fs ∧ (b ∈ X.ex ∨ X.s₀.heap.objs.size ≤ b) ∧ (∀ x c, X.env.cells.lookup x = some c → c ≠ b) ∧ ∀ p ∈ X.pn ++ pins, p.1 ≠ b
theorem Inv.fpOk {X : Cx} {pins : List (Addr × Obj)} {σ : St} {H H' : Hp} {s : Shared} {b : Addr} (I : Inv X pins σ H s) (hb : s.heap.objs.size ≤ b) (hn : H' b = none) : FpOk X pins H' b := by
  refine ⟨hn, Nat.ne_of_gt (Nat.lt_of_lt_of_le I.lt hb), I.nofs hb, .inr (Nat.le_trans I.sz hb), fun x c e z => ?_, fun p hp z => ?_⟩
  · obtain ⟨v, q⟩ := I.cell x c e
    exact absurd (Nat.lt_of_lt_of_le q.lt (by rw [z]; exact hb)) (Nat.lt_irrefl _)
  · exact absurd (Nat.lt_of_lt_of_le (Heap.lt_size (I.pin p hp).1) (by rw [z]; exact hb)) (Nat.lt_irrefl _)
structure Turn (P : Program) (w : World) (K : PySem.W.Frag) (tg : Expr) (J : It) (fp : List Addr) (it : Addr) (tn : Nat → Heap → Prop) : Prop where
  mem : it ∈ fp
  obj : ∀ i h, tn i h → ∀ b ∈ fp, ∃ o, h.get? b = some o ∧ ∀ v, o.data ≠ .cell v
  keep : ∀ i h h', tn i h → (∀ b ∈ fp, ∀ o, h.get? b = some o → h'.get? b = some o) → tn i h'
  item : ∀ (X : Cx), X.prog = P → X.w = w → X.K = K → X.calm = true → ∀ (i : Nat) (pins : List (Addr × Obj)) (s : Shared) (σ : St) (H : Hp) (E : Value → Shared → Prop), Inv X pins σ H s → (∀ b ∈ fp, FpOk X pins H b) → tn i s.heap → J.go i H →
    wpAny (model P w) X.A (pyNext (.ref it)) (fun r s1 => ∃ u, r = some u ∧
      wpAny (model P w) X.A (letOwnedTupleGo tg (.ref it) u) (fun _ s2 => ∃ x H', Inv X pins σ H' s2 ∧ RelV x u ∧ J.yld i H x H' ∧ tn (i + 1) s2.heap ∧ ∀ b ∈ fp, H' b = none) E s1) E s
  done : ∀ (X : Cx), X.prog = P → X.w = w → X.K = K → X.calm = true → ∀ (i : Nat) (pins : List (Addr × Obj)) (s : Shared) (σ : St) (H : Hp) (E : Value → Shared → Prop), Inv X pins σ H s → (∀ b ∈ fp, FpOk X pins H b) → tn i s.heap → J.stop i H →
    wpAny (model P w) X.A (pyNext (.ref it)) (fun r s1 => r = none ∧ Inv X pins σ H s1) E s
  self : ∀ (A : Around) (i : Nat) (s : Shared) (Q : Value → Shared → Prop) (E : Value → Shared → Prop), tn i s.heap → Q (.ref it) s → wpAny (model P w) A (pyIter (.ref it)) Q E s
abbrev TI := St → Hp → (It → Hp → Prop) → Prop
def PIE (X : Cx) (pins : List (Addr × Obj)) (σ : St) (tg : Expr) (R : It → Hp → Prop) (itv : Value) (s2 : Shared) : Prop :=
  ∃ (it : Addr) (fp : List Addr) (tn : Nat → Heap → Prop) (J : It) (H' : Hp), itv = .ref it ∧ Inv X pins σ H' s2 ∧ Turn X.prog X.w X.K tg J fp it tn ∧ tn 0 s2.heap ∧ (∀ b ∈ fp, FpOk X pins H' b) ∧ R J H'
def PI (X : Cx) (tg iter : Expr) (wi : TI) : Prop :=
  ∀ (pins : List (Addr × Obj)) (s : Shared) (σ : St) (H : Hp) (R : It → Hp → Prop), Inv X pins σ H s → wi σ H R →
    wpAny (model X.prog X.w) X.A (eval iter X.env) (fun v s1 => wpAny (model X.prog X.w) X.A (pyIter v) (PIE X pins σ tg R) X.xe s1) X.xe s

theorem go_of {M : Model} {A : Around} {E : Value → Shared → Prop} {s : Shared} {tg : Expr} {it : Addr} {u : Value} {o : Obj} {n : String} {vs : Array Value} {Q : Unit → Shared → Prop} (ho : s.heap.get? it = some o) (hc : o.cls = .type n) (hd : o.data = .fields vs)
    (hn : ["enumerate", "zip", "dict_itemiterator", "dict_reverseitemiterator", "odict_iterator", "itertools.zip_longest", "itertools.pairwise"].contains n = false) (hQ : Q () s) : wpAny M A (letOwnedTupleGo tg (.ref it) u) Q E s := by
  unfold letOwnedTupleGo
  cases tg <;> first
    | exact wpAny_pure hQ
    | (cases u <;> first
        | exact wpAny_pure hQ
        | (refine wpAny_bind (wpAny_load ho ?_)
           rw [hc, hd]
           show wpAny M A (if (["enumerate", "zip", "dict_itemiterator", "dict_reverseitemiterator", "odict_iterator", "itertools.zip_longest", "itertools.pairwise"].contains n && vs[0]? == some (rawInt _)) = true then _ else _) Q E s
           rw [if_neg (by intro h; rw [hn, Bool.false_and] at h; cases h)]
           exact wpAny_pure hQ))

def Itl (K : PySem.W.Frag) (a : Addr) : It :=
  ⟨fun i H => ∃ xs x, SqL K H a xs ∧ xs[i]? = some x, fun i H x H' => H' = H ∧ ∀ xs, SqL K H a xs → xs[i]? = some x, fun i H => ∃ xs, SqL K H a xs ∧ xs.length ≤ i⟩
def Itr (lo : Int) (n : Nat) : It := ⟨fun i _ => i < n, fun i H x H' => H' = H ∧ x = .int (lo + i), fun i _ => n ≤ i⟩
theorem turn_list {P : Program} {w : World} {K : PySem.W.Frag} {tg : Expr} (a it : Addr) : Turn P w K tg (Itl K a) [it] it (fun i h => h.IsListIter it a i) where
  mem := by simp
  obj := fun i h st b hb => by
    have e : b = it := by simpa using hb
    subst e
    obtain ⟨o, e, c, d⟩ := st
    exact ⟨o, e, fun v z => by rw [d] at z; cases z⟩
  keep := fun i h h' st k => st.at fun o e => k it (by simp) o e
  item := by
    intro X hP hw hK hc i pins s σ H E I hf st hg
    subst hP hw hK
    obtain ⟨xs, x, hq, hx⟩ := hg
    obtain ⟨its, rv, p, hz⟩ := I.list hq
    obtain ⟨u, hu, ru⟩ := rv.get hx
    obtain ⟨f0, f1, f2, f3, f4, f5⟩ := hf it (by simp)
    refine wpAny_pyNext_list_item st p.isList (x := u) (by simpa using hu) fun h' st' sb => ?_
    have I1 : Inv X pins σ H { s with heap := h' } := I.turned (t' := s.toks) (fun b o hb e => (sb.2 b hb).trans e) f0 f1 f3 f4 f5
    obtain ⟨o, e, c, d⟩ := id st'
    exact ⟨u, rfl, go_of (s := { s with heap := h' }) e c d (by decide) ⟨x, H, I1, ru, ⟨rfl, fun ys hy => by rw [I.list_inj hy hq]; exact hx⟩, st', fun b hb => (hf b hb).1⟩⟩
  done := by
    intro X hP hw hK hc i pins s σ H E I hf st hg
    subst hP hw hK
    obtain ⟨xs, hq, hx⟩ := hg
    obtain ⟨its, rv, p, hz⟩ := I.list hq
    obtain ⟨f0, f1, f2, f3, f4, f5⟩ := hf it (by simp)
    have hl := rv.length
    exact wpAny_pyNext_list_end (I.ok.hd hc) st p.isList (by simp; omega) fun h' eb => ⟨rfl, I.turned (t' := s.toks) (fun b o hb e => eb b o hb e) f0 f1 f3 f4 f5⟩
  self := fun _ _ _ _ _ st h => wpAny_pyIter_listiter st h
theorem turn_range {P : Program} {w : World} {K : PySem.W.Frag} {tg : Expr} (it : Addr) (lo : Int) (n : Nat) : Turn P w K tg (Itr lo n) [it] it (fun i h => IsRangeIter h it (lo + (i : Nat) * 1) ((n : Int) - (i : Nat)) 1) where
  mem := by simp
  obj := fun i h st b hb => by
    have e : b = it := by simpa using hb
    subst e
    exact ⟨_, st, fun v z => by
      have z' : Data.fields _ = Data.cell v := z
      cases z'⟩
  keep := fun i h h' st k => k it (by simp) _ st
  item := by
    intro X hP hw hK hc i pins s σ H E I hf st hg
    subst hP hw hK
    obtain ⟨f0, f1, f2, f3, f4, f5⟩ := hf it (by simp)
    have W := Walks.range (prog := X.prog) (w := X.w) (I.ok.hd hc) it lo 1 n
    refine W.item i s _ _ hg st fun v h' tk hv st' kk => ?_
    obtain ⟨t, rfl⟩ := hv
    have I1 : Inv X pins σ H { s with heap := h', toks := tk } := I.turned (fun b o hb e => kk b o (by simpa using hb) e) f0 f1 f3 f4 f5
    refine ⟨_, rfl, go_of (s := { s with heap := h', toks := tk }) (n := "range_iterator") st' rfl rfl (by decide) ⟨.int (lo + i), H, I1, ⟨t, ?_⟩, ⟨rfl, rfl⟩, st', fun b hb => (hf b hb).1⟩⟩
    rw [Int.mul_one]
  done := by
    intro X hP hw hK hc i pins s σ H E I hf st hg
    subst hP hw hK
    obtain ⟨f0, f1, f2, f3, f4, f5⟩ := hf it (by simp)
    exact wpAny_pyNext_range_end (I.ok.hd hc) st (by have : n ≤ i := hg; omega) fun h' eb => ⟨rfl, I.turned (t' := s.toks) (fun b o hb e => eb b o hb e) f0 f1 f3 f4 f5⟩
  self := fun _ _ _ _ _ st h => wpAny_pyIter_rangeiter st h
end L2

namespace L2
open PySem PySem.Spec PyProof.Rows
section
variable {X : Cx} {tg : Expr}
def iList (K : PySem.W.Frag) (tl : TE) : TI := fun σ H R => tl σ H fun x H1 => ∃ a, x = .ref a ∧ (∃ xs, SqL K H1 a xs) ∧ R (Itl K a) H1
theorem pi_list {l : Expr} {tl : TE} (hl : PE X l tl) : PI X tg l (iList X.K tl) := by
  intro pins s σ H R I h
  refine thn (hl pins s σ H _ I h) fun v s1 ⟨x, H1, I1, r1, q1⟩ => ?_
  obtain ⟨a, e, ⟨xs, hq⟩, q⟩ := q1
  subst e
  cases r1
  obtain ⟨its, rv, p, hz⟩ := I1.list hq
  refine wpAny_pyIter_list p.isList ?_
  refine ⟨s1.heap.objs.size, [s1.heap.objs.size], _, _, H1, rfl, I1.kept (t' := s1.toks) fun b o e => Heap.get?_push_of_some _ e, turn_list a _, ⟨_, Heap.get?_push_size _ rfl, rfl, rfl⟩, fun b hb => ?_, q⟩
  have e : b = s1.heap.objs.size := by simpa using hb
  subst e
  exact I1.fpOk (Nat.le_refl _) (I1.hok.fresh (Nat.le_refl _))
theorem range_it {pins : List (Addr × Obj)} {σ : St} {H : Hp} {s : Shared} {R : It → Hp → Prop} {E : Value → Shared → Prop} {lo hi : Int} {t u v : Tok} {tk : Nat} (I : Inv X pins σ H s) (h1 : -(2 ^ 62) ≤ lo) (h2 : lo < 2 ^ 62) (h3 : -(2 ^ 62) ≤ hi) (h4 : hi < 2 ^ 62)
    (q : R (Itr lo (hi - lo).toNat) H) : wpAny (model X.prog X.w) X.A (pyIter (.ref s.heap.objs.size)) (PIE X pins σ tg R) E { s with heap := s.heap.push { cls := .type "range", data := .fields #[.int lo t, .int hi u, .int 1 v] }, toks := tk } := by
  refine wpAny_pyIter_range (IsRange.new ..) (small_one h1 h2 h3 h4) ?_
  have I1 : Inv X pins σ H { s with heap := s.heap.push { cls := .type "range", data := .fields #[.int lo t, .int hi u, .int 1 v] }, toks := tk } := I.kept fun b o e => Heap.get?_push_of_some _ e
  refine ⟨(s.heap.push { cls := .type "range", data := .fields #[.int lo t, .int hi u, .int 1 v] }).objs.size, [(s.heap.push { cls := .type "range", data := .fields #[.int lo t, .int hi u, .int 1 v] }).objs.size], _, _, H, rfl,
    I1.kept (t' := tk) fun b o e => Heap.get?_push_of_some _ e, turn_range _ lo (hi - lo).toNat, ?_, fun b hb => ?_, q⟩
  · have e1 : lo + ((0 : Nat) : Int) * 1 = lo := by simp
    have e2 : (((hi - lo).toNat : Nat) : Int) - ((0 : Nat) : Int) = Builtin.Range.rangeSize lo hi 1 := by rw [rangeSize_one]; split <;> omega
    show IsRangeIter _ _ (lo + ((0 : Nat) : Int) * 1) ((((hi - lo).toNat : Nat) : Int) - ((0 : Nat) : Int)) 1
    rw [e1, e2]
    exact Heap.get?_push_size _ rfl
  · have e : b = (s.heap.push { cls := .type "range", data := .fields #[.int lo t, .int hi u, .int 1 v] }).objs.size := by simpa using hb
    subst e
    exact I1.fpOk (Nat.le_refl _) (I1.hok.fresh (Nat.le_refl _))
def iRng1 (ta : TA) : TI := fun σ H R => ta σ H fun vs H1 => ∃ j : Int, vs = [.int j] ∧ -(2 ^ 62) ≤ j ∧ j < 2 ^ 62 ∧ R (Itr 0 j.toNat) H1
def iRng2 (ta : TA) : TI := fun σ H R => ta σ H fun vs H1 => ∃ i j : Int, vs = [.int i, .int j] ∧ (-(2 ^ 62) ≤ i ∧ i < 2 ^ 62 ∧ -(2 ^ 62) ≤ j ∧ j < 2 ^ 62) ∧ R (Itr i (j - i).toNat) H1
theorem pi_range1 {a : Expr} {ta : TA} {p pos : Pos} (hg : Gl X "range") (hm : X.mg "range" = none) (ha : PA X [a] ta) (hs : starEach [a] X.env = [(false, eval a X.env)] := by rfl) : PI X tg (.Call (.Name "range" p) [a] [] pos) (iRng1 ta) := by
  intro pins s σ H R I h
  refine Call_ (ld_blt I hg hm boot_range (PyProof.Rows.callWith_type1 (thn (ha pos pins s σ H _ I h) fun us s1 ⟨vs, H1, I1, r1, q1⟩ => ?_) hs rfl))
  obtain ⟨j, e, q1, q2, q⟩ := q1
  subst e
  cases r1 with
  | cons r rr =>
    cases rr
    obtain ⟨t, rfl⟩ := r
    exact call_range_1 (range_it I1 (by omega) (by omega) q1 q2 (by simpa using q))
theorem pi_range2 {a b : Expr} {ta : TA} {p pos : Pos} (hg : Gl X "range") (hm : X.mg "range" = none) (ha : PA X [a, b] ta) (hs : starEach [a, b] X.env = [(false, eval a X.env), (false, eval b X.env)] := by rfl) (hs2 : starEach [b] X.env = [(false, eval b X.env)] := by rfl) :
    PI X tg (.Call (.Name "range" p) [a, b] [] pos) (iRng2 ta) := by
  intro pins s σ H R I h
  refine Call_ (ld_blt I hg hm boot_range (PyProof.Rows.callWith_type1 (thn (ha pos pins s σ H _ I h) fun us s1 ⟨vs, H1, I1, r1, q1⟩ => ?_) (by rw [hs, hs2]) (by rw [hs2]; rfl)))
  obtain ⟨i, j, e, ⟨q1, q2, q3, q4⟩, q⟩ := q1
  subst e
  cases r1 with
  | cons r rr =>
    cases rr with
    | cons r' rr =>
      cases rr
      obtain ⟨t, rfl⟩ := r
      obtain ⟨t', rfl⟩ := r'
      exact call_range_2 (range_it I1 q1 q2 q3 q4 q)

def tFor (wi : TI) (g : TG) (tb : TS) : TS := fun D σ H => wi σ H fun J H1 => ∃ W : Nat → Nat → St → Hp → Prop, (∃ m, W 0 m σ H1) ∧ ∀ i m σ H, W i m σ H →
  (J.stop i H ∧ D.nx σ H) ∨ (J.go i H ∧ ∃ N : St → Hp → Prop, (∀ σ' H', N σ' H' → ∃ m', m' < m ∧ W (i + 1) m' σ' H') ∧ ∀ x H', J.yld i H x H' → g x σ H' fun σ2 H2 => tb { D with nx := N, ct := N, bk := D.nx } σ2 H2)
def pinsAt (fp : List Addr) (h : Heap) : List (Addr × Obj) := fp.filterMap fun b => (h.get? b).map fun o => (b, o)
theorem mem_pinsAt {fp : List Addr} {h : Heap} {b : Addr} {o : Obj} (hb : b ∈ fp) (e : h.get? b = some o) : (b, o) ∈ pinsAt fp h := List.mem_filterMap.mpr ⟨b, hb, by rw [e]; rfl⟩
theorem of_pinsAt {fp : List Addr} {h : Heap} {p : Addr × Obj} (hp : p ∈ pinsAt fp h) : p.1 ∈ fp ∧ h.get? p.1 = some p.2 := by
  obtain ⟨b, hb, e⟩ := List.mem_filterMap.mp hp
  cases q : h.get? b with
  | none => rw [q] at e; cases e
  | some o =>
    rw [q] at e
    have e' : (b, o) = p := Option.some.inj e
    subst e'
    exact ⟨hb, q⟩
theorem Inv.pinned {pins : List (Addr × Obj)} {σ : St} {H : Hp} {s : Shared} {fp : List Addr} (I : Inv X pins σ H s) (hf : ∀ b ∈ fp, FpOk X pins H b) (ho : ∀ b ∈ fp, ∃ o, s.heap.get? b = some o ∧ ∀ v, o.data ≠ .cell v) : Inv X (pins ++ pinsAt fp s.heap) σ H s :=
  I.pins_of fun p hp => (List.mem_append.mp hp).elim (fun z => I.pin p (List.mem_append_right _ z)) fun z => by
    obtain ⟨hb, e⟩ := of_pinsAt z
    obtain ⟨f0, f1, f2, _⟩ := hf p.1 hb
    obtain ⟨o, e', d⟩ := ho p.1 hb
    rw [e] at e'; cases e'
    exact ⟨e, f0, f1, f2, d⟩
theorem Inv.unpinned {pins pl : List (Addr × Obj)} {σ : St} {H : Hp} {s : Shared} (I : Inv X (pins ++ pl) σ H s) : Inv X pins σ H s := I.pins_of fun p hp => I.pin p (List.mem_append_right _ (List.mem_append_left _ hp))
theorem ps_for {iter : Expr} {body : List Stmt} {wi : TI} {g : TG} {tb : TS} {pos : Pos} (hp : PassesOwn (model X.prog X.w) X.A X.env X.xe) (hc : X.calm = true) (hi : PI X tg iter wi) (hg : PG X tg g) (hb : PSs X body tb)
    (hs : ∀ x, foldedSetIterable iter X.env x = pure x := by intro _; rfl) : PS X (.For tg iter body [] pos) (tFor wi g tb) := by
  intro pins s σ H D I h
  refine wpAny_For (thn (hi pins s σ H _ I h) fun v s1 h1 => thn h1 fun itv s2 h2 => ?_) hs
  obtain ⟨it, fp, tn, J, H2, e, I2, T, st2, f2, W, ⟨m0, w0⟩, turn⟩ := h2
  subst e
  have stat : ∀ {H' : Hp}, (∀ b ∈ fp, H' b = none) → ∀ b ∈ fp, FpOk X pins H' b := fun hn b hb => ⟨hn b hb, (f2 b hb).2⟩
  refine codeAny_forLoop_any (fun n s' => ∃ i σ' H', Inv X pins σ' H' s' ∧ tn i s'.heap ∧ (∀ b ∈ fp, H' b = none) ∧ W i n σ' H') ?_ m0 ⟨0, σ, H2, I2, st2, fun b hb => (f2 b hb).1, w0⟩
  rintro n s3 ⟨i, σ3, H3, I3, st3, fr3, w3⟩
  rcases turn i n σ3 H3 w3 with ⟨stop, qn⟩ | ⟨go, N, hN, step⟩
  · refine wpAny_passesOwn hp (thn (T.done X rfl rfl rfl hc i pins s3 σ3 H3 X.xe I3 (stat fr3) st3 stop) fun r s4 ⟨hr, I4⟩ => ?_)
    subst hr
    exact wpAny_execs_nil ⟨σ3, H3, I4, qn⟩
  · refine wpAny_passesOwn hp (thn (T.item X rfl rfl rfl hc i pins s3 σ3 H3 X.xe I3 (stat fr3) st3 go) fun r s4 ⟨u, hr, h4⟩ => ?_)
    subst hr
    refine wpAny_passesOwn hp (thn h4 fun _ s5 ⟨x, H5, I5, r5, y5, st5, fr5⟩ => ?_)
    have I5' := I5.pinned (stat fr5) (T.obj _ _ st5)
    refine wpAny_passesOwn hp (thn (hg _ s5 σ3 H5 x u _ I5' r5 (step x H5 y5)) fun _ s6 ⟨σ6, H6, I6, q6⟩ => ?_)
    refine wpAny_passesOwn hp (thn (hb _ s6 σ6 H6 _ I6 q6) fun f s7 q7 => ?_)
    have again : ∀ {σ7 : St} {H7 : Hp}, Inv X (pins ++ pinsAt fp s5.heap) σ7 H7 s7 → N σ7 H7 → ∃ m, m < n ∧ ∃ i σ' H', Inv X pins σ' H' s7 ∧ tn i s7.heap ∧ (∀ b ∈ fp, H' b = none) ∧ W i m σ' H' := fun {σ7 H7} I7 n7 => by
      obtain ⟨m', hm, w7⟩ := hN σ7 H7 n7
      refine ⟨m', hm, i + 1, σ7, H7, I7.unpinned, T.keep _ _ _ st5 fun b hb o e => (I7.pin (b, o) (List.mem_append_right _ (List.mem_append_right _ (mem_pinsAt hb e)))).1, fun b hb => ?_, w7⟩
      obtain ⟨o, e, d⟩ := T.obj _ _ st5 b hb
      exact (I7.pin (b, o) (List.mem_append_right _ (List.mem_append_right _ (mem_pinsAt hb e)))).2.1
    cases f with
    | next => obtain ⟨σ7, H7, I7, n7⟩ := q7; exact again I7 n7
    | cont => obtain ⟨σ7, H7, I7, n7⟩ := q7; exact again I7 n7
    | brk => obtain ⟨σ7, H7, I7, q7⟩ := q7; exact ⟨σ7, H7, I7.unpinned, q7⟩
    | ret v => obtain ⟨x7, σ7, H7, I7, r7, q7⟩ := q7; exact ⟨x7, σ7, H7, I7.unpinned, r7, q7⟩
end

theorem for_list {K : PySem.W.Frag} {a : Addr} {xs : List V} {g : TG} {tb : TS} {D : Ends} {σ : St} {H : Hp} (Pv : Nat → St → Hp → Prop) (h0 : Pv 0 σ H) (hl : ∀ i σ H, i ≤ xs.length → Pv i σ H → SqL K H a xs)
    (hs : ∀ i x σ H, xs[i]? = some x → Pv i σ H → g x σ H fun σ2 H2 => tb { D with nx := Pv (i + 1), ct := Pv (i + 1), bk := D.nx } σ2 H2) (hd : ∀ σ H, Pv xs.length σ H → D.nx σ H) :
    ∃ W : Nat → Nat → St → Hp → Prop, (∃ m, W 0 m σ H) ∧ ∀ i m σ H, W i m σ H →
      ((Itl K a).stop i H ∧ D.nx σ H) ∨ ((Itl K a).go i H ∧ ∃ N : St → Hp → Prop, (∀ σ' H', N σ' H' → ∃ m', m' < m ∧ W (i + 1) m' σ' H') ∧ ∀ x H', (Itl K a).yld i H x H' → g x σ H' fun σ2 H2 => tb { D with nx := N, ct := N, bk := D.nx } σ2 H2) := by
  refine ⟨fun i m σ H => m = xs.length - i ∧ i ≤ xs.length ∧ Pv i σ H, ⟨xs.length, by simp, Nat.zero_le _, h0⟩, ?_⟩
  rintro i m σ H ⟨rfl, hi, p⟩
  have q := hl i σ H hi p
  by_cases hlt : i < xs.length
  · refine .inr ⟨⟨xs, xs[i], q, by simp [hlt]⟩, Pv (i + 1), fun σ' H' p' => ⟨xs.length - (i + 1), by omega, rfl, hlt, p'⟩, fun x H' y => ?_⟩
    obtain ⟨e, y⟩ := y
    subst e
    exact hs i x σ _ (y xs q) p
  · have e : i = xs.length := by omega
    subst e
    exact .inl ⟨⟨xs, q, Nat.le_refl _⟩, hd σ H p⟩
theorem for_range {lo : Int} {n : Nat} {g : TG} {tb : TS} {D : Ends} {σ : St} {H : Hp} (Pv : Nat → St → Hp → Prop) (h0 : Pv 0 σ H)
    (hs : ∀ i σ H, i < n → Pv i σ H → g (.int (lo + i)) σ H fun σ2 H2 => tb { D with nx := Pv (i + 1), ct := Pv (i + 1), bk := D.nx } σ2 H2) (hd : ∀ σ H, Pv n σ H → D.nx σ H) :
    ∃ W : Nat → Nat → St → Hp → Prop, (∃ m, W 0 m σ H) ∧ ∀ i m σ H, W i m σ H →
      ((Itr lo n).stop i H ∧ D.nx σ H) ∨ ((Itr lo n).go i H ∧ ∃ N : St → Hp → Prop, (∀ σ' H', N σ' H' → ∃ m', m' < m ∧ W (i + 1) m' σ' H') ∧ ∀ x H', (Itr lo n).yld i H x H' → g x σ H' fun σ2 H2 => tb { D with nx := N, ct := N, bk := D.nx } σ2 H2) := by
  refine ⟨fun i m σ H => m = n - i ∧ i ≤ n ∧ Pv i σ H, ⟨n, by simp, Nat.zero_le _, h0⟩, ?_⟩
  rintro i m σ H ⟨rfl, hi, p⟩
  by_cases hlt : i < n
  · refine .inr ⟨hlt, Pv (i + 1), fun σ' H' p' => ⟨n - (i + 1), by omega, rfl, hlt, p'⟩, fun x H' y => ?_⟩
    obtain ⟨e, y⟩ := y
    subst e y
    exact hs i σ _ hlt p
  · have e : i = n := by omega
    subst e
    exact .inl ⟨Nat.le_refl _, hd σ H p⟩
end L2

namespace L2
open PySem PySem.Spec PyProof.Rows

abbrev R2 := V → V → Hp → VK → Prop
def OpR (X : Cx) (f : Value → Value → Sem Value) (r : R2) : Prop :=
  ∀ (pins : List (Addr × Obj)) (s : Shared) (σ : St) (H : Hp) (x y : V) (v u : Value) (Q : VK), Inv X pins σ H s → RelV x v → RelV y u → r x y H Q →
    wpAny (model X.prog X.w) X.A (f v u) (EP X pins σ Q) X.xe s
def CallR (X : Cx) (f : Value) (r : List V → Hp → VK → Prop) : Prop :=
  ∀ (pins : List (Addr × Obj)) (s : Shared) (σ : St) (H : Hp) (xs : List V) (us : List Value) (Q : VK), Inv X pins σ H s → Vals xs us → r xs H Q →
    wpAny (model X.prog X.w) X.A (call f us) (EP X pins σ Q) X.xe s

def tOp (r : R2) (ta tb : TE) : TE := fun σ H Q => ta σ H fun x H1 => tb σ H1 fun y H2 => r x y H2 Q
def rI (C : Int → Int → Prop) (g : Int → Int → V) : R2 := fun x y H Q => ∃ i j, x = .int i ∧ y = .int j ∧ C i j ∧ Q (g i j) H
def rI0 (g : Int → Int → V) : R2 := fun x y H Q => ∃ i j, x = .int i ∧ y = .int j ∧ Q (g i j) H

section
variable {X : Cx} {a b c : Expr} {ta tb tc : TE} {pos : Pos}

theorem binT (ha : PE X a ta) (hb : PE X b tb) {pins : List (Addr × Obj)} {s : Shared} {σ : St} {H : Hp} {R : V → V → Hp → Prop} (I : Inv X pins σ H s)
    (h : ta σ H fun x H1 => tb σ H1 fun y H2 => R x y H2) {Q : Value → Shared → Prop} {f : Value → Value → Sem Value}
    (hf : ∀ v u s2 x y H2, Inv X pins σ H2 s2 → RelV x v → RelV y u → R x y H2 → wpAny (model X.prog X.w) X.A (f v u) Q X.xe s2) :
    wpAny (model X.prog X.w) X.A (eval a X.env) (fun v s₁ => wpAny (model X.prog X.w) X.A (eval b X.env) (fun u s₂ => wpAny (model X.prog X.w) X.A (f v u) Q X.xe s₂) X.xe s₁) X.xe s := by
  refine thn (ha pins s σ H _ I h) fun v s1 ⟨x, H1, I1, r1, q1⟩ => ?_
  refine thn (hb pins s1 σ H1 _ I1 q1) fun u s2 ⟨y, H2, I2, r2, q2⟩ => ?_
  exact hf v u s2 x y H2 I2 r1 r2 q2

theorem pe_op {op : Operator} {r : R2} (ho : OpR X (binaryOp op) r) (ha : PE X a ta) (hb : PE X b tb) : PE X (.BinOp a op b pos) (tOp r ta tb) := by
  intro pins s σ H Q I h
  exact wpAny_BinOp (binT ha hb I h fun v u s2 x y H2 I2 rx ry q => ho pins s2 σ H2 x y v u Q I2 rx ry q)

theorem opI {f : Value → Value → Sem Value} {C : Int → Int → Prop} {g : Int → Int → Int}
    (rule : ∀ (i j : Int) (t u : Tok) (s : Shared) (Q : Value → Shared → Prop) (E : Value → Shared → Prop), C i j → Q (.int (g i j) s.toks) { s with toks := s.toks + 1 } → wpAny (model X.prog X.w) X.A (f (.int i t) (.int j u)) Q E s) :
    OpR X f (rI C fun i j => .int (g i j)) := by
  intro pins s σ H x y v u Q I rx ry h
  obtain ⟨i, j, rfl, rfl, hc, q⟩ := h
  obtain ⟨t, rfl⟩ := rx
  obtain ⟨t', rfl⟩ := ry
  exact rule i j t t' s _ _ hc ⟨.int (g i j), H, I.tok _, ⟨_, rfl⟩, q⟩
theorem opI0 {f : Value → Value → Sem Value} {g : Int → Int → Int}
    (rule : ∀ (i j : Int) (t u : Tok) (s : Shared) (Q : Value → Shared → Prop) (E : Value → Shared → Prop), Q (.int (g i j) s.toks) { s with toks := s.toks + 1 } → wpAny (model X.prog X.w) X.A (f (.int i t) (.int j u)) Q E s) :
    OpR X f (rI0 fun i j => .int (g i j)) := by
  intro pins s σ H x y v u Q I rx ry h
  obtain ⟨i, j, rfl, rfl, q⟩ := h
  obtain ⟨t, rfl⟩ := rx
  obtain ⟨t', rfl⟩ := ry
  exact rule i j t t' s _ _ ⟨.int (g i j), H, I.tok _, ⟨_, rfl⟩, q⟩
theorem opB0 {f : Value → Value → Sem Value} {g : Int → Int → Bool}
    (rule : ∀ (i j : Int) (t u : Tok) (s : Shared) (Q : Value → Shared → Prop) (E : Value → Shared → Prop), Q (.bool (g i j)) s → wpAny (model X.prog X.w) X.A (f (.int i t) (.int j u)) Q E s) :
    OpR X f (rI0 fun i j => .bl (g i j)) := by
  intro pins s σ H x y v u Q I rx ry h
  obtain ⟨i, j, rfl, rfl, q⟩ := h
  obtain ⟨t, rfl⟩ := rx
  obtain ⟨t', rfl⟩ := ry
  exact rule i j t t' s _ _ ⟨.bl (g i j), H, I, rfl, q⟩

def CDiv (i j : Int) : Prop := 0 < j ∧ j < 1073741824
def CPow (i j : Int) : Prop := 0 ≤ j ∧ j ≤ 1000000 ∧ i.natAbs < 2 ^ 64
def CMul (i j : Int) : Prop := (-(2 ^ 64) < i ∧ i < 2 ^ 64) ∨ (-(2 ^ 64) < j ∧ j < 2 ^ 64)
theorem CMul.ok {i j : Int} (h : CMul i j) : IntMulOk i j := by
  rcases h with ⟨h1, h2⟩ | ⟨h1, h2⟩
  · exact .of_left (intBits_le_64 h1 h2)
  · exact .of_right (intBits_le_64 h1 h2)

theorem op_add : OpR X (binaryOp .Add) (rI0 fun i j => .int (i + j)) := opI0 fun _ _ _ _ _ _ _ q => add_int q
theorem op_sub : OpR X (binaryOp .Sub) (rI0 fun i j => .int (i - j)) := opI0 fun _ _ _ _ _ _ _ q => sub_int q
theorem op_mul : OpR X (binaryOp .Mult) (rI CMul fun i j => .int (i * j)) := opI fun _ _ _ _ _ _ _ hc q => mul_int q hc.ok
theorem op_fdiv : OpR X (binaryOp .FloorDiv) (rI CDiv fun i j => .int (i / j)) := opI fun i j _ _ _ _ _ hc q => by
  have h1 : (0 : Int) < j := hc.1
  have h2 : j < 1073741824 := hc.2
  exact floordiv_int (by omega) (by rw [Int.fdiv_eq_ediv_of_nonneg i (by omega)]; exact q) (.inl (PyProof.noPylong_small (by omega)))
theorem op_mod : OpR X (binaryOp .Mod) (rI (fun _ j => 0 < j) fun i j => .int (i % j)) := opI fun i j _ _ _ _ _ hc q => by
  have h1 : (0 : Int) < j := hc
  exact mod_int' (by omega) (by rw [Int.fmod_eq_emod_of_nonneg i (by omega)]; exact q)
theorem op_pow : OpR X (binaryOp .Pow) (rI CPow fun i j => .int (i ^ j.toNat)) := opI fun _ _ _ _ _ _ _ hc q => pow_int_small hc.1 hc.2.1 hc.2.2 q



end

def scal : V → V → Bool
  | .non, .non => true | .non, .int _ => true | .int _, .non => true | .non, .bl _ => true | .bl _, .non => true | .non, .str _ => true | .str _, .non => true
  | .int _, .int _ => true | .bl _, .bl _ => true | .str _, .str _ => true | .byt _, .byt _ => true
  | .int _, .str _ => true | .str _, .int _ => true | .bl _, .str _ => true | .str _, .bl _ => true
  | _, _ => false
def rEq : R2 := fun x y H Q => scal x y = true ∧ Q (.bl (decide (x = y))) H
def rNe : R2 := fun x y H Q => scal x y = true ∧ Q (.bl (!decide (x = y))) H

theorem dec_int {i j : Int} : decide (V.int i = V.int j) = (i == j) := by
  rw [Bool.eq_iff_iff]
  simp
theorem dec_bl {i j : Bool} : decide (V.bl i = V.bl j) = (i == j) := by
  rw [Bool.eq_iff_iff]
  simp
theorem dec_str {i j : Str} : decide (V.str i = V.str j) = (i == j) := by
  rw [Bool.eq_iff_iff]
  simp
theorem dec_byt {i j : Array UInt8} : decide (V.byt i = V.byt j) = (i.toList == j.toList) := by
  rw [Bool.eq_iff_iff]
  cases i
  cases j
  simp

section
variable {X : Cx} {a b c : Expr} {ta tb tc : TE} {pos : Pos}
theorem fin_bl {pins : List (Addr × Obj)} {σ : St} {H : Hp} {s : Shared} {Q : VK} {k k' : Bool} (I : Inv X pins σ H s) (q : Q (.bl k) H) (e : k = k') : EP X pins σ Q (.bool k') s := by
  subst e
  exact ⟨.bl k, H, I, rfl, q⟩
theorem op_eq : OpR X (compareOp .Eq) rEq := by
  intro pins s σ H x y v u Q I rx ry h
  obtain ⟨hs, q⟩ := h
  cases x with
  | non =>
    cases rx
    cases y with
    | non => cases ry; exact PySem.EqNone.eq_none_none (fin_bl I q (by simp))
    | bl j => cases ry; exact PySem.EqNone.eq_none_bool (fin_bl I q (by simp))
    | int j => obtain ⟨t', rfl⟩ := ry; exact PySem.EqNone.eq_none_int (fin_bl I q (by simp))
    | str j => obtain ⟨t', rfl⟩ := ry; exact PySem.EqNone.eq_none_str (fin_bl I q (by simp))
    | _ => exact absurd (show false = true from hs) Bool.false_ne_true
  | bl i =>
    cases rx
    cases y with
    | non => cases ry; exact PySem.EqNone.eq_bool_none (fin_bl I q (by simp))
    | bl j => cases ry; exact eq_bool (fin_bl I q dec_bl)
    | str j => obtain ⟨t', rfl⟩ := ry; exact PySem.EqMixed.eq_bool_str (fin_bl I q (by simp))
    | _ => exact absurd (show false = true from hs) Bool.false_ne_true
  | int i =>
    obtain ⟨t, rfl⟩ := rx
    cases y with
    | non => cases ry; exact PySem.EqNone.eq_int_none (fin_bl I q (by simp))
    | int j => obtain ⟨t', rfl⟩ := ry; exact eq_int (fin_bl I q dec_int)
    | str j => obtain ⟨t', rfl⟩ := ry; exact PySem.EqMixed.eq_int_str (fin_bl I q (by simp))
    | _ => exact absurd (show false = true from hs) Bool.false_ne_true
  | str i =>
    obtain ⟨t, rfl⟩ := rx
    cases y with
    | non => cases ry; exact PySem.EqNone.eq_str_none (fin_bl I q (by simp))
    | bl j => cases ry; exact PySem.EqMixed.eq_str_bool (fin_bl I q (by simp))
    | int j => obtain ⟨t', rfl⟩ := ry; exact PySem.EqMixed.eq_str_int (fin_bl I q (by simp))
    | str j => obtain ⟨t', rfl⟩ := ry; exact eq_str (fin_bl I q dec_str)
    | _ => exact absurd (show false = true from hs) Bool.false_ne_true
  | byt i =>
    obtain ⟨t, rfl⟩ := rx
    cases y with
    | byt j => obtain ⟨t', rfl⟩ := ry; exact PySem.W.eq_bytes (fin_bl I q dec_byt)
    | _ => exact absurd (show false = true from hs) Bool.false_ne_true
  | _ => cases y <;> exact absurd (show false = true from hs) Bool.false_ne_true
theorem op_ne : OpR X (compareOp .NotEq) rNe := by
  intro pins s σ H x y v u Q I rx ry h
  obtain ⟨hs, q⟩ := h
  cases x with
  | non =>
    cases rx
    cases y with
    | non => cases ry; exact PySem.EqNone.ne_none_none (fin_bl I q (by simp))
    | bl j => cases ry; exact PySem.EqNone.ne_none_bool (fin_bl I q (by simp))
    | int j => obtain ⟨t', rfl⟩ := ry; exact PySem.EqNone.ne_none_int (fin_bl I q (by simp))
    | str j => obtain ⟨t', rfl⟩ := ry; exact PySem.EqNone.ne_none_str (fin_bl I q (by simp))
    | _ => exact absurd (show false = true from hs) Bool.false_ne_true
  | bl i =>
    cases rx
    cases y with
    | non => cases ry; exact PySem.EqNone.ne_bool_none (fin_bl I q (by simp))
    | bl j => cases ry; exact ne_bool (fin_bl I q (congrArg not dec_bl))
    | str j => obtain ⟨t', rfl⟩ := ry; exact PySem.EqMixed.ne_bool_str (fin_bl I q (by simp))
    | _ => exact absurd (show false = true from hs) Bool.false_ne_true
  | int i =>
    obtain ⟨t, rfl⟩ := rx
    cases y with
    | non => cases ry; exact PySem.EqNone.ne_int_none (fin_bl I q (by simp))
    | int j => obtain ⟨t', rfl⟩ := ry; exact ne_int (fin_bl I q (congrArg not dec_int))
    | str j => obtain ⟨t', rfl⟩ := ry; exact PySem.EqMixed.ne_int_str (fin_bl I q (by simp))
    | _ => exact absurd (show false = true from hs) Bool.false_ne_true
  | str i =>
    obtain ⟨t, rfl⟩ := rx
    cases y with
    | non => cases ry; exact PySem.EqNone.ne_str_none (fin_bl I q (by simp))
    | bl j => cases ry; exact PySem.EqMixed.ne_str_bool (fin_bl I q (by simp))
    | int j => obtain ⟨t', rfl⟩ := ry; exact PySem.EqMixed.ne_str_int (fin_bl I q (by simp))
    | str j => obtain ⟨t', rfl⟩ := ry; exact ne_str (fin_bl I q (congrArg not dec_str))
    | _ => exact absurd (show false = true from hs) Bool.false_ne_true
  | byt i =>
    obtain ⟨t, rfl⟩ := rx
    cases y with
    | byt j => obtain ⟨t', rfl⟩ := ry; exact PySem.W.ne_bytes (fin_bl I q (congrArg not dec_byt))
    | _ => exact absurd (show false = true from hs) Bool.false_ne_true
  | _ => cases y <;> exact absurd (show false = true from hs) Bool.false_ne_true

theorem op_lt : OpR X (compareOp .Lt) (rI0 fun i j => .bl (decide (i < j))) := opB0 fun _ _ _ _ _ _ _ q => lt_int q
theorem op_gt : OpR X (compareOp .Gt) (rI0 fun i j => .bl (decide (j < i))) := opB0 fun _ _ _ _ _ _ _ q => gt_int q
theorem op_ge : OpR X (compareOp .GtE) (rI0 fun i j => .bl (decide (j ≤ i))) := opB0 fun _ _ _ _ _ _ _ q => ge_int q

theorem op_isN : OpR X (compareOp .Is) (fun x y H Q => y = .non ∧ Q (.bl (decide (x = .non))) H) := by
  intro pins s σ H x y v u Q I rx ry h
  obtain ⟨rfl, q⟩ := h
  cases ry
  refine is_none_gen (fin_bl I q ?_)
  cases x <;> first
    | (cases rx; rfl)
    | (obtain ⟨t, rfl⟩ := rx; rfl)



theorem nomark (b : Expr) {op : CmpOp} (h : op ≠ .In := by decide) (h2 : op ≠ .NotIn := by decide) : behindInMarks op b = false := by
  have e1 : (op == CmpOp.In) = false := by cases op <;> first | rfl | exact absurd rfl h
  have e2 : (op == CmpOp.NotIn) = false := by cases op <;> first | rfl | exact absurd rfl h2
  cases b <;> simp [behindInMarks, e1, e2]
theorem pe_cmpR {op : CmpOp} {r : R2} (ho : OpR X (compareOp op) r) (ha : PE X a ta) (hb : PE X b tb) (hm : behindInMarks op b = false) : PE X (.Compare a [op] [b] pos) (tOp r ta tb) := by
  intro pins s σ H Q I h
  exact wpAny_Compare1 (binT ha hb I h fun v u s2 x y H2 I2 rx ry q => ho pins s2 σ H2 x y v u Q I2 rx ry q) hm
def tTest (t : TE) : TT := fun σ H Q => t σ H fun x H' => ∃ k, x = .bl k ∧ Q k H'
theorem pt_cmpR {op : CmpOp} {r : R2} (ho : OpR X (compareOp op) r) (ha : PE X a ta) (hb : PE X b tb) (hm : behindInMarks op b = false) : PT X (.Compare a [op] [b] pos) (tTest (tOp r ta tb)) := by
  intro pins s σ H Q I h
  refine wpAny_isTrue_Compare1 (thn (ha pins s σ H _ I h) fun v s1 ⟨x, H1, I1, r1, q1⟩ => thn (hb pins s1 σ H1 _ I1 q1) fun u s2 ⟨y, H2, I2, r2, q2⟩ =>
    thn (ho pins s2 σ H2 x y v u _ I2 r1 r2 q2) fun c s3 ⟨z, H3, I3, r3, k, e, q3⟩ => ?_) hm
  subst e
  cases r3
  exact wpAny_truthy_bool ⟨H3, I3, q3⟩

theorem line63 : (sizeLine : Nat) < 2 ^ 63 := by rw [sizeLine_eq]; decide

theorem op_add_str : OpR X (binaryOp .Add) (fun x y H Q => ∃ i j, x = .str i ∧ y = .str j ∧ i.length + j.length ≤ sizeLine ∧ Q (.str (i ++ j)) H) := by
  intro pins s σ H x y v u Q I rx ry h
  obtain ⟨i, j, rfl, rfl, hz, q⟩ := h
  obtain ⟨t, rfl⟩ := rx
  obtain ⟨t', rfl⟩ := ry
  exact add_str (fun t' tk => ⟨.str (i ++ j), H, I.tok _, ⟨_, rfl⟩, q⟩) hz

def PlainIxT (b : Expr) : Prop := ∀ o i, subscripted b false o i = operate [o, i] (getItem o i)
theorem pe_item_str (ha : PE X a ta) (hb : PE X b tb) (hs : PlainIxT b) :
    PE X (.Subscript a b pos) (tOp (fun x y H Q => ∃ z i c, x = .str z ∧ y = .int i ∧ 0 ≤ i ∧ i < 2 ^ 63 ∧ i < z.length ∧ z.cps[i.toNat]? = some c ∧ Q (.str ⟨#[c]⟩) H) ta tb) := by
  intro pins s σ H Q I h
  refine Subscript_ (binT ha hb I h fun v u s2 x y H2 I2 rx ry q => ?_)
  obtain ⟨z, i, c, rfl, rfl, h0, h63, h1, hc, q⟩ := q
  obtain ⟨t, rfl⟩ := rx
  obtain ⟨t', rfl⟩ := ry
  have e : seqIndex? i z.length = some i.toNat := PySem.StrLaws.seqIndex_nonneg h0 h1
  exact tail_any (typeIs_str s2 z t) slot_str_getitem.lookup (getItem_str (c := c) (by
    have e1 : decide (i < -(2 ^ 63 : Int)) = false := decide_eq_false (by omega)
    have e2 : decide (i ≥ 2 ^ 63) = false := decide_eq_false (by omega)
    rw [e1, e2] <;> rfl) (by rw [e]; exact hc) ⟨.str ⟨#[c]⟩, H2, I2.tok _, ⟨_, rfl⟩, q⟩) (hs _ _)

theorem vals1 {x : V} {us : List Value} (r : Vals [x] us) : ∃ u, us = [u] ∧ RelV x u := by
  cases r with
  | cons r1 r2 => cases r2; exact ⟨_, rfl, r1⟩
theorem vals2 {x y : V} {us : List Value} (r : Vals [x, y] us) : ∃ u w', us = [u, w'] ∧ RelV x u ∧ RelV y w' := by
  cases r with
  | cons r1 r2 =>
    cases r2 with
    | cons r3 r4 => cases r4; exact ⟨_, _, rfl, r1, r3⟩
theorem call_abs : CallR X (.builtin "abs") (fun xs H Q => ∃ i, xs = [.int i] ∧ Q (.int (if i < 0 then -i else i)) H) := by
  intro pins s σ H xs us Q I r h
  obtain ⟨i, rfl, q⟩ := h
  obtain ⟨u, rfl, t, rfl⟩ := vals1 r
  exact call_abs_int fun u tk => ⟨.int (if i < 0 then -i else i), H, I.tok _, ⟨_, rfl⟩, q⟩
theorem call_max2 (hc : X.calm = true) : CallR X (.builtin "max") (fun xs H Q => ∃ i j, xs = [.int i, .int j] ∧ Q (.int (if j > i then j else i)) H) := by
  intro pins s σ H xs us Q I r h
  obtain ⟨i, j, rfl, q⟩ := h
  obtain ⟨u, w', rfl, ⟨t, rfl⟩, ⟨t', rfl⟩⟩ := vals2 r
  refine max_two_ints (I.ok.hd hc) fun h' tk k => ⟨_, H, I.kept k, ?_, q⟩
  by_cases hj : j > i
  · rw [if_pos hj, if_pos hj]; exact ⟨_, rfl⟩
  · rw [if_neg hj, if_neg hj]; exact ⟨_, rfl⟩
theorem call_min2 (hc : X.calm = true) : CallR X (.builtin "min") (fun xs H Q => ∃ i j, xs = [.int i, .int j] ∧ Q (.int (if j < i then j else i)) H) := by
  intro pins s σ H xs us Q I r h
  obtain ⟨i, j, rfl, q⟩ := h
  obtain ⟨u, w', rfl, ⟨t, rfl⟩, ⟨t', rfl⟩⟩ := vals2 r
  refine min_two_ints (I.ok.hd hc) fun h' tk k => ⟨_, H, I.kept k, ?_, q⟩
  by_cases hj : j < i
  · rw [if_pos hj, if_pos hj]; exact ⟨_, rfl⟩
  · rw [if_neg hj, if_neg hj]; exact ⟨_, rfl⟩
end
end L2

namespace L2
open PySem PySem.Spec PyProof.Rows

structure ObjM (h : Heap) (x dx C : Addr) (mA : Str → Option Value) : Prop where
  obj : h.get? x = some (PySem.W.instObj C dx)
  ns : h.Ns1 dx mA
  ne : dx ≠ x

theorem lookIn_ns {h : Heap} {dx : Addr} {mA : Str → Option Value} (n : h.Ns1 dx mA) : ∃ od, h.get? dx = some od ∧ ∀ name, PySem.W.lookIn name od = some (mA name) := by
  obtain ⟨o, es, ep, ho, hd, hk, _, hm⟩ := n
  refine ⟨o, ho, fun name => ?_⟩
  have e := hm name
  unfold nsFind findBy at e
  rw [← Array.find?_toList] at e
  unfold PySem.W.lookIn
  rw [hd]
  dsimp only
  split
  · rename_i y q
    rw [q] at e
    exact congrArg some e
  · rename_i q
    rw [q] at e
    have a : es.toList.any (·.refKey) = false := by
      rw [List.any_eq_false]
      intro y hy
      obtain ⟨z, t, hkey⟩ := hk y (Array.mem_toList_iff.mp hy)
      simp [DictEntry.refKey, hkey]
    have a' : ¬ es.toList.any (·.refKey) = true := by rw [a]; exact Bool.false_ne_true
    rw [if_neg a']
    exact congrArg some e

theorem ObjM.look {h : Heap} {x dx C : Addr} {mA : Str → Option Value} (I : ObjM h x dx C mA) : ∃ od, PySem.W.InstAt h x (PySem.W.instObj C dx) C (some od) ∧ ∀ name, PySem.W.lookIn name od = some (mA name) :=
  let ⟨od, ho, hl⟩ := lookIn_ns I.ns
  ⟨od, ⟨I.obj, rfl, rfl, ho⟩, hl⟩

section
variable {prog : Program} {w : World} {A : Around} {E : Value → Shared → Prop} {s : Shared} {K : PySem.W.Frag} {x dx C f : Addr} {mA : Str → Option Value} {name : Str} {v : Value}

theorem get_map {expr : Bool} {Q : Value → Shared → Prop} (X : K.In s.heap) (I : ObjM s.heap x dx C mA) (hg : PySem.W.plainGet K C name = true) (hh : PySem.W.hasDictIn K C = true)
    (ha : PySem.W.findIn K (.ref C) name = some none) (hv : mA name = some v) (hv' : PySem.W.handedIn v = true) (h : Q v { s with toks := s.toks + 1 }) :
    wpAny (model prog w) A (getAttr (.ref x) name expr) Q E s := by
  obtain ⟨od, J, hl⟩ := I.look
  exact PySem.W.get_value X J (PySem.W.plainGet_of hg).1 (PySem.W.findObj_own hh ha rfl (by rw [hl, hv])) hv' h


theorem get_meth {pl : Sem Bool} {Q : Value × List Value → Shared → Prop} (X : K.In s.heap) (I : ObjM s.heap x dx C mA) (hg : PySem.W.plainGet K C name = true)
    (hf : PySem.W.findIn K (.ref C) name = some (some (.ref f))) (ht : PySem.W.isFn K (.ref f) = true) (hv : mA name = none) (h : Q (.ref f, [.ref x]) s) :
    wpAny (model prog w) A (getMethod (.ref x) name pl) Q E s := by
  obtain ⟨od, J, hl⟩ := I.look
  exact PySem.W.method_fn X J (PySem.W.plainGet_of hg).1 (PySem.W.plainGet_of hg).2 hf (beq_iff_eq.mp ht) (by show (PySem.W.lookIn name od).map (·.isSome) = some false; rw [hl, hv]; rfl) h

theorem set_map {ns : List Str} {Q : Unit → Shared → Prop} (X : K.In s.heap) (I : ObjM s.heap x dx C mA)
    (hs : PySem.W.findIn K (.ref C) "__setattr__" = some (some (.builtin "object.__setattr__"))) (hp : PySem.W.plainOver K C = true) (ht : PySem.W.takerIn K C name = some none) (hh : PySem.W.hasDictIn K C = true)
    (hw : PySem.Within mA ns) (hsz : ns.length ≤ sizeLine)
    (h : ∀ h', ObjM h' x dx C (fun y => if y = name then some v else mA y) → Heap.SameBut dx s.heap h' → Q () { s with heap := h', toks := s.toks + 2 }) :
    wpAny (model prog w) A (setAttr (.ref x) name v) Q E s := by
  obtain ⟨od, J, hl⟩ := I.look
  refine PySem.W.set_plain X J hs (PySem.W.osa_open (s := { s with toks := s.toks + 1 }) (r := none) X J hp ht fun b => ?_)
  obtain ⟨cd, hc, hd'⟩ := PySem.W.any_some hh
  have hx : s.heap.get? x = some ⟨.ref C, some dx, .plain, #[]⟩ := I.obj
  refine wpAny_bind (wpAny_pure (wpAny_bind (wpAny_bind (wpAny_loadPart hx (wpAny_bind (PySem.W.Looks.here (s := { s with toks := s.toks + 1 }) (PySem.W.looks_clsIn X hc) ?_))))))
  rw [hd']
  refine wpAny_pure (a := some dx) (wpAny_bind (wpAny_pure (wpAny_bind ?_)))
  refine wpAny_nsSet1 (s := { s with toks := s.toks + 1 }) I.ns fun h' hn2 hs2 => ?_
  obtain ⟨oD, esD, epD, hoD, hdD, hcD⟩ := hn2.count (PySem.Within.cons name v hw)
  refine wpAny_bind (wpAny_lookBehind hoD (by rw [hdD]; exact pastItsLine_dict (Nat.le_trans hcD (by rw [List.length_cons]; omega))) ?_)
  exact wpAny_pure (h _ ⟨(hs2.2 _ (Ne.symm I.ne)).trans I.obj, hn2, I.ne⟩ hs2)

theorem make_map {R : Result → Shared → Prop} {vs : List Value} {kw : List (Str × Value)} (X : K.In s.heap) (hm : PySem.W.makesIn K C = true)
    (hi : PySem.W.findIn K (.ref C) "__init__" = some (some (.ref f))) (hf : PySem.W.typeIn K (.ref f) = some (.type "function"))
    (h : codeAny (model prog w) (A.under (.builtin "type.__call__" ⟨.ref C :: vs, kw⟩)) (.call (.ref f) ⟨.ref (s.heap.objs.size + 1) :: vs, kw⟩) (PySem.W.InitBack (s.heap.objs.size + 1) R)
      { s with heap := (s.heap.push PySem.W.emptyDict).push (PySem.W.instObj C s.heap.objs.size) }) :
    codeAny (model prog w) A (.call (.ref C) ⟨vs, kw⟩) R s := by
  obtain ⟨hh, g, d, t, os⟩ := s
  exact PySem.W.make_core (PySem.W.makes_of X hm) (PySem.W.looks_findIn X hi) (fun self => PySem.W.bind_fn X self hf) (.inl rfl) h
end

def putF (f : Str) (v : V) : List (Str × V) → List (Str × V)
  | [] => [(f, v)]
  | (g, x) :: r => if g = f then (g, v) :: r else (g, x) :: putF f v r
theorem lookup_putF (f g : Str) (v : V) : ∀ fs : List (Str × V), (putF f v fs).lookup g = if g = f then some v else fs.lookup g
  | [] => by
    show List.lookup g [(f, v)] = _
    by_cases h : g = f
    · have hb : (g == f) = true := beq_iff_eq.mpr h
      simp only [List.lookup, hb, if_pos h]
    · have hb : (g == f) = false := beq_eq_false_iff_ne.mpr h
      simp only [List.lookup, hb, if_neg h]
  | (k, x) :: r => by
    have ih := lookup_putF f g v r
    rw [show putF f v ((k, x) :: r) = (if k = f then (k, v) :: r else (k, x) :: putF f v r) from rfl]
    by_cases hk : k = f
    · rw [if_pos hk]
      by_cases h : g = k
      · have hb : (g == k) = true := beq_iff_eq.mpr h
        simp only [List.lookup, hb, if_pos (h.trans hk)]
      · have hb : (g == k) = false := beq_eq_false_iff_ne.mpr h
        simp only [List.lookup, hb, if_neg (fun e : g = f => h (e.trans hk.symm))]
    · rw [if_neg hk]
      by_cases h : g = k
      · have hb : (g == k) = true := beq_iff_eq.mpr h
        simp only [List.lookup, hb, if_neg (fun e : g = f => hk (h.symm.trans e))]
      · have hb : (g == k) = false := beq_eq_false_iff_ne.mpr h
        simp only [List.lookup, hb]
        exact ih
theorem keys_putF (f : Str) (v : V) : ∀ fs : List (Str × V), f ∈ (putF f v fs).map (·.1) ∧ ∀ g, g ∈ fs.map (·.1) → g ∈ (putF f v fs).map (·.1)
  | [] => ⟨by simp [putF], fun g h => by simp at h⟩
  | (k, x) :: r => by
    obtain ⟨i1, i2⟩ := keys_putF f v r
    rw [show putF f v ((k, x) :: r) = (if k = f then (k, v) :: r else (k, x) :: putF f v r) from rfl]
    by_cases hk : k = f
    · rw [if_pos hk]
      subst hk
      exact ⟨by simp, fun g h => by simpa using h⟩
    · rw [if_neg hk]
      refine ⟨?_, fun g h => ?_⟩
      · rw [List.map_cons]
        exact List.mem_cons_of_mem _ i1
      · rw [List.map_cons] at h ⊢
        rcases List.mem_cons.mp h with e | e
        · exact List.mem_cons.mpr (.inl e)
        · exact List.mem_cons_of_mem _ (i2 g e)
theorem length_putF (f : Str) (v : V) : ∀ fs : List (Str × V), (putF f v fs).length ≤ fs.length + 1
  | [] => by simp [putF]
  | (k, x) :: r => by
    have ih := length_putF f v r
    rw [show putF f v ((k, x) :: r) = (if k = f then (k, v) :: r else (k, x) :: putF f v r) from rfl]
    by_cases hk : k = f
    · rw [if_pos hk, List.length_cons, List.length_cons]; omega
    · rw [if_neg hk, List.length_cons, List.length_cons]; omega

theorem RelO.some_of {v : V} {o : Option Value} (r : RelO (some v) o) : ∃ u, o = some u ∧ RelV v u := by
  cases o with
  | none => exact (show False from r).elim
  | some u => exact ⟨u, rfl, r⟩
theorem RelO.none_of {o : Option Value} (r : RelO none o) : o = none := by
  cases o with
  | none => rfl
  | some u => exact (show False from r).elim
theorem handed_of {v : V} {u : Value} (r : RelV v u) : PySem.W.handedIn u = true := by
  cases v with
  | non => cases (show u = Value.none from r); rfl
  | bl b => cases (show u = Value.bool b from r); rfl
  | int i => obtain ⟨t, e⟩ := (show ∃ t, u = Value.int i t from r); cases e; rfl
  | str x => obtain ⟨t, e⟩ := (show ∃ t, u = Value.str x t from r); cases e; rfl
  | byt b => obtain ⟨t, e⟩ := (show ∃ t, u = Value.bytes b t from r); cases e; rfl
  | flt b => obtain ⟨t, e⟩ := (show ∃ t, u = Value.float b t from r); cases e; rfl
  | ref a => cases (show u = Value.ref a from r); rfl
  | ty n => cases (show u = Value.type n from r); rfl

section
variable {P : Program} {w : World} {H H' : Hp} {h h' : Heap} {a C dx : Addr} {fs fs' : List (Str × V)}
theorem ins_get (hok : HOk P w H h) (e : H a = some (.ins C dx fs)) : ∃ mA, ObjM h a dx C mA ∧ (∀ f, RelO (fs.lookup f) (mA f)) ∧ PySem.Within mA (fs.map (·.1)) ∧ fs.length ≤ 1000 ∧ H dx = some (.own a) := by
  obtain ⟨d, z, ne, ob, mA, n, r, q⟩ := (show ObjOk P w H h a (.ins C dx fs) from hok a _ e)
  exact ⟨mA, ⟨ob, n, ne⟩, r, q, z, d⟩
end

structure Cls (K : PySem.W.Frag) (C : Addr) : Prop where
  pg : PySem.W.plainGet K C Str.empty = true
  hd : PySem.W.hasDictIn K C = true
  po : PySem.W.plainOver K C = true
  sa : PySem.W.findIn K (.ref C) "__setattr__" = some (some (.builtin "object.__setattr__"))
theorem Cls.get {K : PySem.W.Frag} {C : Addr} (c : Cls K C) (f : Str) : PySem.W.plainGet K C f = true := c.pg
def NoAttr (K : PySem.W.Frag) (C : Addr) (f : Str) : Prop := PySem.W.findIn K (.ref C) f = some none
theorem NoAttr.taker {K : PySem.W.Frag} {C : Addr} {f : Str} (n : NoAttr K C f) : PySem.W.takerIn K C f = some none := by
  unfold PySem.W.takerIn
  rw [show PySem.W.findIn K (.ref C) f = some none from n]
  rfl
structure Con (K : PySem.W.Frag) (C : Addr) (f : Str) (v : V) (u : Value) : Prop where
  at_ : PySem.W.findIn K (.ref C) f = some (some u)
  rel : RelV v u
  get : PySem.W.specialIn K u "__get__" = some none
  cp : PySem.W.copiedNames.contains f = false
structure Meth (K : PySem.W.Frag) (C : Addr) (m : Str) (f : Addr) : Prop where
  at_ : PySem.W.findIn K (.ref C) m = some (some (.ref f))
  fn : PySem.W.isFn K (.ref f) = true
  kp : PySem.W.keepIn K (.ref f) = true

section
variable {X : Cx} {pins : List (Addr × Obj)} {σ : St} {H : Hp} {s : Shared} {a C dx : Addr} {fs : List (Str × V)} {f : Str} {v : V} {A : Around} {E : Value → Shared → Prop}

theorem getattr_ok {b : Bool} {Q : Value → Shared → Prop} (I : Inv X pins σ H s) (e : H a = some (.ins C dx fs)) (c : Cls X.K C) (n : NoAttr X.K C f) (l : fs.lookup f = some v)
    (h : ∀ u s', Inv X pins σ H s' → RelV v u → Q u s') : wpAny (model X.prog X.w) A (getAttr (.ref a) f b) Q E s := by
  obtain ⟨mA, O, r, _, _, _⟩ := ins_get I.hok e
  obtain ⟨u, hu, ru⟩ := RelO.some_of (v := v) (o := mA f) (by rw [← l]; exact r f)
  exact get_map I.kIn O (c.get f) c.hd n hu (handed_of ru) (h u _ (I.tok _) ru)


theorem getmeth_ok {m : Str} {g : Addr} {pl : Sem Bool} {Q : Value × List Value → Shared → Prop} (I : Inv X pins σ H s) (e : H a = some (.ins C dx fs)) (c : Cls X.K C) (k : Meth X.K C m g) (l : fs.lookup m = none)
    (h : Q (.ref g, [.ref a]) s) : wpAny (model X.prog X.w) A (getMethod (.ref a) m pl) Q E s := by
  obtain ⟨mA, O, r, _, _, _⟩ := ins_get I.hok e
  have hn : mA m = none := RelO.none_of (by rw [← l]; exact r m)
  exact get_meth I.kIn O (c.get m) k.at_ k.fn hn h

theorem setattr_ok {y : V} {u : Value} {Q : Unit → Shared → Prop} (I : Inv X pins σ H s) (e : H a = some (.ins C dx fs)) (c : Cls X.K C) (n : NoAttr X.K C f) (hl : fs.length < 1000) (ry : RelV y u)
    (h : ∀ s', Inv X pins σ (upd H a (.ins C dx (putF f y fs))) s' → Q () s') : wpAny (model X.prog X.w) A (setAttr (.ref a) f u) Q E s := by
  obtain ⟨mA, O, r, wi, _, ho⟩ := ins_get I.hok e
  have hz : (fs.map (·.1)).length ≤ sizeLine := by rw [List.length_map, sizeLine_eq]; omega
  refine set_map I.kIn O c.sa c.po n.taker c.hd wi hz fun h' O' sb => h _ ?_
  have hd : ∃ o, h'.get? dx = some o := let ⟨o, _, _, e', _⟩ := O'.ns; ⟨o, e'⟩
  refine I.write (x := a) (e := dx) (by rw [e]; exact True.intro) (.inr ho) (fun b q hb z => (sb.2 b hb).trans z) hd ?_
  refine ⟨by rw [upd_ne O.ne]; exact ho, ?_, O.ne, O'.obj, _, O'.ns, fun g => ?_, fun g hg => ?_⟩
  · have := length_putF f y fs; omega
  · show RelO ((putF f y fs).lookup g) (if g = f then some u else mA g)
    rw [lookup_putF]
    by_cases q : g = f
    · rw [if_pos q, if_pos q]; exact ry
    · rw [if_neg q, if_neg q]; exact r g
  · by_cases q : g = f
    · rw [q]; exact (keys_putF f y fs).1
    · refine (keys_putF f y fs).2 g (wi g fun z => hg ?_)
      show (if g = f then some u else mA g) = none
      rw [if_neg q]; exact z

theorem Inv.made (I : Inv X pins σ H s) : Inv X pins σ (upd (upd H s.heap.objs.size (.own (s.heap.objs.size + 1))) (s.heap.objs.size + 1) (.ins C s.heap.objs.size []))
    { s with heap := (s.heap.push PySem.W.emptyDict).push (PySem.W.instObj C s.heap.objs.size) } := by
  have e1 : (s.heap.push PySem.W.emptyDict).get? s.heap.objs.size = some PySem.W.emptyDict := Heap.get?_push_size s.heap rfl
  have e2 : ((s.heap.push PySem.W.emptyDict).push (PySem.W.instObj C s.heap.objs.size)).get? (s.heap.objs.size + 1) = some (PySem.W.instObj C s.heap.objs.size) := by
    have := Heap.get?_push_size (s.heap.push PySem.W.emptyDict) (o := PySem.W.instObj C s.heap.objs.size) rfl
    rwa [Heap.size_push] at this
  have e3 : (s.heap.push PySem.W.emptyDict).Ns s.heap.objs.size (fun _ => none) := ⟨PySem.W.emptyDict, #[], _, e1, rfl, (fun e he => absurd he (by simp)), fun _ => rfl⟩
  have I1 := I.laid (a := s.heap.objs.size) (o := .own (s.heap.objs.size + 1)) (h' := s.heap.push PySem.W.emptyDict) (t' := s.toks) (fun b u q => Heap.get?_push_of_some _ q) (Nat.le_refl _) ⟨_, e1⟩
  refine I1.laid (a := s.heap.objs.size + 1) (o := .ins C s.heap.objs.size []) (t' := s.toks) (fun b u q => Heap.get?_push_of_some _ q) (Nat.le_of_eq (Heap.size_push _ _)) ?_
  have ne : s.heap.objs.size ≠ s.heap.objs.size + 1 := Nat.ne_of_lt (Nat.lt_succ_self _)
  refine ⟨by rw [upd_ne ne, upd_same], Nat.zero_le _, ne, e2, fun _ => none, (Heap.Ns1.of_empty e3).at fun o q => Heap.get?_push_of_some _ q, fun _ => True.intro, fun y hy => absurd rfl hy⟩

theorem attr_of {prog : Program} {w : World} {env : Env} {e : Expr} {f : Str} {pos : Pos} {s : Shared} {Q : Value → Shared → Prop} (hb : attributeBase e f env (eval e env) = eval e env)
    (h : wpAny (model prog w) A (eval e env) (fun o s₁ => wpAny (model prog w) A (getAttr o f true) Q E s₁) E s) : wpAny (model prog w) A (eval (.Attribute e f pos) env) Q E s :=
  Attribute_any_ h (by rw [arm_eval_Attribute, hb])
end

def tFld (K : PySem.W.Frag) (ta : TE) (f : Str) : TE := fun σ H Q => ta σ H fun x H1 => ∃ a C dx fs v, x = .ref a ∧ H1 a = some (.ins C dx fs) ∧ Cls K C ∧ NoAttr K C f ∧ fs.lookup f = some v ∧ Q v H1
def sFld (K : PySem.W.Frag) (ta tv : TE) (f : Str) : TS := fun D σ H => tv σ H fun y H1 => ta σ H1 fun x H2 => ∃ a C dx fs, x = .ref a ∧ H2 a = some (.ins C dx fs) ∧ Cls K C ∧ NoAttr K C f ∧ fs.length < 1000 ∧
  D.nx σ (upd H2 a (.ins C dx (putF f y fs)))

section
variable {X : Cx} {o e value : Expr} {f : Str} {pos pos' tpos : Pos} {ta tv : TE}
theorem pe_fld (he : PE X e ta) (hb : attributeBase e f X.env (eval e X.env) = eval e X.env) : PE X (.Attribute e f pos) (tFld X.K ta f) := by
  intro pins s σ H Q I h
  refine attr_of hb (thn (he pins s σ H _ I h) fun u s1 ⟨x, H1, I1, rx, a, C, dx, fs, v, ex, ea, c, n, l, q⟩ => ?_)
  subst ex
  obtain rfl : u = Value.ref a := rx
  exact getattr_ok I1 ea c n l fun u' s2 I2 ru => ⟨v, H1, I2, ru, q⟩
theorem ps_fld (ha : PE X o ta) (hv : PE X value tv) (hs : swapsWith value (some (.Attribute o f pos')) pos.line X.env = pure false) : PS X (.Assign [.Attribute o f pos'] value pos) (sFld X.K ta tv f) := by
  intro pins s σ H D I h
  refine plainObj_wpAny_Assign_Attribute (thn (hv pins s σ H _ I h) fun u s1 ⟨y, H1, I1, ry, q⟩ => thn (ha pins s1 σ H1 _ I1 q) fun ov s2 ⟨x, H2, I2, rx, a, C, dx, fs, ex, ea, c, n, l, q2⟩ => ?_) hs
  subst ex
  obtain rfl : ov = Value.ref a := rx
  exact setattr_ok I2 ea c n l ry fun s3 I3 => ⟨σ, _, I3, q2⟩

theorem methcall_of {pl : Sem Bool} {m : Str} {apos : Pos} {args : List Expr} {pins : List (Addr × Obj)} {s : Shared} {σ : St} {H : Hp} {Q : Value → Shared → Prop} {te : TE} (he : PE X e te) (I : Inv X pins σ H s)
    (h : te σ H fun x H1 => ∃ a C dx fs g, x = .ref a ∧ H1 a = some (.ins C dx fs) ∧ Cls X.K C ∧ Meth X.K C m g ∧ fs.lookup m = none ∧
      ∀ s1, Inv X pins σ H1 s1 → wpAny (model X.prog X.w) X.A (callWith pos (.ref g) [.ref a] (backTo pos (starEach args X.env)) (backToKw pos (keywordEach [] X.env))) Q X.xe s1)
    (ht : eval (.Call (.Attribute e m apos) args [] pos) X.env = (do
      let ov ← eval e X.env
      standAt apos.atName
      let (f, first) ← holding [ov] (getMethod ov m pl)
      callWith pos f first (backTo pos (starEach args X.env)) (backToKw pos (keywordEach [] X.env)))) :
    wpAny (model X.prog X.w) X.A (eval (.Call (.Attribute e m apos) args [] pos) X.env) Q X.xe s := by
  refine PySem.W.methodCall_KW (pl := pl) (thn (he pins s σ H _ I h) fun u s1 ⟨x, H1, I1, rx, a, C, dx, fs, g, ex, ea, c, k, l, q⟩ => ?_) ht
  subst ex
  obtain rfl : u = Value.ref a := rx
  exact getmeth_ok I1 ea c k l (q s1 I1)
end

section
variable {X : Cx} {pins : List (Addr × Obj)} {σ : St} {H : Hp} {s : Shared} {A : Around} {E : Value → Shared → Prop} {Q : Value → Shared → Prop} {c : Value} {b : Bool}
inductive TyOf (K : PySem.W.Frag) (H : Hp) : V → Value → Prop where
  | non : TyOf K H .non (.type "NoneType")
  | bl (x : Bool) : TyOf K H (.bl x) (.type "bool")
  | int (i : Int) : TyOf K H (.int i) (.type "int")
  | str (x : Str) : TyOf K H (.str x) (.type "str")
  | flt (x : UInt64) : TyOf K H (.flt x) (.type "float")
  | lst {a : Addr} {xs : List V} (e : H a = some (.lst xs)) : TyOf K H (.ref a) (.type "list")
  | frz {a : Addr} {o : Obj} {xs : List V} (e : H a = some (.frz o (.lst xs))) : TyOf K H (.ref a) (.type "list")
  | tup {a : Addr} {xs : List V} (e : H a = some (.tup xs)) : TyOf K H (.ref a) (.type "tuple")
  | dK {a : Addr} {kvs : List (Key × V)} (e : H a = some (.dK kvs)) : TyOf K H (.ref a) (.type "dict")
  | dT {a : Addr} {kvs : List (List Key × V)} (e : H a = some (.dT kvs)) : TyOf K H (.ref a) (.type "dict")
  | ins {a C dx : Addr} {fs : List (Str × V)} (e : H a = some (.ins C dx fs)) (cl : Cls K C) (ha : PySem.W.findIn K (.ref C) "__class__" = some (some (.builtin "object.__class__")))
      (hn : PySem.W.specialIn K (.builtin "object.__class__") "__get__" = some (some (.builtin "getset_descriptor.__get__"))) (htk : PySem.W.takesIn K (.builtin "object.__class__") = some true)
      (hm : PySem.W.mroIn K C (.type "object") = some true) : TyOf K H (.ref a) (.ref C)
end
end L2

namespace L2
open PySem PySem.Spec PyProof.Rows

structure Room (k : Nat) (A : Around) : Prop where
  hd : A.handled = none
  dp : A.depth + 3 * k + 5 < recursionLimit
  un : A.units + 16 * k + 200 < cLine
theorem Room.mono {j k : Nat} {A : Around} (r : Room k A) (h : j ≤ k) : Room j A := ⟨r.hd, by have := r.dp; omega, by have := r.un; omega⟩
theorem Room.deeper {k : Nat} {A : Around} (r : Room (k + 1) A) (env : Env) : Room k (A.deeper env) :=
  ⟨r.hd, by have := r.dp; show A.depth + 1 + 3 * k + 5 < _; omega, by have := r.un; show A.units + 3 + 16 * k + 200 < _; omega⟩
theorem make_depth {A : Around} {C : Addr} {us : List Value} {kw : List (Str × Value)} : (A.under (.builtin "type.__call__" ⟨.ref C :: us, kw⟩)).depth = A.depth + 1 := by
  first | rfl | simp [Around.under, Code.weight, Code.isCreation, Code.isGuard, Code.isCaller, Code.frames, Code.isFrame, guardIds]
theorem make_units {A : Around} {C : Addr} {us : List Value} {kw : List (Str × Value)} : (A.under (.builtin "type.__call__" ⟨.ref C :: us, kw⟩)).units = A.units + 1 := by
  first | rfl | simp [Around.under, Code.cUnits, Code.frames, Code.isFrame]
theorem Room.make {k : Nat} {A : Around} (r : Room (k + 1) A) (C : Addr) (us : List Value) (kw : List (Str × Value)) : Room k (A.under (.builtin "type.__call__" ⟨.ref C :: us, kw⟩)) :=
  ⟨r.hd, by have := r.dp; rw [make_depth]; omega, by have := r.un; rw [make_units]; omega⟩
theorem Room.depth {k : Nat} {A : Around} (r : Room k A) : A.depth < recursionLimit := by have := r.dp; omega
theorem Room.units {k : Nat} {A : Around} (r : Room k A) : A.units + 64 < cLine := by have := r.un; omega

def tNil : TA := fun _ H Q => Q [] H
def tCons (ta : TE) (tr : TA) : TA := fun σ H Q => ta σ H fun x H1 => tr σ H1 fun xs H2 => Q (x :: xs) H2
section
variable {X : Cx} {e : Expr} {es : List Expr} {te : TE} {t : TA} {pos : Pos}
theorem pa_nil : PA X [] tNil := fun _ _ _ _ H Q I h => Calls.spliced_nil ⟨[], H, I, .nil, h⟩
theorem pa_cons (ha : PE X e te) (hr : PA X es t) (hs : starEach (e :: es) X.env = (false, eval e X.env) :: starEach es X.env := by rfl) : PA X (e :: es) (tCons te t) := by
  intro pos pins s σ H Q I h
  rw [hs]
  show wpAny _ _ (spliced ((false, eval e X.env) :: backTo pos (starEach es X.env))) _ _ s
  refine Calls.spliced_cons (thn (ha pins s σ H _ I h) fun u s1 ⟨x, H1, I1, r1, q1⟩ => ?_)
  exact thn (hr pos pins s1 σ H1 _ I1 q1) fun us s2 ⟨xs, H2, I2, r2, q2⟩ => ⟨x :: xs, H2, I2, .cons r1 r2, q2⟩

def tTup (t : TA) : TE := fun σ H Q => t σ H fun xs H1 => xs.length ≤ sizeLine ∧ ∀ p, H1 p = none → Q (.ref p) (upd H1 p (.tup xs))
def tLst (t : TA) : TE := fun σ H Q => t σ H fun xs H1 => xs.length ≤ sizeLine ∧ ∀ p, H1 p = none → Q (.ref p) (upd H1 p (.lst xs))
theorem pe_tup {x1} (h : PA X es t) : PE X (.Tuple es x1 pos) (tTup t) := by
  intro pins s σ H Q I hq
  refine wpAny_Tuple_spliced (thn (h pos pins s σ H _ I hq) fun us s1 ⟨xs, H1, I1, r, z, q⟩ => ⟨by rw [← r.length]; exact z, ?_⟩)
  have hf : H1 s1.heap.objs.size = none := I1.hok.fresh (Nat.le_refl _)
  refine ⟨.ref s1.heap.objs.size, upd H1 s1.heap.objs.size (.tup xs), I1.laid (t' := s1.toks) (fun b u e => Heap.get?_push_of_some _ e) (Nat.le_refl _) ?_, rfl, q _ hf⟩
  exact ⟨z, us, r, ⟨_, Heap.get?_push_size _ rfl, rfl, _, rfl⟩⟩
theorem pe_lst (h : PA X es t) : PE X (.List es pos) (tLst t) := by
  intro pins s σ H Q I hq
  refine wpAny_List_spliced (thn (h pos pins s σ H _ I hq) fun us s1 ⟨xs, H1, I1, r, z, q⟩ => ⟨by rw [← r.length]; exact z, ?_⟩)
  have hf : H1 s1.heap.objs.size = none := I1.hok.fresh (Nat.le_refl _)
  refine ⟨.ref s1.heap.objs.size, upd H1 s1.heap.objs.size (.lst xs), I1.laid (t' := s1.toks) (fun b u e => Heap.get?_push_of_some _ e) (Nat.le_refl _) ?_, rfl, q _ hf⟩
  exact ⟨z, us, 0, r, Heap.get?_push_size _ rfl⟩
end

abbrev Sp := List V → Hp → VK → XK → Prop
abbrev CXT := List Env → Hp → Shared → XK → Value → Shared → Prop

structure Env0 (P : Program) (w : World) (K : PySem.W.Frag) (mg : Str → Option Value) (base : Heap) (A : Around) (outer : List Env) (s : Shared) (H : Hp) : Prop where
  frames : A.frames = some outer
  mod : Mod K mg base
  bs : ∀ b o, base.get? b = some o → s.heap.get? b = some o ∧ H b = none
  bsz : base.objs.size ≤ s.heap.objs.size
  funs : s.heap.FunFrames base outer
  frf : ∀ b ∈ frs outer, H b = none
  hok : HOk P w H s.heap
  bare : AllBare s.gens
def CE (outer : List Env) (P : Program) (w : World) (H : Hp) (s : Shared) (Q : VK) (u : Value) (s' : Shared) : Prop :=
  ∃ v H', s'.os = s.os ∧ AllBare s'.gens ∧ Un (frs outer) [] H H' s.heap s'.heap ∧ HOk P w H' s'.heap ∧ RelV v u ∧ Q v H'
def CR (CX : CXT) (outer : List Env) (P : Program) (w : World) (H : Hp) (s : Shared) (Q : VK) (E : XK) (r : Result) (s' : Shared) : Prop :=
  match r with
  | .ok (.ret u) => CE outer P w H s Q u s'
  | .ok _ => False
  | .error e => CX outer H s E e s'
structure FnOk (P : Program) (w : World) (K : PySem.W.Frag) (mg : Str → Option Value) (base : Heap) (CX : CXT) (k : Nat) (f : Addr) (fd : FuncData) (ps : List Str) (sp : Sp) : Prop where
  len : ∀ vs H Q E, sp vs H Q E → vs.length = ps.length
  run : ∀ (A : Around) (outer : List Env) (s : Shared) (H : Hp) (args : Args) (us : List Value) (vs : List V) (Q : VK) (E : XK), Room k A → Env0 P w K mg base A outer s H → BindsTo s fd args (ps.zip us) → Vals vs us → sp vs H Q E →
    codeAny (model P w) A (.call (.ref f) args) (CR CX outer P w H s Q E) s

theorem Env0.make {P : Program} {w : World} {K : PySem.W.Frag} {mg : Str → Option Value} {base : Heap} {A : Around} {outer : List Env} {s : Shared} {H : Hp} (e : Env0 P w K mg base A outer s H) (C : Addr) (us : List Value) (kw : List (Str × Value)) :
    Env0 P w K mg base (A.under (.builtin "type.__call__" ⟨.ref C :: us, kw⟩)) outer s H := ⟨by first | exact e.frames | (simpa [Around.under, Code.envs, Code.isFrame, pushEnvs] using e.frames), e.mod, e.bs, e.bsz, e.funs, e.frf, e.hok, e.bare⟩

section
variable {X : Cx} {pins : List (Addr × Obj)} {σ : St} {H : Hp} {s s' : Shared}
theorem Inv.env0 (I : Inv X pins σ H s) : Env0 X.prog X.w X.K X.mg X.base X.A X.stack s H :=
  ⟨I.ok.frames, I.ok.mod, I.bs, Nat.le_trans I.ok.bsz I.sz, I.stack, I.stkFree, I.hok, I.bare⟩
theorem Inv.after {Q : VK} {u : Value} (I : Inv X pins σ H s) (h : CE X.stack X.prog X.w H s Q u s') : EP X pins σ Q u s' := by
  obtain ⟨v, H', os, bare, un, hok, r, q⟩ := h
  obtain ⟨hh, g, d, t, os'⟩ := s'
  obtain rfl : os' = s.os := os
  exact ⟨v, H', I.call (h' := hh) (g' := g) (d' := d) (t' := t) (ch := []) un hok bare (fun b z => absurd z (by simp)), r, q⟩
end

def tCall (sp : Sp) (dvs : List V) (E : XK) (t : TA) : TE := fun σ H Q => t σ H fun vs H1 => sp (vs ++ dvs) H1 Q E
def tMeth (C : Addr) (m : Str) (sp : Sp) (dvs : List V) (E : XK) (ta : TE) (t : TA) : TE := fun σ H Q => ta σ H fun x H1 => ∃ a dx fs, x = .ref a ∧ H1 a = some (.ins C dx fs) ∧ fs.lookup m = none ∧
  t σ H1 fun vs H2 => sp (x :: (vs ++ dvs)) H2 Q E
def tMake (C : Addr) (sp : Sp) (dvs : List V) (E : XK) (t : TA) : TE := fun σ H Q => t σ H fun vs H1 => ∀ x dx, H1 x = none → H1 dx = none → dx ≠ x →
  sp (.ref x :: (vs ++ dvs)) (upd (upd H1 dx (.own x)) x (.ins C dx [])) (fun v H2 => v = .non ∧ Q (.ref x) H2) E

def Binds (K : PySem.W.Frag) (fd : FuncData) (ps : List Str) (ds : List Value) : Prop :=
  ∀ (s : Shared) (us : List Value), K.In s.heap → (us ++ ds).length = ps.length → BindsTo s fd ⟨us, []⟩ (ps.zip (us ++ ds))
theorem Binds.all {K : PySem.W.Frag} {fd : FuncData} {ps : List Str} (h : ∀ us : List Value, us.length = ps.length → bindArgs fd ⟨us, []⟩ = pure (ps.zip us)) : Binds K fd ps [] := fun s us _ hl => by
  rw [List.append_nil] at hl ⊢
  exact .of_eq (h us hl)

def Passes (CX : CXT) (X : Cx) (E : XK) : Prop := ∀ (pins : List (Addr × Obj)) (σ : St) (H : Hp) (s : Shared) (e : Value) (s' : Shared), Inv X pins σ H s → CX X.stack H s E e s' → X.xe e s'

section
variable {X : Cx} {CX : CXT} {k : Nat} {f C : Addr} {fd : FuncData} {ps : List Str} {sp : Sp} {dvs : List V} {ds : List Value} {E : XK} {x m : Str} {p pos apos : Pos} {e o : Expr} {es : List Expr} {ta : TE} {t : TA}

theorem run_fn {pins : List (Addr × Obj)} {σ : St} {H : Hp} {s : Shared} {Q : VK} {us : List Value} {vs : List V} (F : FnOk X.prog X.w X.K X.mg X.base CX k f fd ps sp) (hr : Room k X.A) (hb : Binds X.K fd ps ds) (hd : Vals dvs ds) (hx : Passes CX X E)
    (I : Inv X pins σ H s) (r : Vals vs us) (h : sp (vs ++ dvs) H Q E) : wpAny (model X.prog X.w) X.A (call (.ref f) us) (EP X pins σ Q) X.xe s := by
  have r2 : Vals (vs ++ dvs) (us ++ ds) := r.append hd
  have hl : (us ++ ds).length = ps.length := by rw [← r2.length]; exact F.len _ _ _ _ h
  refine wpAny_call (codeAny_mono (F.run X.A X.stack s H ⟨us, []⟩ (us ++ ds) (vs ++ dvs) Q E hr I.env0 (hb s us I.kIn hl) r2 h) fun r s' hq => ?_)
  cases r with
  | error e => exact hx pins σ H s e s' I hq
  | ok fl =>
    cases fl with
    | ret u => exact I.after hq
    | next => exact False.elim hq
    | brk => exact False.elim hq
    | cont => exact False.elim hq

theorem pe_call (F : FnOk X.prog X.w X.K X.mg X.base CX k f fd ps sp) (hr : Room k X.A) (hg : Gl X x) (hm : X.mg x = some (.ref f)) (hk : PySem.W.keepIn X.K (.ref f) = true) (hb : Binds X.K fd ps ds) (hd : Vals dvs ds) (hx : Passes CX X E)
    (ha : PA X (e :: es) t) (hdb : (x == ("__debug__" : Str)) = false := by decide) (he : starEach (e :: es) X.env = (false, eval e X.env) :: starEach es X.env := by rfl) (hpl : (backTo pos (starEach es X.env)).any (·.1) = false := by rfl) :
    PE X (.Call (.Name x p) (e :: es) [] pos) (tCall sp dvs E t) := by
  intro pins s σ H Q I h
  refine wpAny_Call_Name_kw (ld_glob I hg hm ?_ hdb)
  refine PySem.W.callWith_K (h₀ := X.base) I.ok.mod.kin hk (thn (ha pos pins s σ H _ I h) fun us s1 ⟨vs, H1, I1, r, q⟩ => ⟨I1.kIn, ?_⟩) he hpl
  exact run_fn F hr hb hd hx I1 r q

theorem pe_meth {pl : Sem Bool} (he : PE X o ta) (c : Cls X.K C) (hm : Meth X.K C m f) (F : FnOk X.prog X.w X.K X.mg X.base CX k f fd ps sp) (hr : Room k X.A) (hb : Binds X.K fd ps ds) (hd : Vals dvs ds) (hx : Passes CX X E) (ha : PA X (e :: es) t)
    (hst : starEach (e :: es) X.env = (false, eval e X.env) :: starEach es X.env := by rfl) (hpl : (backTo pos (starEach es X.env)).any (·.1) = false := by rfl)
    (ht : eval (.Call (.Attribute o m apos) (e :: es) [] pos) X.env = (do
      let ov ← eval o X.env
      standAt apos.atName
      let (f, first) ← holding [ov] (getMethod ov m pl)
      callWith pos f first (backTo pos (starEach (e :: es) X.env)) (backToKw pos (keywordEach [] X.env))) := by rfl) :
    PE X (.Call (.Attribute o m apos) (e :: es) [] pos) (tMeth C m sp dvs E ta t) := by
  intro pins s σ H Q I h
  refine PySem.W.methodCall_KW (pl := pl) (thn (he pins s σ H _ I h) fun u s1 ⟨x, H1, I1, rx, a, dx, fs, ex, ea, l, q⟩ => ?_) ht
  subst ex
  obtain rfl : u = Value.ref a := rx
  refine getmeth_ok I1 ea c hm l ?_
  refine PySem.W.callWith_K (first := [.ref a]) (h₀ := X.base) I.ok.mod.kin hm.kp (thn (ha pos pins s1 σ H1 _ I1 q) fun us s2 ⟨vs, H2, I2, r, q2⟩ => ⟨I2.kIn, ?_⟩) hst hpl
  exact run_fn (us := .ref a :: us) (vs := .ref a :: vs) F hr hb hd hx I2 (.cons rfl r) q2
theorem pe_meth0 {pl : Sem Bool} (he : PE X o ta) (c : Cls X.K C) (hm : Meth X.K C m f) (F : FnOk X.prog X.w X.K X.mg X.base CX k f fd ps sp) (hr : Room k X.A) (hb : Binds X.K fd ps ds) (hd : Vals dvs ds) (hx : Passes CX X E)
    (ht : eval (.Call (.Attribute o m apos) [] [] pos) X.env = (do
      let ov ← eval o X.env
      standAt apos.atName
      let (f, first) ← holding [ov] (getMethod ov m pl)
      callWith pos f first (backTo pos (starEach [] X.env)) (backToKw pos (keywordEach [] X.env))) := by rfl) :
    PE X (.Call (.Attribute o m apos) [] [] pos) (tMeth C m sp dvs E ta tNil) := by
  intro pins s σ H Q I h
  refine PySem.W.methodCall_KW (pl := pl) (thn (he pins s σ H _ I h) fun u s1 ⟨x, H1, I1, rx, a, dx, fs, ex, ea, l, q⟩ => ?_) ht
  subst ex
  obtain rfl : u = Value.ref a := rx
  refine getmeth_ok I1 ea c hm l ?_
  exact PySem.W.callWith_K0 (first := [.ref a]) I1.kIn hm.kp (run_fn (us := [.ref a]) (vs := [.ref a]) F hr hb hd hx I1 (.cons rfl .nil) q)

structure Mk (K : PySem.W.Frag) (C f : Addr) : Prop where
  makes : PySem.W.makesIn K C = true
  init : PySem.W.findIn K (.ref C) "__init__" = some (some (.ref f))
  fn : PySem.W.isFn K (.ref f) = true
  kp : PySem.W.keepIn K (.ref C) = true

theorem run_make {pins : List (Addr × Obj)} {σ : St} {H : Hp} {s : Shared} {Q : VK} {us : List Value} {vs : List V} (M : Mk X.K C f) (F : FnOk X.prog X.w X.K X.mg X.base CX k f fd ps sp) (hr : Room (k + 1) X.A) (hb : Binds X.K fd ps ds) (hd : Vals dvs ds)
    (hx : Passes CX X E) (I : Inv X pins σ H s) (r : Vals vs us)
    (h : ∀ x dx, H x = none → H dx = none → dx ≠ x → sp (.ref x :: (vs ++ dvs)) (upd (upd H dx (.own x)) x (.ins C dx [])) (fun v H2 => v = .non ∧ Q (.ref x) H2) E) :
    wpAny (model X.prog X.w) X.A (call (.ref C) us) (EP X pins σ Q) X.xe s := by
  have hq := h (s.heap.objs.size + 1) s.heap.objs.size (I.hok.fresh (Nat.le_succ _)) (I.hok.fresh (Nat.le_refl _)) (Nat.ne_of_lt (Nat.lt_succ_self _))
  have I2 := Inv.made (C := C) I
  have r2 : Vals (V.ref (s.heap.objs.size + 1) :: (vs ++ dvs)) (Value.ref (s.heap.objs.size + 1) :: (us ++ ds)) := .cons rfl (r.append hd)
  have hl : (Value.ref (s.heap.objs.size + 1) :: us ++ ds).length = ps.length := by
    have e := r2.length
    rw [F.len _ _ _ _ hq] at e
    exact e.symm
  refine wpAny_call (make_map (f := f) I.kIn M.makes M.init (beq_iff_eq.mp M.fn) (codeAny_mono (F.run _ X.stack _ _ ⟨Value.ref (s.heap.objs.size + 1) :: us, []⟩ (Value.ref (s.heap.objs.size + 1) :: (us ++ ds)) _ _ E (hr.make C us [])
    (I2.env0.make C us []) (hb _ (Value.ref (s.heap.objs.size + 1) :: us) I2.kIn hl) r2 hq) fun r s' hq' => ?_))
  cases r with
  | error e => exact hx pins σ _ _ e s' I2 hq'
  | ok fl =>
    cases fl with
    | ret u =>
      obtain ⟨v, H', I3, rv, ev, q3⟩ := I2.after hq'
      subst ev
      exact ⟨rv, ⟨V.ref (s.heap.objs.size + 1), H', I3, rfl, q3⟩⟩
    | next => exact False.elim hq'
    | brk => exact False.elim hq'
    | cont => exact False.elim hq'
theorem pe_make (M : Mk X.K C f) (F : FnOk X.prog X.w X.K X.mg X.base CX k f fd ps sp) (hr : Room (k + 1) X.A) (hg : Gl X x) (hm : X.mg x = some (.ref C)) (hb : Binds X.K fd ps ds) (hd : Vals dvs ds) (hx : Passes CX X E)
    (ha : PA X (e :: es) t) (hdb : (x == ("__debug__" : Str)) = false := by decide) (he : starEach (e :: es) X.env = (false, eval e X.env) :: starEach es X.env := by rfl) (hpl : (backTo pos (starEach es X.env)).any (·.1) = false := by rfl) :
    PE X (.Call (.Name x p) (e :: es) [] pos) (tMake C sp dvs E t) := by
  intro pins s σ H Q I h
  refine wpAny_Call_Name_kw (ld_glob I hg hm ?_ hdb)
  refine PySem.W.callWith_K (h₀ := X.base) I.ok.mod.kin M.kp (thn (ha pos pins s σ H _ I h) fun us s1 ⟨vs, H1, I1, r, q⟩ => ⟨I1.kIn, ?_⟩) he hpl
  exact run_make M F hr hb hd hx I1 r q
end

section
variable {X : Cx} {CX : CXT} {k : Nat} {f C : Addr} {fd : FuncData} {ps ks : List Str} {sp : Sp} {E : XK} {x m : Str} {p pos apos kpos : Pos} {e o : Expr} {es : List Expr} {kws : List Keyword} {te ta : TE} {t tk : TA} {nm : Option Str}

structure KBinds (K : PySem.W.Frag) (fd : FuncData) (ps ks : List Str) (g : List Value → List Value → List Value) (gV : List V → List V → List V) : Prop where
  to : ∀ (s : Shared) (us ws : List Value), K.In s.heap → (g us ws).length = ps.length → BindsTo s fd ⟨us, ks.zip ws⟩ (ps.zip (g us ws))
  rel : ∀ {vs : List V} {us : List Value} {zs : List V} {ws : List Value}, Vals vs us → Vals zs ws → Vals (gV vs zs) (g us ws)
variable {g : List Value → List Value → List Value} {gV : List V → List V → List V}
end

structure FnScope (N P : List Str) (sc : Scope) : Prop where
  kind : sc.kind = .function
  co : sc.isCoroutine = false
  gen : sc.isGenerator = false
  nd : N.Nodup
  pre : N.take P.length = P
  par : ∀ x ∈ P, sc.names.lookup x = some .local ∨ sc.names.lookup x = some .cell
  nofree : ∀ y ∈ sc.names, y.2 ≠ .free

theorem bindL_out {kindOf : Str → Option NameKind} {x : Str} : ∀ {binds : List (Str × Value)} {m : Str → Option Value}, (∀ v, (x, v) ∉ binds) → bindL kindOf binds m x = m x
  | [], _, _ => rfl
  | (n, v) :: r, m, h => by
    unfold bindL
    rw [bindL_out fun w hw => h w (List.mem_cons_of_mem _ hw)]
    split
    · have : x ≠ n := by rintro rfl; exact h v List.mem_cons_self
      simp [this]
    · rfl
theorem bindC_out {kindOf : Str → Option NameKind} {x : Str} : ∀ {binds : List (Str × Value)} {m : Str → Option Value}, (∀ v, (x, v) ∉ binds) → bindC kindOf binds m x = m x
  | [], _, _ => rfl
  | (n, v) :: r, m, h => by
    unfold bindC
    rw [bindC_out fun w hw => h w (List.mem_cons_of_mem _ hw)]
    split
    · rfl
    · have : x ≠ n := by rintro rfl; exact h v List.mem_cons_self
      simp [this]
theorem bindL_get {kindOf : Str → Option NameKind} {x : Str} {v : Value} : ∀ {P : List Str} {vs : List Value} {i : Nat} {m : Str → Option Value}, P.Nodup → P[i]? = some x → vs[i]? = some v → kindOf x = some .local →
    bindL kindOf (P.zip vs) m x = some v
  | [], _, _, _, _, h, _, _ => by simp at h
  | _ :: _, [], _, _, _, _, h, _ => by simp at h
  | p :: P, w :: vs, 0, m, nd, h1, h2, hk => by
    simp at h1 h2; subst h1; subst h2
    show bindL kindOf ((p, w) :: P.zip vs) m p = _
    unfold bindL
    rw [bindL_out fun v hv => (List.nodup_cons.mp nd).1 (List.of_mem_zip hv).1, if_pos hk]
    simp
  | p :: P, w :: vs, i + 1, m, nd, h1, h2, hk => by
    show bindL kindOf ((p, w) :: P.zip vs) m x = _
    unfold bindL
    exact bindL_get (i := i) (List.nodup_cons.mp nd).2 (by simpa using h1) (by simpa using h2) hk
theorem bindC_get {kindOf : Str → Option NameKind} {x : Str} {v : Value} : ∀ {P : List Str} {vs : List Value} {i : Nat} {m : Str → Option Value}, P.Nodup → P[i]? = some x → vs[i]? = some v → kindOf x ≠ some .local →
    bindC kindOf (P.zip vs) m x = some v
  | [], _, _, _, _, h, _, _ => by simp at h
  | _ :: _, [], _, _, _, _, h, _ => by simp at h
  | p :: P, w :: vs, 0, m, nd, h1, h2, hk => by
    simp at h1 h2; subst h1; subst h2
    show bindC kindOf ((p, w) :: P.zip vs) m p = _
    unfold bindC
    rw [bindC_out fun v hv => (List.nodup_cons.mp nd).1 (List.of_mem_zip hv).1, if_neg hk]
    simp
  | p :: P, w :: vs, i + 1, m, nd, h1, h2, hk => by
    show bindC kindOf ((p, w) :: P.zip vs) m x = _
    unfold bindC
    exact bindC_get (i := i) (List.nodup_cons.mp nd).2 (by simpa using h1) (by simpa using h2) hk

def start (N : List Str) (vs : List V) : St := vs.map some ++ List.replicate (N.length - vs.length) none

def cxOf (CX : CXT) (P : Program) (w : World) (K : PySem.W.Frag) (mg : Str → Option Value) (base : Heap) (N : List Str) (qual : Str) (scope : Scope) (f : Addr) (cd : Value) (A : Around) (outer : List Env) (s : Shared) (H : Hp) (E : XK) : Cx where
  prog := P
  w := w
  K := K
  mg := mg
  base := base
  A := A.deeper (envOfC qual scope s.heap.objs.size f cd)
  N := N
  s₀ := s
  H₀ := H
  env := envOfC qual scope s.heap.objs.size f cd
  outer := outer
  stack := envOfC qual scope s.heap.objs.size f cd :: outer
  ex := []
  calm := true
  fn := fun _ => true
  pn := []
  xe := fun e s' => wpAny (model P w) (A.deeper (envOfC qual scope s.heap.objs.size f cd)) (leaving (envOfC qual scope s.heap.objs.size f cd) e) (fun _ s'' => CX outer H s E e s'') (fun e' s'' => CX outer H s E e' s'') s'

theorem cell_has {sc : Scope} {n : Nat} {x : Str} (h : sc.names.lookup x = some .cell) : ∃ c, (cellsFrom n sc.names []).lookup x = some c := by
  have q := PySem.W.cellsFrom_some sc.names n [] (.inl h)
  exact Option.isSome_iff_exists.mp q

theorem inv_start {CX : CXT} {P : Program} {w : World} {K : PySem.W.Frag} {mg : Str → Option Value} {base : Heap} {N ps : List Str} {qual : Str} {scope : Scope} {f : Addr} {cd : Value} {A : Around} {outer : List Env} {s s1 : Shared} {H : Hp} {E : XK} {us : List Value} {vs : List V}
    (S : FnScope N ps scope) (hd : A.handled = none) (e0 : Env0 P w K mg base A outer s H) (hl : vs.length = ps.length) (r : Vals vs us)
    (x : InCallC s s.heap.objs.size (bindL (envOfC qual scope s.heap.objs.size f cd).kindOf (ps.zip us) fun _ => none) (cellsFrom (s.heap.objs.size + 1) scope.names []) (bindC (envOfC qual scope s.heap.objs.size f cd).kindOf (ps.zip us) fun _ => none) s1) :
    Inv (cxOf CX P w K mg base N qual scope f cd A outer s H E) [] (start N vs) H s1 := by
  have hpl : ps.length ≤ N.length := by have := congrArg List.length S.pre; rw [List.length_take] at this; omega
  obtain ⟨h1, tk, rfl, hk⟩ := x.done
  have noA : ∀ b : Addr, b ∉ (cxOf CX P w K mg base N qual scope f cd A outer s H E).ex := fun b z => absurd (show b ∈ ([] : List Addr) from z) (by simp)
  refine ⟨⟨e0.mod, S.kind, rfl, rfl, Nat.le_refl _, fun y z c h1 h2 => ?_, fun y hy => ?_, fun y c _ h => ?_, fun _ => hd, Around.frames_deeper e0.frames, .inr ⟨rfl, rfl⟩, fun b z => absurd z (noA b), e0.bs, e0.bsz, fun b _ _ => noA b, fun b z => absurd z (noA b), e0.funs, e0.frf⟩,
    rfl, e0.bare, Un.kept hk, ⟨_, x.toInCall.ns, fun i y v h1 h2 h3 => ?_⟩, fun y c h => ⟨_, x.cell y c h⟩, e0.hok.fresh (Nat.le_refl _), fun y c h => ?_, fun p hp => absurd (show p ∈ ([] : List (Addr × Obj)) from hp) (by simp), e0.hok.kept hk, ?_⟩
  · exact name_of_addr x.apart (PySem.mem_of_lookup h1) (PySem.mem_of_lookup h2)
  · have hy : scope.names.lookup y = some .cell ∨ scope.names.lookup y = some .free := hy
    rcases hy with hy | hy
    · exact cell_has hy
    · exact absurd rfl (S.nofree _ (PySem.mem_of_lookup hy))
  · exact Nat.le_of_lt (x.above y c (PySem.mem_of_lookup h))
  · have hi : i < vs.length := by
      unfold start at h2
      by_cases hi : i < vs.length
      · exact hi
      · rw [List.getElem?_append_right (by simpa using hi)] at h2
        rw [List.getElem?_replicate] at h2
        split at h2 <;> cases h2
    have ha : vs[i]? = some v := by
      unfold start at h2
      rw [List.getElem?_append_left (by simpa using hi), List.getElem?_map] at h2
      cases e : vs[i]? with
      | none => rw [e] at h2; cases h2
      | some a => rw [e] at h2; cases h2; rfl
    obtain ⟨u, hu, rv⟩ := r.get ha
    have hp : ps[i]? = some y := by
      rw [← S.pre, List.getElem?_take_of_lt (by omega)]; exact h1
    have ndP : ps.Nodup := by rw [← S.pre]; exact S.nd.sublist (List.take_sublist _ _)
    refine ⟨u, rv, ?_⟩
    rcases S.par y (List.mem_of_getElem? hp) with k | k
    · exact .inl ⟨k, bindL_get ndP hp hu k⟩
    · obtain ⟨c, e⟩ := cell_has (n := s.heap.objs.size + 1) k
      refine .inr ⟨.inl k, c, e, ?_⟩
      have q := x.cell y c e
      rw [bindC_get ndP hp hu (by show scope.names.lookup y ≠ _; rw [k]; decide)] at q
      exact q
  · exact e0.hok.fresh (Nat.le_of_lt (x.above y c (PySem.mem_of_lookup h)))
  · unfold start
    show _ = N.length
    rw [List.length_append, List.length_map, List.length_replicate]
    omega

theorem fn_of {CX : CXT} {P : Program} {w : World} {K : PySem.W.Frag} {mg : Str → Option Value} {base : Heap} {k : Nat} {f : Addr} {name qual : Str} {params : Arguments} {body : List Stmt} {scope : Scope} {dV kV doc pm cdv ct oc : Value} {an od : Option Addr}
    {osl : Array (Option Value)} {N ps : List Str} {sp : Sp} (lk : K.lookup f = some ⟨oc, od, .func (PySem.W.fnOf name qual params body scope dV kV doc pm an cdv ct), osl⟩) (hcd : PySem.W.codeIn K cdv qual = true) (S : FnScope N ps scope)
    (len : ∀ vs H Q E, sp vs H Q E → vs.length = ps.length)
    (hbody : ∀ (A : Around) (outer : List Env) (s : Shared) (H : Hp) (vs : List V) (Q : VK) (E : XK), Room k (A.deeper (envOfC qual scope s.heap.objs.size f cdv)) → sp vs H Q E →
      ∃ t, PSs (cxOf CX P w K mg base N qual scope f cdv A outer s H E) body t ∧ t { nx := fun _ H' => Q .non H', rt := Q } (start N vs) H) :
    FnOk P w K mg base CX (k + 1) f (PySem.W.fnOf name qual params body scope dV kV doc pm an cdv ct) ps sp := by
  refine ⟨len, fun A outer s H args us vs Q E hr e0 hb r hsp => ?_⟩
  have hl := len _ _ _ _ hsp
  have KX : K.In s.heap := e0.mod.kin.keeps fun b o e => (e0.bs b o e).1
  have lim : s.heap.NoLimit := e0.mod.nolimit.keeps fun b o e => (e0.bs b o e).1
  have hkind : ∀ y ∈ ps.zip us, scope.names.lookup y.1 = some .local ∨ (scope.names.lookup y.1 = some .cell ∧ ((cellsFrom (s.heap.objs.size + 1) scope.names []).lookup y.1).isSome = true) := fun ⟨n, v⟩ hy => by
    rcases S.par n (List.of_mem_zip hy).1 with q | q
    · exact .inl q
    · exact .inr ⟨q, PySem.W.cellsFrom_some _ _ _ (.inl q)⟩
  refine codeAny_call_function hr.depth (KX _ _ lk) rfl S.co S.gen rfl (PySem.W.codeRec_of KX hcd) (hb _ _ _ _ ?_)
  refine wpAny_newFunctionEnv_cells S.kind hkind fun env he s1 x => ?_
  subst he
  refine ⟨lim.keeps x.toInCall.keep, codeAny_func ?_⟩
  obtain ⟨t, ht, hq⟩ := hbody A outer s H vs Q E (hr.deeper _) hsp
  have I : Inv (cxOf CX P w K mg base N qual scope f cdv A outer s H E) [] (start N vs) H s1 := inv_start S hr.hd e0 hl r x
  refine wpAny_mono (ht [] s1 (start N vs) H _ I hq) (fun fl s' hs => ?_) fun e s' hs => hs
  have fin : ∀ {σ' : St} {H' : Hp} {v : V} {u : Value}, Inv (cxOf CX P w K mg base N qual scope f cdv A outer s H E) [] σ' H' s' → RelV v u → Q v H' → CE outer P w H s Q u s' :=
    fun {σ' H' v u} J rv q => ⟨v, H', J.os, J.bare, J.base, J.hok, rv, q⟩
  cases fl with
  | ret u =>
    obtain ⟨v, σ', H', J, rv, q⟩ := hs
    exact fin J rv q
  | next =>
    obtain ⟨σ', H', J, q⟩ := hs
    exact fin (v := V.non) (u := Value.none) J rfl q
  | brk =>
    obtain ⟨_, _, _, q⟩ := hs
    exact False.elim q
  | cont =>
    obtain ⟨_, _, _, q⟩ := hs
    exact False.elim q
end L2

namespace L2
open PySem PySem.Spec PyProof.Rows
section
variable {X : Cx} {x : Str} {p pos : Pos} {e : Expr} {es : List Expr} {t : TA} {id T : String} {r : List V → Hp → VK → Prop}

def tCB (r : List V → Hp → VK → Prop) (t : TA) : TE := fun σ H Q => t σ H fun vs H1 => r vs H1 Q
theorem pe_callB (hc : CallR X (.builtin id) r) (hg : Gl X x) (hm : X.mg x = none) (hv : bootBuiltins x = some (.builtin id)) (ha : PA X (e :: es) t) (hn : x ≠ "__name__" := by decide) (hdb : (x == ("__debug__" : Str)) = false := by decide)
    (he : starEach (e :: es) X.env = (false, eval e X.env) :: starEach es X.env := by rfl) (hpl : (backTo pos (starEach es X.env)).any (·.1) = false := by rfl) : PE X (.Call (.Name x p) (e :: es) [] pos) (tCB r t) := by
  intro pins s σ H Q I h
  refine wpAny_Call_Name_kw (ld_blt I hg hm hv ?_ hn hdb)
  exact PyProof.Rows.callWith_builtin1 (thn (ha pos pins s σ H _ I h) fun us s1 ⟨vs, H1, I1, r1, q1⟩ => hc pins s1 σ H1 vs us Q I1 r1 q1) he hpl
theorem pe_callTy (hc : CallR X (.type T) r) (hg : Gl X x) (hm : X.mg x = none) (hv : bootBuiltins x = some (.type T)) (ha : PA X (e :: es) t) (hn : x ≠ "__name__" := by decide) (hdb : (x == ("__debug__" : Str)) = false := by decide)
    (he : starEach (e :: es) X.env = (false, eval e X.env) :: starEach es X.env := by rfl) (hpl : (backTo pos (starEach es X.env)).any (·.1) = false := by rfl) : PE X (.Call (.Name x p) (e :: es) [] pos) (tCB r t) := by
  intro pins s σ H Q I h
  refine wpAny_Call_Name_kw (ld_blt I hg hm hv ?_ hn hdb)
  exact PyProof.Rows.callWith_type1 (thn (ha pos pins s σ H _ I h) fun us s1 ⟨vs, H1, I1, r1, q1⟩ => hc pins s1 σ H1 vs us Q I1 r1 q1) he hpl
end
end L2

namespace HT
open PySem PyProof.Rows

def lexLt : List Int → List Int → Bool
  | [], [] => false
  | [], _ :: _ => true
  | _ :: _, [] => false
  | x :: xs, y :: ys => if x = y then lexLt xs ys else decide (x < y)
theorem lexLt_cons (x y : Int) (xs ys : List Int) : lexLt (x :: xs) (y :: ys) = if x = y then lexLt xs ys else decide (x < y) := rfl

theorem eqAt_int (A : Around) (s : Shared) (a : Int) (t : Tok) (c : Int) (u : Tok) : ∃ e, SeqAt.EqAt A s (.int a t) (.int c u) e ∧ (e = true ↔ a = c) :=
  ⟨(a == c), SeqAt.EqAt.int_int a t c u, by simp⟩
theorem rcLt_int (A : Around) (s : Shared) (a : Int) (t : Tok) (c : Int) (u : Tok) (prog : Program) (w : World) (E : Value → Shared → Prop) (Q : Value → Shared → Prop) (h : Q (.bool (decide (a < c))) s) :
    wpAny (model prog w) A (richCompare .Lt (.int a t) (.int c u)) Q E s :=
  (PyProof.Rows.lt_int h : wpAny (model prog w) A (compareOp .Lt (.int a t) (.int c u)) Q E s)

section
open PySem.SeqAt
open PySem.AutoSeq1 (wpAny_loadPart')
open PySem.MeetsSeq PySem.MeetsSeq2 PySem.MeetsSeq3

end

section
variable {prog : Program} {w : World} {A : Around} {E : Value → Shared → Prop} {s : Shared}



def sIx (n d : Nat) : Option Int → Nat
  | none => d
  | some v => if v < 0 then (v + (n : Int)).toNat else min v.toNat n
theorem sIx_none (n d : Nat) : sIx n d none = d := rfl

end
end HT

namespace L2
open PySem PySem.Spec PyProof.Rows

abbrev TO := St → Hp → (Option Int → Hp → Prop) → Prop
def PO (X : Cx) (e : Option Expr) (t : TO) : Prop :=
  ∀ (pins : List (Addr × Obj)) (s : Shared) (σ : St) (H : Hp) (Q : Option Int → Hp → Prop), Inv X pins σ H s → t σ H Q →
    wpAny (model X.prog X.w) X.A (evalPart e X.env) (fun u s' => ∃ o H', Inv X pins σ H' s' ∧ IsPart u o ∧ Q o H') X.xe s
def tNoPart : TO := fun _ H Q => Q none H
def tPart (t : TE) : TO := fun σ H Q => t σ H fun x H1 => ∃ i, x = .int i ∧ Q (some i) H1

theorem intsAre_of {ns : List Int} : ∀ {us : List Value}, Vals (ns.map V.int) us → IntsAre us ns := by
  induction ns with
  | nil => intro us r; rw [List.map_nil] at r; cases r; exact .nil
  | cons n ns ih =>
    intro us r
    rw [List.map_cons] at r
    cases r with
    | cons r1 r2 =>
      obtain ⟨t, e⟩ := r1
      subst e
      exact .cons n t (ih r2)

section
variable {X : Cx} {e : Expr} {te : TE} {lo hi : Option Expr} {tl th : TO} {pos p2 : Pos}

theorem po_none : PO X none tNoPart := by
  intro pins s σ H Q I h
  rw [evalPart_none]
  exact wpAny_pure ⟨none, H, I, .none, h⟩
theorem po_some (h : PE X e te) : PO X (some e) (tPart te) := by
  intro pins s σ H Q I hw
  rw [evalPart_some]
  refine thn (h pins s σ H _ I hw) fun u s1 ⟨x, H1, I1, r1, q1⟩ => ?_
  obtain ⟨i, rfl, q⟩ := q1
  obtain ⟨t, rfl⟩ := r1
  exact ⟨some i, H1, I1, .int i t, q⟩

def SlR (X : Cx) (r : V → Option Int → Option Int → Hp → VK → Prop) : Prop :=
  ∀ (pins : List (Addr × Obj)) (s : Shared) (σ : St) (H : Hp) (x : V) (v vl vu : Value) (lo hi : Option Int) (sl : Addr) (Q : VK), Inv X pins σ H s → RelV x v → s.heap.IsSliceOf sl vl vu .none → IsPart vl lo → IsPart vu hi → r x lo hi H Q →
    ∃ T id, typeLookup (.type T) "__getitem__" = pure (some (.builtin id)) ∧ s.TypeIs v T ∧ wpAny (model X.prog X.w) X.A (getItem v (.ref sl)) (EP X pins σ Q) X.xe s
def tSl (r : V → Option Int → Option Int → Hp → VK → Prop) (te : TE) (tl th : TO) : TE := fun σ H Q => te σ H fun x H1 => tl σ H1 fun l H2 => th σ H2 fun u H3 => r x l u H3 Q
theorem pe_slice {r : V → Option Int → Option Int → Hp → VK → Prop} (hr : SlR X r) (he : PE X e te) (hl : PO X lo tl) (hu : PO X hi th) : PE X (.Subscript e (.Slice lo hi none p2) pos) (tSl r te tl th) := by
  intro pins s σ H Q I h
  refine Subscript_ (thn (he pins s σ H _ I h) fun v s1 ⟨x, H1, I1, r1, q1⟩ => ?_)
  refine wpAny_Slice (thn (hl pins s1 σ H1 _ I1 q1) fun vl s2 ⟨l, H2, I2, pl, q2⟩ => thn (hu pins s2 σ H2 _ I2 q2) fun vu s3 ⟨u, H3, I3, pu, q3⟩ => ?_)
  rw [evalPart_none]
  refine wpAny_pure ?_
  have I4 : Inv X pins σ H3 { s3 with heap := s3.heap.push { cls := .type "slice", data := .fields #[vl, vu, .none] } } := I3.kept (t' := s3.toks) fun b ob q => Heap.get?_push_of_some _ q
  obtain ⟨T, id, hT, ht, hg⟩ := hr pins { s3 with heap := s3.heap.push { cls := .type "slice", data := .fields #[vl, vu, .none] } } σ H3 x v vl vu l u s3.heap.objs.size Q I4 r1 (Heap.IsSliceOf.new ..) pl pu q3
  show wpAny (model X.prog X.w) X.A (subscriptTail e (.Slice lo hi none p2) v (.ref s3.heap.objs.size)) (EP X pins σ Q) X.xe { s3 with heap := s3.heap.push { cls := .type "slice", data := .fields #[vl, vu, .none] } }
  exact tail_any (ops := [.ref s3.heap.objs.size, v]) ht hT hg (by with_unfolding_all rfl)

def cutV (xs : List V) (lo hi : Option Int) : List V := (xs.drop (HT.sIx xs.length 0 lo)).take (HT.sIx xs.length xs.length hi - HT.sIx xs.length 0 lo)
theorem cutV_length (xs : List V) (lo hi : Option Int) : (cutV xs lo hi).length ≤ xs.length := by
  unfold cutV
  rw [List.length_take, List.length_drop]
  omega

end
end L2

namespace L2
open PySem PySem.Spec PyProof.Rows

def ixN (n : Nat) (i : Int) : Option Nat := if 0 ≤ i then (if i < n then some i.toNat else none) else if -(n : Int) ≤ i then some (i + n).toNat else none
def atI {α : Type} (xs : List α) (i : Int) : Option α := (ixN xs.length i).bind fun j => xs[j]?
theorem ixN_seq {n : Nat} {i : Int} {j : Nat} (h : ixN n i = some j) : seqIndex? i n = some j ∧ j < n ∧ -(n : Int) ≤ i ∧ i < n := by
  unfold ixN at h
  by_cases h0 : 0 ≤ i
  · rw [if_pos h0] at h
    by_cases h1 : i < n
    · rw [if_pos h1] at h
      have e : i.toNat = j := Option.some.inj h
      exact ⟨by rw [seqIndex_of h0 h1, e], by omega, by omega, h1⟩
    · rw [if_neg h1] at h; cases h
  · rw [if_neg h0] at h
    by_cases h1 : -(n : Int) ≤ i
    · rw [if_pos h1] at h
      have e : (i + n).toNat = j := Option.some.inj h
      exact ⟨by rw [seqIndex_neg (by omega) h1, e], by omega, h1, by omega⟩
    · rw [if_neg h1] at h; cases h
theorem atI_get {α : Type} {xs : List α} {i : Int} {v : α} (h : atI xs i = some v) : ∃ j, seqIndex? i xs.length = some j ∧ xs[j]? = some v ∧ j < xs.length ∧ -(xs.length : Int) ≤ i ∧ i < xs.length := by
  unfold atI at h
  cases e : ixN xs.length i with
  | none => rw [e] at h; cases h
  | some j =>
    rw [e] at h
    obtain ⟨h1, h2, h3, h4⟩ := ixN_seq e
    exact ⟨j, h1, h, h2, h3, h4⟩
theorem atI_nat {α : Type} {xs : List α} {j : Nat} {v : α} (h : xs[j]? = some v) : atI xs (j : Int) = some v := by
  have hj : j < xs.length := (List.getElem?_eq_some_iff.mp h).1
  have e : ixN xs.length (j : Int) = some j := by
    unfold ixN
    rw [if_pos (by omega), if_pos (by omega)]; simp
  unfold atI; rw [e]; exact h

def PlainIx (b : Expr) : Prop := ∀ o i, subscripted b false o i = operate [o, i] (getItem o i)
def IxR (X : Cx) (r : R2) : Prop :=
  ∀ (value slice : Expr) (pins : List (Addr × Obj)) (s : Shared) (σ : St) (H : Hp) (x y : V) (v u : Value) (Q : VK), Inv X pins σ H s → RelV x v → RelV y u → r x y H Q →
    subscripted slice false v u = operate [v, u] (getItem v u) → wpAny (model X.prog X.w) X.A (subscriptTail value slice v u) (EP X pins σ Q) X.xe s
def MtR (X : Cx) (id : String) (r : V → List V → Hp → VK → Prop) : Prop :=
  ∀ (pins : List (Addr × Obj)) (s : Shared) (σ : St) (H : Hp) (x : V) (xs : List V) (v : Value) (us : List Value) (Q : VK), Inv X pins σ H s → RelV x v → Vals xs us → r x xs H Q →
    wpAny (model X.prog X.w) X.A (call (.builtin id) (v :: us)) (EP X pins σ Q) X.xe s
section
variable {X : Cx} {a b : Expr} {ta tb : TE} {pos : Pos}
theorem pe_ix {r : R2} (hr : IxR X r) (ha : PE X a ta) (hb : PE X b tb) (hs : PlainIx b) : PE X (.Subscript a b pos) (tOp r ta tb) := by
  intro pins s σ H Q I h
  exact Subscript_ (binT ha hb I h fun v u s2 x y H2 I2 rx ry q => hr a b pins s2 σ H2 x y v u Q I2 rx ry q (hs _ _))

def rIxL (K : PySem.W.Frag) : R2 := fun x y H Q => ∃ p xs i v, x = .ref p ∧ y = .int i ∧ SqL K H p xs ∧ atI xs i = some v ∧ Q v H
theorem ix_list : IxR X (rIxL X.K) := by
  intro value slice pins s σ H x y v u Q I rx ry h hs
  obtain ⟨p, xs, i, z, rfl, rfl, hq, he, q⟩ := h
  cases rx
  obtain ⟨t, rfl⟩ := ry
  obtain ⟨its, r, pl, hz⟩ := I.list hq
  obtain ⟨j, h1, h2, h3, h4, h5⟩ := atI_get he
  obtain ⟨w, ew, rw'⟩ := r.get h2
  have hl := r.length
  have hn := line63
  have fin : EP X pins σ Q w s := ⟨z, H, I, rw', q⟩
  by_cases h0 : 0 ≤ i
  · have hj : i.toNat = j := by
      rw [seqIndex_of h0 h5] at h1
      exact Option.some.inj h1
    exact item_listR pl.isList h0 (by omega) (by rw [hj]; simpa using ew) fin hs
  · have hj : (i + (its.toArray.size : Int)).toNat = j := by
      rw [seqIndex_neg (by omega) h4] at h1
      rw [List.size_toArray, ← hl]
      exact Option.some.inj h1
    exact subscriptTail_builtinR (x := w) pl.isList.typeIs slot_list_getitem.lookup
      (wpAny_getItem_list_neg (Q := fun r s' => r = w ∧ EP X pins σ Q r s') pl.isList (by omega) (by rw [List.size_toArray] <;> omega) (by omega) (by rw [hj]; simpa using ew) ⟨rfl, fin⟩) hs

theorem mapSeq_set (its : List Value) (n j : Nat) (u : Value) : Obj.mapSeq (·.setIfInBounds j u) { cls := .type "list", data := .seq its.toArray n } = { cls := .type "list", data := .seq (its.set j u).toArray n } := by
  simp [Obj.mapSeq]
theorem Inv.lst {pins : List (Addr × Obj)} {σ : St} {H : Hp} {s : Shared} {p : Addr} {xs : List V} (I : Inv X pins σ H s) (h : H p = some (.lst xs)) :
    ∃ (its : List Value) (n : Nat), Vals xs its ∧ s.heap.get? p = some { cls := .type "list", data := .seq its.toArray n } ∧ xs.length ≤ sizeLine := by
  obtain ⟨z, its, n, r, e⟩ := I.hok p _ h
  exact ⟨its, n, r, e, z⟩
theorem Inv.lstUpd {pins : List (Addr × Obj)} {σ : St} {H : Hp} {s : Shared} {p : Addr} {xs ys : List V} {its its' : List Value} {n n' : Nat} {f : Obj → Obj} (I : Inv X pins σ H s) (h : H p = some (.lst xs))
    (ho : s.heap.get? p = some { cls := .type "list", data := .seq its.toArray n }) (hf : f { cls := .type "list", data := .seq its.toArray n } = { cls := .type "list", data := .seq its'.toArray n' }) (r : Vals ys its') (hz : ys.length ≤ sizeLine) (t : Nat) :
    Inv X pins σ (upd H p (.lst ys)) { s with heap := s.heap.update p f, toks := t } := by
  have e : (s.heap.update p f).get? p = some { cls := .type "list", data := .seq its'.toArray n' } := by
    rw [Heap.get?_update_self f ho (by rw [hf] <;> rfl), hf]
  refine I.write (x := p) (e := p) (by rw [h]; trivial) (.inl rfl) (fun b u hb q => (Heap.get?_update_other _ _ (Ne.symm hb)).trans q) ⟨_, e⟩ ?_
  exact ⟨hz, its', n', r, e⟩
def rSetL : V → V → V → Hp → (Hp → Prop) → Prop := fun o i v H Q => ∃ p xs k j, o = .ref p ∧ i = .int k ∧ H p = some (.lst xs) ∧ ixN xs.length k = some j ∧ Q (upd H p (.lst (xs.set j v)))
theorem set_list : PSet X rSetL := by
  intro pins s σ H o i v ov iv u Q I ro ri rv h
  obtain ⟨p, xs, k, j, rfl, rfl, hp, hj, q⟩ := h
  cases ro
  obtain ⟨t, rfl⟩ := ri
  obtain ⟨its, n, r, ho, hz⟩ := I.lst hp
  obtain ⟨h1, h2, h3, h4⟩ := ixN_seq hj
  have hl := r.length
  have hn := line63
  have I' : Inv X pins σ (upd H p (.lst (xs.set j v))) { s with heap := s.heap.update p (Obj.mapSeq (·.setIfInBounds j u)) } :=
    I.lstUpd hp ho (mapSeq_set its n j u) (r.set rv j) (by rw [List.length_set]; exact hz) s.toks
  by_cases h0 : 0 ≤ k
  · have hk : k.toNat = j := by
      rw [seqIndex_of h0 h4] at h1
      exact Option.some.inj h1
    exact PySem.W.ki_setAt ho h0 (by omega) (by rw [List.size_toArray, ← hl]; exact h4) (by rw [hk]; exact ⟨_, I', q⟩)
  · have hk : (k + (its.toArray.size : Int)).toNat = j := by
      rw [seqIndex_neg (by omega) h3] at h1
      rw [List.size_toArray, ← hl]
      exact Option.some.inj h1
    exact PySem.W.ki_setBack ho (by omega) (by rw [List.size_toArray, ← hl]; exact h3) (by omega) (by rw [hk]; exact ⟨_, I', q⟩)

theorem slice_bounds (lo hi : Option Int) (n : Nat) : (sliceBounds lo hi none n).1 = ((HT.sIx n 0 lo : Nat) : Int) ∧ (sliceBounds lo hi none n).2.1 = ((HT.sIx n n hi : Nat) : Int) ∧ (sliceBounds lo hi none n).2.2 = 1 := by
  refine ⟨?_, ?_, rfl⟩
  · cases lo with
    | none => simp [sliceBounds, HT.sIx]
    | some i =>
      simp only [sliceBounds, HT.sIx, Option.getD_none, show (1 : Int) > 0 by decide, if_true]
      by_cases h : i < 0
      · simp only [h, if_true] <;> omega
      · simp only [h, if_false] <;> omega
  · cases hi with
    | none => simp [sliceBounds, HT.sIx]
    | some i =>
      simp only [sliceBounds, HT.sIx, Option.getD_none, show (1 : Int) > 0 by decide, if_true]
      by_cases h : i < 0
      · simp only [h, if_true] <;> omega
      · simp only [h, if_false] <;> omega
theorem slicePick_cut (its : List Value) (lo hi : Option Int) : slicePick its.toArray lo hi none = ((its.drop (HT.sIx its.length 0 lo)).take (HT.sIx its.length its.length hi - HT.sIx its.length 0 lo)).toArray := by
  obtain ⟨h1, h2, h3⟩ := slice_bounds lo hi its.toArray.size
  unfold slicePick
  rw [h1, h2, h3]
  simp only [sliceRange_one, pick_run, List.size_toArray] <;> rfl
def rSlL (K : PySem.W.Frag) : V → Option Int → Option Int → Hp → VK → Prop := fun x lo hi H Q => ∃ a xs, x = .ref a ∧ SqL K H a xs ∧ ∀ p, H p = none → Q (.ref p) (upd H p (.lst (cutV xs lo hi)))
theorem sl_list : SlR X (rSlL X.K) := by
  intro pins s σ H x v vl vu lo hi sl Q I rx hs pl pu h
  obtain ⟨a, xs, rfl, hx, q⟩ := h
  cases rx
  obtain ⟨its, r, ht, hz⟩ := I.list hx
  have hlen := r.length
  refine ⟨"list", _, slot_list_getitem.lookup, ht.isList.typeIs, ?_⟩
  refine wpAny_getItem_list_slice ht.isList hs pl pu .none (by simp) ?_ (by rw [List.size_toArray] <;> omega)
  rw [slicePick_cut, ← hlen]
  refine ⟨.ref s.heap.objs.size, _, I.laid (t' := s.toks) (o := .lst (cutV xs lo hi)) (fun b ob q => Heap.get?_push_of_some _ q) (Nat.le_refl _) ?_, rfl, q _ (I.hok.fresh (Nat.le_refl _))⟩
  exact ⟨Nat.le_trans (cutV_length xs lo hi) hz, _, 0, (r.drop (HT.sIx xs.length 0 lo)).take (HT.sIx xs.length xs.length hi - HT.sIx xs.length 0 lo), Heap.get?_push_size _ rfl⟩


theorem call_len_seq : CallR X (.builtin "len") (fun xs H Q => ∃ p ys, xs = [.ref p] ∧ (SqL X.K H p ys ∨ SqT X.K H p ys) ∧ Q (.int ys.length) H) := by
  intro pins s σ H xs us Q I r h
  obtain ⟨p, ys, rfl, hq, q⟩ := h
  obtain ⟨u, rfl, rx⟩ := vals1 r
  cases rx
  have hn := line63
  rcases hq with hq | hq
  · obtain ⟨its, r', pl, hz⟩ := I.list hq
    have hlen := r'.length
    exact Calls.call_len_list pl.isList (by simp only [List.size_toArray] <;> omega) ⟨.int ys.length, H, I.tok _, ⟨s.toks + 1, by rw [List.size_toArray, hlen]⟩, q⟩
  · obtain ⟨its, r', pl, hz⟩ := I.tuple hq
    have hlen := r'.length
    exact len_tuple pl (by simp only [List.size_toArray] <;> omega) ⟨.int ys.length, H, I.tok _, ⟨s.toks + 1, by rw [List.size_toArray, hlen]⟩, q⟩
theorem call_list_of : CallR X (.type "list") (fun xs H Q => ∃ p ys, xs = [.ref p] ∧ (SqL X.K H p ys ∨ SqT X.K H p ys) ∧ ∀ l, H l = none → Q (.ref l) (upd H l (.lst ys))) := by
  intro pins s σ H xs us Q I r h
  obtain ⟨p, ys, rfl, hq, q⟩ := h
  obtain ⟨u, rfl, rx⟩ := vals1 r
  cases rx
  have fin : ∀ (its : List Value), Vals ys its → ys.length ≤ sizeLine → ∀ (h' : Heap) (c' : Nat), (∀ b o', s.heap.get? b = some o' → h'.get? b = some o') →
      h'.get? s.heap.objs.size = some { cls := .type "list", dict := none, data := .seq its.toArray c', slots := #[] } → EP X pins σ Q (.ref s.heap.objs.size) { s with heap := h' } := fun its r' hz h' c' kp e =>
    ⟨.ref s.heap.objs.size, _, I.laid (t' := s.toks) kp (Nat.le_refl _) (show ObjOk X.prog X.w _ h' _ (.lst ys) from ⟨hz, its, c', r', e⟩), rfl, q _ (I.hok.fresh (Nat.le_refl _))⟩
  rcases hq with hq | hq
  · obtain ⟨its, r', pl, hz⟩ := I.list hq
    have hlen := r'.length
    obtain ⟨o, ho, hc, n, hd⟩ := pl.isList
    exact call_list_seq p (.inl rfl) ho hc hd (fun h' c' kp e => fin its r' hz h' c' kp e) (by simp only [List.size_toArray] <;> omega)
  · obtain ⟨its, r', pl, hz⟩ := I.tuple hq
    have hlen := r'.length
    obtain ⟨o, ho, hc, n, hd⟩ := pl
    exact call_list_seq p (.inr rfl) ho hc hd (fun h' c' kp e => fin its r' hz h' c' kp e) (by simp only [List.size_toArray] <;> omega)

def tyV (K : PySem.W.Frag) (T : String) (x : V) (H : Hp) : Prop := match x with
  | .str _ => T = "str"
  | .int _ => T = "int"
  | .ref p => (T = "list" ∧ ∃ xs, SqL K H p xs) ∨ (T = "tuple" ∧ ∃ o, K.lookup p = some o ∧ o.cls = .type "tuple" ∧ o.dict = none) ∨
      (T = "dict" ∧ ((∃ kvs, H p = some (.dK kvs)) ∨ ∃ kvs, H p = some (.dT kvs))) ∨ (T = "set" ∧ ∃ S n, H p = some (.set S n))
  | _ => False
theorem tyV_is {pins : List (Addr × Obj)} {σ : St} {H : Hp} {s : Shared} {T : String} {x : V} {v : Value} (I : Inv X pins σ H s) (r : RelV x v) (ty : tyV X.K T x H) :
    s.TypeIs v T ∧ ∀ a, v = .ref a → ∃ ob, s.heap.get? a = some ob ∧ ob.dict = none := by
  cases x with
  | str z =>
    obtain ⟨t, rfl⟩ := r
    cases (show T = "str" from ty)
    exact ⟨typeIs_str s z t, fun _ e => nomatch e⟩
  | int i =>
    obtain ⟨t, rfl⟩ := r
    cases (show T = "int" from ty)
    exact ⟨typeIs_int s i t, fun _ e => nomatch e⟩
  | ref p =>
    cases r
    rcases ty with ⟨rfl, xs, hq⟩ | ⟨rfl, o, hk, hc, hd⟩ | ⟨rfl, hk⟩ | ⟨rfl, S, n, hk⟩
    · obtain ⟨its, _, pl, _⟩ := I.list hq
      refine ⟨pl.isList.typeIs, fun a e => ?_⟩
      cases e
      obtain ⟨o, n, e, c, hd, _⟩ := pl
      exact ⟨o, e, hd⟩
    · refine ⟨⟨o, I.kIn p o hk, hc⟩, fun a e => ?_⟩
      cases e
      exact ⟨o, I.kIn _ o hk, hd⟩
    · have z : ∃ o, s.heap.get? p = some o ∧ o.ExactDict := by
        rcases hk with ⟨kvs, hk⟩ | ⟨kvs, hk⟩
        · obtain ⟨_, _, _, _, o, _, _, e, ex, _⟩ := I.hok p _ hk
          exact ⟨o, e, ex⟩
        · obtain ⟨_, _, _, _, o, _, _, e, ex, _⟩ := I.hok p _ hk
          exact ⟨o, e, ex⟩
      obtain ⟨o, e, ex⟩ := z
      refine ⟨⟨o, e, ex.1⟩, fun a e2 => ?_⟩
      cases e2
      exact ⟨o, e, ex.2.1⟩
    · obtain ⟨o, _, _, _, e, ex, _⟩ := I.hok p _ hk
      refine ⟨⟨o, e, ex.1⟩, fun a e2 => ?_⟩
      cases e2
      exact ⟨o, e, ex.2.1⟩
  | _ => exact False.elim ty
def tBM0 (K : PySem.W.Frag) (T : String) (r : V → List V → Hp → VK → Prop) (to : TE) : TE := fun σ H Q => to σ H fun x H1 => tyV K T x H1 ∧ r x [] H1 Q
def tBM (K : PySem.W.Frag) (T : String) (r : V → List V → Hp → VK → Prop) (to : TE) (t : TA) : TE := fun σ H Q => to σ H fun x H1 => tyV K T x H1 ∧ t σ H1 fun xs H2 => r x xs H2 Q
variable {o e : Expr} {es : List Expr} {to : TE} {t : TA} {name : Str} {apos cpos : Pos} {T id : String} {r : V → List V → Hp → VK → Prop}
theorem pe_bm0 (pa : PlainAttrs T) (slot : Slot T name id) (hty : typeOf (.builtin id) = pure (.type "method_descriptor")) (hm : MtR X id r) (ho : PE X o to)
    (hbase : attributeBase o name X.env (eval o X.env) = eval o X.env := by rfl) (hline : (apos.endLine == cpos.line) = true := by rfl) : PE X (.Call (.Attribute o name apos) [] [] cpos) (tBM0 X.K T r to) := by
  intro pins s σ H Q I h
  refine wpAny_Call_method0_late hbase hline (thn (ho pins s σ H _ I h) fun v s1 ⟨x, H1, I1, r1, ty, q1⟩ => ?_)
  obtain ⟨h1, h2⟩ := tyV_is I1 r1 ty
  exact ⟨T, id, pa, slot, hty, h1, h2, Calls.callWith_builtin rfl (PySem.evalArgs_none (hm pins s1 σ H1 x [] v [] Q I1 r1 .nil q1))⟩
theorem pe_bm (pa : PlainAttrs T) (slot : Slot T name id) (hty : typeOf (.builtin id) = pure (.type "method_descriptor")) (hm : MtR X id r) (ho : PE X o to) (ha : PA X (e :: es) t)
    (hbase : attributeBase o name X.env (eval o X.env) = eval o X.env := by rfl)
    (hfew : ((backTo cpos (starEach (e :: es) X.env)).all (fun x => !x.1) && (backToKw cpos (keywordEach [] X.env)).all (fun x => x.1.isSome)
      && decide ((e :: es).length + ([] : List Keyword).length + (if ([] : List Keyword).isEmpty then 0 else 1) < 30)) = true := by rfl)
    (hline : (apos.endLine == cpos.line) = true := by rfl) (hs : starEach (e :: es) X.env = (false, eval e X.env) :: starEach es X.env := by rfl) (hplain : (backTo cpos (starEach es X.env)).any (·.1) = false := by rfl) :
    PE X (.Call (.Attribute o name apos) (e :: es) [] cpos) (tBM X.K T r to t) := by
  intro pins s σ H Q I h
  refine wpAny_Call_method_late hbase hfew hline rfl (thn (ho pins s σ H _ I h) fun v s1 ⟨x, H1, I1, r1, ty, q1⟩ => ?_)
  obtain ⟨h1, h2⟩ := tyV_is I1 r1 ty
  refine ⟨T, id, pa, slot, hty, h1, h2, ?_⟩
  have hA := ha cpos pins s1 σ H1 _ I1 q1
  rw [hs] at hA ⊢
  refine Calls.callWith_builtin (by show (false || (backTo cpos (starEach es X.env)).any (·.1)) = false; rw [hplain] <;> rfl) (Calls.evalArgs_plain ?_)
  exact thn hA fun us s2 ⟨vs, H2, I2, r2, q2⟩ => hm pins s2 σ H2 x vs v us Q I2 r1 r2 q2
/- xs.append(e), list.index on a module's tuple .. are MtR facts of 06m -/
end
end L2

namespace L2
open PySem PySem.Spec PyProof.Rows

def MtM (X : Cx) (id : String) (r : V → List V → Hp → VK → Prop) : Prop :=
  ∀ (pins : List (Addr × Obj)) (s : Shared) (σ : St) (H : Hp) (x : V) (xs : List V) (v : Value) (us : List Value) (Q : VK), Inv X pins σ H s → RelV x v → Vals xs us → r x xs H Q →
    wpAny (model X.prog X.w) X.A (call (.builtin id) (v :: us)) (EP X pins σ Q) X.xe s

theorem Vals.one : ∀ {x : V} {us : List Value}, Vals [x] us → ∃ u, us = [u] ∧ RelV x u
  | _, _, .cons r .nil => ⟨_, rfl, r⟩
theorem Vals.zero : ∀ {us : List Value}, Vals [] us → us = []
  | _, .nil => rfl
theorem Vals.dropLast {xs : List V} {us : List Value} (h : Vals xs us) : Vals xs.dropLast us.dropLast := by
  induction h with
  | nil => exact .nil
  | cons r t ih =>
    cases t with
    | nil => exact .nil
    | cons q t' => exact .cons r ih
theorem Vals.reverse {xs : List V} {us : List Value} (h : Vals xs us) : Vals xs.reverse us.reverse := by
  induction h with
  | nil => exact .nil
  | cons r t ih => rw [List.reverse_cons, List.reverse_cons]; exact Vals.append ih (.cons r .nil)
theorem erase_last {α : Type} (l : List α) : l.eraseIdx (l.length - 1) = l.dropLast := by
  induction l with
  | nil => rfl
  | cons a r ih =>
    cases r with
    | nil => rfl
    | cons b r =>
      have e : (a :: b :: r).length - 1 = ((b :: r).length - 1) + 1 := by
        have h1 : (a :: b :: r).length = r.length + 2 := rfl
        have h2 : (b :: r).length = r.length + 1 := rfl
        omega
      rw [e, List.eraseIdx_cons_succ, ih]
      all_goals rfl

section
variable {X : Cx} {pins : List (Addr × Obj)} {σ : St} {H : Hp} {s : Shared} {l b : Addr} {xs ys zs : List V}

theorem Inv.lset {its its' : List Value} {n : Nat} {f : Array Value → Array Value} {t' : Nat} (I : Inv X pins σ H s) (hH : H l = some (.lst xs))
    (e : s.heap.get? l = some { cls := .type "list", data := .seq its.toArray n }) (hf : f its.toArray = its'.toArray) (hv : Vals ys its') (hz : ys.length ≤ sizeLine) :
    Inv X pins σ (upd H l (.lst ys)) { s with heap := s.heap.update l (Obj.mapSeq f), toks := t' } := by
  have q := PySem.IsL.update e f
  rw [hf] at q
  refine I.write (x := l) (e := l) (by rw [hH]; exact trivial) (.inl rfl) (fun b' u hb hu => (Heap.get?_update_other s.heap (Obj.mapSeq f) (Ne.symm hb)).trans hu) ⟨_, q⟩ ?_
  exact ⟨hz, its', _, hv, q⟩
theorem Inv.lnew {its : List Value} {t' : Nat} (I : Inv X pins σ H s) (hv : Vals ys its) (hz : ys.length ≤ sizeLine) :
    Inv X pins σ (upd H s.heap.objs.size (.lst ys)) { s with heap := s.heap.push { cls := .type "list", data := .seq its.toArray }, toks := t' } :=
  I.laid (fun _ _ q => Heap.get?_push_of_some _ q) (Nat.le_refl _) ⟨hz, its, 0, hv, Heap.get?_push_size _ rfl⟩
theorem Inv.fresh (I : Inv X pins σ H s) : H s.heap.objs.size = none := I.hok.fresh (Nat.le_refl _)
theorem Inv.lstM (I : Inv X pins σ H s) (hH : H l = some (.lst xs)) : xs.length ≤ sizeLine ∧ ∃ (its : List Value) (n : Nat), Vals xs its ∧ xs.length = its.length ∧ s.heap.get? l = some { cls := .type "list", data := .seq its.toArray n } := by
  obtain ⟨z, its, n, r, e⟩ := I.hok l _ hH
  exact ⟨z, its, n, r, r.length, e⟩

theorem notLongL {n : Nat} (h : n ≤ sizeLine) : Builtin.List.listTooLong n = false := by
  unfold Builtin.List.listTooLong
  exact decide_eq_false (by omega)
end

section
variable {X : Cx}

def rAppend : V → List V → Hp → VK → Prop := fun x vs H Q => ∃ l xs y, x = .ref l ∧ vs = [y] ∧ H l = some (.lst xs) ∧ xs.length < sizeLine ∧ Q .non (upd H l (.lst (xs ++ [y])))
theorem mt_append : MtM X "list.append" rAppend := by
  intro pins s σ H x vs v us Q I rx rv h
  obtain ⟨l, xs, y, rfl, rfl, hH, hz, q⟩ := h
  cases rx
  obtain ⟨u, rfl, ru⟩ := rv.one
  obtain ⟨z, its, n, r, hl, e⟩ := I.lstM hH
  refine call_meets F.slot_list_append ⟨_, e, rfl⟩ F.entry_list_append (F.args_list_append_2 _ _) (PySem.list_append l its.toArray n u (by rw [List.size_toArray]; omega)) ⟨e, ?_⟩
  refine ⟨.non, _, I.lset (its' := its ++ [u]) hH e (by simp) (r.append (.cons ru .nil)) ?_, rfl, q⟩
  rw [List.length_append, List.length_singleton]
  omega

def rExtend : V → List V → Hp → VK → Prop := fun x vs H Q => ∃ l b xs zs, x = .ref l ∧ vs = [.ref b] ∧ H l = some (.lst xs) ∧ H b = some (.lst zs) ∧ xs.length + zs.length ≤ sizeLine ∧ Q .non (upd H l (.lst (xs ++ zs)))
theorem mt_extend : MtM X "list.extend" rExtend := by
  intro pins s σ H x vs v us Q I rx rv h
  obtain ⟨l, b, xs, zs, rfl, rfl, hH, hB, hz, q⟩ := h
  cases rx
  obtain ⟨u, rfl, ru⟩ := rv.one
  cases ru
  obtain ⟨z, its, n, r, hl, e⟩ := I.lstM hH
  obtain ⟨z2, its2, n2, r2, hl2, e2⟩ := I.lstM hB
  have hsz : its.toArray.size + its2.toArray.size ≤ sizeLine := by rw [List.size_toArray, List.size_toArray]; omega
  have hlong : ¬ (!its.toArray.isEmpty && Builtin.List.listTooLong (its.toArray.size + its2.toArray.size)) = true := by
    rw [notLongL hsz, Bool.and_false]
    exact Bool.false_ne_true
  refine call_meets F.slot_list_extend ⟨_, e, rfl⟩ F.entry_list_extend (F.args_list_extend_2 _ _)
    (AutoSeq1.list_extend_list_list_0 l its.toArray n b its2.toArray n2 hlong (by rw [List.size_toArray]; omega) (by omega)) ⟨e, e2, ?_⟩
  refine ⟨.non, _, I.lset (its' := its ++ its2) hH e (by simp) (r.append r2) ?_, rfl, q⟩
  rw [List.length_append]
  omega

def rPop : V → List V → Hp → VK → Prop := fun x vs H Q => ∃ l xs y, x = .ref l ∧ vs = [] ∧ H l = some (.lst xs) ∧ xs[xs.length - 1]? = some y ∧ Q y (upd H l (.lst xs.dropLast))
theorem mt_pop : MtM X "list.pop" rPop := by
  intro pins s σ H x vs v us Q I rx rv h
  obtain ⟨l, xs, y, rfl, rfl, hH, hy, q⟩ := h
  cases rx
  have hus := rv.zero
  subst hus
  obtain ⟨z, its, n, r, hl, e⟩ := I.lstM hH
  obtain ⟨u, hu, ru⟩ := r.get hy
  have hy' : its.toArray[its.toArray.size - 1]? = some u := by
    show its.toArray[its.length - 1]? = some u
    rw [← Array.getElem?_toList, ← hl]
    exact hu
  refine call_meets F.slot_list_pop ⟨_, e, rfl⟩ F.entry_list_pop (F.args_list_pop_1 _) (MeetsSeq.list_pop_last l its.toArray n u hy' (by rw [List.size_toArray]; omega)) ⟨e, ?_⟩
  refine ⟨y, _, I.lset (its' := its.dropLast) hH e ?_ r.dropLast ?_, ru, q⟩
  · show its.toArray.eraseIdxIfInBounds (its.toArray.size - 1) = its.dropLast.toArray
    rw [List.size_toArray, List.eraseIdxIfInBounds_toArray, erase_last]
  · rw [List.length_dropLast]
    omega


def rReverse : V → List V → Hp → VK → Prop := fun x vs H Q => ∃ l xs, x = .ref l ∧ vs = [] ∧ H l = some (.lst xs) ∧ Q .non (upd H l (.lst xs.reverse))
theorem mt_reverse : MtM X "list.reverse" rReverse := by
  intro pins s σ H x vs v us Q I rx rv h
  obtain ⟨l, xs, rfl, rfl, hH, q⟩ := h
  cases rx
  have hus := rv.zero
  subst hus
  obtain ⟨z, its, n, r, hl, e⟩ := I.lstM hH
  refine call_meets F.slot_list_reverse ⟨_, e, rfl⟩ F.entry_list_reverse (F.args_list_reverse_1 _) (AutoSeq1.list_reverse_list_0 l its.toArray n (by rw [List.size_toArray]; omega)) ⟨e, ?_⟩
  refine ⟨.non, _, I.lset (its' := its.reverse) hH e (by simp) r.reverse ?_, rfl, q⟩
  rw [List.length_reverse]
  omega

def rClear : V → List V → Hp → VK → Prop := fun x vs H Q => ∃ l xs, x = .ref l ∧ vs = [] ∧ H l = some (.lst xs) ∧ Q .non (upd H l (.lst []))
theorem mt_clear : MtM X "list.clear" rClear := by
  intro pins s σ H x vs v us Q I rx rv h
  obtain ⟨l, xs, rfl, rfl, hH, q⟩ := h
  cases rx
  have hus := rv.zero
  subst hus
  obtain ⟨z, its, n, r, hl, e⟩ := I.lstM hH
  refine call_meets F.slot_list_clear ⟨_, e, rfl⟩ F.entry_list_clear (F.args_list_clear_1 _) (AutoSeq1.list_clear_list_0 l its.toArray n (by rw [List.size_toArray]; omega)) ⟨e, ?_⟩
  exact ⟨.non, _, I.lset (its' := []) (ys := []) hH e rfl .nil (Nat.zero_le _), rfl, q⟩

def rCat : R2 := fun x y H Q => ∃ l b xs zs, x = .ref l ∧ y = .ref b ∧ H l = some (.lst xs) ∧ H b = some (.lst zs) ∧ xs.length + zs.length ≤ sizeLine ∧ ∀ p, H p = none → Q (.ref p) (upd H p (.lst (xs ++ zs)))
theorem op_cat : OpR X (binaryOp .Add) rCat := by
  intro pins s σ H x y v u Q I rx ry h
  obtain ⟨l, b, xs, zs, rfl, rfl, hH, hB, hz, q⟩ := h
  cases rx
  cases ry
  obtain ⟨z, its, n, r, hl, e⟩ := I.lstM hH
  obtain ⟨z2, its2, n2, r2, hl2, e2⟩ := I.lstM hB
  refine PySem.P.add_list e e2 ?_ (by rw [List.size_toArray, List.size_toArray]; omega)
  have ea : its.toArray ++ its2.toArray = (its ++ its2).toArray := by simp
  rw [ea]
  exact ⟨.ref _, _, I.lnew (t' := s.toks) (r.append r2) (by rw [List.length_append]; omega), rfl, q _ I.fresh⟩

end

section
variable {prog : Program} {w : World} {A : Around} {E : Value → Shared → Prop} {s : Shared}
end

section
variable {X : Cx}
end
end L2

namespace Att
open PySem PySem.W PySem.Calls PyProof.Rows

theorem ints_of_wellAll {P : Params} {h : Heap} : ∀ (ns : List Int) (vs : List Value), WellAll P h vs (ns.map WData.int) → IntsAre vs ns := by
  intro ns
  induction ns with
  | nil =>
    intro vs w
    rw [List.map_nil] at w
    cases w
    exact .nil
  | cons n ns ih =>
    intro vs w
    rw [List.map_cons] at w
    cases w with
    | cons a b =>
      cases a
      exact .cons _ _ (ih _ b)

theorem script_of {l : OpenLaw} {n : Nat} (hn : l.most = some n) {P : Params} {h : Heap} {args : List WData} {vals : List Value}
    (hpre : l.row.toRowW.claim.pre args = true) (hwl : WellAll P h vals args) :
    ∃ a vs ns, vals = [Value.ref a] ∧ args = [WData.list (ns.map WData.int)] ∧ h.get? a = some { cls := .type "list", data := .seq vs.toArray } ∧ IntsAre vs ns ∧ ns.length ≤ n := by
  have hsh : WShape.hasAll [] args [.list .int] = true := (pre_splitW hpre).1
  have hc : l.pre.holds [] { args := args } = true := (pre_splitW hpre).2
  obtain ⟨d, r, rfl, h1, h2⟩ := hasAllW_cons hsh
  obtain rfl := hasAllW_nil h2
  obtain ⟨xs, rfl, h3⟩ := hasW_list h1
  obtain ⟨ns, rfl⟩ := items_int h3
  have hlen : ns.length ≤ n := by
    unfold OpenLaw.pre at hc
    have h4 : (WTm.not (.lt (.lit (.int (n : Int))) (.len (.arg 0)))).holds [] { args := [.list (ns.map .int)] } = true := by
      have h4 := (holds_andW hc).1
      rw [hn] at h4
      exact h4
    have h5 := condW_of h4 (w_not (w_lt w_lit (w_len_list (w_arg rfl))))
    rw [List.length_map] at h5
    refine Nat.le_of_not_lt fun q => ?_
    have q' : (n : Int) < ((ns.length : Nat) : Int) := by omega
    first
      | (rw [decide_eq_true q'] at h5; exact absurd h5 (by decide))
      | (simp at h5; omega)
  cases hwl with
  | cons w1 w2 =>
    cases w2
    cases w1 with
    | list ho hall => exact ⟨_, _, ns, rfl, rfl, ho, ints_of_wellAll ns _ hall, hlen⟩

theorem post_true (l : OpenLaw) (args : List WData) : l.row.toRowW.claim.post args (.bool true) args = true :=
  postW_of (r := l.row.toRowW) (X := (true == true))
    (show WShape.has [] (.bool true) .bool = true by first | rfl | decide | simp [WShape.has, WShape.arms, WShape.armsAll])
    (show (WTm.eq .res (.lit (.bool true))).value [] { args := args, res := some (.bool true), after := args } = some (.bool (true == true)) from w_eq_bool (w_res rfl) w_lit) rfl


theorem attach_call {l : OpenLaw} {n : Nat} {q : Program} {loose : List Str} {XP : (Str → Option Value) → Heap → Prop} {YP : World → Heap → Prop} {d : DefRec}
    (hn : l.most = some n) (hdf : d.params.defaults = [])
    (call : ∀ (w : World) (s₀ s₁ : Shared) (mg mb : Str → Option Value) (fa : Addr) (o : Obj) (pm cd doc : Value) (a : Addr) (vs : List Value) (ns : List Int),
      Ground q loose [] XP w s₀ mg mb s₁.heap → YP w s₁.heap →
      s₁.heap.get? fa = some o → o.data = .func (docDef d.name d.params d.body d.scope pm cd doc) → s₁.heap.CodeRec cd d.name → mg d.name = some (.ref fa) →
      s₁.heap.get? a = some { cls := .type "list", data := .seq vs.toArray } → IntsAre vs ns → ns.length ≤ n → s₁.gens = #[] →
      codeAny (model l.prog w) callerA (.call (.ref fa) ⟨[.ref a], []⟩) (fun r s' => r = .ok (.ret (.bool true)) ∧ OldK s₁.heap s'.heap ∧ s'.os = s₁.os ∧ AllBare s'.gens) s₁) :
    WalkO q loose XP YP l.row.toRowW d [] (fun f vs => PySem.call f vs) := by
  intro w s₀ s₁ mg mb G Y fa o pm cd doc dV kV ho hd hcd hD hmg hg args vals as hpre hlay hrd hwl hlo
  obtain rfl : dV = .none := Dflts.none hD hdf
  obtain rfl : kV = .none := Dflts.noKw hD
  obtain ⟨a, vs, ns, rfl, rfl, hobj, hints, hlen⟩ := script_of hn hpre hwl
  refine enter_call (codeAny_mono (call w s₀ s₁ mg mb fa o pm cd doc a vs ns G Y ho (fd_plain hd) hcd hmg hobj hints hlen hg) fun r s' hq => ?_)
  obtain ⟨rfl, h2, h3, h4⟩ := hq
  exact ⟨.inl ⟨.bool true, .bool true, [], rfl, fun _ => rfl, .bool true, post_true l _, fun _ => ⟨List.Pairwise.nil, fun _ hm => (nomatch hm)⟩⟩, h2, h3, h4⟩


section
variable {prog : Program} {w : World} {A : Around} {E : Value → Shared → Prop} {s : Shared} {K : Frag}






end
end Att

namespace L2
open PySem PySem.Spec PyProof.Rows

theorem vals_ints : ∀ {vs : List Value} {ns : List Int}, IntsAre vs ns → Vals (ns.map V.int) vs
  | _, _, .nil => .nil
  | _, _, .cons n t h => .cons ⟨t, rfl⟩ (vals_ints h)

def Only (H : Hp) : Prop := ∀ b, H b = none ∨ ∃ o xs, H b = some (.frz o (.lst xs))

theorem law_call {P : Program} {w : World} {K : PySem.W.Frag} {mg mb : Str → Option Value} {CX : CXT} {k : Nat} {fa a : Addr} {fd : FuncData} {x : Str} {sp : Sp} {s₁ : Shared} {vs : List Value} {ns : List Int}
    (KX : K.In s₁.heap) (hns : s₁.heap.Ns mainGlobals mg) (hb : s₁.heap.Ns builtinsNs mb) (hbb : ∀ x : Str, x ≠ "__name__" → mb x = bootBuiltins x) (hlim : s₁.heap.NoLimit) (hg : s₁.gens = #[])
    (ha : s₁.heap.get? a = some { cls := .type "list", data := .seq vs.toArray }) (hi : IntsAre vs ns) (hl : ns.length ≤ sizeLine) (hr : Room k callerA)
    (F : ∀ base : Heap, K.In base → base.Ns mainGlobals mg → FnOk P w K mg base CX k fa fd [x] sp) (hbind : ∀ (s : Shared) (u : Value), BindsTo s fd ⟨[u], []⟩ [(x, u)])
    (hsp : ∀ H : Hp, Only H → SqL K H a (ns.map V.int) → sp [.ref a] H (fun v _ => v = .bl true) fun _ _ _ => False)
    (hCX : ∀ H e s', CX [] H s₁ (fun _ _ _ => False) e s' → False) :
    codeAny (model P w) callerA (.call (.ref fa) ⟨[.ref a], []⟩) (fun r s' => r = .ok (.ret (.bool true)) ∧ OldK s₁.heap s'.heap ∧ s'.os = s₁.os ∧ AllBare s'.gens) s₁ := by
  have rv := vals_ints hi
  have lenV := hi.length
  have core : ∀ H : Hp, Only H → SqL K H a (ns.map V.int) → HOk P w H s₁.heap → (∀ b, H b ≠ none → b = a) → (H a ≠ none → K.lookup a = none) →
      codeAny (model P w) callerA (.call (.ref fa) ⟨[.ref a], []⟩) (fun r s' => r = .ok (.ret (.bool true)) ∧ OldK s₁.heap s'.heap ∧ s'.os = s₁.os ∧ AllBare s'.gens) s₁ := by
    intro H hO hS hok hA hK
    have base_of : ∀ {b : Addr} {o : Obj}, s₁.heap.get? b = some o → H b = none → (hidT s₁.heap H).get? b = some o := fun e n => hidT_get e n
    have noA : ∀ {b : Addr} {o : Obj} {es : Array DictEntry} {ep : Nat}, s₁.heap.get? b = some o → o.data = .dict es ep → H b = none := fun {b o es ep} e d => by
      cases q : H b with
      | none => rfl
      | some u =>
        have e' : b = a := hA b (by rw [q]; simp)
        subst e'
        rw [ha] at e; cases e
        have d' : Data.seq vs.toArray _ = Data.dict es ep := d
        cases d'
    have nsK : ∀ {b : Addr} {m : Str → Option Value}, s₁.heap.Ns b m → (hidT s₁.heap H).Ns b m := fun {b m} ⟨o, es, ep, e, d, r⟩ => ⟨o, es, ep, base_of e (noA e d), d, r⟩
    have hKb : K.In (hidT s₁.heap H) := fun b o e => base_of (KX b o e) (by
      cases q : H b with
      | none => rfl
      | some u =>
        have e' : b = a := hA b (by rw [q]; simp)
        subst e'
        rw [hK (by rw [q]; simp)] at e; cases e)
    have hM : Mod K mg (hidT s₁.heap H) := ⟨hKb, nsK hns, ⟨mb, nsK hb, hbb⟩, let ⟨mc, h1, h2⟩ := hlim; ⟨mc, nsK h1, h2⟩⟩
    have e0 : Env0 P w K mg (hidT s₁.heap H) callerA [] s₁ H := ⟨rfl, hM, fun b o e => of_hidT e, Nat.le_of_eq (hidT_size _ _), trivial, fun b hb => absurd (show b ∈ ([] : List Addr) from hb) (by simp), hok, .of_eq hg⟩
    refine codeAny_mono ((F _ hKb (nsK hns)).run callerA [] s₁ H ⟨[.ref a], []⟩ [.ref a] [.ref a] _ _ hr e0 (hbind s₁ (.ref a)) (.cons rfl .nil) (hsp H hO hS)) fun r s' h => ?_
    cases r with
    | error e => exact (hCX H e s' h).elim
    | ok fl =>
      cases fl with
      | next => exact False.elim h
      | brk => exact False.elim h
      | cont => exact False.elim h
      | ret u =>
        obtain ⟨v, H', os, bare, un, hok', r', q⟩ := h
        have q' : v = .bl true := q
        subst q'
        obtain rfl : u = Value.bool true := r'
        refine ⟨rfl, OldK.of_keep fun b o e => ?_, os, bare⟩
        cases q : H b with
        | none => exact un.keep b o e q (by intro z; exact absurd (show b ∈ ([] : List Addr) from z) (by simp)) (by simp)
        | some u =>
          rcases hO b with z | ⟨ob, xs, z⟩
          · rw [q] at z; cases z
          · have z2 := un.frzs b ob _ z
            obtain ⟨e1, _⟩ := hok b _ z
            obtain ⟨e2, _⟩ := hok' b _ z2
            rw [e] at e1; cases e1
            exact e2
  cases hk : K.lookup a with
  | some o =>
    have e := KX a o hk
    rw [ha] at e
    cases e
    refine core (fun _ => none) (fun _ => .inl rfl) (.inr ⟨_, vs.toArray, _, hk, rfl, rfl, rfl, by rw [List.size_toArray, lenV]; exact hl, by simpa using rv⟩) (fun b u z => by have z' : (none : Option HO) = some u := z; cases z') (fun b z => absurd rfl z) fun z => absurd rfl z
  | none =>
    refine core (fun b => if b = a then some (.frz { cls := .type "list", data := .seq vs.toArray } (.lst (ns.map V.int))) else none) (fun b => ?_) (.inl (.inr ⟨{ cls := .type "list", data := .seq vs.toArray }, if_pos rfl⟩)) (fun b u z => ?_) (fun b z => ?_) fun _ => hk
    · by_cases hb : b = a
      · exact .inr ⟨_, _, if_pos hb⟩
      · exact .inl (if_neg hb)
    · by_cases hb : b = a
      · have z' := (if_pos hb).symm.trans z
        cases z'
        subst hb
        exact ⟨ha, by rw [List.length_map]; exact hl, vs, _, rv, ha⟩
      · have z' := (if_neg hb).symm.trans z
        cases z'
    · by_cases hb : b = a
      · exact hb
      · exact absurd (if_neg hb) z
end L2

namespace L2
open PySem PySem.Spec PyProof.Rows


theorem walk_of {l : PySem.W.OpenLaw} {n k : Nat} {q : Program} {loose : List Str} {XP : (Str → Option Value) → Heap → Prop} {YP : World → Heap → Prop} {d : DefRec} {K : Params → PySem.W.Frag} {CX : World → CXT} {sp : World → Sp} {x : Str}
    (hn : l.most = some n) (hn2 : n ≤ sizeLine) (hdf : d.params.defaults = []) (hr : Room k callerA)
    (hY : ∀ (w : World) (h : Heap), YP w h → (K w.params).In h)
    (F : ∀ (w : World) (mg : Str → Option Value) (fa : Addr) (h : Heap), (K w.params).In h → h.Ns mainGlobals mg → mg d.name = some (.ref fa) →
      ∃ fd : FuncData, (∀ (s : Shared) (u : Value), BindsTo s fd ⟨[u], []⟩ [(x, u)]) ∧
        ∀ base : Heap, (K w.params).In base → base.Ns mainGlobals mg → FnOk l.prog w (K w.params) mg base (CX w) k fa fd [x] (sp w))
    (hsp : ∀ (w : World) (H : Hp) (a : Addr) (ns : List Int), ns.length ≤ n → Only H → SqL (K w.params) H a (ns.map V.int) → sp w [.ref a] H (fun v _ => v = .bl true) fun _ _ _ => False)
    (hCX : ∀ (w : World) (H : Hp) (s : Shared) (e : Value) (s' : Shared), CX w [] H s (fun _ _ _ => False) e s' → False) :
    PySem.W.WalkO q loose XP YP l.row.toRowW d [] (fun f vs => PySem.call f vs) := by
  refine Att.attach_call hn hdf fun w s₀ s₁ mg mb fa o pm cd doc a vs ns G Y ho hd hcd hmg hobj hints hlen hg => ?_
  have KX := hY w _ Y
  obtain ⟨fd, hb, hF⟩ := F w mg fa _ KX G.T.g hmg
  exact law_call KX G.T.g G.T.b G.T.builtins G.T.nolimit hg hobj hints (Nat.le_trans hlen hn2) hr hF hb (fun H hO hS => hsp w H a ns hlen hO hS) fun H e s' => hCX w H s₁ e s'
end L2


namespace L2
open PySem PySem.Spec PyProof.Rows

def inClass (s : Stmt) (j : Nat) : Stmt := match s with
  | .ClassDef _ _ _ body _ _ _ _ _ _ _ => body.getD j (.Pass ⟨0, 0, 0, 0⟩)
  | _ => .Pass ⟨0, 0, 0, 0⟩
def defArgs (s : Stmt) : Arguments := match s with
  | .FunctionDef _ a _ _ _ _ _ _ _ _ => a
  | _ => { posonlyargs := [], args := [], vararg := none, kwonlyargs := [], kw_defaults := [], kwarg := none, defaults := [] }
def defBody (s : Stmt) : List Stmt := match s with
  | .FunctionDef _ _ b _ _ _ _ _ _ _ => b
  | _ => []
def defScope (s : Stmt) : Scope := match s with
  | .FunctionDef _ _ _ _ _ _ sc _ _ _ => sc
  | _ => { kind := .function, names := [], isGenerator := false, isCoroutine := false }

abbrev CX0 : CXT := fun _ _ _ _ _ _ => False
abbrev E0 : XK := fun _ _ _ => False
theorem pass0 {X : Cx} : Passes CX0 X E0 := fun _ _ _ _ _ _ _ h => h.elim

structure Fun (K : PySem.W.Frag) (x qual : Str) (st : Stmt) (f : Addr) (fd : FuncData) : Prop where
  ex : ∃ (oc : Value) (od : Option Addr) (kV doc pm : Value) (an : Option Addr) (cdv ct : Value) (osl : Array (Option Value)),
    fd = PySem.W.fnOf x qual (defArgs st) (defBody st) (defScope st) .none kV doc pm an cdv ct ∧ K.lookup f = some ⟨oc, od, .func fd, osl⟩ ∧ PySem.W.codeIn K cdv qual = true
  kp : PySem.W.keepIn K (.ref f) = true
section
variable {P : Program} {w : World} {K : PySem.W.Frag} {mg : Str → Option Value} {base : Heap}
theorem Fun.ok {x qual : Str} {st : Stmt} {f : Addr} {fd : FuncData} {N ps : List Str} {k : Nat} {sp : Sp} (F : Fun K x qual st f fd) (S : FnScope N ps (defScope st)) (len : ∀ vs H Q E, sp vs H Q E → vs.length = ps.length)
    (hbody : ∀ (cdv : Value) (A : Around) (outer : List Env) (s : Shared) (H : Hp) (vs : List V) (Q : VK) (E : XK), Room k (A.deeper (envOfC qual (defScope st) s.heap.objs.size f cdv)) → sp vs H Q E →
      ∃ t, PSs (cxOf CX0 P w K mg base N qual (defScope st) f cdv A outer s H E).nox (defBody st) t ∧ t { nx := fun _ H' => Q .non H', rt := Q } (start N vs) H) : FnOk P w K mg base CX0 (k + 1) f fd ps sp := by
  obtain ⟨oc, od, kV, doc, pm, an, cdv, ct, osl, rfl, lk, hcd⟩ := F.ex
  refine fn_of lk hcd S len fun A outer s H vs Q E hr hsp => ?_
  obtain ⟨t, h, q⟩ := hbody cdv A outer s H vs Q E hr hsp
  exact ⟨t, h.nox, q⟩
theorem Fun.binds {x qual : Str} {st : Stmt} {f : Addr} {fd : FuncData} {ps : List Str} (F : Fun K x qual st f fd)
    (h : ∀ (kV doc pm : Value) (an : Option Addr) (cdv ct : Value) (us : List Value), us.length = ps.length → bindArgs (PySem.W.fnOf x qual (defArgs st) (defBody st) (defScope st) .none kV doc pm an cdv ct) ⟨us, []⟩ = pure (ps.zip us)) : Binds K fd ps [] := by
  obtain ⟨oc, od, kV, doc, pm, an, cdv, ct, osl, rfl, lk, hcd⟩ := F.ex
  exact .all (h kV doc pm an cdv ct)
theorem fun_mk {x qual : Str} {st : Stmt} {f : Addr} {oc : Value} {od an : Option Addr} {osl : Array (Option Value)} {kV doc pm cdv ct : Value} (l : K.lookup f = some ⟨oc, od, .func (PySem.W.fnOf x qual (defArgs st) (defBody st) (defScope st) .none kV doc pm an cdv ct), osl⟩)
    (c : PySem.W.codeIn K cdv qual = true) (k : PySem.W.keepIn K (.ref f) = true) : Fun K x qual st f (PySem.W.fnOf x qual (defArgs st) (defBody st) (defScope st) .none kV doc pm an cdv ct) := ⟨⟨oc, od, kV, doc, pm, an, cdv, ct, osl, rfl, l, c⟩, k⟩
end
theorem hu_of {A : Around} {k : Nat} (hr : Room k A) : A.units + 1 < cLine := Nat.lt_of_le_of_lt (Nat.add_le_add_left (by decide : 1 ≤ 64) _) hr.units

section
variable {X : Cx}
theorem pv (i : Nat) {x : Str} {pos : Pos} (hN : X.N[i]? = some x := by rfl) (hv : Vis X.env.scope x := by first | exact Or.inl rfl | exact Or.inr (Or.inl rfl) | exact Or.inr (Or.inr rfl)) (hd : (x == ("__debug__" : Str)) = false := by decide)
    (hcd : (x == ("__classdict__" : Str)) = false := by decide) : PE X (.Name x pos) (tVar i) := pe_var hN hv hd hcd
end

theorem iteF {A B : Prop} (h : B) : if false = true then A else B := by
  rw [if_neg Bool.false_ne_true]
  exact h
theorem iteT {A B : Prop} (h : A) : if true = true then A else B := by
  rw [if_pos rfl]
  exact h
theorem ite2 {c A B : Prop} [Decidable c] (h1 : c → A) (h2 : ¬ c → B) : if c then A else B := by
  by_cases h : c
  · rw [if_pos h]
    exact h1 h
  · rw [if_neg h]
    exact h2 h

def Same (H H' : Hp) : Prop := ∀ b o, H b = some o → H' b = some o
theorem Same.refl (H : Hp) : Same H H := fun _ _ h => h
theorem Same.trans {H H1 H2 : Hp} (a : Same H H1) (b : Same H1 H2) : Same H H2 := fun c o h => b c o (a c o h)
theorem Same.free {H H' : Hp} (e : Same H H') {l : Addr} (h : H' l = Option.none) : H l = Option.none := by
  cases q : H l with
  | none => rfl
  | some o =>
    rw [e l o q] at h
    cases h
theorem Same.seq {K : PySem.W.Frag} {H H' : Hp} {a : Addr} {xs : List V} (e : Same H H') (h : SqL K H a xs) : SqL K H' a xs := by
  rcases h with (h | ⟨o, h⟩) | h
  · exact .inl (.inl (e _ _ h))
  · exact .inl (.inr ⟨o, e _ _ h⟩)
  · exact .inr h

end L2

set_option Elab.async false
set_option linter.all false
set_option maxRecDepth 100000

namespace L2
open PySem PySem.Spec PyProof.Rows

theorem lookup_relabel_free {env : Env} : ∀ {names : List (Str × NameKind)} {x : Str}, names.lookup x = some .free →
    ((names.map fun (n, k) => if (k == NameKind.free && env.scope.kind == .function && env.kindOf n == some .cell) then (n, NameKind.cell) else (n, k)).lookup x = some .cell ∨
    (names.map fun (n, k) => if (k == NameKind.free && env.scope.kind == .function && env.kindOf n == some .cell) then (n, NameKind.cell) else (n, k)).lookup x = some .free)
  | [], _, h => by simp at h
  | (n, k) :: r, x, h => by
    have ih := @lookup_relabel_free env r x
    show (List.lookup x ((if (k == NameKind.free && env.scope.kind == .function && env.kindOf n == some .cell) = true then (n, NameKind.cell) else (n, k)) :: _) = _ ∨ List.lookup x ((if (k == NameKind.free && env.scope.kind == .function && env.kindOf n == some .cell) = true then (n, NameKind.cell) else (n, k)) :: _) = _)
    cases hx : x == n with
    | true =>
      simp only [List.lookup_cons, hx] at h
      cases h
      by_cases hc : (NameKind.free == NameKind.free && env.scope.kind == .function && env.kindOf n == some .cell) = true
      · rw [if_pos hc]; left; simp only [List.lookup_cons, hx]
      · rw [if_neg hc]; right; simp only [List.lookup_cons, hx]
    | false =>
      simp only [List.lookup_cons, hx] at h
      by_cases hc : (k == NameKind.free && env.scope.kind == .function && env.kindOf n == some .cell) = true
      · rw [if_pos hc]; simp only [List.lookup_cons, hx]; exact ih h
      · rw [if_neg hc]; simp only [List.lookup_cons, hx]; exact ih h
theorem lookup_relabel_inv {env : Env} : ∀ {names : List (Str × NameKind)} {x : Str}, (∀ y ∈ names, y.2 ≠ .cell) →
    ((names.map fun (n, k) => if (k == NameKind.free && env.scope.kind == .function && env.kindOf n == some .cell) then (n, NameKind.cell) else (n, k)).lookup x = some .cell ∨
    (names.map fun (n, k) => if (k == NameKind.free && env.scope.kind == .function && env.kindOf n == some .cell) then (n, NameKind.cell) else (n, k)).lookup x = some .free) →
    (x, NameKind.free) ∈ names
  | [], _, _, h => by simp at h
  | (n, k) :: r, x, hn, h => by
    have ih := @lookup_relabel_inv env r x (fun y hy => hn y (List.mem_cons_of_mem _ hy))
    have hk : k ≠ .cell := hn (n, k) List.mem_cons_self
    have h' : (List.lookup x ((if (k == NameKind.free && env.scope.kind == .function && env.kindOf n == some .cell) = true then (n, NameKind.cell) else (n, k)) :: r.map fun (n, k) => if (k == NameKind.free && env.scope.kind == .function && env.kindOf n == some .cell) then (n, NameKind.cell) else (n, k)) = some NameKind.cell ∨ List.lookup x ((if (k == NameKind.free && env.scope.kind == .function && env.kindOf n == some .cell) = true then (n, NameKind.cell) else (n, k)) :: r.map fun (n, k) => if (k == NameKind.free && env.scope.kind == .function && env.kindOf n == some .cell) then (n, NameKind.cell) else (n, k)) = some NameKind.free) := h
    cases hx : x == n with
    | true =>
      have e : x = n := eq_of_beq hx
      subst e
      by_cases hc : (k == NameKind.free && env.scope.kind == .function && env.kindOf x == some .cell) = true
      · have hkf : k = .free := by
          have := hc
          simp only [Bool.and_eq_true] at this
          exact eq_of_beq this.1.1
        subst hkf; exact List.mem_cons_self
      · rw [if_neg hc] at h'
        simp only [List.lookup_cons, hx] at h'
        rcases h' with h' | h'
        · cases h'; exact absurd rfl hk
        · cases h'; exact List.mem_cons_self
    | false =>
      refine List.mem_cons_of_mem _ (ih ?_)
      by_cases hc : (k == NameKind.free && env.scope.kind == .function && env.kindOf n == some .cell) = true
      · rw [if_pos hc] at h'; simp only [List.lookup_cons, hx] at h'; exact h'
      · rw [if_neg hc] at h'; simp only [List.lookup_cons, hx] at h'; exact h'

theorem closure_go {env : Env} (f : Str × NameKind → List (Str × Addr) → Sem (ForInStep (List (Str × Addr))))
    (h1 : ∀ n k r, (k == NameKind.free) = false → f (n, k) r = pure (.yield r)) (h2 : ∀ n c r, env.cells.lookup n = some c → f (n, .free) r = pure (.yield ((n, c) :: r))) :
    ∀ (l : List (Str × NameKind)) (acc : List (Str × Addr)), (∀ y ∈ l, y.2 = .free → ∃ c, env.cells.lookup y.1 = some c) → (∀ n c, acc.lookup n = some c → env.cells.lookup n = some c) →
      ∃ cl, forIn l acc f = pure cl ∧ (∀ n c, cl.lookup n = some c → env.cells.lookup n = some c) ∧ (∀ y ∈ l, y.2 = .free → ∃ c, cl.lookup y.1 = some c) ∧ ∀ n c, acc.lookup n = some c → ∃ c', cl.lookup n = some c'
  | [], acc, _, ha => ⟨acc, rfl, ha, ⟨fun y hy _ => absurd hy List.not_mem_nil, fun n c e => ⟨c, e⟩⟩⟩
  | (n, k) :: r, acc, hl, ha => by
    cases hk : k == NameKind.free with
    | false =>
      obtain ⟨cl, e, p1, p2, p3⟩ := closure_go f h1 h2 r acc (fun y hy => hl y (List.mem_cons_of_mem _ hy)) ha
      refine ⟨cl, ?_, p1, fun y hy hf => ?_, p3⟩
      · rw [List.forIn_cons, h1 n k acc hk, pure_bind]; exact e
      · rcases List.mem_cons.mp hy with rfl | hy
        · rw [show k = .free from hf] at hk; cases hk
        · exact p2 y hy hf
    | true =>
      have hkf : k = .free := eq_of_beq hk
      subst hkf
      obtain ⟨c, hc⟩ := hl (n, .free) List.mem_cons_self rfl
      have hc : env.cells.lookup n = some c := hc
      obtain ⟨cl, e, p1, p2, p3⟩ := closure_go f h1 h2 r ((n, c) :: acc) (fun y hy => hl y (List.mem_cons_of_mem _ hy)) (fun m d hm => by
        rw [List.lookup_cons] at hm
        cases hx : m == n with
        | true => rw [hx] at hm; cases hm; rw [eq_of_beq hx]; exact hc
        | false => rw [hx] at hm; exact ha m d hm)
      have here : ∃ c', cl.lookup n = some c' := p3 n c (by rw [List.lookup_cons]; simp)
      refine ⟨cl, ?_, p1, fun y hy hf => ?_, fun m d hm => ?_⟩
      · rw [List.forIn_cons, h2 n c acc hc, pure_bind]; exact e
      · rcases List.mem_cons.mp hy with rfl | hy
        · exact here
        · exact p2 y hy hf
      · cases hx : m == n with
        | true => rw [eq_of_beq hx]; exact here
        | false => exact p3 m d (by rw [List.lookup_cons, hx]; exact hm)
theorem closure_ex {scope : Scope} {env : Env} (h : ∀ y ∈ scope.names, y.2 = .free → ∃ c, env.cells.lookup y.1 = some c) :
    ∃ cl, closureFor scope env = pure cl ∧ (∀ n c, cl.lookup n = some c → env.cells.lookup n = some c) ∧ ∀ y ∈ scope.names, y.2 = .free → ∃ c, cl.lookup y.1 = some c := by
  obtain ⟨cl, e, p1, p2, _⟩ := closure_go (env := env) (fun x r => if (x.2 == NameKind.free) = true then (cellOf env x.1 >>= fun a => pure (ForInStep.yield ((x.1, a) :: r))) else pure (ForInStep.yield r))
    (fun n k r hk => by simp only [hk, Bool.false_eq_true, if_false]) (fun n c r hc => by simp only [cellOf, hc, beq_self_eq_true, if_true, pure_bind]) scope.names [] h (fun n c e => by simp at e)
  refine ⟨cl, ?_, p1, p2⟩
  rw [show closureFor scope env = (forIn scope.names [] (fun (x : Str × NameKind) (r : List (Str × Addr)) => if (x.2 == NameKind.free) = true then (cellOf env x.1 >>= fun a => pure (ForInStep.yield ((x.1, a) :: r))) else pure (ForInStep.yield r)) >>= fun cs => pure cs) from rfl, e, pure_bind]

section
variable {prog : Program} {w : World} {A : Around} {R : Result → Shared → Prop} {s : Shared}
theorem codeAny_compLoop_own {elt target iter : Expr} {scope : Scope} {pos : Pos} {it acc : Value} {env : Env} (I : Nat → Shared → Prop)
    (turn : ∀ n s, I n s → wpAny (model prog w) A (pyNext it) (fun r s1 => match r with
      | none => R (.ok .next) s1
      | some v => wpAny (model prog w) A (letOwnedTupleGo target it v) (fun _ s0 => wpAny (model prog w) A (assign target env v) (fun _ s2 => wpAny (model prog w) A (eval elt env) (fun x s3 =>
          wpAny (model prog w) A (call (.builtin "list.append") [acc, x]) (fun _ s4 => ∃ m, m < n ∧ I m s4) (notedBy (model prog w) A env fun e s' => R (.error e) s') s3)
          (notedBy (model prog w) A env fun e s' => R (.error e) s') s2) (notedBy (model prog w) A env fun e s' => R (.error e) s') s0) (notedBy (model prog w) A env fun e s' => R (.error e) s') s1) (notedBy (model prog w) A env fun e s' => R (.error e) s') s)
    (n : Nat) (h : I n s) :
    codeAny (model prog w) A (.compLoop (.ListComp elt [⟨target, iter, [], 0⟩] scope pos) 0 it acc env) R s := by
  refine codeAny_loop rfl I (fun n s hI => ?_) n h
  show wpAny _ _ ((compTurn (.ListComp elt [⟨target, iter, [], 0⟩] scope pos) 0 it acc env).onRaise (fun x => do noteFrame x env; theTreesLotGoes x)) _ _ s
  refine wpAny_noted ?_
  rw [compTurn_list1]
  refine wpAny_bind (wpAny_standAt (wpAny_bind (wpAny_mono (turn n s hI) (fun r s1 h1 => ?_) fun _ _ h' => h')))
  cases r with
  | none => exact wpAny_pure h1
  | some v =>
    refine wpAny_bind (wpAny_mono h1 (fun _ s0 h0 => ?_) fun _ _ h' => h')
    exact wpAny_bind (wpAny_mono h0 (fun _ s2 h2 => wpAny_bind (wpAny_bind (wpAny_mono h2 (fun x s3 h3 => wpAny_bind (wpAny_mono h3
      (fun _ s4 h4 => wpAny_pure (wpAny_pure ⟨rfl, h4⟩)) fun _ _ h' => h')) fun _ _ h' => h'))) fun _ _ h' => h')
end

def blkStart (own : Nat) (fv : List Nat) (σ : St) : St := List.replicate own none ++ fv.map fun j => (σ[j]?).getD none
def Cx.blk (X : Cx) (scope : Scope) (N' : List Str) (cl : List (Str × Addr)) (s3 : Shared) (H3 : Hp) (ex : List Addr) : Cx :=
  { X with N := N', s₀ := s3, H₀ := H3, env := compEnvC scope cl s3.heap.objs.size X.env, outer := X.stack, stack := X.stack, ex := ex, fn := fun _ => false, pn := [], xe := fun _ _ => False }
structure BlkScope (X : Cx) (scope : Scope) (N' : List Str) (own : Nat) (fv : List Nat) : Prop where
  kind : scope.kind = .function
  nocell : ∀ y ∈ scope.names, y.2 ≠ .cell
  names : ∀ y ∈ scope.names, y.2 = .local → scope.names.lookup y.1 = some .local
  free : ∀ y ∈ scope.names, y.2 = .free → X.env.kindOf y.1 = some .cell ∨ X.env.kindOf y.1 = some .free
  len : N'.length = own + fv.length
  fvs : ∀ i : Fin fv.length, ∃ x, N'[own + i.val]? = some x ∧ X.N[fv[i.val]]? = some x ∧ scope.names.lookup x = some .free ∧ (X.env.kindOf x = some .cell ∨ X.env.kindOf x = some .free)

theorem mem_of_lookup {x : Str} {k : NameKind} : ∀ {l : List (Str × NameKind)}, l.lookup x = some k → (x, k) ∈ l
  | [], h => by simp at h
  | (n, j) :: r, h => by
    rw [List.lookup_cons] at h
    cases hx : x == n with
    | true => rw [hx] at h; cases h; rw [eq_of_beq hx]; exact List.mem_cons_self
    | false => rw [hx] at h; exact List.mem_cons_of_mem _ (mem_of_lookup h)

section
variable {X : Cx} {scope : Scope} {N' : List Str} {own : Nat} {fv : List Nat} {cl : List (Str × Addr)} {pins : List (Addr × Obj)} {σ : St} {H2 : Hp} {s3 : Shared} {fp : List Addr} {h1 : Heap} {t1 : Nat} {m1 : Str → Option Value}
theorem blk_inv (sc : BlkScope X scope N' own fv) (I : Inv X pins σ H2 s3) (f : ∀ b ∈ fp, FpOk X pins H2 b) (fo : ∀ b ∈ fp, b < s3.heap.objs.size)
    (c1 : ∀ n c, cl.lookup n = some c → X.env.cells.lookup n = some c) (c2 : ∀ y ∈ scope.names, y.2 = .free → ∃ c, cl.lookup y.1 = some c)
    (hns : h1.Ns s3.heap.objs.size m1) (old : ∀ b o, s3.heap.get? b = some o → h1.get? b = some o) :
    Inv (X.blk scope N' cl s3 H2 fp) [] (blkStart own fv σ) H2 { s3 with heap := h1, toks := t1 } where
  ok := {
    mod := I.ok.mod
    kind := sc.kind
    glob := I.ok.glob
    blt := I.ok.blt
    above := Nat.le_refl _
    inj := fun x y c hx hy => I.ok.inj x y c (c1 x c hx) (c1 y c hy)
    has := fun x hx => c2 (x, .free) (lookup_relabel_inv (env := X.env) sc.nocell hx) rfl
    cab := fun x c h => nomatch h
    hd := I.ok.hd
    frames := I.ok.frames
    stk := .inl rfl
    exf := fun b hb => ⟨Nat.ne_of_lt (fo b hb), fun x c hc => (f b hb).2.2.2.2.1 x c (c1 x c hc)⟩
    bs := fun b o e => I.bs b o e
    bsz := Nat.le_trans I.ok.bsz I.sz
    noex := fun b o e hb => by
      rcases (f b hb).2.2.2.1 with h | h
      · exact I.ok.noex b o e h
      · exact Nat.lt_irrefl _ (Nat.lt_of_lt_of_le (Heap.lt_size e) (Nat.le_trans I.ok.bsz h))
    exfs := fun b hb hf => by
      rcases List.mem_cons.mp (I.stkSub b hf) with h | h
      · exact (f b hb).2.1 h
      · exact (f b hb).2.2.1 h
    funs := I.stack
    frf := I.stkFree }
  os := rfl
  bare := I.bare
  base := Un.kept old
  loc := by
    refine ⟨m1, hns, fun i x v hi hv _ => ?_⟩
    have hi' : N'[i]? = some x := hi
    unfold blkStart at hv
    by_cases hlt : i < own
    · rw [List.getElem?_append_left (by rw [List.length_replicate]; exact hlt), List.getElem?_replicate, if_pos hlt] at hv
      cases hv
    · rw [List.getElem?_append_right (by rw [List.length_replicate]; omega), List.length_replicate, List.getElem?_map] at hv
      cases hj : fv[i - own]? with
      | none => rw [hj] at hv; cases hv
      | some j =>
        rw [hj] at hv
        have hv' : (σ[j]?).getD none = some v := Option.some.inj hv
        have hσ : σ[j]? = some (some v) := by
          cases e : σ[j]? with
          | none => rw [e] at hv'; cases hv'
          | some o => rw [e] at hv'; simp only [Option.getD_some] at hv'; rw [hv']
        obtain ⟨hk, ej⟩ := List.getElem?_eq_some_iff.mp hj
        obtain ⟨y, y1, y2, y3, y4⟩ := sc.fvs ⟨i - own, hk⟩
        have e1 : own + (i - own) = i := by omega
        simp only [e1] at y1
        rw [hi'] at y1; cases y1
        simp only [ej] at y2
        obtain ⟨m3, hn3, hl3⟩ := I.loc
        obtain ⟨u, ru, lk⟩ := hl3 j x v y2 hσ (by rcases y4 with h | h; exact .inr (.inl h); exact .inr (.inr h))
        refine ⟨u, ru, .inr ⟨lookup_relabel_free y3, ?_⟩⟩
        rcases lk with ⟨h, _⟩ | ⟨_, c, hc, ic⟩
        · rcases y4 with h' | h' <;> rw [h] at h' <;> cases h'
        · obtain ⟨c', hc'⟩ := c2 (x, .free) (mem_of_lookup y3) rfl
          have : c' = c := by have := c1 x c' hc'; rw [hc] at this; exact (Option.some.inj this).symm
          subst this
          exact ⟨c', hc', ic.keeps old⟩
  cell := fun x c hc => let ⟨v, hv⟩ := I.cell x c (c1 x c hc); ⟨v, hv.keeps old⟩
  free := I.fresh
  freeC := fun x c hc => I.freeC x c (c1 x c hc)
  pin := fun p hp => nomatch hp
  hok := I.hok.kept old
  len := by
    show (blkStart own fv σ).length = N'.length
    unfold blkStart
    rw [List.length_append, List.length_replicate, List.length_map, sc.len]
end

def compWalk (J : It) (H1 : Hp) (σ0 : St) (g : TG) (te : TE) (Q : Addr → Hp → Prop) : Prop :=
  ∀ acc, H1 acc = none → ∃ W : Nat → Nat → St → Hp → Prop, (∃ m, W 0 m σ0 (upd H1 acc (.lst []))) ∧ ∀ i m σ' H', W i m σ' H' →
    (J.stop i H' ∧ Q acc H') ∨ (J.go i H' ∧ ∀ x H2, J.yld i H' x H2 → g x σ' H2 fun σ2 H3 => te σ2 H3 fun y H4 => ∃ ys, H4 acc = some (.lst ys) ∧ ys.length < sizeLine ∧ ∃ m', m' < m ∧ W (i + 1) m' σ2 (upd H4 acc (.lst (ys ++ [y]))))
def tComp (wi : TI) (own : Nat) (fv : List Nat) (g : TG) (te : TE) : TE := fun σ H Q => wi σ H fun J H1 => compWalk J H1 (blkStart own fv σ) g te fun acc H' => Q (.ref acc) H'

section
variable {X : Cx} {elt tg iter : Expr} {scope : Scope} {N' : List Str} {own : Nat} {fv : List Nat} {cl : List (Str × Addr)} {pins : List (Addr × Obj)} {σ : St} {H2 : Hp} {s2 : Shared} {fp : List Addr} {it : Addr} {tn : Nat → Heap → Prop} {J : It} {pos : Pos} {g : TG} {te : TE} {Q : Addr → Hp → Prop}
theorem comp_block (hc : X.calm = true) (sc : BlkScope X scope N' own fv) (I2 : Inv X pins σ H2 s2) (T : Turn X.prog X.w X.K tg J fp it tn) (st2 : tn 0 s2.heap) (f2 : ∀ b ∈ fp, FpOk X pins H2 b)
    (c1 : ∀ n c, cl.lookup n = some c → X.env.cells.lookup n = some c) (c2 : ∀ y ∈ scope.names, y.2 = .free → ∃ c, cl.lookup y.1 = some c)
    (hg : ∀ cl s3 H3 ex, PG (X.blk scope N' cl s3 H3 ex) tg g) (he : ∀ cl s3 H3 ex, PE (X.blk scope N' cl s3 H3 ex) elt te)
    (hq : compWalk J H2 (blkStart own fv σ) g te Q) {RR : Value → Addr → Result → Shared → Prop}
    (hRR : ∀ acc C s' H' m, Inv X pins σ H' s' → Q acc H' → s'.heap.Ns C m → H' C = none → C ≠ X.env.locals → X.s₀.heap.objs.size ≤ C → (∀ x c, X.env.cells.lookup x = some c → c ≠ C) → (∀ p ∈ X.pn ++ pins, p.1 ≠ C) → RR (.ref acc) C (.ok .next) s') :
    wpAny (model X.prog X.w) X.A (newList []) (fun acc s3 => wpAny (model X.prog X.w) X.A (newFunctionEnv scope X.env.globals cl [] X.env.qual none .none (some X.env)) (fun cenv s4 =>
      codeAny (model X.prog X.w) X.A (.compStart (.ListComp elt [⟨tg, iter, [], 0⟩] scope pos) 0 (.ref it) acc { cenv with scope := relabel scope X.env }) (RR acc cenv.locals) s4) X.xe s3) X.xe s2 := by
  refine wpAny_newObj_type (wpAny_newFunctionEnv sc.nocell (by intro y hy; simp at hy) (fun h1 hns hsb => ?_) sc.kind)
  dsimp only at hns hsb ⊢
  have I3 : Inv X pins σ (upd H2 s2.heap.objs.size (.lst [])) { s2 with heap := s2.heap.push { cls := .type "list", dict := none, data := .seq ([] : List Value).toArray } } := I2.lnew (t' := s2.toks) .nil (Nat.zero_le _)
  have hacc : H2 s2.heap.objs.size = none := I2.fresh
  obtain ⟨W, ⟨m0, w0⟩, turn⟩ := hq s2.heap.objs.size hacc
  have flt : ∀ b ∈ fp, b < s2.heap.objs.size := fun b hb => by
    obtain ⟨o, e, _⟩ := T.obj _ _ st2 b hb
    exact Heap.lt_size e
  have f3 : ∀ b ∈ fp, FpOk X pins (upd H2 s2.heap.objs.size (.lst [])) b := fun b hb => ⟨by rw [upd_ne (Nat.ne_of_lt (flt b hb))]; exact (f2 b hb).1, (f2 b hb).2⟩
  have st3 : tn 0 (s2.heap.push { cls := .type "list", dict := none, data := .seq ([] : List Value).toArray }) := T.keep _ _ _ st2 fun b _ o e => Heap.get?_push_of_some _ e
  generalize hs3 : ({ s2 with heap := s2.heap.push { cls := .type "list", dict := none, data := .seq ([] : List Value).toArray } } : Shared) = s3 at I3 
  have eh : s2.heap.push { cls := .type "list", dict := none, data := .seq ([] : List Value).toArray } = s3.heap := by rw [← hs3]
  rw [eh] at hns hsb st3
  have old : ∀ b o, s3.heap.get? b = some o → h1.get? b = some o := fun b o e => hsb.extBut b o (Nat.ne_of_lt (Heap.lt_size e)) (Heap.get?_push_of_some _ e)
  have fo3 : ∀ b ∈ fp, b < s3.heap.objs.size := fun b hb => by
    obtain ⟨o, e, _⟩ := T.obj _ _ st3 b hb
    exact Heap.lt_size e
  have est : ({ s2 with heap := h1, toks := s2.toks + ([] : List (Str × Value)).length } : Shared) = { s3 with heap := h1, toks := s3.toks } := by rw [← hs3]; rfl
  have I4 : Inv (X.blk scope N' cl s3 (upd H2 s2.heap.objs.size (.lst [])) fp) [] (blkStart own fv σ) (upd H2 s2.heap.objs.size (.lst [])) { s3 with heap := h1, toks := s3.toks } :=
    blk_inv sc I3 f3 fo3 c1 c2 hns old
  have st4 : tn 0 h1 := T.keep _ _ _ st3 fun b _ o e => old b o e
  have stat : ∀ {H' : Hp}, (∀ b ∈ fp, H' b = none) → ∀ b ∈ fp, FpOk (X.blk scope N' cl s3 (upd H2 s2.heap.objs.size (.lst [])) fp) [] H' b := fun hn b hb =>
    ⟨hn b hb, Nat.ne_of_lt (fo3 b hb), fun hf => by
      rcases List.mem_cons.mp (I3.stkSub b hf) with h | h
      · exact (f3 b hb).2.1 h
      · exact (f3 b hb).2.2.1 h, .inl hb, fun x c hc' => (f3 b hb).2.2.2.2.1 x c (c1 x c hc'), fun p hp => nomatch hp⟩
  have loop : ∀ s4 : Shared, s4 = { s3 with heap := h1, toks := s3.toks } →
      codeAny (model X.prog X.w) X.A (.compLoop (.ListComp elt [⟨tg, iter, [], 0⟩] scope pos) 0 (.ref it) (.ref s2.heap.objs.size) (compEnvC scope cl s3.heap.objs.size X.env)) (RR (.ref s2.heap.objs.size) s3.heap.objs.size) s4 := by
    rintro s4 rfl
    refine codeAny_compLoop_own (fun n s' => ∃ i σ' H', Inv (X.blk scope N' cl s3 (upd H2 s2.heap.objs.size (.lst [])) fp) [] σ' H' s' ∧ tn i s'.heap ∧ (∀ b ∈ fp, H' b = none) ∧ W i n σ' H') ?_ m0
      ⟨0, _, _, I4, st4, fun b hb => (f3 b hb).1, w0⟩
    rintro n s5 ⟨i, σ5, H5, I5, st5, fr5, w5⟩
    rcases turn i n σ5 H5 w5 with ⟨stop, q⟩ | ⟨go, step⟩
    · refine thn (T.done (X.blk scope N' cl s3 (upd H2 s2.heap.objs.size (.lst [])) fp) rfl rfl rfl hc i [] s5 σ5 H5 _ I5 (stat fr5) st5 stop) fun r s6 ⟨hr, I6⟩ => ?_
      subst hr
      obtain ⟨m6, hn6, _⟩ := I6.loc
      refine hRR _ _ s6 H5 m6 (I3.call' (ch := fp) I6.os I6.base I6.hok I6.bare fun b hb => ⟨(f3 b hb).2.2.2.1, (f3 b hb).2.1, (f3 b hb).2.2.2.2.1, (f3 b hb).2.2.2.2.2⟩) q hn6 I6.free (Nat.ne_of_gt I3.lt) I3.sz (fun x c hc' => ?_) fun p hp => ?_
      · obtain ⟨v, o, ho, _⟩ := I3.cell x c hc'
        exact Nat.ne_of_lt (Heap.lt_size ho)
      · exact Nat.ne_of_lt (Heap.lt_size (I3.pin p hp).1)
    · refine thn (T.item (X.blk scope N' cl s3 (upd H2 s2.heap.objs.size (.lst [])) fp) rfl rfl rfl hc i [] s5 σ5 H5 _ I5 (stat fr5) st5 go) fun r s6 ⟨u, hr, h6⟩ => ?_
      subst hr
      refine thn h6 fun _ s7 ⟨x, H7, I7, r7, y7, st7, fr7⟩ => ?_
      have I7' := I7.pinned (stat fr7) (T.obj _ _ st7)
      refine wpAny_mono (hg cl s3 _ fp _ s7 σ5 H7 x u _ I7' r7 (step x H7 y7)) (fun _ s8 ⟨σ8, H8, I8, q8⟩ => ?_) fun _ _ z => z.elim
      refine wpAny_mono (he cl s3 _ fp _ s8 σ8 H8 _ I8 q8) (fun v s9 ⟨y, H9, I9, r9, ys, e9, z9, m', hm', w9⟩ => ?_) fun _ _ z => z.elim
      refine wpAny_mono (mt_append (X := X.blk scope N' cl s3 (upd H2 s2.heap.objs.size (.lst [])) fp) _ s9 σ8 H9 (.ref s2.heap.objs.size) [y] (.ref s2.heap.objs.size) [v] (fun _ H' => ∃ m', m' < n ∧ W (i + 1) m' σ8 H') I9 rfl (.cons r9 .nil) ⟨_, ys, y, rfl, rfl, e9, z9, m', hm', w9⟩) (fun _ s10 ⟨_, H10, I10, _, m10, hm10, w10⟩ => ?_) fun _ _ z => z.elim
      refine ⟨m10, hm10, i + 1, σ8, H10, I10.unpinned (pl := pinsAt fp s7.heap), T.keep _ _ _ st7 fun b hb o e => (I10.pin (b, o) (List.mem_append_right _ (List.mem_append_right _ (mem_pinsAt hb e)))).1, fun b hb => ?_, w10⟩
      obtain ⟨o, e, d⟩ := T.obj _ _ st7 b hb
      exact (I10.pin (b, o) (List.mem_append_right _ (List.mem_append_right _ (mem_pinsAt hb e)))).2.1
  rw [est]
  rw [eh]
  exact codeAny_compStart_list (loop _ rfl) (T.self _ 0 _ _ _ st4 (loop _ rfl))

theorem pe_comp {wi : TI} (hc : X.calm = true) (sc : BlkScope X scope N' own fv) (hi : PI X tg iter wi)
    (hg : ∀ cl s3 H3 ex, PG (X.blk scope N' cl s3 H3 ex) tg g) (he : ∀ cl s3 H3 ex, PE (X.blk scope N' cl s3 H3 ex) elt te)
    (hs : ∀ x, foldedSetIterable iter X.env x = pure x := by intro _; rfl) : PE X (.ListComp elt [⟨tg, iter, [], 0⟩] scope pos) (tComp wi own fv g te) := by
  intro pins s σ H Q I h
  obtain ⟨cl, hcl, c1, c2⟩ := closure_ex (scope := scope) (env := X.env) fun y hy hf => I.ok.has _ (sc.free y hy hf)
  rw [eval_ListComp]
  refine wpAny_comprehension_free (use := none) rfl hs hcl sc.kind sc.names (thn (hi pins s σ H _ I h) fun v s1 h1 => thn h1 fun itv s2 h2 => ?_)
  obtain ⟨it, fp, tn, J, H2, e, I2, T, st2, f2, hq⟩ := h2
  subst e
  refine comp_block (RR := fun acc C => compPost (model X.prog X.w) X.A X.xe none (EP X pins σ Q) acc C) hc sc I2 T st2 f2 c1 c2 hg he hq ?_
  intro acc C s' H' m I' q hn hC hL h0 hcc hp
  exact ⟨m, hn, fun h' sb => ⟨.ref acc, H', I'.turned (t' := s'.toks) (fun b o hb e => sb.extBut b o hb e) hC hL (.inr h0) hcc hp, rfl, q⟩⟩

end
end L2

set_option Elab.async false
set_option linter.all false
set_option maxRecDepth 100000

namespace L2
open PySem PySem.Spec PyProof.Rows

section
variable {prog : Program} {w : World} {A : Around} {E : Value → Shared → Prop}
theorem draw_list {it t : Addr} {items : Array Value} (hne : t ≠ it) : ∀ (n i : Nat) (s : Shared) (Q : List Value → Shared → Prop), s.heap.IsListIter it t i → s.heap.IsList t items → i + n ≤ items.size →
    (∀ h', h'.IsListIter it t (i + n) → Heap.SameBut it s.heap h' → Q ((items.toList.drop i).take n) { s with heap := h' }) → wpAny (model prog w) A (draw (.ref it) n) Q E s
  | 0, i, s, Q, hit, _, _, hQ => by
    show wpAny _ _ (pure []) Q E s
    exact wpAny_pure (by simpa using hQ s.heap hit (Heap.SameBut.refl ..))
  | n + 1, i, s, Q, hit, ht, hle, hQ => by
    have hlt : i < items.size := by omega
    show wpAny _ _ (pyNext (.ref it) >>= _) Q E s
    refine wpAny_bind (wpAny_pyNext_list_item hit ht (x := items[i]) (by simp [hlt]) fun h1 hit1 hs1 => ?_)
    refine wpAny_bind (wpAny_holding (draw_list hne n (i + 1) _ _ hit1 (ht.extBut hs1.extBut hne) (by omega) fun h2 hit2 hs2 => wpAny_pure ?_))
    have hd : items.toList.drop i = items[i] :: items.toList.drop (i + 1) := by simp [List.drop_eq_getElem_cons, hlt]
    have := hQ h2 (by rw [show i + (n + 1) = i + 1 + n by omega]; exact hit2) (hs1.trans hs2)
    rw [hd, List.take_succ_cons] at this
    exact this
theorem unpackItems_list {s : Shared} {t : Addr} {items : Array Value} {Q : List Value → Shared → Prop} (hh : A.handled = none) (ht : s.heap.IsList t items)
    (hQ : ∀ h', Heap.ExtBut s.heap.objs.size s.heap h' → Q items.toList { s with heap := h' }) : wpAny (model prog w) A (unpackItems (.ref t) items.size none) Q E s := by
  have hlt : t ≠ s.heap.objs.size := by obtain ⟨o, ho, _⟩ := ht; exact Nat.ne_of_lt (Heap.lt_size ho)
  unfold unpackItems
  refine wpAny_bind ?_
  · unfold notIterableAtAll
    refine wpAny_bind (wpAny_specialOf ht.typeIs slot_list_iter.lookup ?_)
    refine wpAny_pure ?_
    simp only [Bool.false_eq_true, if_false]
    refine wpAny_bind (wpAny_holding (wpAny_pyIter_list ht ?_))
    refine wpAny_bind (wpAny_holding (draw_list hlt items.size 0 _ _ ⟨_, Heap.get?_push_size _ rfl, rfl, rfl⟩ (ht.push _) (by omega) fun h1 hit1 hs1 => ?_))
    have hall : List.take items.size (List.drop 0 items.toList) = items.toList := by
      rw [List.drop_zero]; exact List.take_of_length_le (by simp)
    rw [hall]
    rw [if_neg (by simp)]
    have ht1 : h1.IsList t items := (ht.push _).extBut hs1.extBut hlt
    refine wpAny_bind (wpAny_holding (wpAny_pyNext_list_end hh hit1 ht1 (by simp) fun h2 he2 => ?_))
    simp only [Option.isSome_none, Bool.false_eq_true, if_false]
    refine wpAny_pure (hQ h2 fun b o hb e => he2 b o hb (hs1.extBut b o hb (Heap.get?_push_of_some _ e)))
theorem assign_Tuple_list {s : Shared} {env : Env} {elts : List Expr} {x1} {pos : Pos} {t : Addr} {items : Array Value} {Q : Unit → Shared → Prop} (hh : A.handled = none) (ht : s.heap.IsList t items)
    (hn : (assignEach elts env).length = items.size) (hstar : (assignEach elts env).findIdx? (·.1) = none)
    (h : ∀ h', Heap.ExtBut s.heap.objs.size s.heap h' → wpAny (model prog w) A (assignInOrder ((assignEach elts env).map (·.2)) items.toList) Q E { s with heap := h' }) :
    wpAny (model prog w) A (assign (.Tuple elts x1 pos) env (.ref t)) Q E s := by
  rw [assign_Tuple]
  refine wpAny_bind (wpAny_standAt ?_)
  unfold unpack
  rw [hn, hstar]
  exact wpAny_bind (wpAny_holding (unpackItems_list hh ht h))
end
section
variable {X : Cx} {pos : Pos}
def gLst (K : PySem.W.Frag) (n : Nat) (t : TGs) : TG := fun v σ H Q => ∃ a xs, v = .ref a ∧ SqL K H a xs ∧ xs.length = n ∧ t xs σ H Q
theorem pg_lst {es : List Expr} {k : Nat} {t : TGs} {n : Nat} (hc : X.calm = true) (h : PGs X es t)
    (hn : (assignEach es X.env).length = n := by rfl) (hst : (assignEach es X.env).findIdx? (·.1) = none := by rfl) : PG X (.Tuple es k pos) (gLst X.K n t) := by
  intro pins s σ H v u Q I r hw
  obtain ⟨a, xs, e1, hq, hl, hw⟩ := hw
  subst e1
  cases r
  obtain ⟨its, rv, ht, hz⟩ := I.list hq
  refine assign_Tuple_list (I.ok.hd hc) ht.isList (by simp [hn, ← hl, rv.length]) hst fun h' hx => ?_
  have I1 : Inv X pins σ H { s with heap := h' } := I.kept (t' := s.toks) fun b o e => hx b o (Nat.ne_of_lt (Heap.lt_size e)) e
  exact h pins _ σ H xs _ Q I1 (by simpa using rv) hw


end

mutual
inductive Rep (K : PySem.W.Frag) (H : Hp) : V → PyData → Prop
  | non : Rep K H .non .none
  | bl (b : Bool) : Rep K H (.bl b) (.bool b)
  | int (i : Int) : Rep K H (.int i) (.int i)
  | str (x : Str) : Rep K H (.str x) (.str x)
  | lst {a : Addr} {xs : List V} {ds : List PyData} : SqL K H a xs → RepAll K H xs ds → Rep K H (.ref a) (.list ds)
  | tup {a : Addr} {xs : List V} {ds : List PyData} : SqT K H a xs → RepAll K H xs ds → Rep K H (.ref a) (.tuple ds)
inductive RepAll (K : PySem.W.Frag) (H : Hp) : List V → List PyData → Prop
  | nil : RepAll K H [] []
  | cons {x : V} {d : PyData} {xs : List V} {ds : List PyData} : Rep K H x d → RepAll K H xs ds → RepAll K H (x :: xs) (d :: ds)
end
theorem Same.seqT {K : PySem.W.Frag} {H H' : Hp} {a : Addr} {xs : List V} (e : Same H H') (h : SqT K H a xs) : SqT K H' a xs := by
  rcases h with (h | ⟨o, h⟩) | h
  · exact .inl (.inl (e _ _ h))
  · exact .inl (.inr ⟨o, e _ _ h⟩)
  · exact .inr h
mutual
theorem Rep.same {K : PySem.W.Frag} {H H' : Hp} (e : Same H H') : ∀ {v : V} {d : PyData}, Rep K H v d → Rep K H' v d
  | _, _, .non => .non
  | _, _, .bl b => .bl b
  | _, _, .int i => .int i
  | _, _, .str x => .str x
  | _, _, .lst h r => .lst (e.seq h) (RepAll.same e r)
  | _, _, .tup h r => .tup (e.seqT h) (RepAll.same e r)
theorem RepAll.same {K : PySem.W.Frag} {H H' : Hp} (e : Same H H') : ∀ {xs : List V} {ds : List PyData}, RepAll K H xs ds → RepAll K H' xs ds
  | _, _, .nil => .nil
  | _, _, .cons h r => .cons (Rep.same e h) (RepAll.same e r)
end
mutual
theorem Rep.reads {X : Cx} {pins : List (Addr × Obj)} {σ : St} {H : Hp} {s : Shared} (I : Inv X pins σ H s) : ∀ {v : V} {d : PyData} {u : Value}, Rep X.K H v d → RelV v u → ∃ as, Reads s.heap u d as
  | _, _, _, .non, r => by cases r; exact ⟨_, .none⟩
  | _, _, _, .bl b, r => by cases r; exact ⟨_, .bool b⟩
  | _, _, _, .int i, r => by obtain ⟨t, rfl⟩ := r; exact ⟨_, .int i t⟩
  | _, _, _, .str x, r => by obtain ⟨t, rfl⟩ := r; exact ⟨_, .str x t⟩
  | _, _, _, .lst h q, r => by
    cases r
    obtain ⟨its, rv, pl, _⟩ := I.list h
    obtain ⟨as, ra⟩ := RepAll.reads I q rv
    obtain ⟨o, e, c, n, d⟩ := pl.isList
    exact ⟨_, .list e c d ra⟩
  | _, _, _, .tup h q, r => by
    cases r
    obtain ⟨its, rv, pl, _⟩ := I.tuple h
    obtain ⟨as, ra⟩ := RepAll.reads I q rv
    obtain ⟨o, e, c, n, d⟩ := pl
    exact ⟨_, .tuple e c d ra⟩
theorem RepAll.reads {X : Cx} {pins : List (Addr × Obj)} {σ : St} {H : Hp} {s : Shared} (I : Inv X pins σ H s) : ∀ {xs : List V} {ds : List PyData} {us : List Value}, RepAll X.K H xs ds → Vals xs us → ∃ as, ReadsAll s.heap us ds as
  | _, _, _, .nil, .nil => ⟨_, .nil⟩
  | _, _, _, .cons h q, .cons r rr => by
    obtain ⟨as, ra⟩ := Rep.reads I h r
    obtain ⟨bs, rb⟩ := RepAll.reads I q rr
    exact ⟨_, .cons ra rb⟩
end
section
variable {X : Cx}
def rEqD (K : PySem.W.Frag) (neg : Bool) : R2 := fun x y H Q => ∃ d e, Rep K H x d ∧ Rep K H y e ∧ d.canLay0 = true ∧ e.canLay0 = true ∧ d.depth ≤ 64 ∧ Q (.bl (if neg then !PyData.eqv d e else PyData.eqv d e)) H
theorem op_eqD (hu : X.A.units + 64 < cLine) : OpR X (compareOp .Eq) (rEqD X.K false) := by
  intro pins s σ H x y v u Q I rx ry h
  obtain ⟨d, e, rd, re, ld, le, dd, q⟩ := h
  obtain ⟨as, ra⟩ := rd.reads I rx
  obtain ⟨bs, rb⟩ := re.reads I ry
  exact SeqAt.compareEq_reads ra rb ld le (by omega) ⟨.bl _, H, I, rfl, q⟩
theorem op_neD (hu : X.A.units + 64 < cLine) : OpR X (compareOp .NotEq) (rEqD X.K true) := by
  intro pins s σ H x y v u Q I rx ry h
  obtain ⟨d, e, rd, re, ld, le, dd, q⟩ := h
  obtain ⟨as, ra⟩ := rd.reads I rx
  obtain ⟨bs, rb⟩ := re.reads I ry
  exact SeqAt.compareNe_reads ra rb ld le (by omega) ⟨.bl _, H, I, rfl, q⟩

end
end L2

namespace L2
open PySem PySem.Spec PyProof.Rows
section
variable {X : Cx}

def blkOk (sc0 : Scope) (N0 : List Str) (scope : Scope) (N' : List Str) (own : Nat) (fv : List Nat) : Bool :=
  decide (scope.kind = .function) && (scope.names.all fun y => decide (y.2 ≠ .cell)) && (scope.names.all fun y => decide (y.2 ≠ .local) || decide (scope.names.lookup y.1 = some .local)) &&
  (scope.names.all fun y => decide (y.2 ≠ .free) || (decide (sc0.names.lookup y.1 = some .cell) || decide (sc0.names.lookup y.1 = some .free))) && decide (N'.length = own + fv.length) &&
  ((List.range fv.length).all fun i => match N'[own + i]?, fv[i]? with
    | some x, some j => decide (N0[j]? = some x) && decide (scope.names.lookup x = some .free) && (decide (sc0.names.lookup x = some .cell) || decide (sc0.names.lookup x = some .free))
    | _, _ => false)
theorem blk_of {sc0 : Scope} {N0 : List Str} {scope : Scope} {N' : List Str} {own : Nat} {fv : List Nat} (h : blkOk sc0 N0 scope N' own fv = true) (h1 : X.env.scope = sc0) (h2 : X.N = N0) : BlkScope X scope N' own fv := by
  unfold blkOk at h
  simp only [Bool.and_eq_true, List.all_eq_true, decide_eq_true_eq, Bool.or_eq_true] at h
  obtain ⟨⟨⟨⟨⟨a1, a2⟩, a3⟩, a4⟩, a5⟩, a6⟩ := h
  refine ⟨a1, a2, fun y hy e => ?_, fun y hy e => ?_, a5, fun i => ?_⟩
  · rcases a3 y hy with z | z
    · exact absurd e z
    · exact z
  · rcases a4 y hy with z | z
    · exact absurd e z
    · show X.env.scope.names.lookup y.1 = _ ∨ X.env.scope.names.lookup y.1 = _
      rw [h1]; exact z
  · have := a6 i.val (List.mem_range.mpr i.isLt)
    split at this
    · rename_i x j e1 e2
      simp only [Bool.and_eq_true, decide_eq_true_eq, Bool.or_eq_true] at this
      refine ⟨x, e1, ?_, this.1.2, ?_⟩
      · have e3 : fv[i.val] = j := by
          have := List.getElem?_eq_getElem i.isLt
          rw [e2] at this; exact (Option.some.inj this).symm
        rw [h2, e3]; exact this.1.1
      · show X.env.scope.names.lookup x = _ ∨ X.env.scope.names.lookup x = _
        rw [h1]; exact this.2
    · cases this
end

theorem Same.put {H : Hp} {a : Addr} {o : HO} (h : H a = none) : Same H (upd H a o) := fun b u e => by
  rw [upd_ne (ne_of_none e h)]; exact e
end L2

namespace L2
open PySem PySem.Spec PyProof.Rows
section
variable {X : Cx} {e : Expr}
def tDet (t : TT) : TT := fun σ H Q => ∃ d, t σ H (fun b H2 => b = d ∧ H2 = H) ∧ Q d H
theorem pt_det {t : TT} (h : PT X e t) : PT X e (tDet t) := fun pins s σ H Q I ⟨d, ht, q⟩ =>
  thn (h pins s σ H _ I ht) fun b s' ⟨H', I', e1, e2⟩ => by subst e1 e2; exact ⟨_, I', q⟩
end
end L2

namespace L2
open PySem PySem.Spec PyProof.Rows
section
variable {X : Cx}
def CDivL (i j : Int) : Prop := 0 < j ∧ j < 2 ^ 512
theorem op_fdivL : OpR X (binaryOp .FloorDiv) (rI CDivL fun i j => .int (i / j)) := opI fun i j _ _ _ _ _ hc q => by
  have h0 := hc.1
  have h1 := hc.2
  refine floordiv_int (by omega) ?_ (.inl (PyProof.noPylong_of_log2 ?_))
  · rw [Int.fdiv_eq_ediv_of_nonneg i (by omega)]; exact q
  · have h2 : j.natAbs < 2 ^ 512 := by omega
    have h3 : j.natAbs ≠ 0 := by omega
    exact Nat.lt_trans ((Nat.log2_lt h3).mpr h2) (by decide)
end
end L2

namespace L2
open PySem PySem.Spec PyProof.Rows
section
variable {X : Cx} {K : PySem.W.Frag} {tg l : Expr} {tl : TE}
end
end L2

set_option Elab.async false
set_option linter.all false
set_option maxRecDepth 100000

namespace L2
open PySem PySem.Spec PyProof.Rows
section
variable {X : Cx} {pins : List (Addr × Obj)} {σ : St} {H : Hp} {s : Shared} {h' : Heap} {t' : Nat} {fp : List Addr}
theorem Inv.turnedAll (I : Inv X pins σ H s) (hf : ∀ b ∈ fp, FpOk X pins H b) (k : ∀ b o, b ∉ fp → s.heap.get? b = some o → h'.get? b = some o) : Inv X pins σ H { s with heap := h', toks := t' } := by
  have nit : ∀ b u, H b = some u → b ∉ fp := fun b u e z => by rw [(hf b z).1] at e; cases e
  refine I.step (g' := s.gens) (d' := s.drawn) (ch := fp) (fun b hb => ⟨(hf b hb).2.2.2.1, (hf b hb).2.1, (hf b hb).2.2.2.2.1, (hf b hb).2.2.2.2.2⟩) (fun b o _ _ hc e _ => k b o hc e) (fun b o _ _ hc e _ => ⟨o.slots, k b o hc e⟩) (fun _ _ _ _ n => n)
    (fun b o hc e => ⟨o, k b o hc e⟩) (fun _ _ e => e) (fun _ _ _ e => e) (fun b ps e => ⟨#[], by rw [e]; simp⟩) (fun m hm => ?_) (fun b u e => ?_) I.bare
  · obtain ⟨o, es, ep, ho, r⟩ := hm
    exact ⟨o, es, ep, k _ o (fun z => (hf _ z).2.1 rfl) ho, r⟩
  · refine (I.hok b u e).stay (fun c v hc q => k c v ?_ q) (fun _ q => q) fun _ _ q => q
    rcases hc with z | z
    · rw [z]; exact nit b u e
    · exact nit c _ z
theorem Inv.turnedTup {T : Addr} {x y : V} {vx vy : Value} (I : Inv X pins σ H s) (hf : ∀ b ∈ fp, FpOk X pins H b) (hT : s.heap.objs.size ≤ T) (hp : IsPair h' T vx vy) (rx : RelV x vx) (ry : RelV y vy)
    (k : ∀ b o, b ∉ fp → s.heap.get? b = some o → h'.get? b = some o) : Inv X pins σ (upd H T (.tup [x, y])) { s with heap := h', toks := t' } := by
  have hn : H T = none := I.hok.fresh hT
  have sm : Same H (upd H T (.tup [x, y])) := fun b u e => by rw [upd_ne (ne_of_none e hn)]; exact e
  have nit : ∀ b u, H b = some u → b ∉ fp := fun b u e z => by rw [(hf b z).1] at e; cases e
  refine I.step (g' := s.gens) (d' := s.drawn) (ch := fp) (fun b hb => ⟨(hf b hb).2.2.2.1, (hf b hb).2.1, (hf b hb).2.2.2.2.1, (hf b hb).2.2.2.2.2⟩) (fun b o _ _ hc e _ => k b o hc e) (fun b o _ _ hc e _ => ⟨o.slots, k b o hc e⟩)
    (fun b o _ e n => by rw [upd_ne (Nat.ne_of_lt (Nat.lt_of_lt_of_le (Heap.lt_size e) hT))]; exact n)
    (fun b o hc e => ⟨o, k b o hc e⟩) (fun b xs e => sm b _ e) (fun b o u e => sm b _ e) (fun b ps e => ⟨#[], by rw [sm b _ e]; simp⟩) (fun m hm => ?_) (fun b u e => ?_) I.bare
  · obtain ⟨o, es, ep, ho, r⟩ := hm
    exact ⟨o, es, ep, k _ o (fun z => (hf _ z).2.1 rfl) ho, r⟩
  · by_cases hb : b = T
    · subst hb
      rw [upd_same] at e; cases e
      exact ⟨by show 2 ≤ sizeLine; rw [sizeLine_eq]; decide, [vx, vy], .cons rx (.cons ry .nil), ⟨_, hp, rfl, _, rfl⟩⟩
    · rw [upd_ne hb] at e
      refine (I.hok b u e).stay (fun c v hc q => k c v ?_ q) (fun c q => sm c _ q) fun c xs q => sm c _ q
      rcases hc with z | z
      · rw [z]; exact nit b u e
      · exact nit c _ z
end
section
variable {X : Cx} {K : PySem.W.Frag}
end

end L2

namespace L2
open PySem PySem.Spec PyProof.Rows
end L2

set_option Elab.async false
set_option linter.all false
set_option maxRecDepth 100000

namespace L2
open PySem PySem.Spec PyProof.Rows
def Ite (K : PySem.W.Frag) (a : Addr) : It :=
  ⟨fun i H => ∃ xs x, SqL K H a xs ∧ xs[i]? = some x,
   fun i H v H' => ∃ (T : Addr) (x : V), v = .ref T ∧ H T = none ∧ H' = upd H T (.tup [.int (i : Int), x]) ∧ (∀ xs, SqL K H a xs → xs[i]? = some x),
   fun i H => ∃ xs, SqL K H a xs ∧ xs.length ≤ i⟩
theorem turn_enum {P : Program} {w : World} {K : PySem.W.Frag} {elts : List Expr} {k0 : Nat} {pos : Pos} {e it l : Addr} (hne : e ≠ it) :
    Turn P w K (.Tuple elts k0 pos) (Ite K l) [e, it] e (fun i h => (∃ old, IsEnum h e it (i : Int) old) ∧ h.IsListIter it l i) where
  mem := by simp
  obj := fun i h st b hb => by
    obtain ⟨⟨old, he⟩, ⟨o1, e1, c1, d1⟩⟩ := st
    simp only [List.mem_cons, List.not_mem_nil, or_false] at hb
    rcases hb with rfl | rfl
    · exact ⟨_, he, fun v q => nomatch q⟩
    · exact ⟨o1, e1, fun v q => by rw [d1] at q; cases q⟩
  keep := fun i h h' st kp => by
    obtain ⟨⟨old, he⟩, h1⟩ := st
    exact ⟨⟨old, kp e (by simp) _ he⟩, h1.at fun o q => kp it (by simp) o q⟩
  item := by
    intro X hP hw hK hc i pins s σ H E I hf st hg
    subst hP hw hK
    obtain ⟨xs, x, hq1, hx⟩ := hg
    obtain ⟨its1, rv1, p1, _⟩ := I.list hq1
    obtain ⟨u1, hu1, ru1⟩ := rv1.get hx
    obtain ⟨⟨old, he⟩, h1⟩ := st
    refine wpAny_pyNext_enum_item he h1 p1.isList (x := u1) (by simpa using hu1) hne fun h' a1 a3 a5 a6 hk => ?_
    have kp : ∀ c o, c ∉ [e, it] → s.heap.get? c = some o → h'.get? c = some o := fun c o hc q => by
      simp only [List.mem_cons, List.not_mem_nil, or_false, not_or] at hc
      exact hk c o hc.1 hc.2 q
    have I1 : Inv X pins σ (upd H s.heap.objs.size (.tup [.int (i : Int), x])) { s with heap := h', toks := s.toks + 1 } := I.turnedTup (t' := s.toks + 1) hf (Nat.le_refl _) a5 ⟨_, rfl⟩ ru1 kp
    have nz : ∀ b ∈ [e, it], b ≠ s.heap.objs.size := fun b hb q => by
      simp only [List.mem_cons, List.not_mem_nil, or_false] at hb
      rcases hb with rfl | rfl
      · exact Nat.lt_irrefl _ (q ▸ Heap.lt_size he)
      · obtain ⟨_, e2, _⟩ := h1; exact Nat.lt_irrefl _ (q ▸ Heap.lt_size e2)
    have hf1 : ∀ b ∈ [e, it], FpOk X pins (upd H s.heap.objs.size (.tup [.int (i : Int), x])) b := fun b hb => ⟨by rw [upd_ne (nz b hb)]; exact (hf b hb).1, (hf b hb).2⟩
    refine ⟨.ref s.heap.objs.size, rfl, wpAny_letOwnedTupleGo_enum (s := { s with heap := h', toks := s.toks + 1 }) a1 fun h2' hz' hs' => ?_⟩
    have I2 : Inv X pins σ (upd H s.heap.objs.size (.tup [.int (i : Int), x])) { s with heap := h2', toks := s.toks + 1 } := I1.turnedAll (t' := s.toks + 1) hf1 fun c o hc q => hs'.extBut c o (fun z => hc (by simp [z])) q
    exact ⟨.ref s.heap.objs.size, _, I2, rfl, ⟨_, x, rfl, I.hok.fresh (Nat.le_refl _), rfl, fun xs' hx' => by rw [I.list_inj hx' hq1]; exact hx⟩,
      ⟨⟨_, by simpa using hz'⟩, a3.extBut hs'.extBut hne.symm⟩, fun b hb => (hf1 b hb).1⟩
  done := by
    intro X hP hw hK hc i pins s σ H E I hf st hg
    subst hP hw hK
    obtain ⟨xs, hq1, hl⟩ := hg
    obtain ⟨its1, rv1, p1, _⟩ := I.list hq1
    have l1 := rv1.length
    obtain ⟨⟨old, he⟩, h1⟩ := st
    refine wpAny_pyNext_enum_end (I.ok.hd hc) he h1 p1.isList (by simp; omega) fun h' hk => ⟨rfl, I.turnedAll (t' := s.toks) hf fun c o hc q => hk c o (fun z => hc (by simp [z])) q⟩
  self := fun _ _ _ _ _ st h => by obtain ⟨⟨old, he⟩, _⟩ := st; exact wpAny_pyIter_enum he h
section
variable {X : Cx} {K : PySem.W.Frag}
def iEnum (K : PySem.W.Frag) (ta : TA) : TI := fun σ H R => ta σ H fun vs H1 => ∃ (l : Addr) (xs : List V), vs = [.ref l] ∧ H1 l = some (.lst xs) ∧ R (Ite K l) H1
theorem pi_enum {elts : List Expr} {k0 : Nat} {tpos : Pos} {a : Expr} {ta : TA} {p pos : Pos} (hg : Gl X "enumerate") (hm : X.mg "enumerate" = none) (ha : PA X [a] ta) (hK : X.K = K := by rfl)
    (hs : starEach [a] X.env = [(false, eval a X.env)] := by rfl) : PI X (.Tuple elts k0 tpos) (.Call (.Name "enumerate" p) [a] [] pos) (iEnum K ta) := by
  subst hK
  intro pins s σ H R I h
  refine Call_ (ld_blt I hg hm (show bootBuiltins "enumerate" = some (.type "enumerate") by decide +kernel) (PyProof.Rows.callWith_type1 (thn (ha pos pins s σ H _ I h) fun us s1 ⟨vs, H1, I1, r1, q1⟩ => ?_) hs rfl))
  obtain ⟨l, xs, e, hx, q⟩ := q1
  subst e
  obtain ⟨u1, rfl, r2⟩ := vals1 r1
  have e1 : u1 = .ref l := r2
  subst e1
  obtain ⟨z, its, n, rv, el⟩ := I1.hok l _ hx
  refine call_enumerate_1 el fun h' hz hit _ hk => ?_
  refine wpAny_pyIter_enum hz ⟨_, [s1.heap.objs.size + 1, s1.heap.objs.size], _, Ite X.K l, H1, rfl, I1.kept (t' := s1.toks) hk, turn_enum (Nat.succ_ne_self _), ⟨⟨_, hz⟩, hit⟩, fun b hb => ?_, q⟩
  have hb' : s1.heap.objs.size ≤ b := by
    simp only [List.mem_cons, List.not_mem_nil, or_false] at hb
    rcases hb with rfl | rfl
    · exact Nat.le_succ _
    · exact Nat.le_refl _
  exact I1.fpOk hb' (I1.hok.fresh hb')
theorem for_enum {a : Addr} {xs : List V} {g : TG} {tb : TS} {D : Ends} {σ : St} {H : Hp} (Pv : Nat → St → Hp → Prop) (h0 : Pv 0 σ H) (hl : ∀ i σ H, i ≤ xs.length → Pv i σ H → SqL K H a xs)
    (hs : ∀ i x σ H T, xs[i]? = some x → Pv i σ H → H T = none → g (.ref T) σ (upd H T (.tup [.int (i : Int), x])) fun σ2 H2 => tb { D with nx := Pv (i + 1), ct := Pv (i + 1), bk := D.nx } σ2 H2) (hd : ∀ σ H, Pv xs.length σ H → D.nx σ H) :
    ∃ W : Nat → Nat → St → Hp → Prop, (∃ m, W 0 m σ H) ∧ ∀ i m σ H, W i m σ H →
      ((Ite K a).stop i H ∧ D.nx σ H) ∨ ((Ite K a).go i H ∧ ∃ N : St → Hp → Prop, (∀ σ' H', N σ' H' → ∃ m', m' < m ∧ W (i + 1) m' σ' H') ∧ ∀ x H', (Ite K a).yld i H x H' → g x σ H' fun σ2 H2 => tb { D with nx := N, ct := N, bk := D.nx } σ2 H2) := by
  refine ⟨fun i m σ H => m = xs.length - i ∧ i ≤ xs.length ∧ Pv i σ H, ⟨_, rfl, Nat.zero_le _, h0⟩, ?_⟩
  rintro i m σ H ⟨rfl, hi, hp⟩
  by_cases hlt : i < xs.length
  · refine .inr ⟨⟨xs, xs[i], hl i σ H hi hp, List.getElem?_eq_getElem hlt⟩, Pv (i + 1), fun σ' H' h' => ⟨xs.length - (i + 1), by omega, rfl, hlt, h'⟩, ?_⟩
    rintro x H' ⟨T, y, rfl, hT, rfl, hy⟩
    exact hs i y σ H T (hy xs (hl i σ H hi hp)) hp hT
  · have e : i = xs.length := by omega
    subst e
    exact .inl ⟨⟨xs, hl _ σ H hi hp, Nat.le_refl _⟩, hd σ H hp⟩


end
end L2

namespace L2
open PySem PySem.Spec PyProof.Rows
end L2



set_option Elab.async false
set_option linter.all false
set_option maxRecDepth 100000

namespace L2
open PySem PySem.Spec PyProof.Rows
theorem comp_tupInv {K : PySem.W.Frag} {a : Addr} {xs : List V} {H1 : Hp} {fvals : St} {te : TE} {Q : Addr → Hp → Prop} (Pv : Addr → Nat → Hp → Prop) (hl : ∀ acc i H, Pv acc i H → SqL K H a xs)
    (h0 : ∀ acc, H1 acc = none → Pv acc 0 (upd H1 acc (.lst [])))
    (tup : ∀ (acc : Addr) (i : Nat) (x : V) (H : Hp), xs[i]? = some x → Pv acc i H → ∃ (T : Addr) (x1 x2 : V), x = .ref T ∧ H T = some (.tup [x1, x2]))
    (step : ∀ (acc : Addr) (i : Nat) (T : Addr) (x1 x2 : V) (H : Hp) (R : VK), xs[i]? = some (.ref T) → H T = some (.tup [x1, x2]) → Pv acc i H → (∀ v H2, (∃ zs, H2 acc = some (.lst zs) ∧ zs.length < sizeLine ∧ Pv acc (i + 1) (upd H2 acc (.lst (zs ++ [v])))) → R v H2) → te (some x1 :: some x2 :: fvals) H R)
    (q : ∀ acc H', H1 acc = none → Pv acc xs.length H' → Q acc H') :
    compWalk (Itl K a) H1 (none :: none :: fvals) (gTup K 2 (gCons (gName 0) (gCons (gName 1) gNil))) te Q := by
  intro acc hacc
  refine ⟨fun i m σ' H' => m = xs.length - i ∧ i ≤ xs.length ∧ (∃ o1 o2, σ' = o1 :: o2 :: fvals) ∧ Pv acc i H', ⟨_, rfl, Nat.zero_le _, ⟨none, none, rfl⟩, h0 acc hacc⟩, ?_⟩
  rintro i m σ' H' ⟨rfl, hi, ⟨o1, o2, rfl⟩, pv⟩
  by_cases hlt : i < xs.length
  · have hxi : xs[i]? = some xs[i] := List.getElem?_eq_getElem hlt
    refine .inr ⟨⟨xs, _, hl _ _ _ pv, hxi⟩, ?_⟩
    rintro v H2 ⟨rfl, hx⟩
    have hxx := hx xs (hl _ _ _ pv)
    obtain ⟨T, x1, x2, rfl, hT⟩ := tup acc i v H2 hxx pv
    refine ⟨T, _, rfl, SqT.of hT, rfl, _, _, rfl, _, _, rfl, rfl, ?_⟩
    exact step acc i T x1 x2 H2 _ hxx hT pv fun u H3 ⟨zs, e1, e2, e3⟩ => ⟨zs, e1, e2, xs.length - (i + 1), by omega, rfl, hlt, ⟨_, _, rfl⟩, e3⟩
  · have e : i = xs.length := by omega
    subst e
    exact .inl ⟨⟨xs, hl _ _ _ pv, Nat.le_refl _⟩, q acc H' hacc pv⟩
theorem comp_rngInv {lo : Int} {n : Nat} {H1 : Hp} {fvals : St} {te : TE} {Q : Addr → Hp → Prop} (Pv : Addr → Nat → Hp → Prop)
    (h0 : ∀ acc, H1 acc = none → Pv acc 0 (upd H1 acc (.lst [])))
    (step : ∀ (acc : Addr) (i : Nat) (H : Hp) (R : VK), i < n → Pv acc i H → (∀ v H2, (∃ zs, H2 acc = some (.lst zs) ∧ zs.length < sizeLine ∧ Pv acc (i + 1) (upd H2 acc (.lst (zs ++ [v])))) → R v H2) → te (some (.int (lo + i)) :: fvals) H R)
    (q : ∀ acc H', H1 acc = none → Pv acc n H' → Q acc H') : compWalk (Itr lo n) H1 (none :: fvals) (gName 0) te Q := by
  intro acc hacc
  refine ⟨fun i m σ' H' => m = n - i ∧ i ≤ n ∧ (∃ o, σ' = o :: fvals) ∧ Pv acc i H', ⟨_, rfl, Nat.zero_le _, ⟨none, rfl⟩, h0 acc hacc⟩, ?_⟩
  rintro i m σ' H' ⟨rfl, hi, ⟨o, rfl⟩, pv⟩
  by_cases hlt : i < n
  · refine .inr ⟨hlt, ?_⟩
    rintro x H2 ⟨rfl, rfl⟩
    exact step acc i _ _ hlt pv fun u H3 ⟨zs, e1, e2, e3⟩ => ⟨zs, e1, e2, n - (i + 1), by omega, rfl, hlt, ⟨_, rfl⟩, e3⟩
  · have e : i = n := by omega
    subst e
    exact .inl ⟨Nat.le_refl _, q acc H' hacc pv⟩
end L2

namespace L2
open PySem PySem.Spec PyProof.Rows

section
variable {κ : Type} [DecidableEq κ]
def valV (kvs : List (κ × V)) (k : κ) : Option V := (kvs.find? fun kv => decide (kv.1 = k)).map (·.2)
def putK (kvs : List (κ × V)) (k : κ) (v : V) : List (κ × V) :=
  if (kvs.any fun kv => decide (kv.1 = k)) = true then kvs.map (fun kv => if kv.1 = k then (kv.1, v) else kv) else kvs ++ [(k, v)]
def dropK (kvs : List (κ × V)) (k : κ) : List (κ × V) := kvs.filter fun kv => decide (kv.1 ≠ k)

theorem valV_pos {p : κ × V} {r : List (κ × V)} {k : κ} (e : p.1 = k) : valV (p :: r) k = some p.2 := by simp [valV, List.find?_cons, e]
theorem valV_neg {p : κ × V} {r : List (κ × V)} {k : κ} (e : ¬ p.1 = k) : valV (p :: r) k = valV r k := by simp [valV, List.find?_cons, e]
theorem valV_any (k : κ) : ∀ kvs : List (κ × V), (kvs.any fun kv => decide (kv.1 = k)) = (valV kvs k).isSome
  | [] => rfl
  | p :: r => by
    rw [List.any_cons]
    by_cases e : p.1 = k
    · simp only [valV_pos e, decide_eq_true e, Bool.true_or, Option.isSome_some]
    · rw [valV_neg e, decide_eq_false e, Bool.false_or]; exact valV_any k r
theorem valV_map (k j : κ) (y : V) : ∀ kvs : List (κ × V), valV (kvs.map fun kv => if kv.1 = k then (kv.1, y) else kv) j = (valV kvs j).map fun x => if j = k then y else x
  | [] => rfl
  | p :: r => by
    have ih := valV_map k j y r
    rw [List.map_cons]
    by_cases h : p.1 = k
    · rw [if_pos h]
      by_cases e : p.1 = j
      · rw [valV_pos (p := (p.1, y)) e, valV_pos e, Option.map_some, if_pos (e.symm.trans h)]
      · rw [valV_neg (p := (p.1, y)) e, valV_neg e, ih]
    · rw [if_neg h]
      by_cases e : p.1 = j
      · rw [valV_pos (p := p) e, valV_pos e, Option.map_some, if_neg (fun z => h (e.trans z))]
      · rw [valV_neg (p := p) e, valV_neg e, ih]
theorem valV_snoc (k j : κ) (y : V) : ∀ kvs : List (κ × V), valV kvs k = none → valV (kvs ++ [(k, y)]) j = if j = k then some y else valV kvs j
  | [], _ => by
    by_cases e : k = j
    · rw [if_pos e.symm]; exact valV_pos (p := (k, y)) e
    · rw [if_neg (fun z => e z.symm)]; exact valV_neg (p := (k, y)) e
  | p :: r, hn => by
    rw [List.cons_append]
    have hk : ¬ p.1 = k := fun z => by rw [valV_pos z] at hn; cases hn
    rw [valV_neg hk] at hn
    have ih := valV_snoc k j y r hn
    by_cases e : p.1 = j
    · rw [valV_pos e, valV_pos e, if_neg (fun z => hk (e.trans z))]
    · rw [valV_neg e, valV_neg e, ih]
theorem valV_put (kvs : List (κ × V)) (k j : κ) (y : V) : valV (putK kvs k y) j = if j = k then some y else valV kvs j := by
  unfold putK
  by_cases a : (kvs.any fun kv => decide (kv.1 = k)) = true
  · rw [if_pos a, valV_map]
    rw [valV_any] at a
    by_cases e : j = k
    · obtain ⟨x, hx⟩ := Option.isSome_iff_exists.mp a
      rw [if_pos e, e, hx, Option.map_some, if_pos rfl]
    · rw [if_neg e]
      cases valV kvs j with
      | none => rfl
      | some x => rw [Option.map_some, if_neg e]
  · rw [if_neg a]
    refine valV_snoc k j y kvs ?_
    rw [valV_any] at a
    cases q : valV kvs k with
    | none => rfl
    | some x => rw [q] at a; exact (a rfl).elim
theorem length_putK (kvs : List (κ × V)) (k : κ) (v : V) : (putK kvs k v).length ≤ kvs.length + 1 := by
  unfold putK
  split
  · rw [List.length_map]; omega
  · rw [List.length_append, List.length_cons, List.length_nil]; omega
theorem putK_new {kvs : List (κ × V)} {k : κ} (v : V) (h : valV kvs k = none) : putK kvs k v = kvs ++ [(k, v)] := by
  unfold putK
  rw [valV_any, h]
  exact if_neg (by decide)

theorem RelO.isSome_eq {o : Option V} {u : Option Value} (r : RelO o u) : o.isSome = u.isSome := by
  cases o with
  | none => cases u with
    | none => rfl
    | some _ => exact (show False from r).elim
  | some _ => cases u with
    | none => exact (show False from r).elim
    | some _ => rfl
theorem RelO.getD {o : Option V} {u : Option Value} {d : V} {d' : Value} (r : RelO o u) (rd : RelV d d') : RelV (o.getD d) (u.getD d') := by
  cases o with
  | none => cases u with
    | none => exact rd
    | some _ => exact (show False from r).elim
  | some _ => cases u with
    | none => exact (show False from r).elim
    | some _ => exact r

theorem KV.val {kvs : List (κ × V)} {vs : List (κ × Value)} (r : KV kvs vs) (k : κ) : RelO (valV kvs k) (valueAt vs k) := by
  unfold KV at r
  induction r with
  | nil => exact True.intro
  | @cons p q ps qs h t ih =>
    obtain ⟨h1, h2⟩ := h
    by_cases e : p.1 = k
    · have e' : q.1 = k := h1.symm.trans e
      have b : valueAt (q :: qs) k = some q.2 := by simp [valueAt, List.find?_cons, e']
      rw [valV_pos e, b]; exact h2
    · have e' : ¬ q.1 = k := fun z => e (h1.trans z)
      have b : valueAt (q :: qs) k = valueAt qs k := by simp [valueAt, List.find?_cons, e']
      rw [valV_neg e, b]; exact ih
theorem KV.any {kvs : List (κ × V)} {vs : List (κ × Value)} (r : KV kvs vs) (k : κ) : (kvs.any fun kv => decide (kv.1 = k)) = vs.any fun kv => decide (kv.1 = k) := by
  unfold KV at r
  induction r with
  | nil => rfl
  | cons h t ih => rw [List.any_cons, List.any_cons, ih, h.1]
theorem KV.repl {kvs : List (κ × V)} {vs : List (κ × Value)} (r : KV kvs vs) (k : κ) {y : V} {u : Value} (ry : RelV y u) :
    KV (kvs.map fun kv => if kv.1 = k then (kv.1, y) else kv) (vs.map fun kv => if kv.1 = k then (kv.1, u) else kv) := by
  unfold KV at r ⊢
  induction r with
  | nil => exact .nil
  | @cons p q ps qs h t ih =>
    rw [List.map_cons, List.map_cons]
    refine .cons ?_ ih
    obtain ⟨h1, h2⟩ := h
    by_cases e : p.1 = k
    · rw [if_pos e, if_pos (h1.symm.trans e)]; exact ⟨h1, ry⟩
    · rw [if_neg e, if_neg (fun z => e (h1.trans z))]; exact ⟨h1, h2⟩
theorem KV.put {kvs : List (κ × V)} {vs : List (κ × Value)} (r : KV kvs vs) (k : κ) {y : V} {u : Value} (ry : RelV y u) : KV (putK kvs k y) (stored vs k u) := by
  unfold putK stored
  rw [r.any k]
  by_cases e : (vs.any fun kv => decide (kv.1 = k)) = true
  · rw [if_pos e, if_pos e]; exact r.repl k ry
  · rw [if_neg e, if_neg e]; exact Paired.snoc r ⟨rfl, ry⟩
theorem KV.drop {kvs : List (κ × V)} {vs : List (κ × Value)} (r : KV kvs vs) (k : κ) : KV (dropK kvs k) (without vs k) := by
  unfold KV at r ⊢
  unfold dropK without
  induction r with
  | nil => exact .nil
  | @cons p q ps qs h t ih =>
    obtain ⟨h1, h2⟩ := h
    rw [List.filter_cons, List.filter_cons]
    by_cases e : p.1 = k
    · have a : ¬ decide (p.1 ≠ k) = true := by simp [e]
      have b : ¬ decide (q.1 ≠ k) = true := by simp [h1.symm.trans e]
      rw [if_neg a, if_neg b]; exact ih
    · have e' : ¬ q.1 = k := fun z => e (h1.trans z)
      have a : decide (p.1 ≠ k) = true := by simp [e]
      have b : decide (q.1 ≠ k) = true := by simp [e']
      rw [if_pos a, if_pos b]; exact .cons ⟨h1, h2⟩ ih
theorem KV.keys {kvs : List (κ × V)} {vs : List (κ × Value)} (r : KV kvs vs) : kvs.map (·.1) = vs.map (·.1) := by
  unfold KV at r
  induction r with
  | nil => rfl
  | cons h t ih => rw [List.map_cons, List.map_cons, ih, h.1]
theorem KV.length {kvs : List (κ × V)} {vs : List (κ × Value)} (r : KV kvs vs) : kvs.length = vs.length := Paired.length r
theorem dropK_le (kvs : List (κ × V)) (k : κ) : (dropK kvs k).length ≤ kvs.length := List.length_filter_le _ _
end


theorem kV_is {P : Program} {w : World} {k : Key} {u : Value} (r : RelV (kV k) u) : (mixKind P w).is k u = true := by
  cases k with
  | inl i => obtain ⟨t, e⟩ := (show ∃ t, u = Value.int i t from r); subst e; exact mixKind_int P w i t
  | inr x => obtain ⟨t, e⟩ := (show ∃ t, u = Value.str x t from r); subst e; exact mixKind_str P w x t
theorem items_are {P : Program} {w : World} : ∀ {ks : List Key} {us : List Value}, Vals (ks.map kV) us → ItemsAre (mixKind P w) ks us
  | [], _, r => by rw [List.map_nil] at r; cases r; exact .nil
  | k :: ks, _, r => by
    rw [List.map_cons] at r
    cases r with
    | cons h t => exact .cons (kV_is h) (items_are t)

abbrev KT (H : Hp) : List (List Key × V) → List (List Key × Addr × Value) → Prop := Paired fun p q => p.1 = q.1 ∧ H q.2.1 = some (.tup (p.1.map kV)) ∧ RelV p.2 q.2.2
theorem KT.val {H : Hp} {kvs : List (List Key × V)} {xs : List (List Key × Addr × Value)} (r : KT H kvs xs) (k : List Key) : RelO (valV kvs k) ((atKey xs k).map (·.2)) := by
  induction r with
  | nil => exact True.intro
  | @cons p q ps qs h t ih =>
    obtain ⟨h1, _, h2⟩ := h
    by_cases e : p.1 = k
    · have e' : q.1 = k := h1.symm.trans e
      have b : atKey (q :: qs) k = some q.2 := by simp [atKey, List.find?_cons, e']
      rw [valV_pos e, b]; exact h2
    · have e' : ¬ q.1 = k := fun z => e (h1.trans z)
      have b : atKey (q :: qs) k = atKey qs k := by simp [atKey, List.find?_cons, e']
      rw [valV_neg e, b]; exact ih
theorem KT.repl {H : Hp} {kvs : List (List Key × V)} {xs : List (List Key × Addr × Value)} (r : KT H kvs xs) (k : List Key) {y : V} {u : Value} (ry : RelV y u) :
    KT H (kvs.map fun kv => if kv.1 = k then (kv.1, y) else kv) (xs.map (putAt k u)) := by
  induction r with
  | nil => exact .nil
  | @cons p q ps qs h t ih =>
    rw [List.map_cons, List.map_cons]
    refine .cons ?_ ih
    obtain ⟨h1, h2, h3⟩ := h
    unfold putAt
    by_cases e : p.1 = k
    · rw [if_pos e, if_pos (h1.symm.trans e)]; exact ⟨h1, h2, ry⟩
    · rw [if_neg e, if_neg (fun z => e (h1.trans z))]; exact ⟨h1, h2, h3⟩
theorem KT.put {H : Hp} {kvs : List (List Key × V)} {xs : List (List Key × Addr × Value)} (r : KT H kvs xs) (k : List Key) {b : Addr} {y : V} {u : Value} (hb : H b = some (.tup (k.map kV))) (ry : RelV y u) :
    KT H (putK kvs k y) (storedH xs k b u) := by
  have e : (kvs.any fun kv => decide (kv.1 = k)) = (atKey xs k).isSome := by
    rw [valV_any, (r.val k).isSome_eq, Option.isSome_map]
  unfold putK storedH
  rw [e]
  by_cases q : (atKey xs k).isSome = true
  · rw [if_pos q, if_pos q]; exact r.repl k ry
  · rw [if_neg q, if_neg q]; exact Paired.snoc r ⟨rfl, hb, ry⟩
theorem KT.keeps {H H' : Hp} {kvs : List (List Key × V)} {xs : List (List Key × Addr × Value)} (r : KT H kvs xs) (ht : ∀ b ys, H b = some (.tup ys) → H' b = some (.tup ys)) : KT H' kvs xs :=
  Paired.mapP r fun _ _ z => ⟨z.1, ht _ _ z.2.1, z.2.2⟩

section
variable {P : Program} {w : World} {H : Hp} {h : Heap} {a : Addr}
theorem rd_of {u : HO} (ok : HOk P w H h) (e : Rd H a u) : ObjOk P w H h a u := e.ok ok
theorem dk_rd {kvs : List (Key × V)} (ok : HOk P w H h) (e : Rd H a (.dK kvs)) : kvs.length ≤ sizeLine ∧ (a == sysModules) = false ∧ ∃ vs, KV kvs vs ∧ h.DictOf (mixKind P w) a vs :=
  show ObjOk P w H h a (.dK kvs) from rd_of ok e
theorem dk_of {kvs : List (Key × V)} (ok : HOk P w H h) (e : H a = some (.dK kvs)) : kvs.length ≤ sizeLine ∧ (a == sysModules) = false ∧ ∃ vs, KV kvs vs ∧ h.DictOf (mixKind P w) a vs := dk_rd ok (.inl e)
theorem key_of {ks : List Key} (ok : HOk P w H h) (e : H a = some (.tup (ks.map kV))) : (tupleKind (mixKind P w)).is h ks a := by
  obtain ⟨_, its, r, o, h1, h2, n, h3⟩ := (show ObjOk P w H h a (.tup (ks.map kV)) from ok a _ e)
  exact ⟨o, its.toArray, n, h1, h2, h3, by simpa using items_are r⟩
theorem dt_rd {kvs : List (List Key × V)} (ok : HOk P w H h) (e : Rd H a (.dT kvs)) : kvs.length ≤ sizeLine ∧ (a == sysModules) = false ∧
    ∃ xs, KT H kvs xs ∧ h.DictOfH (tupleKind (mixKind P w)) a xs := by
  obtain ⟨z, y, xs, r, o, es, ep, h1, h2, h3, h4, h5⟩ := (show ObjOk P w H h a (.dT kvs) from rd_of ok e)
  refine ⟨z, y, xs, r, o, es, ep, h1, h2, h3, h4, fun x hx => ?_, h5⟩
  have all : ∀ {l : List (List Key × V)} {m : List (List Key × Addr × Value)}, KT H l m → ∀ x ∈ m, (tupleKind (mixKind P w)).is h x.1 x.2.1 := by
    intro l m q
    induction q with
    | nil => intro x hx; exact nomatch hx
    | @cons p q ps qs hq t ih =>
      intro x hx
      rcases List.mem_cons.mp hx with e | hx
      · subst e
        exact key_of ok (by rw [← hq.1]; exact hq.2.1)
      · exact ih x hx
  exact all r x hx
theorem dt_of {kvs : List (List Key × V)} (ok : HOk P w H h) (e : H a = some (.dT kvs)) : kvs.length ≤ sizeLine ∧ (a == sysModules) = false ∧
    ∃ xs, KT H kvs xs ∧ h.DictOfH (tupleKind (mixKind P w)) a xs := dt_rd ok (.inl e)
end

def DGet (H : Hp) (a : Addr) (y : V) (r : Option V) : Prop :=
  (∃ kvs k, Rd H a (.dK kvs) ∧ y = kV k ∧ r = valV kvs k) ∨ ∃ kvs k b, Rd H a (.dT kvs) ∧ y = .ref b ∧ H b = some (.tup (k.map kV)) ∧ r = valV kvs k
def DPut (H : Hp) (a : Addr) (y v : V) (H' : Hp) : Prop :=
  (∃ kvs k, H a = some (.dK kvs) ∧ y = kV k ∧ kvs.length < sizeLine ∧ H' = upd H a (.dK (putK kvs k v))) ∨
  ∃ kvs k b, H a = some (.dT kvs) ∧ y = .ref b ∧ H b = some (.tup (k.map kV)) ∧ kvs.length < sizeLine ∧ H' = upd H a (.dT (putK kvs k v))
theorem DGet.k {H : Hp} {a : Addr} {kvs : List (Key × V)} {k : Key} (e : H a = some (.dK kvs)) : DGet H a (kV k) (valV kvs k) := .inl ⟨kvs, k, .inl e, rfl, rfl⟩
theorem DPut.k {H : Hp} {a : Addr} {kvs : List (Key × V)} {k : Key} {v : V} (e : H a = some (.dK kvs)) (hl : kvs.length < sizeLine) : DPut H a (kV k) v (upd H a (.dK (putK kvs k v))) := .inl ⟨kvs, k, e, rfl, hl, rfl⟩


section
variable {X : Cx} {pins : List (Addr × Obj)} {σ : St} {H : Hp} {s : Shared} {a : Addr} {y v : V} {u r : Value} {o : Option V} {A : Around} {E : Value → Shared → Prop}

theorem Inv.big (I : Inv X pins σ H s) : sysModules < s.heap.objs.size := by
  have h : mainGlobals < s.heap.objs.size := (I.mod.glob.keeps I.bk).lt
  exact Nat.lt_trans (by decide) h

theorem d_getItem {Q : Value → Shared → Prop} (hu : A.units + 1 < cLine) (I : Inv X pins σ H s) (g : DGet H a y (some v)) (ry : RelV y u) (h : ∀ w' s', Inv X pins σ H s' → RelV v w' → Q w' s') :
    wpAny (model X.prog X.w) A (getItem (.ref a) u) Q E s := by
  rcases g with ⟨kvs, k, e, ey, l⟩ | ⟨kvs, k, b, e, ey, eb, l⟩
  · subst ey
    obtain ⟨z, hd, vs, rel, dd⟩ := dk_rd I.hok e
    obtain ⟨w', hw, rw'⟩ := RelO.some_of (v := v) (o := valueAt vs k) (by rw [l]; exact rel.val k)
    exact wpAny_getItem_of (kV_is ry) dd.mapOf hw (h w' _ (I.tok _) rw')
  · subst ey
    cases (show u = Value.ref b from ry)
    obtain ⟨z, hd, xs, rel, dd⟩ := dt_rd I.hok e
    obtain ⟨w', hw, rw'⟩ := RelO.some_of (v := v) (o := (atKey xs k).map (·.2)) (by rw [l]; exact rel.val k)
    obtain ⟨p, hp, hp2⟩ := Option.map_eq_some_iff.mp hw
    refine wpAny_getItem_heap (tupleKind_room_in1 hu) (key_of I.hok eb) dd hp ?_
    rw [hp2]
    exact h w' _ (I.tok _) rw'
theorem d_in {Q : Value → Shared → Prop} (hu : A.units + 1 < cLine) (I : Inv X pins σ H s) (g : DGet H a y o) (ry : RelV y u) (h : ∀ s', Inv X pins σ H s' → Q (.bool o.isSome) s') :
    wpAny (model X.prog X.w) A (compareOp .In u (.ref a)) Q E s := by
  rcases g with ⟨kvs, k, e, ey, l⟩ | ⟨kvs, k, b, e, ey, eb, l⟩
  · subst ey
    obtain ⟨z, hd, vs, rel, dd⟩ := dk_rd I.hok e
    refine wpAny_in_of (kV_is ry) hd dd.mapOf ?_
    rw [← (rel.val k).isSome_eq, ← l]
    exact h _ (I.tok _)
  · subst ey
    cases (show u = Value.ref b from ry)
    obtain ⟨z, hd, xs, rel, dd⟩ := dt_rd I.hok e
    refine wpAny_in_heap (tupleKind_room_in1 hu) (key_of I.hok eb) hd dd ?_
    have q := (rel.val k).isSome_eq
    rw [Option.isSome_map] at q
    rw [← q, ← l]
    exact h _ (I.tok _)
theorem d_notIn {Q : Value → Shared → Prop} (hu : A.units + 1 < cLine) (I : Inv X pins σ H s) (g : DGet H a y o) (ry : RelV y u) (h : ∀ s', Inv X pins σ H s' → Q (.bool (!o.isSome)) s') :
    wpAny (model X.prog X.w) A (compareOp .NotIn u (.ref a)) Q E s := by
  rcases g with ⟨kvs, k, e, ey, l⟩ | ⟨kvs, k, b, e, ey, eb, l⟩
  · subst ey
    obtain ⟨z, hd, vs, rel, dd⟩ := dk_rd I.hok e
    refine wpAny_notIn_of (kV_is ry) hd dd.mapOf ?_
    rw [← (rel.val k).isSome_eq, ← l]
    exact h _ (I.tok _)
  · subst ey
    cases (show u = Value.ref b from ry)
    obtain ⟨z, hd, xs, rel, dd⟩ := dt_rd I.hok e
    refine wpAny_notIn_heap (tupleKind_room_in1 hu) (key_of I.hok eb) hd dd ?_
    have q := (rel.val k).isSome_eq
    rw [Option.isSome_map] at q
    rw [← q, ← l]
    exact h _ (I.tok _)
theorem d_write {h' : Heap} {t' : Nat} {ob : HO} (I : Inv X pins σ H s) (mu : Mut (H a)) (hs : Heap.SameBut a s.heap h') (he : ∃ q, h'.get? a = some q) (new : ObjOk X.prog X.w (upd H a ob) h' a ob) :
    Inv X pins σ (upd H a ob) { s with heap := h', toks := t' } :=
  I.write (x := a) (e := a) mu (.inl rfl) (fun b q hb z => (hs.2 b hb).trans z) he new
theorem dk_new {P : Program} {w : World} {H' : Hp} {h' : Heap} {kvs : List (Key × V)} {vs : List (Key × Value)} (z : kvs.length ≤ sizeLine) (hd : (a == sysModules) = false) (rel : KV kvs vs) (dd : h'.DictOf (mixKind P w) a vs) :
    ObjOk P w H' h' a (.dK kvs) := ⟨z, hd, vs, rel, dd⟩
theorem d_setItem {H' : Hp} {Q : Unit → Shared → Prop} (hu : A.units + 1 < cLine) (I : Inv X pins σ H s) (g : DPut H a y v H') (ry : RelV y u) (rv : RelV v r) (h : ∀ s', Inv X pins σ H' s' → Q () s') :
    wpAny (model X.prog X.w) A (setItem (.ref a) u r) Q E s := by
  rcases g with ⟨kvs, k, e, ey, l, eH⟩ | ⟨kvs, k, b, e, ey, eb, l, eH⟩
  · subst ey eH
    obtain ⟨z, hd, vs, rel, dd⟩ := dk_of I.hok e
    have hz : vs.length ≤ sizeLine := by rw [← rel.length]; exact z
    have hl : (putK kvs k v).length ≤ sizeLine := by have := length_putK kvs k v; omega
    refine wpAny_setItem_pairs (hsz := hz) (kV_is ry) dd fun h' dd' hs => h _ ?_
    have he : ∃ q, h'.get? a = some q := let ⟨q, _, _, hq, _⟩ := dd'; ⟨q, hq⟩
    exact d_write I (by rw [e]; exact True.intro) hs he (dk_new hl hd (rel.put k rv) dd')
  · subst ey eH
    cases (show u = Value.ref b from ry)
    obtain ⟨z, hd, xs, rel, dd⟩ := dt_of I.hok e
    have hz : xs.length ≤ sizeLine := by rw [← Paired.length rel]; exact z
    have hl : (putK kvs k v).length ≤ sizeLine := by have := length_putK kvs k v; omega
    refine wpAny_setItem_heap (hsz := hz) (tupleKind_room_in1 hu) (key_of I.hok eb) dd fun h' dd' hs => h _ ?_
    obtain ⟨q, es, ep, hq, h2, h3, h4, _, h5⟩ := dd'
    refine d_write I (by rw [e]; exact True.intro) hs ⟨q, hq⟩ ⟨hl, hd, _, (rel.put k eb rv).keeps fun c ys ec => ?_, q, es, ep, hq, h2, h3, h4, h5⟩
    rw [upd_ne (ne_of ec e (fun z => nomatch z))]
    exact ec
end

section
variable {X : Cx} {pins : List (Addr × Obj)} {σ : St} {H : Hp} {s : Shared} {a : Addr} {kvs : List (Key × V)} {k : Key} {u : Value} {A : Around} {E : Value → Shared → Prop}
theorem d_pop {v : V} {more : List Value} {Q : Value → Shared → Prop} (I : Inv X pins σ H s) (e : H a = some (.dK kvs)) (ry : RelV (kV k) u) (l : valV kvs k = some v) (hm : more = [] ∨ ∃ x, more = [x])
    (h : ∀ w' s', Inv X pins σ (upd H a (.dK (dropK kvs k))) s' → RelV v w' → Q w' s') : wpAny (model X.prog X.w) A (call (.builtin "dict.pop") (.ref a :: u :: more)) Q E s := by
  obtain ⟨z, hd, vs, rel, dd⟩ := dk_of I.hok e
  obtain ⟨w', hw, rw'⟩ := RelO.some_of (v := v) (o := valueAt vs k) (by rw [← l]; exact rel.val k)
  have hp : (keyPart u).isSome = true := by
    cases k with
    | inl i => obtain ⟨t, q⟩ := (show ∃ t, u = Value.int i t from ry); subst q; rfl
    | inr x => obtain ⟨t, q⟩ := (show ∃ t, u = Value.str x t from ry); subst q; rfl
  have ha : argsOk "dict.pop" ⟨.ref a :: u :: more, []⟩ := by
    rcases hm with q | ⟨x, q⟩
    · subst q; exact PySem.F.args_dict_pop_2 _ _
    · subst q; exact PySem.F.args_dict_pop_3 _ _ _
  refine call_meetsIn PySem.F.slot_dict_pop dd.typeIs PySem.F.entry_dict_pop ha (meets_dict_pop_there (mixKind X.prog X.w) a (kV_is ry) more hm hp)
    ⟨vs, w', dd, by rw [← rel.length]; exact z, hw, fun h' dd' hs => h w' _ ?_ rw'⟩
  have he : ∃ q, h'.get? a = some q := let ⟨q, _, _, hq, _⟩ := dd'; ⟨q, hq⟩
  exact d_write I (by rw [e]; exact True.intro) hs he (dk_new (Nat.le_trans (dropK_le kvs k) z) hd (rel.drop k) dd')
end


def NoSl (i : Expr) : Prop := ∀ ov iv, subscripted i false ov iv = operate [ov, iv] (getItem ov iv)
theorem subD_of {prog : Program} {w : World} {A : Around} {E : Value → Shared → Prop} {s : Shared} {env : Env} {value slice : Expr} {pos : Pos} {T id : String} {Q : Value → Shared → Prop}
    (hl : typeLookup (.type T) "__getitem__" = pure (some (.builtin id))) (hs : NoSl slice)
    (h : wpAny (model prog w) A (eval value env) (fun o s₁ => wpAny (model prog w) A (eval slice env) (fun i s₂ => s₂.TypeIs o T ∧ wpAny (model prog w) A (getItem o i) Q E s₂) E s₁) E s) :
    wpAny (model prog w) A (eval (.Subscript value slice pos) env) Q E s := by
  refine Subscript_ (wpAny_mono h (fun o s₁ h₁ => wpAny_mono h₁ (fun i s₂ h₂ => ?_) fun _ _ x => x) fun _ _ x => x)
  obtain ⟨hT, h₂⟩ := h₂
  unfold subscriptTail
  refine wpAny_bind ?_
  rw [getitemInPython_of_ne hT.not_modules]
  refine wpAny_bind (wpAny_specialOf hT hl ?_)
  have fin : wpAny (model prog w) A (subscripted slice false o i) (fun r s₃ => wpAny (model prog w) A (letTemporaryGo value o r >>= fun _ => pure r) Q E s₃) E s₂ := by
    rw [hs o i]
    exact wpAny_operating (wpAny_mono h₂ (fun r s₃ h₃ => wpAny_bind (wpAny_letTemporaryGo (wpAny_pure h₃))) fun _ _ x => x)
  first
    | exact wpAny_pure (wpAny_bind fin)
    | exact wpAny_bind (wpAny_pure (wpAny_bind fin))
    | exact wpAny_bind fin

theorem dict_typeIs {X : Cx} {pins : List (Addr × Obj)} {σ : St} {H : Hp} {s : Shared} {a : Addr} {y : V} {o : Option V} (I : Inv X pins σ H s) (g : DGet H a y o) : s.TypeIs (.ref a) "dict" := by
  rcases g with ⟨kvs, k, e, _, _⟩ | ⟨kvs, k, b, e, _, _, _⟩
  · obtain ⟨_, _, vs, _, dd⟩ := dk_rd I.hok e
    exact dd.typeIs
  · obtain ⟨_, _, xs, _, dd⟩ := dt_rd I.hok e
    exact dd.typeIs

def tDGet (td ty : TE) : TE := fun σ H Q => td σ H fun x H1 => ty σ H1 fun y H2 => ∃ a v, x = .ref a ∧ DGet H2 a y (some v) ∧ Q v H2
def tDIn (ty td : TE) : TE := fun σ H Q => ty σ H fun y H1 => td σ H1 fun x H2 => ∃ a o, x = .ref a ∧ DGet H2 a y o ∧ Q (.bl o.isSome) H2
def tDNotIn (ty td : TE) : TE := fun σ H Q => ty σ H fun y H1 => td σ H1 fun x H2 => ∃ a o, x = .ref a ∧ DGet H2 a y o ∧ Q (.bl (!o.isSome)) H2
def sDPut (td ty tv : TE) : TS := fun D σ H => tv σ H fun v H1 => td σ H1 fun x H2 => ty σ H2 fun y H3 => ∃ a H4, x = .ref a ∧ DPut H3 a y v H4 ∧ D.nx σ H4

section
variable {X : Cx} {o i e value : Expr} {pos pos' tpos : Pos} {td ty tv : TE}
theorem pe_dget (hu : X.A.units + 1 < cLine) (ho : PE X o td) (hi : PE X i ty) (hs : NoSl i) : PE X (.Subscript o i pos) (tDGet td ty) := by
  intro pins s σ H Q I h
  refine subD_of PySem.F.slot_dict_getitem.lookup hs (thn (ho pins s σ H _ I h) fun u s1 ⟨x, H1, I1, rx, q1⟩ => thn (hi pins s1 σ H1 _ I1 q1) fun iv s2 ⟨y, H2, I2, ry, a, v, ex, g, q2⟩ => ?_)
  subst ex
  obtain rfl : u = Value.ref a := rx
  exact ⟨dict_typeIs I2 g, d_getItem hu I2 g ry fun w' s3 I3 rw' => ⟨v, H2, I3, rw', q2⟩⟩
theorem pc_din (hu : X.A.units + 1 < cLine) (hi : PE X i ty) (ho : PE X o td) : PC X .In i o (tDIn ty td) := by
  intro pins s σ H Q I h
  refine thn (hi pins s σ H _ I h) fun iv s1 ⟨y, H1, I1, ry, q1⟩ => thn (ho pins s1 σ H1 _ I1 q1) fun u s2 ⟨x, H2, I2, rx, a, ov, ex, g, q2⟩ => ?_
  subst ex
  obtain rfl : u = Value.ref a := rx
  exact d_in hu I2 g ry fun s3 I3 => ⟨.bl ov.isSome, H2, I3, rfl, q2⟩
theorem pc_dnotin (hu : X.A.units + 1 < cLine) (hi : PE X i ty) (ho : PE X o td) : PC X .NotIn i o (tDNotIn ty td) := by
  intro pins s σ H Q I h
  refine thn (hi pins s σ H _ I h) fun iv s1 ⟨y, H1, I1, ry, q1⟩ => thn (ho pins s1 σ H1 _ I1 q1) fun u s2 ⟨x, H2, I2, rx, a, ov, ex, g, q2⟩ => ?_
  subst ex
  obtain rfl : u = Value.ref a := rx
  exact d_notIn hu I2 g ry fun s3 I3 => ⟨.bl (!ov.isSome), H2, I3, rfl, q2⟩
theorem ps_dput (hu : X.A.units + 1 < cLine) (ho : PE X o td) (hi : PE X i ty) (hv : PE X value tv) (hs : swapsWith value (some (.Subscript o i pos')) pos.line X.env = pure false) :
    PS X (.Assign [.Subscript o i pos'] value pos) (sDPut td ty tv) := by
  intro pins s σ H D I h
  refine wpAny_Assign_Subscript (thn (hv pins s σ H _ I h) fun r s1 ⟨v, H1, I1, rv, q1⟩ => thn (ho pins s1 σ H1 _ I1 q1) fun u s2 ⟨x, H2, I2, rx, q2⟩ => thn (hi pins s2 σ H2 _ I2 q2) fun iv s3 ⟨y, H3, I3, ry, a, H4, ex, g, q3⟩ => ?_) hs
  subst ex
  obtain rfl : u = Value.ref a := rx
  exact d_setItem hu I3 g ry rv fun s4 I4 => ⟨σ, H4, I4, q3⟩
end


theorem dk_empty {P : Program} {w : World} {H : Hp} (h : Heap) (hb : sysModules < h.objs.size) : ObjOk P w H (h.push { cls := .type "dict", data := .dict #[] }) h.objs.size (.dK []) :=
  ⟨Nat.zero_le _, beq_eq_false_iff_ne.mpr (Ne.symm (Nat.ne_of_lt hb)), [], .nil, Heap.DictOf.new h⟩
def tDNewK : TE := fun _ H Q => ∀ p, H p = none → Q (.ref p) (upd H p (.dK []))
section
variable {X : Cx} {pos : Pos}
theorem pe_dnewK : PE X (.Dict [] [] pos) tDNewK := fun pins s σ H Q I h =>
  wpAny_Dict_empty ⟨.ref s.heap.objs.size, _, I.laid (a := s.heap.objs.size) (o := .dK []) (t' := s.toks) (fun _ _ q => Heap.get?_push_of_some _ q) (Nat.le_refl _) (dk_empty s.heap I.big), rfl, h _ (I.hok.fresh (Nat.le_refl _))⟩
end




structure M1 (X : Cx) (o : Expr) (m : Str) (apos : Pos) (e : Expr) (cpos : Pos) : Prop where
  base : attributeBase o m X.env (eval o X.env) = eval o X.env
  few : ((backTo cpos (starEach [e] X.env)).all (fun x => !x.1) && (backToKw cpos (keywordEach [] X.env)).all (fun x => x.1.isSome)
    && decide (([e] : List Expr).length + ([] : List Keyword).length + (if ([] : List Keyword).isEmpty then 0 else 1) < 30)) = true
  line : (apos.endLine == cpos.line) = true
  trees : backTo cpos (starEach [e] X.env) = [(false, eval e X.env)]
structure M2 (X : Cx) (o : Expr) (m : Str) (apos : Pos) (e f : Expr) (cpos : Pos) : Prop where
  base : attributeBase o m X.env (eval o X.env) = eval o X.env
  few : ((backTo cpos (starEach [e, f] X.env)).all (fun x => !x.1) && (backToKw cpos (keywordEach [] X.env)).all (fun x => x.1.isSome)
    && decide (([e, f] : List Expr).length + ([] : List Keyword).length + (if ([] : List Keyword).isEmpty then 0 else 1) < 30)) = true
  line : (apos.endLine == cpos.line) = true
  trees : backTo cpos (starEach [e, f] X.env) = [(false, eval e X.env), (false, eval f X.env)]

def IsD (H : Hp) (a : Addr) : Prop := (∃ kvs, Rd H a (.dK kvs)) ∨ ∃ kvs, Rd H a (.dT kvs)
theorem isD_at {X : Cx} {pins : List (Addr × Obj)} {σ : St} {H : Hp} {s : Shared} {a : Addr} (I : Inv X pins σ H s) (d : IsD H a) :
    s.TypeIs (.ref a) "dict" ∧ (∀ b, Value.ref a = .ref b → ∃ ob, s.heap.get? b = some ob ∧ ob.dict = none) ∧ (a == sysModules) = false := by
  rcases d with ⟨kvs, e⟩ | ⟨kvs, e⟩
  · obtain ⟨_, hd, vs, _, dd⟩ := dk_rd I.hok e
    refine ⟨dd.typeIs, fun b q => ?_, hd⟩
    cases q
    obtain ⟨ob, _, _, h1, h2, _⟩ := dd
    exact ⟨ob, h1, h2.2.1⟩
  · obtain ⟨_, hd, xs, _, dd⟩ := dt_rd I.hok e
    refine ⟨dd.typeIs, fun b q => ?_, hd⟩
    cases q
    obtain ⟨ob, _, _, h1, h2, _⟩ := dd
    exact ⟨ob, h1, h2.2.1⟩

section
variable {X : Cx} {pins : List (Addr × Obj)} {σ : St} {H : Hp} {s : Shared} {a : Addr} {y d : V} {u r : Value} {o : Option V} {A : Around} {E : Value → Shared → Prop}
theorem d_get2 {Q : Value → Shared → Prop} (hu : A.units + 1 < cLine) (I : Inv X pins σ H s) (g : DGet H a y o) (ry : RelV y u) (rd : RelV d r) (h : ∀ w' s', Inv X pins σ H s' → RelV (o.getD d) w' → Q w' s') :
    wpAny (model X.prog X.w) A (call (.builtin "dict.get") [.ref a, u, r]) Q E s := by
  rcases g with ⟨kvs, k, e, ey, l⟩ | ⟨kvs, k, b, e, ey, eb, l⟩
  · subst ey
    obtain ⟨z, hd, vs, rel, dd⟩ := dk_rd I.hok e
    refine call_meetsIn PySem.F.slot_dict_get dd.typeIs PySem.F.entry_dict_get (PySem.F.args_dict_get_3 _ _ _) (meets_dict_get_default (mixKind X.prog X.w) a (kV_is ry) hd r) ⟨_, dd.mapOf, h _ _ (I.tok _) ?_⟩
    rw [l]
    exact (rel.val k).getD rd
  · subst ey
    cases (show u = Value.ref b from ry)
    obtain ⟨z, hd, xs, rel, dd⟩ := dt_rd I.hok e
    refine call_meetsIn PySem.F.slot_dict_get dd.typeIs PySem.F.entry_dict_get (PySem.F.args_dict_get_3 _ _ _) (meetsH_dict_get_default (tupleKind (mixKind X.prog X.w)) a b hd r) ⟨tupleKind_room_in1 hu, k, xs, key_of I.hok eb, dd, h _ _ (I.tok _) ?_⟩
    rw [l]
    exact (rel.val k).getD rd
end

def tDGet2 (td ty tx : TE) : TE := fun σ H Q => td σ H fun x H1 => ∃ a, x = .ref a ∧ IsD H1 a ∧ ty σ H1 fun y H2 => tx σ H2 fun z H3 => ∃ o, DGet H3 a y o ∧ Q (o.getD z) H3
def tDPop1 (td ty : TE) : TE := fun σ H Q => td σ H fun x H1 => ∃ a, x = .ref a ∧ IsD H1 a ∧ ty σ H1 fun y H2 => ∃ kvs k v, H2 a = some (.dK kvs) ∧ y = kV k ∧ valV kvs k = some v ∧ Q v (upd H2 a (.dK (dropK kvs k)))
section
variable {X : Cx} {o e f : Expr} {apos cpos : Pos} {td ty tx : TE}
theorem pe_dget2 (hu : X.A.units + 1 < cLine) (ho : PE X o td) (he : PE X e ty) (hf : PE X f tx) (m : M2 X o "get" apos e f cpos) : PE X (.Call (.Attribute o "get" apos) [e, f] [] cpos) (tDGet2 td ty tx) := by
  intro pins s σ H Q I h
  refine wpAny_Call_method m.base m.few m.line PySem.F.plainAttrs_dict PySem.F.slot_dict_get PySem.F.type_dict_get (thn (ho pins s σ H _ I h) fun u s1 ⟨x, H1, I1, rx, a, ex, d, q1⟩ => ?_)
  subst ex
  obtain rfl : u = Value.ref a := rx
  obtain ⟨t1, t2, _⟩ := isD_at I1 d
  refine ⟨t1, t2, ?_⟩
  rw [m.trees]
  refine Calls.callWith_builtin rfl (Calls.evalArgs_plain (Calls.spliced_cons (thn (he pins s1 σ H1 _ I1 q1) fun iv s2 ⟨y, H2, I2, ry, q2⟩ =>
    Calls.spliced_cons (thn (hf pins s2 σ H2 _ I2 q2) fun fv s3 ⟨z, H3, I3, rz, ov, g, q3⟩ => Calls.spliced_nil ?_))))
  exact d_get2 hu I3 g ry rz fun w' s4 I4 rw' => ⟨_, H3, I4, rw', q3⟩
theorem pe_dpop1 (ho : PE X o td) (he : PE X e ty) (m : M1 X o "pop" apos e cpos) : PE X (.Call (.Attribute o "pop" apos) [e] [] cpos) (tDPop1 td ty) := by
  intro pins s σ H Q I h
  refine wpAny_Call_method m.base m.few m.line PySem.F.plainAttrs_dict PySem.F.slot_dict_pop PySem.F.type_dict_pop (thn (ho pins s σ H _ I h) fun u s1 ⟨x, H1, I1, rx, a, ex, d, q1⟩ => ?_)
  subst ex
  obtain rfl : u = Value.ref a := rx
  obtain ⟨t1, t2, _⟩ := isD_at I1 d
  refine ⟨t1, t2, ?_⟩
  rw [m.trees]
  refine Calls.callWith_builtin rfl (Calls.evalArgs_plain (Calls.spliced_cons (thn (he pins s1 σ H1 _ I1 q1) fun iv s2 ⟨y, H2, I2, ry, kvs, k, v, ea, ey, l, q2⟩ => Calls.spliced_nil ?_)))
  subst ey
  exact d_pop I2 ea ry l (.inl rfl) fun w' s3 I3 rw' => ⟨v, _, I3, rw', q2⟩
end

section
variable {X : Cx} {pins : List (Addr × Obj)} {σ : St} {H : Hp} {s : Shared} {a : Addr} {kvs : List (Key × V)} {A : Around} {E : Value → Shared → Prop}
end


section
variable {X : Cx} {pins : List (Addr × Obj)} {σ : St} {H : Hp} {s : Shared} {a : Addr} {y : V} {u : Value} {A : Around} {E : Value → Shared → Prop}
end
end L2


set_option Elab.async false
set_option linter.all false
set_option maxRecDepth 100000

namespace PySem
open Builtin
end PySem
namespace L2
open PySem PySem.Spec PyProof.Rows
section
variable {X : Cx} {K : PySem.W.Frag}
theorem foldl_one (v : Value) : ∀ (m : Nat) (a : List Value), List.foldl (fun x1 x2 => x1 ++ x2) a.toArray (List.replicate m #[v]) = (a ++ List.replicate m v).toArray
  | 0, a => by simp
  | m + 1, a => by
    rw [List.replicate_succ, List.foldl_cons, show a.toArray ++ #[v] = (a ++ [v]).toArray by simp, foldl_one v m (a ++ [v]), List.replicate_succ, List.append_assoc]; rfl
theorem vals_rep {v : V} {u : Value} (r : RelV v u) : ∀ m : Nat, Vals (List.replicate m v) (List.replicate m u)
  | 0 => .nil
  | m + 1 => .cons r (vals_rep r m)
end
end L2

set_option Elab.async false
set_option linter.all false
set_option maxRecDepth 100000

namespace L2
open PySem PySem.Spec PyProof.Rows
section
variable {prog : Program} {w : World} {A : Around} {R : Result → Shared → Prop} {s : Shared}
theorem codeAny_compLoop_ownIf {elt target iter c : Expr} {scope : Scope} {pos : Pos} {it acc : Value} {env : Env} (I : Nat → Shared → Prop)
    (turn : ∀ n s, I n s → wpAny (model prog w) A (pyNext it) (fun r s1 => match r with
      | none => R (.ok .next) s1
      | some v => wpAny (model prog w) A (letOwnedTupleGo target it v) (fun _ s0 => wpAny (model prog w) A (assign target env v) (fun _ s2 => wpAny (model prog w) A (isTrue c env (eval c env)) (fun ok s3 =>
          if ok = true then wpAny (model prog w) A (eval elt env) (fun x s4 =>
            wpAny (model prog w) A (call (.builtin "list.append") [acc, x]) (fun _ s5 => ∃ m, m < n ∧ I m s5) (notedBy (model prog w) A env fun e s' => R (.error e) s') s4) (notedBy (model prog w) A env fun e s' => R (.error e) s') s3
          else ∃ m, m < n ∧ I m s3)
          (notedBy (model prog w) A env fun e s' => R (.error e) s') s2) (notedBy (model prog w) A env fun e s' => R (.error e) s') s0) (notedBy (model prog w) A env fun e s' => R (.error e) s') s1) (notedBy (model prog w) A env fun e s' => R (.error e) s') s)
    (n : Nat) (h : I n s) :
    codeAny (model prog w) A (.compLoop (.ListComp elt [⟨target, iter, [c], 0⟩] scope pos) 0 it acc env) R s := by
  refine codeAny_loop rfl I (fun n s hI => ?_) n h
  show wpAny _ _ ((compTurn (.ListComp elt [⟨target, iter, [c], 0⟩] scope pos) 0 it acc env).onRaise (fun x => do noteFrame x env; theTreesLotGoes x)) _ _ s
  refine wpAny_noted ?_
  rw [compTurn_list]
  refine wpAny_bind (wpAny_standAt (wpAny_bind (wpAny_mono (turn n s hI) (fun r s1 h1 => ?_) fun _ _ h' => h')))
  cases r with
  | none => exact wpAny_pure h1
  | some v =>
    refine wpAny_bind (wpAny_mono h1 (fun _ s0 h0 => ?_) fun _ _ h' => h')
    refine wpAny_bind (wpAny_mono h0 (fun _ s2 h2 => wpAny_bind (wpAny_mono (wpAny_tests_one h2) (fun ok s3 h3 => ?_) fun _ _ h' => h')) fun _ _ h' => h')
    cases ok with
    | false => exact wpAny_pure ⟨rfl, h3⟩
    | true =>
      exact wpAny_bind (wpAny_bind (wpAny_mono h3 (fun x s4 h4 => wpAny_bind (wpAny_mono h4 (fun _ s5 h5 => wpAny_pure (wpAny_pure ⟨rfl, h5⟩)) fun _ _ h' => h')) fun _ _ h' => h'))
end

def compWalkIf (J : It) (H1 : Hp) (σ0 : St) (g : TG) (tt : TT) (te : TE) (Q : Addr → Hp → Prop) : Prop :=
  ∀ acc, H1 acc = none → ∃ W : Nat → Nat → St → Hp → Prop, (∃ m, W 0 m σ0 (upd H1 acc (.lst []))) ∧ ∀ i m σ' H', W i m σ' H' →
    (J.stop i H' ∧ Q acc H') ∨ (J.go i H' ∧ ∀ x H2, J.yld i H' x H2 → g x σ' H2 fun σ2 H3 => tt σ2 H3 fun b H3' => if b = true then te σ2 H3' fun y H4 => ∃ ys, H4 acc = some (.lst ys) ∧ ys.length < sizeLine ∧ ∃ m', m' < m ∧ W (i + 1) m' σ2 (upd H4 acc (.lst (ys ++ [y])))
      else ∃ m', m' < m ∧ W (i + 1) m' σ2 H3')
def tCompIf (wi : TI) (own : Nat) (fv : List Nat) (g : TG) (tt : TT) (te : TE) : TE := fun σ H Q => wi σ H fun J H1 => compWalkIf J H1 (blkStart own fv σ) g tt te fun acc H' => Q (.ref acc) H'

section
variable {X : Cx} {elt tg iter c : Expr} {scope : Scope} {N' : List Str} {own : Nat} {fv : List Nat} {cl : List (Str × Addr)} {pins : List (Addr × Obj)} {σ : St} {H2 : Hp} {s2 : Shared} {fp : List Addr} {it : Addr} {tn : Nat → Heap → Prop} {J : It} {pos : Pos} {g : TG} {tt : TT} {te : TE} {Q : Addr → Hp → Prop}
theorem comp_blockIf (hc : X.calm = true) (sc : BlkScope X scope N' own fv) (I2 : Inv X pins σ H2 s2) (T : Turn X.prog X.w X.K tg J fp it tn) (st2 : tn 0 s2.heap) (f2 : ∀ b ∈ fp, FpOk X pins H2 b)
    (c1 : ∀ n c, cl.lookup n = some c → X.env.cells.lookup n = some c) (c2 : ∀ y ∈ scope.names, y.2 = .free → ∃ c, cl.lookup y.1 = some c)
    (hg : ∀ cl s3 H3 ex, PG (X.blk scope N' cl s3 H3 ex) tg g) (ht : ∀ cl s3 H3 ex, PT (X.blk scope N' cl s3 H3 ex) c tt) (he : ∀ cl s3 H3 ex, PE (X.blk scope N' cl s3 H3 ex) elt te)
    (hq : compWalkIf J H2 (blkStart own fv σ) g tt te Q) {RR : Value → Addr → Result → Shared → Prop}
    (hRR : ∀ acc C s' H' m, Inv X pins σ H' s' → Q acc H' → s'.heap.Ns C m → H' C = none → C ≠ X.env.locals → X.s₀.heap.objs.size ≤ C → (∀ x c, X.env.cells.lookup x = some c → c ≠ C) → (∀ p ∈ X.pn ++ pins, p.1 ≠ C) → RR (.ref acc) C (.ok .next) s') :
    wpAny (model X.prog X.w) X.A (newList []) (fun acc s3 => wpAny (model X.prog X.w) X.A (newFunctionEnv scope X.env.globals cl [] X.env.qual none .none (some X.env)) (fun cenv s4 =>
      codeAny (model X.prog X.w) X.A (.compStart (.ListComp elt [⟨tg, iter, [c], 0⟩] scope pos) 0 (.ref it) acc { cenv with scope := relabel scope X.env }) (RR acc cenv.locals) s4) X.xe s3) X.xe s2 := by
  refine wpAny_newObj_type (wpAny_newFunctionEnv sc.nocell (by intro y hy; simp at hy) (fun h1 hns hsb => ?_) sc.kind)
  dsimp only at hns hsb ⊢
  have I3 : Inv X pins σ (upd H2 s2.heap.objs.size (.lst [])) { s2 with heap := s2.heap.push { cls := .type "list", dict := none, data := .seq ([] : List Value).toArray } } := I2.lnew (t' := s2.toks) .nil (Nat.zero_le _)
  have hacc : H2 s2.heap.objs.size = none := I2.fresh
  obtain ⟨W, ⟨m0, w0⟩, turn⟩ := hq s2.heap.objs.size hacc
  have flt : ∀ b ∈ fp, b < s2.heap.objs.size := fun b hb => by
    obtain ⟨o, e, _⟩ := T.obj _ _ st2 b hb
    exact Heap.lt_size e
  have f3 : ∀ b ∈ fp, FpOk X pins (upd H2 s2.heap.objs.size (.lst [])) b := fun b hb => ⟨by rw [upd_ne (Nat.ne_of_lt (flt b hb))]; exact (f2 b hb).1, (f2 b hb).2⟩
  have st3 : tn 0 (s2.heap.push { cls := .type "list", dict := none, data := .seq ([] : List Value).toArray }) := T.keep _ _ _ st2 fun b _ o e => Heap.get?_push_of_some _ e
  generalize hs3 : ({ s2 with heap := s2.heap.push { cls := .type "list", dict := none, data := .seq ([] : List Value).toArray } } : Shared) = s3 at I3 
  have eh : s2.heap.push { cls := .type "list", dict := none, data := .seq ([] : List Value).toArray } = s3.heap := by rw [← hs3]
  rw [eh] at hns hsb st3
  have old : ∀ b o, s3.heap.get? b = some o → h1.get? b = some o := fun b o e => hsb.extBut b o (Nat.ne_of_lt (Heap.lt_size e)) (Heap.get?_push_of_some _ e)
  have fo3 : ∀ b ∈ fp, b < s3.heap.objs.size := fun b hb => by
    obtain ⟨o, e, _⟩ := T.obj _ _ st3 b hb
    exact Heap.lt_size e
  have est : ({ s2 with heap := h1, toks := s2.toks + ([] : List (Str × Value)).length } : Shared) = { s3 with heap := h1, toks := s3.toks } := by rw [← hs3]; rfl
  have I4 : Inv (X.blk scope N' cl s3 (upd H2 s2.heap.objs.size (.lst [])) fp) [] (blkStart own fv σ) (upd H2 s2.heap.objs.size (.lst [])) { s3 with heap := h1, toks := s3.toks } :=
    blk_inv sc I3 f3 fo3 c1 c2 hns old
  have st4 : tn 0 h1 := T.keep _ _ _ st3 fun b _ o e => old b o e
  have stat : ∀ {H' : Hp}, (∀ b ∈ fp, H' b = none) → ∀ b ∈ fp, FpOk (X.blk scope N' cl s3 (upd H2 s2.heap.objs.size (.lst [])) fp) [] H' b := fun hn b hb =>
    ⟨hn b hb, Nat.ne_of_lt (fo3 b hb), fun hf => by
      rcases List.mem_cons.mp (I3.stkSub b hf) with h | h
      · exact (f3 b hb).2.1 h
      · exact (f3 b hb).2.2.1 h, .inl hb, fun x c hc' => (f3 b hb).2.2.2.2.1 x c (c1 x c hc'), fun p hp => nomatch hp⟩
  have loop : ∀ s4 : Shared, s4 = { s3 with heap := h1, toks := s3.toks } →
      codeAny (model X.prog X.w) X.A (.compLoop (.ListComp elt [⟨tg, iter, [c], 0⟩] scope pos) 0 (.ref it) (.ref s2.heap.objs.size) (compEnvC scope cl s3.heap.objs.size X.env)) (RR (.ref s2.heap.objs.size) s3.heap.objs.size) s4 := by
    rintro s4 rfl
    refine codeAny_compLoop_ownIf (fun n s' => ∃ i σ' H', Inv (X.blk scope N' cl s3 (upd H2 s2.heap.objs.size (.lst [])) fp) [] σ' H' s' ∧ tn i s'.heap ∧ (∀ b ∈ fp, H' b = none) ∧ W i n σ' H') ?_ m0
      ⟨0, _, _, I4, st4, fun b hb => (f3 b hb).1, w0⟩
    rintro n s5 ⟨i, σ5, H5, I5, st5, fr5, w5⟩
    rcases turn i n σ5 H5 w5 with ⟨stop, q⟩ | ⟨go, step⟩
    · refine thn (T.done (X.blk scope N' cl s3 (upd H2 s2.heap.objs.size (.lst [])) fp) rfl rfl rfl hc i [] s5 σ5 H5 _ I5 (stat fr5) st5 stop) fun r s6 ⟨hr, I6⟩ => ?_
      subst hr
      obtain ⟨m6, hn6, _⟩ := I6.loc
      refine hRR _ _ s6 H5 m6 (I3.call' (ch := fp) I6.os I6.base I6.hok I6.bare fun b hb => ⟨(f3 b hb).2.2.2.1, (f3 b hb).2.1, (f3 b hb).2.2.2.2.1, (f3 b hb).2.2.2.2.2⟩) q hn6 I6.free (Nat.ne_of_gt I3.lt) I3.sz (fun x c hc' => ?_) fun p hp => ?_
      · obtain ⟨v, o, ho, _⟩ := I3.cell x c hc'
        exact Nat.ne_of_lt (Heap.lt_size ho)
      · exact Nat.ne_of_lt (Heap.lt_size (I3.pin p hp).1)
    · refine thn (T.item (X.blk scope N' cl s3 (upd H2 s2.heap.objs.size (.lst [])) fp) rfl rfl rfl hc i [] s5 σ5 H5 _ I5 (stat fr5) st5 go) fun r s6 ⟨u, hr, h6⟩ => ?_
      subst hr
      refine thn h6 fun _ s7 ⟨x, H7, I7, r7, y7, st7, fr7⟩ => ?_
      have I7' := I7.pinned (stat fr7) (T.obj _ _ st7)
      refine wpAny_mono (hg cl s3 _ fp _ s7 σ5 H7 x u _ I7' r7 (step x H7 y7)) (fun _ s8 ⟨σ8, H8, I8, q8⟩ => ?_) fun _ _ z => z.elim
      refine wpAny_mono (ht cl s3 _ fp _ s8 σ8 H8 _ I8 q8) (fun ok s8' ⟨H8', I8', q8'⟩ => ?_) fun _ _ z => z.elim
      have gone : ∀ {H10 : Hp} {s10 : Shared}, Inv (X.blk scope N' cl s3 (upd H2 s2.heap.objs.size (.lst [])) fp) ([] ++ pinsAt fp s7.heap) σ8 H10 s10 → ∀ m10, m10 < n → W (i + 1) m10 σ8 H10 →
          ∃ m, m < n ∧ ∃ i σ' H', Inv (X.blk scope N' cl s3 (upd H2 s2.heap.objs.size (.lst [])) fp) [] σ' H' s10 ∧ tn i s10.heap ∧ (∀ b ∈ fp, H' b = none) ∧ W i m σ' H' := fun {H10 s10} I10 m10 hm10 w10 => by
        refine ⟨m10, hm10, i + 1, σ8, H10, I10.unpinned (pl := pinsAt fp s7.heap), T.keep _ _ _ st7 fun b hb o e => (I10.pin (b, o) (List.mem_append_right _ (List.mem_append_right _ (mem_pinsAt hb e)))).1, fun b hb => ?_, w10⟩
        obtain ⟨o, e, d⟩ := T.obj _ _ st7 b hb
        exact (I10.pin (b, o) (List.mem_append_right _ (List.mem_append_right _ (mem_pinsAt hb e)))).2.1
      cases ok with
      | false =>
        obtain ⟨m', hm', w9⟩ := Eq.mp (if_neg Bool.false_ne_true) q8'
        exact Eq.mpr (if_neg Bool.false_ne_true) (gone I8' m' hm' w9)
      | true =>
        refine Eq.mpr (if_pos rfl) ?_
        refine wpAny_mono (he cl s3 _ fp _ s8' σ8 H8' _ I8' (Eq.mp (if_pos rfl) q8')) (fun v s9 ⟨y, H9, I9, r9, ys, e9, z9, m', hm', w9⟩ => ?_) fun _ _ z => z.elim
        exact wpAny_mono (mt_append (X := X.blk scope N' cl s3 (upd H2 s2.heap.objs.size (.lst [])) fp) _ s9 σ8 H9 (.ref s2.heap.objs.size) [y] (.ref s2.heap.objs.size) [v] (fun _ H' => ∃ m', m' < n ∧ W (i + 1) m' σ8 H') I9 rfl (.cons r9 .nil) ⟨_, ys, y, rfl, rfl, e9, z9, m', hm', w9⟩) (fun _ s10 ⟨_, H10, I10, _, m10, hm10, w10⟩ => gone I10 m10 hm10 w10) fun _ _ z => z.elim
  rw [est]
  rw [eh]
  exact codeAny_compStart_list (loop _ rfl) (T.self _ 0 _ _ _ st4 (loop _ rfl))

theorem pe_compIf {wi : TI} (hc : X.calm = true) (sc : BlkScope X scope N' own fv) (hi : PI X tg iter wi)
    (hg : ∀ cl s3 H3 ex, PG (X.blk scope N' cl s3 H3 ex) tg g) (ht : ∀ cl s3 H3 ex, PT (X.blk scope N' cl s3 H3 ex) c tt) (he : ∀ cl s3 H3 ex, PE (X.blk scope N' cl s3 H3 ex) elt te)
    (hs : ∀ x, foldedSetIterable iter X.env x = pure x := by intro _; rfl) : PE X (.ListComp elt [⟨tg, iter, [c], 0⟩] scope pos) (tCompIf wi own fv g tt te) := by
  intro pins s σ H Q I h
  obtain ⟨cl, hcl, c1, c2⟩ := closure_ex (scope := scope) (env := X.env) fun y hy hf => I.ok.has _ (sc.free y hy hf)
  rw [eval_ListComp]
  refine wpAny_comprehension_free (use := none) rfl hs hcl sc.kind sc.names (thn (hi pins s σ H _ I h) fun v s1 h1 => thn h1 fun itv s2 h2 => ?_)
  obtain ⟨it, fp, tn, J, H2, e, I2, T, st2, f2, hq⟩ := h2
  subst e
  refine comp_blockIf (RR := fun acc C => compPost (model X.prog X.w) X.A X.xe none (EP X pins σ Q) acc C) hc sc I2 T st2 f2 c1 c2 hg ht he hq ?_
  intro acc C s' H' m I' q hn hC hL h0 hcc hp
  exact ⟨m, hn, fun h' sb => ⟨.ref acc, H', I'.turned (t' := s'.toks) (fun b o hb e => sb.extBut b o hb e) hC hL (.inr h0) hcc hp, rfl, q⟩⟩
end
end L2
namespace L2
open PySem PySem.Spec PyProof.Rows
theorem compIf_rng {lo : Int} {n : Nat} {H1 : Hp} {fvals : St} {tt : TT} {te : TE} {Q : Addr → Hp → Prop} (Pv : Addr → Nat → Hp → Prop)
    (h0 : ∀ acc, H1 acc = none → Pv acc 0 (upd H1 acc (.lst [])))
    (step : ∀ (acc : Addr) (i : Nat) (H : Hp) (m : Nat) (W : Nat → Hp → Prop), i < n → Pv acc i H → (∀ H2, Pv acc (i + 1) H2 → ∃ m', m' < m ∧ W m' H2) →
      tt (some (.int (lo + i)) :: fvals) H fun b H' => if b = true then te (some (.int (lo + i)) :: fvals) H' fun y H4 => ∃ ys, H4 acc = some (.lst ys) ∧ ys.length < sizeLine ∧ ∃ m', m' < m ∧ W m' (upd H4 acc (.lst (ys ++ [y]))) else ∃ m', m' < m ∧ W m' H')
    (q : ∀ acc H', H1 acc = none → Pv acc n H' → Q acc H') : compWalkIf (Itr lo n) H1 (none :: fvals) (gName 0) tt te Q := by
  intro acc hacc
  refine ⟨fun i m σ' H' => m = n - i ∧ i ≤ n ∧ (∃ o, σ' = o :: fvals) ∧ Pv acc i H', ⟨_, rfl, Nat.zero_le _, ⟨none, rfl⟩, h0 acc hacc⟩, ?_⟩
  rintro i m σ' H' ⟨rfl, hi, ⟨o, rfl⟩, pv⟩
  by_cases hlt : i < n
  · refine .inr ⟨hlt, ?_⟩
    rintro x H2 ⟨rfl, rfl⟩
    exact step acc i _ (n - i) (fun m' H'' => m' = n - (i + 1) ∧ i + 1 ≤ n ∧ (∃ p, some (V.int (lo + i)) :: fvals = p :: fvals) ∧ Pv acc (i + 1) H'') hlt pv fun H3 e3 => ⟨n - (i + 1), by omega, rfl, hlt, ⟨_, rfl⟩, e3⟩
  · have e : i = n := by omega
    subst e
    exact .inl ⟨Nat.le_refl _, q acc H' hacc pv⟩
end L2



set_option Elab.async false
set_option linter.all false
set_option maxRecDepth 100000

namespace L2
open PySem PySem.Spec PyProof.Rows
section
variable {X : Cx} {tg : Expr}
end
section
variable {X : Cx}
theorem vals_strs : ∀ {ss : List Str} {us : List Value}, Vals (ss.map V.str) us → ∃ l : List (Str × Tok), us = strValues l ∧ l.map (·.1) = ss
  | [], _, .nil => ⟨[], rfl, rfl⟩
  | z :: r, _, .cons ⟨t, e⟩ rr => by
    obtain ⟨l, h1, h2⟩ := vals_strs rr
    subst e
    exact ⟨(z, t) :: l, by rw [h1]; rfl, by rw [← h2]; rfl⟩
theorem mt_join : MtM X "str.join" (fun x vs H Q => ∃ (sep : Str) (a : Addr) (ss : List Str), x = .str sep ∧ vs = [.ref a] ∧ SqL X.K H a (ss.map V.str) ∧ Builtin.Str.tooLong (ss.toArray.foldl (· + ·.length + sep.length) 0) = false ∧ (Builtin.Str.glued sep ss).length ≤ sizeLine ∧ Q (.str (Builtin.Str.glued sep ss)) H) := by
  intro pins s σ H x vs v us Q I rx rv h
  obtain ⟨sep, a, ss, rfl, rfl, hq, hl, hz, q⟩ := h
  obtain ⟨t, rfl⟩ := rx
  obtain ⟨u, rfl, ru⟩ := rv.one
  cases ru
  obtain ⟨its, r, pl, _⟩ := I.list hq
  obtain ⟨l, e1, e2⟩ := vals_strs r
  subst e1
  have hl' : Builtin.Str.tooLong ((l.map (·.1)).toArray.foldl (· + ·.length + sep.length) 0) = false := by rw [e2]; exact hl
  refine call_meets F.slot_str_join (typeIs_str s sep t) F.entry_str_join (F.args_str_join_2 _ _) (meets_str_join_list sep t a l hl') ⟨pl.isList, ?_⟩
  rw [← e2] at hz q
  have fin : ∀ (u : Tok) (tk : Nat), EP X pins σ Q (.str (Builtin.Str.glued sep (l.map (·.1))) u) { s with toks := tk } := fun u tk => ⟨.str _, H, I.tok _, ⟨_, rfl⟩, q⟩
  match l, hz, fin with
  | [], hz, fin => exact ⟨hz, fin _ _⟩
  | [p], _, fin => exact fin p.2 s.toks
  | p :: p' :: r, hz, fin => exact ⟨hz, fin _ _⟩
end
end L2







set_option Elab.async false
set_option linter.all false
set_option maxRecDepth 100000
namespace L2
open PySem PySem.Spec PyProof.Rows
def notStar : Expr → Bool
  | .Starred _ _ => false
  | _ => true
theorem star_of {e : Expr} {es : List Expr} {env : Env} (h : notStar e = true) : starEach (e :: es) env = (false, eval e env) :: starEach es env := by
  cases e <;> first | rfl | cases h
theorem pa_consN {X : Cx} {e : Expr} {es : List Expr} {te : TE} {t : TA} (ha : PE X e te) (hr : PA X es t) (hs : notStar e = true := by rfl) : PA X (e :: es) (tCons te t) := pa_cons ha hr (star_of hs)
end L2

set_option Elab.async false
set_option linter.all false
set_option maxRecDepth 100000
namespace L2
open PySem PySem.Spec PyProof.Rows
abbrev bmV : List Value := [.type "ValueError", .type "Exception", .type "BaseException", .type "object"]
def XcAt (h : Heap) (C : Addr) (bm : List Value) : Prop := ∃ N nm q bs hdct sn sub ab col dd k0 k1 k2 k3 k5 mN, h.get? C = some (excClassObj nm q C N bs bm hdct sn sub ab col dd k0 k1 k2 k3 k5 "ValueError.__new__") ∧ h.Ns N mN ∧ mN "__init__" = none ∧ OwnTail h bmV bm
def xcMro (K : PySem.W.Frag) (C : Addr) : List Value := match K.lookup C with
  | some ⟨_, _, .cls cd, _⟩ => cd.mro.drop 1
  | _ => []
theorem xc_at {K : PySem.W.Frag} {h : Heap} {C : Addr} (X : K.In h) (ok : PySem.W.excIn K C bmV "ValueError.__new__" = true) : XcAt h C (xcMro K C) := by
  revert ok
  unfold PySem.W.excIn xcMro
  cases ek : K.lookup C with
  | none => intro ok; cases ok
  | some ob =>
    obtain ⟨c0, dd, dt, slots⟩ := ob
    cases dt with
    | cls cd =>
      obtain ⟨cnm, cbs, cmro, cns, cqn, chd, csn, csub, cab, ccol, cdel⟩ := cd
      intro ok
      split at ok
      · rename_i dd' cd' sl' heq
        cases heq
        split at ok
        · rename_i C1 tl a0 a1 a2 a3 nid a5 em es
          dsimp only at em ok
          simp only [Bool.and_eq_true, beq_iff_eq, Bool.not_eq_true'] at ok
          obtain ⟨⟨⟨⟨⟨r1, r2⟩, r3⟩, r4⟩, r5⟩, r6⟩ := ok
          subst r1 r2 r3 em
          have er : slots = #[a0, a1, a2, a3, some (.builtin "ValueError.__new__"), a5] := by
            cases slots with
            | mk ls => exact congrArg Array.mk es
          subst er
          exact ⟨cns, cnm, cqn, cbs, chd, csn, csub, cab, ccol, dd, a0, a1, a2, a3, a5, _, X _ _ ek, .of_isNs (PySem.W.isNs_of_in X r5), PySem.W.nsMap_none_of_in X r5 r6, PySem.W.tail_of_in X r4⟩
        · cases ok
      · cases ok
    | _ =>
      intro ok
      exfalso
      split at ok
      · rename_i heq; cases heq
      · cases ok
def CX1 (P : Program) (w : World) : CXT := fun outer H s E e s' => ∃ (ea : Addr) (cls a0 : Value) (B : Heap) (H' : Hp), e = .ref ea ∧ s'.os = s.os ∧ AllBare s'.gens ∧ HOk P w H' B ∧ Heap.FlyingW B outer ea cls a0 s'.heap ∧
  Un (frs outer) [] H H' s.heap s'.heap ∧ (∀ b o, s.heap.get? b = some o → b ∉ frs outer → (∃ o', B.get? b = some o') ∧ (H b = none → B.get? b = some o)) ∧ E cls none H'
def RaisesTo (X : Cx) (E : XK) : Prop := ∀ (pins : List (Addr × Obj)) (σ : St) (H : Hp) (s : Shared) (cls : Value) (e : Addr) (h' : Heap), Inv X pins σ H s → Heap.MadeExcOf s.heap h' e cls [] → E cls none H → X.xe (.ref e) { s with heap := h' }
theorem frs_in {l : List Env} : ∀ env ∈ l, ∀ a, env.frame = some a → a ∈ frs l := fun env he a hf => List.mem_filterMap.mpr ⟨env, he, hf⟩
theorem un_fly {fs : List Addr} {H H' : Hp} {h h1 h2 B : Heap} (u : Un fs [] H H' h h1) (cl : ∀ b o, h.get? b = some o → b ∉ fs → (∃ o', B.get? b = some o') ∧ (H b = none → B.get? b = some o)) (hB : ∀ b o, B.get? b = some o → h2.get? b = some o) (us : h1.UpToSlots h2)
    (hf : ∀ b ∈ fs, H b = none ∧ ∀ o, h1.get? b = some o → ∀ vs, o.data ≠ .fields vs) : Un fs [] H H' h h2 where
  keep := fun b o e n hb _ => hB _ _ ((cl b o e hb).2 n)
  slot := fun b o e n hb hx => by
    obtain ⟨sl, e1⟩ := u.slot b o e n hb hx
    obtain ⟨sl2, e2⟩ := us b _ e1 ((hf b hb).2 _ e1)
    exact ⟨sl2, e2⟩
  free := u.free
  there := fun b o e hx => by
    by_cases hb : b ∈ fs
    · obtain ⟨sl, e1⟩ := u.slot b o e (hf b hb).1 hb hx
      obtain ⟨sl2, e2⟩ := us b _ e1 ((hf b hb).2 _ e1)
      exact ⟨_, e2⟩
    · obtain ⟨o', e1⟩ := (cl b o e hb).1
      exact ⟨o', hB _ _ e1⟩
  tups := u.tups
  frzs := u.frzs
  tbls := u.tbls
section
variable {P : Program} {w : World} {K : PySem.W.Frag} {mg : Str → Option Value} {base : Heap} {N : List Str} {qual : Str} {scope : Scope} {f : Addr} {cd : Value} {A : Around} {outer : List Env} {s0 : Shared} {H0 : Hp} {E : XK}
theorem own_above {pins : List (Addr × Obj)} {σ : St} {H : Hp} {s : Shared} (I : Inv (cxOf (CX1 P w) P w K mg base N qual scope f cd A outer s0 H0 E) pins σ H s) {b : Addr} {o : Obj} (e : s0.heap.get? b = some o) (hb : b ∉ frs outer) : b ∉ frs (envOfC qual scope s0.heap.objs.size f cd :: outer) := fun z => by
  rcases List.mem_cons.mp (I.stkSub b z) with h | h
  · have h1 : b = s0.heap.objs.size := h
    have h2 := Heap.lt_size e
    rw [h1] at h2
    exact absurd h2 (Nat.lt_irrefl _)
  · exact hb h
theorem raises1 : RaisesTo (cxOf (CX1 P w) P w K mg base N qual scope f cd A outer s0 H0 E) E := by
  intro pins σ H s cls e h' I hx q
  have hst := I.stack
  have fly := fun b (hb : b ∈ frs (envOfC qual scope s0.heap.objs.size f cd :: outer)) => hst.mem hb
  have hB : ∀ b o, s.heap.get? b = some o → b ∉ frs (envOfC qual scope s0.heap.objs.size f cd :: outer) → (PySem.W.hideAll s.heap (frs (envOfC qual scope s0.heap.objs.size f cd :: outer))).get? b = some o := fun b o e nb => PySem.W.hideAll_get _ e nb
  refine wpAny_leaves_madeW (base := PySem.W.hideAll s.heap (frs (envOfC qual scope s0.heap.objs.size f cd :: outer))) (L := s0.heap.objs.size) I.ok.frames rfl (fun b o q => PySem.W.of_hideAll _ q) (PySem.W.funFrames_hide hst frs_in) hx fun h2 t x1 x2 x3 x4 => ?_
  have us : s.heap.UpToSlots h2 := (Heap.UpToSlots.of_keeps hx.keeps).trans x4
  have fr : ∀ b ∈ frs outer, H0 b = none := fun b hb => I.ok.frf b hb
  have cl : ∀ b o, s0.heap.get? b = some o → b ∉ frs outer → (∃ o', (PySem.W.hideAll s.heap (frs (envOfC qual scope s0.heap.objs.size f cd :: outer))).get? b = some o') ∧ (H0 b = none → (PySem.W.hideAll s.heap (frs (envOfC qual scope s0.heap.objs.size f cd :: outer))).get? b = some o) := fun b o e hb => by
    have nb := own_above I e hb
    obtain ⟨o', e1⟩ := I.base.there b o e (fun z => nomatch z)
    exact ⟨⟨o', hB _ _ e1 nb⟩, fun n => hB _ _ (I.base.keep b o e n hb (fun z => nomatch z)) nb⟩
  refine ⟨e, cls, .ref t, _, H, rfl, I.os, I.bare, fun a o ea => (I.hok a o ea).stay (fun b u hb q => hB b u q fun z => ?_) (fun _ q => q) fun _ _ q => q, x1, un_fly (h1 := s.heap) I.base cl x1.1 us fun b hb => ⟨fr b hb, fun o eo => ?_⟩, cl, q⟩
  · have hn := I.stkFree b z
    rcases hb with r | r
    · rw [r, ea] at hn; cases hn
    · rw [hn] at r; cases r
  · obtain ⟨_, o', e1, e2⟩ := fly b (List.mem_cons_of_mem _ hb)
    rw [e1] at eo; cases eo
    exact e2
theorem pass1 : Passes (CX1 P w) (cxOf (CX1 P w) P w K mg base N qual scope f cd A outer s0 H0 E) E := by
  rintro pins σ H s e s' I ⟨ea, cls, a0, B, H', rfl, os, bare, hok, fly, un, cl, q⟩
  refine wpAny_leaves_onW (L := s0.heap.objs.size) I.ok.frames rfl fly fun h2 f2 us => ?_
  have cl2 : ∀ b o, s0.heap.get? b = some o → b ∉ frs outer → (∃ o', B.get? b = some o') ∧ (H0 b = none → B.get? b = some o) := fun b o e hb => by
    have nb := own_above I e hb
    obtain ⟨o', e1⟩ := I.base.there b o e (fun z => nomatch z)
    exact ⟨(cl b o' e1 nb).1, fun n => (cl b o (I.base.keep b o e n hb (fun z => nomatch z)) nb).2 (I.base.free b o e n (fun z => nomatch z))⟩
  have frO : ∀ b ∈ frs outer, b ∈ frs (envOfC qual scope s0.heap.objs.size f cd :: outer) := fun b hb => List.mem_cons_of_mem _ hb
  have unO : Un (frs outer) [] H0 H' s0.heap s'.heap := {
    keep := fun b o e n hb hx => un.keep b o (I.base.keep b o e n hb hx) (I.base.free b o e n hx) (own_above I e hb) hx
    slot := fun b o e n hb hx => by
      obtain ⟨sl, e1⟩ := I.base.slot b o e n hb hx
      obtain ⟨sl2, e2⟩ := un.slot b _ e1 (I.base.free b o e n hx) (frO b hb) hx
      exact ⟨sl2, e2⟩
    free := fun b o e n hx => by
      obtain ⟨o', e1⟩ := I.base.there b o e hx
      exact un.free b o' e1 (I.base.free b o e n hx) hx
    there := fun b o e hx => by
      obtain ⟨o', e1⟩ := I.base.there b o e hx
      exact un.there b o' e1 hx
    tups := fun b xs e => un.tups b xs (I.base.tups b xs e)
    frzs := fun b o u e => un.frzs b o u (I.base.frzs b o u e)
    tbls := fun b p e => by
      obtain ⟨m1, e1⟩ := I.base.tbls b p e
      obtain ⟨m2, e2⟩ := un.tbls b _ e1
      exact ⟨m1 ++ m2, by rw [e2, Array.append_assoc]⟩ }
  refine ⟨ea, cls, a0, B, H', rfl, os.trans I.os, bare, hok, f2, un_fly unO cl2 f2.1 us fun b hb => ⟨I.ok.frf b hb, fun o eo => ?_⟩, cl2, q⟩
  obtain ⟨_, o', e1, e2⟩ := fly.2.2.1.mem (frO b hb)
  rw [e1] at eo; cases eo
  exact e2
end
section
variable {X : Cx} {x : Str} {C : Addr} {E : XK} {np cpos pos : Pos}
theorem ps_raise0 (hc : X.calm = true) (hg : Gl X x) (hm : X.mg x = some (.ref C)) (hC : PySem.W.excIn X.K C bmV "ValueError.__new__" = true) (hx : RaisesTo X E) (hd : (x == ("__debug__" : Str)) = false := by decide) :
    PS X (.Raise (some (.Call (.Name x np) [] [] cpos)) none pos) (fun _ _ H => E (.ref C) none H) := by
  intro pins s σ H D I h
  obtain ⟨N, nm, q, bs, hdct, sn, sub, ab, col, dd, k0, k1, k2, k3, k5, mN, hO, hN, hni, hT⟩ := xc_at I.kIn hC
  refine wpAny_Raise_call_subT (C := C) (nm := nm) (q := q) (N := N) (bs := bs) (bm := xcMro X.K C) (hdct := hdct) (sn := sn) (sub := sub) (ab := ab) (col := col) (dd := dd) (k0 := k0) (k1 := k1) (k2 := k2) (k3 := k3) (k5 := k5)
    PySem.F.excBase_ValueError (mN := mN) (hT.hasType PySem.F.excBase_ValueError.hasBase) (I.ok.hd hc) rfl hni (ld_glob I hg hm ⟨rfl, ?_⟩ hd)
  exact evalArgs_empty ⟨rfl, Nat.zero_le _, hO, hN, hT, fun h' e hm' => hx pins σ H s _ e h' I hm' h⟩
end
end L2

set_option Elab.async false
set_option linter.all false
set_option maxRecDepth 100000
namespace L2
open PySem PySem.Spec PyProof.Rows
def XcOb (h : Heap) (C : Addr) (bm : List Value) : Prop := ∃ N nm q bs hdct sn sub ab col dd k0 k1 k2 k3 k5 newId, h.get? C = some (excClassObj nm q C N bs bm hdct sn sub ab col dd k0 k1 k2 k3 k5 newId)
abbrev XcOk (K : PySem.W.Frag) (C : Addr) : Prop := PySem.W.ktsIn K C "BaseException" = true
theorem xc_ob {K : PySem.W.Frag} {h : Heap} {C : Addr} (X : K.In h) (ok : XcOk K C) : XcOb h C (xcMro K C) ∧ (xcMro K C).contains (.type "BaseException") = true := by
  revert ok
  unfold XcOk PySem.W.ktsIn xcMro
  cases ek : K.lookup C with
  | none => intro ok; cases ok
  | some ob =>
    obtain ⟨c0, dd, dt, slots⟩ := ob
    cases dt with
    | cls cd =>
      obtain ⟨cnm, cbs, cmro, cns, cqn, chd, csn, csub, cab, ccol, cdel⟩ := cd
      intro ok
      split at ok
      · rename_i dd' cd' sl' heq
        cases heq
        split at ok
        · rename_i C1 tl a0 a1 a2 a3 nid a5 em es
          dsimp only at em ok
          simp only [Bool.and_eq_true, beq_iff_eq, Bool.not_eq_true'] at ok
          obtain ⟨⟨⟨r1, r3⟩, r4⟩, r5⟩ := ok
          subst r1 r3 em
          have er : slots = #[a0, a1, a2, a3, some (.builtin nid), a5] := by
            cases slots with
            | mk ls => exact congrArg Array.mk es
          subst er
          exact ⟨⟨cns, cnm, cqn, cbs, chd, csn, csub, cab, ccol, dd, a0, a1, a2, a3, a5, nid, X _ _ ek⟩, r4⟩
        · cases ok
      · cases ok
    | _ =>
      intro ok
      exfalso
      split at ok
      · rename_i heq; cases heq
      · cases ok
theorem exc_match {M : Model} {A : Around} {E : Value → Shared → Prop} {s : Shared} {ea C CT : Addr} {ob : Obj} {bm bmT : List Value} {Q : Bool → Shared → Prop} (xC : XcOb s.heap C bm) (xT : XcOb s.heap CT bmT) (ke : s.heap.get? ea = some ob) (kc : ob.cls = .ref C)
    (kb : bmT.contains (.type "BaseException") = true) (kin : (Value.ref C :: bm).contains (.ref CT) = true) (hq : Q true s) : wpAny M A (excMatches (.ref ea) (.ref CT)) Q E s := by
  obtain ⟨hp, g, d, tk, os⟩ := s
  obtain ⟨N, nm, q, bs, hdct, sn, sub, ab, col, dd, k0, k1, k2, k3, k5, nid, kC⟩ := xC
  obtain ⟨N', nm', q', bs', hdct', sn', sub', ab', col', dd', l0, l1, l2, l3, l5, nid', kT⟩ := xT
  have kb' : (Value.ref CT :: bmT).contains (.type "BaseException") = true := by rw [List.contains_cons, kb, Bool.or_true]
  have kt := tc_notTuple
  unfold excMatches
  repeat (first | (with_reducible refine wpAny_loadPart_at ke ?_; rw [kc]) | with_reducible refine wpAny_loadPart_at kT ?_ | (with_reducible refine wpAny_isSubtype_exc kT ?_; rw [kb']) | (with_reducible refine wpAny_isSubtype_exc kC ?_; rw [kin]) | wp_step)
  exact hq
def XO (cls : Value) (ea : Addr) : HO := .ext fun h => ∃ o, h.get? ea = some o ∧ o.cls = cls ∧ ∃ vs, o.data = .fields vs
theorem xo_ok {P : Program} {w : World} {H : Hp} {h : Heap} {ea : Addr} {cls : Value} {o : Obj} {vs : Array Value} (e : h.get? ea = some o) (c : o.cls = cls) (d : o.data = .fields vs) : ObjOk P w H h ea (XO cls ea) :=
  ⟨⟨o, e, c, vs, d⟩, ⟨o, e⟩, fun h1 h2 ⟨o', e', r⟩ k => ⟨o', k _ e', r⟩⟩
abbrev Cx.mark (X : Cx) (ea : Addr) : Cx := { X with A := X.A.mark (some (.ref ea)), calm := false, xe := fun _ _ => False }
abbrev Cx.held (X : Cx) (pn : List (Addr × Obj)) (xe : Value → Shared → Prop) : Cx := { X with pn := pn, xe := xe }
theorem mark_frames (A : Around) (v : Option Value) : (A.mark v).frames = A.frames := by cases A; rfl
section
variable {X : Cx} {pins : List (Addr × Obj)} {σ : St} {H : Hp} {s : Shared} {ea : Addr} {xe : Value → Shared → Prop}
theorem Inv.mark (I : Inv X pins σ H s) (ea : Addr) : Inv (X.mark ea) pins σ H s :=
  ⟨⟨I.ok.mod, I.ok.kind, I.ok.glob, I.ok.blt, I.ok.above, I.ok.inj, I.ok.has, I.ok.cab, (fun z => by cases z), (mark_frames _ _).trans I.ok.frames, I.ok.stk, I.ok.exf, I.ok.bs, I.ok.bsz, I.ok.noex, I.ok.exfs, I.ok.funs, I.ok.frf⟩, I.os, I.bare, I.base, I.loc, I.cell, I.free, I.freeC, I.pin, I.hok, I.len⟩
theorem Inv.unmark (ok : X.Ok) (I : Inv (X.mark ea) pins σ H s) : Inv X pins σ H s := ⟨ok, I.os, I.bare, I.base, I.loc, I.cell, I.free, I.freeC, I.pin, I.hok, I.len⟩
theorem Inv.held (I : Inv X pins σ H s) : Inv (X.held (X.pn ++ pins) xe) [] σ H s :=
  ⟨⟨I.ok.mod, I.ok.kind, I.ok.glob, I.ok.blt, I.ok.above, I.ok.inj, I.ok.has, I.ok.cab, I.ok.hd, I.ok.frames, I.ok.stk, I.ok.exf, I.ok.bs, I.ok.bsz, I.ok.noex, I.ok.exfs, I.ok.funs, I.ok.frf⟩, I.os, I.bare, I.base, I.loc, I.cell, I.free, I.freeC, fun p hp => I.pin p (by simpa using hp), I.hok, I.len⟩
theorem Inv.unheld {pins' : List (Addr × Obj)} (ok : X.Ok) (I : Inv (X.held (X.pn ++ pins) xe) pins' σ H s) : Inv X pins σ H s :=
  ⟨ok, I.os, I.bare, I.base, I.loc, I.cell, I.free, I.freeC, fun p hp => I.pin p (List.mem_append_left _ hp), I.hok, I.len⟩
end
def goneEnds (i : Nat) (D : Ends) : Ends where
  nx := fun σ H => D.nx (σ.set i none) H
  bk := fun σ H => D.bk (σ.set i none) H
  ct := fun σ H => D.ct (σ.set i none) H
  rt := D.rt
def CaughtBy (K : PySem.W.Frag) (CT : Addr) (cls : Value) : Prop := ∃ C, cls = .ref C ∧ XcOk K C ∧ (Value.ref C :: xcMro K C).contains (.ref CT) = true
def tTryW (K : PySem.W.Frag) (CT : Addr) (i : Nat) (th : TS) (D : Ends) : St → XK := fun σ cls _ H => CaughtBy K CT cls ∧ ∀ ea, H ea = none → th (goneEnds i D) (σ.set i (some (.ref ea))) (upd H ea (XO cls ea))
def tTry (K : PySem.W.Frag) (CT : Addr) (i : Nat) (tb : (St → XK) → TS) (th : TS) : TS := fun D σ H => tb (tTryW K CT i th D) D σ H
def PassesW (X : Cx) (xe : Value → Shared → Prop) (W : St → XK) : Prop := ∀ (pins : List (Addr × Obj)) (σ : St) (H : Hp) (s : Shared) (e : Value) (s' : Shared), Inv X pins σ H s → CX1 X.prog X.w X.stack H s (W σ) e s' → xe e s'
section
variable {X : Cx} {x n : Str} {i : Nat} {CT : Addr} {np hpos pos : Pos} {body suite : List Stmt} {b0 : Stmt} {tb : (St → XK) → TS} {th : TS}
theorem name_gone {pins : List (Addr × Obj)} {σ : St} {H : Hp} {s : Shared} {A : Around} {E : Value → Shared → Prop} {M : Model} {Q : Unit → Shared → Prop} (I : Inv X pins σ H s) (hN : X.N.Nodup) (hi : X.N[i]? = some n) (hl : X.env.kindOf n = some .local)
    (q : ∀ s', Inv X pins (σ.set i none) H s' → Q () s') : wpAny M A (do bindName X.env n .none; unbindBehindTheSuite X.env n hpos) Q E s := by
  obtain ⟨m, hn, hm⟩ := id I.loc
  have hcls : (X.env.scope.kind == .class || (X.env.scope.kind == .module && X.env.locals != X.env.globals)) = false := by rw [I.ok.kind]; rfl
  refine wpAny_nameGoes_keeps hl hn hcls fun h' v hn' sb => q _ ?_
  have k : ∀ b o, b ≠ X.env.locals → s.heap.get? b = some o → h'.get? b = some o := fun b o hb e => sb.extBut b o hb e
  have Lz : ∀ b o, X.s₀.heap.get? b = some o → b ≠ X.env.locals := fun b o e z => by
    have h1 := Heap.lt_size e
    have h2 := I.ok.above
    rw [z] at h1
    exact absurd (Nat.lt_of_lt_of_le h1 h2) (Nat.lt_irrefl _)
  obtain ⟨oL, esL, epL, eL, _⟩ := id hn
  obtain ⟨oL', esL', epL', eL', _⟩ := id hn'
  have hx0 : ∀ b, b ∈ X.ex → b ≠ X.env.locals := fun b hb => (I.ok.exf b hb).1
  refine ⟨I.ok, I.os, I.bare, ?_, ⟨_, hn', fun j y v' h1 h2 h3 => ?_⟩, fun y c e => ?_, I.free, I.freeC, fun p hp => ?_, fun a o e => ?_, by rw [List.length_set]; exact I.len⟩
  · exact {
      keep := fun b o e n hb hx => k b o (Lz b o e) (I.base.keep b o e n hb hx)
      slot := fun b o e n hb hx => by
        obtain ⟨sl, e1⟩ := I.base.slot b o e n hb hx
        exact ⟨sl, k _ _ (Lz b o e) e1⟩
      free := I.base.free
      there := fun b o e hx => by
        obtain ⟨o', e1⟩ := I.base.there b o e hx
        exact ⟨o', k _ _ (Lz b o e) e1⟩
      tups := I.base.tups
      frzs := I.base.frzs
      tbls := I.base.tbls }
  · have hj : j ≠ i := fun z => by
      subst z
      rw [List.getElem?_set] at h2
      rw [if_pos rfl] at h2
      split at h2 <;> cases h2
    rw [List.getElem?_set_ne (Ne.symm hj)] at h2
    obtain ⟨u, r, hk⟩ := hm j y v' h1 h2 h3
    refine ⟨u, r, ?_⟩
    have hyn : y ≠ n := fun z => hj (nodup_ix hN (by rw [h1, z]) hi)
    rcases hk with ⟨k1, k2⟩ | ⟨k1, c, k2, k3⟩
    · exact .inl ⟨k1, by show (if y = n then v else m y) = _; rw [if_neg hyn]; exact k2⟩
    · refine .inr ⟨k1, c, k2, ?_⟩
      obtain ⟨oc, ec, r⟩ := k3
      exact ⟨oc, k _ _ (I.cne y c k2) ec, r⟩
  · obtain ⟨v', oc, ec, r⟩ := I.cell y c e
    exact ⟨v', oc, k _ _ (I.cne y c e) ec, r⟩
  · obtain ⟨p1, p2, p3, p4, p5⟩ := I.pin p hp
    exact ⟨k _ _ p3 p1, p2, p3, p4, p5⟩
  · refine (I.hok a o e).stay (fun b u hb q => k b u (fun z => ?_) q) (fun _ q => q) fun _ _ q => q
    have hf := I.free
    rcases hb with r | r
    · rw [← r, z, hf] at e; cases e
    · rw [z, hf] at r; cases r
end
end L2

set_option Elab.async false
set_option linter.all false
set_option maxRecDepth 100000
namespace L2
open PySem PySem.Spec PyProof.Rows
theorem ObjOk.there {P : Program} {w : World} {H : Hp} {h : Heap} {a : Addr} {o : HO} (x : ObjOk P w H h a o) : ∃ ob, h.get? a = some ob := by
  cases o with
  | lst xs => obtain ⟨_, _, _, _, e⟩ := x; exact ⟨_, e⟩
  | tup xs => obtain ⟨_, _, _, ob, e, _⟩ := x; exact ⟨ob, e⟩
  | dK kvs => obtain ⟨_, _, _, _, ob, _, _, e, _⟩ := x; exact ⟨ob, e⟩
  | dT kvs => obtain ⟨_, _, _, _, ob, _, _, e, _⟩ := x; exact ⟨ob, e⟩
  | set S n => obtain ⟨ob, _, _, _, e, _⟩ := x; exact ⟨ob, e⟩
  | ins C dx fs => obtain ⟨_, _, _, e, _⟩ := x; exact ⟨_, e⟩
  | own y => exact x
  | xd fs => obtain ⟨_, ⟨ob, _, _, e, _⟩, _⟩ := x; exact ⟨ob, e⟩
  | rng lo hi => obtain ⟨_, _, _, e⟩ := x; exact ⟨_, e⟩
  | frz ob u => obtain ⟨e, _⟩ := x; exact ⟨_, e⟩
  | tbl ps => exact ⟨_, show h.get? a = some _ from x⟩
  | met f y => exact ⟨_, show h.get? a = some _ from x⟩
  | ext φ => exact x.2.1
theorem Inv.track {X : Cx} {pins : List (Addr × Obj)} {σ : St} {H : Hp} {s : Shared} {ea : Addr} {o : HO} (I : Inv X pins σ H s) (hn : H ea = none) (h0 : ∀ ob, X.s₀.heap.get? ea ≠ some ob) (hL : ea ≠ X.env.locals) (hc : ∀ y c, X.env.cells.lookup y = some c → c ≠ ea)
    (hp : ∀ p ∈ X.pn ++ pins, p.1 ≠ ea) (new : ObjOk X.prog X.w (upd H ea o) s.heap ea o) : Inv X pins σ (upd H ea o) s where
  ok := I.ok
  os := I.os
  bare := I.bare
  base := {
    keep := I.base.keep
    slot := I.base.slot
    free := fun b ob e n hx => by
      have hb : b ≠ ea := fun z => h0 ob (z ▸ e)
      rw [upd_ne hb]; exact I.base.free b ob e n hx
    there := I.base.there
    tups := fun b xs e => by have := I.base.tups b xs e; rw [upd_ne (ne_of_none this hn)]; exact this
    frzs := fun b ob u e => by have := I.base.frzs b ob u e; rw [upd_ne (ne_of_none this hn)]; exact this
    tbls := fun b p e => by
      obtain ⟨m, e1⟩ := I.base.tbls b p e
      exact ⟨m, by rw [upd_ne (ne_of_none e1 hn)]; exact e1⟩ }
  loc := I.loc
  cell := I.cell
  free := by rw [upd_ne (Ne.symm hL)]; exact I.free
  freeC := fun y c e => by rw [upd_ne (hc y c e)]; exact I.freeC y c e
  pin := fun p hp' => by
    obtain ⟨p1, p2, p3⟩ := I.pin p hp'
    exact ⟨p1, by rw [upd_ne (hp p hp')]; exact p2, p3⟩
  hok := fun b u e => by
    by_cases hb : b = ea
    · subst hb; rw [upd_same] at e; cases e; exact new
    · rw [upd_ne hb] at e
      exact (I.hok b u e).stay (fun _ _ _ q => q) (fun c q => by rw [upd_ne (ne_of_none q hn)]; exact q) fun c xs q => by rw [upd_ne (ne_of_none q hn)]; exact q
  len := I.len
def tryXe (X : Cx) (pins : List (Addr × Obj)) (D : Ends) (hdl : List ExceptHandler) : Value → Shared → Prop := fun e s1 => wpAny (model X.prog X.w) X.A (noteFrame e X.env) (fun _ s2 => wpAny (model X.prog X.w) X.A (setFlight e none) (fun _ s3 => wpAny (model X.prog X.w) X.A (handleBy e X.env hdl) (SP X pins D) X.xe s3) X.xe s2) X.xe s1
section
variable {X : Cx} {x n : Str} {i : Nat} {CT : Addr} {np hpos pos : Pos} {body suite : List Stmt} {b0 : Stmt} {tb : (St → XK) → TS} {th : TS}
theorem try_key {pins : List (Addr × Obj)} {D : Ends} (ok : X.Ok) (hst : X.stack = X.env :: X.outer) (hfr : X.env.frame = some X.env.locals) (hex : X.ex = []) (hN : X.N.Nodup) (hi : X.N[i]? = some n) (hl : X.env.kindOf n = some .local) (hlo : Loc X.env.scope n)
    (hf : X.fn n = true ∨ X.env.scope.names.lookup n = some .local) (hg : Gl X x) (hm : X.mg x = some (.ref CT)) (hT : XcOk X.K CT) (hs : ∀ ea, PSs (X.mark ea) (b0 :: suite) th) (hd : (x == ("__debug__" : Str)) = false) :
    PassesW (X.held (X.pn ++ pins) (tryXe X pins D [.ExceptHandler (some (.Name x np)) (some n) (b0 :: suite) hpos])) (tryXe X pins D [.ExceptHandler (some (.Name x np)) (some n) (b0 :: suite) hpos]) (tTryW X.K CT i th D) := by
  rintro pins' σ1 H1 s1 e s2 I1 ⟨ea, cls, a0, B, H2, rfl, os, bare, hok, fly, un, cl, ⟨C, rfl, kC, kin⟩, hth⟩
  have fly' : Heap.FlyingW B (X.env :: X.outer) ea (.ref C) a0 s2.heap := hst ▸ fly
  have J1 : Inv X pins σ1 H1 s1 := I1.unheld ok
  have hfn : ∀ b ∈ frs X.stack, H1 b = none ∧ ∀ o, s2.heap.get? b = some o → ∀ vs, o.data ≠ .fields vs := fun b hb => ⟨J1.stkFree b hb, fun o eo => by
    obtain ⟨_, o', e1, e2⟩ := fly.2.2.1.mem hb
    rw [e1] at eo; cases eo
    exact e2⟩
  have Hea : H2 ea = none := by
    cases q : H2 ea with
    | none => rfl
    | some u =>
      obtain ⟨ob, e1⟩ := (hok ea u q).there
      rw [fly.2.1] at e1; cases e1
  have new1 : ∀ ob, s1.heap.get? ea ≠ some ob := fun ob e1 => by
    by_cases hb : ea ∈ frs X.stack
    · obtain ⟨oe, vs, e2, _, e3, _⟩ := fly.first
      exact (hfn ea hb).2 oe e2 vs e3
    · obtain ⟨⟨o', e2⟩, _⟩ := cl ea ob e1 hb
      rw [fly.2.1] at e2; cases e2
  have inv : ∀ h', (∀ b o, B.get? b = some o → h'.get? b = some o) → s2.heap.UpToSlots h' → Inv X pins σ1 H2 { s2 with heap := h' } := fun h' hB us =>
    Inv.call' (s' := { s2 with heap := h' }) (ch := []) J1 os (un_fly un cl hB us hfn) (hok.kept hB) bare fun b z => nomatch z
  unfold tryXe
  refine wpAny_looks_onW (L := X.env.locals) (ok.frames.trans (congrArg some hst)) hfr fly' fun h4 held4 us4 => ?_
  refine wpAny_landsW held4 fun h5 fly5 us5 => ?_
  have us25 := us4.trans us5
  have I5 := inv h5 fly5.1 us25
  obtain ⟨oe, vs, hoe, hoec, hoed, _⟩ := fly5.first
  refine wpAny_handleBy_cons (codeAny_handlers_test (ld_glob (I5.mark ea) hg hm (exc_match (C := C) (CT := CT) (xc_ob I5.kIn kC).1 (xc_ob I5.kIn hT).1 hoe hoec (xc_ob I5.kIn hT).2 kin ?_) hd)) (by intro q; cases q)
  refine codeAny_handlers_suite_as ?_
  refine lands_againW fly5 fun h6 fly6 us6 => ?_
  have I6 := inv h6 fly6.1 (us25.trans us6)
  obtain ⟨oe6, vs6, hoe6, hoec6, hoed6, _⟩ := fly6.first
  have I7 : Inv X pins σ1 (upd H2 ea (XO (.ref C) ea)) { s2 with heap := h6 } := by
    refine I6.track Hea (fun ob e1 => ?_) (fun z => ?_) (fun y c e1 z => ?_) (fun p hp z => ?_) (xo_ok hoe6 hoec6 hoed6)
    · obtain ⟨o', e2⟩ := J1.base.there ea ob e1 (by rw [hex]; exact List.not_mem_nil)
      exact new1 o' e2
    · obtain ⟨m, ⟨oL, es, ep, eL, edL, _⟩, _⟩ := id I6.loc
      rw [← z] at eL
      have eL' : h6.get? ea = some oL := eL
      rw [hoe6] at eL'; cases eL'
      rw [hoed6] at edL; cases edL
    · obtain ⟨v, oc, ec, r⟩ := J1.cell y c e1
      exact new1 oc (z ▸ ec)
    · obtain ⟨p1, _⟩ := J1.pin p hp
      exact new1 p.2 (z ▸ p1)
  refine store_ok I7 hN hi hlo (v := .ref ea) rfl (fun s7 J7 => ?_) hf
  refine wpAny_mono (hs ea pins s7 _ _ (goneEnds i D) (J7.mark ea) (hth ea Hea)) (fun f s8 q8 => ?_) fun _ _ z => z.elim
  cases f with
  | next =>
    obtain ⟨σ9, H9, I9, q9⟩ := q8
    exact name_gone (I9.unmark ok) hN hi hl fun s' I' => ⟨_, _, I', q9⟩
  | brk =>
    obtain ⟨σ9, H9, I9, q9⟩ := q8
    exact name_gone (I9.unmark ok) hN hi hl fun s' I' => ⟨_, _, I', q9⟩
  | cont =>
    obtain ⟨σ9, H9, I9, q9⟩ := q8
    exact name_gone (I9.unmark ok) hN hi hl fun s' I' => ⟨_, _, I', q9⟩
  | ret u =>
    obtain ⟨v, σ9, H9, I9, r, q9⟩ := q8
    exact name_gone (I9.unmark ok) hN hi hl fun s' I' => ⟨v, _, _, I', r, q9⟩
theorem ps_tryAs (hst : X.stack = X.env :: X.outer) (hfr : X.env.frame = some X.env.locals) (hex : X.ex = []) (hN : X.N.Nodup) (hi : X.N[i]? = some n) (hl : X.env.kindOf n = some .local) (hlo : Loc X.env.scope n)
    (hg : Gl X x) (hm : X.mg x = some (.ref CT)) (hT : XcOk X.K CT) (hb : ∀ pn xe W, PassesW (X.held pn xe) xe W → PSs (X.held pn xe) body (tb W)) (hs : ∀ ea, PSs (X.mark ea) (b0 :: suite) th)
    (hf : X.fn n = true ∨ X.env.scope.names.lookup n = some .local := by first | exact .inl rfl | exact .inr rfl | assumption) (hd : (x == ("__debug__" : Str)) = false := by decide) :
    PS X (.Try body [.ExceptHandler (some (.Name x np)) (some n) (b0 :: suite) hpos] [] [] pos) (tTry X.K CT i tb th) := by
  intro pins s σ H D I h
  refine wpAny_Try_except ?_
  refine wpAny_mono (hb (X.pn ++ pins) (tryXe X pins D [.ExceptHandler (some (.Name x np)) (some n) (b0 :: suite) hpos]) (tTryW X.K CT i th D) (try_key I.ok hst hfr hex hN hi hl hlo hf hg hm hT hs hd) [] s σ H D I.held h) (fun f s1 hq => ?_) fun e s1 he => he
  have ok := I.ok
  cases f with
  | next =>
    obtain ⟨σ', H', I', q⟩ := hq
    exact wpAny_execs_nil ⟨σ', H', I'.unheld ok, q⟩
  | brk => obtain ⟨σ', H', I', q⟩ := hq; exact ⟨σ', H', I'.unheld ok, q⟩
  | cont => obtain ⟨σ', H', I', q⟩ := hq; exact ⟨σ', H', I'.unheld ok, q⟩
  | ret u => obtain ⟨v, σ', H', I', r, q⟩ := hq; exact ⟨v, σ', H', I'.unheld ok, r, q⟩
end
end L2

set_option Elab.async false
set_option linter.all false
set_option maxRecDepth 100000
namespace L2
open PySem PySem.Spec PyProof.Rows
def thaw (d : Addr) (kvs : List (Key × V)) (H : Hp) : Hp := upd H d (.dK kvs)
def thawEnds (d : Addr) (o : Obj) (kvs : List (Key × V)) (D : Ends) : Ends where
  nx := fun σ H => H d = some (.frz o (.dK kvs)) ∧ D.nx σ (thaw d kvs H)
  bk := fun σ H => H d = some (.frz o (.dK kvs)) ∧ D.bk σ (thaw d kvs H)
  ct := fun σ H => H d = some (.frz o (.dK kvs)) ∧ D.ct σ (thaw d kvs H)
  rt := fun v H => H d = some (.frz o (.dK kvs)) ∧ D.rt v (thaw d kvs H)
section
variable {X : Cx} {pins : List (Addr × Obj)} {σ : St} {H : Hp} {s : Shared} {d : Addr} {kvs : List (Key × V)} {o : Obj}
theorem Inv.retell {a b : HO} (I : Inv X pins σ H s) (e : H d = some a) (nt : ∀ xs, a ≠ .tup xs) (nb : ∀ p, a ≠ .tbl p) (no : ∀ y, a ≠ .own y) (nf : ∀ ob u, X.H₀ d ≠ some (.frz ob u)) (new : ObjOk X.prog X.w (upd H d b) s.heap d b) : Inv X pins σ (upd H d b) s where
  ok := I.ok
  os := I.os
  bare := I.bare
  base := {
    keep := I.base.keep
    slot := I.base.slot
    free := fun c ob e1 n hx => by
      have hc := I.base.free c ob e1 n hx
      rw [upd_ne (fun z => by rw [z, e] at hc; cases hc)]; exact hc
    there := I.base.there
    tups := fun c xs e1 => by
      have h1 := I.base.tups c xs e1
      rw [upd_ne (fun z => by rw [z, e] at h1; exact nt xs (Option.some.inj h1))]; exact h1
    frzs := fun c ob u e1 => by
      have h1 := I.base.frzs c ob u e1
      have hcd : c ≠ d := fun z => by subst z; exact nf ob u e1
      rw [upd_ne hcd]; exact h1
    tbls := fun c p e1 => by
      obtain ⟨m, h1⟩ := I.base.tbls c p e1
      exact ⟨m, by rw [upd_ne (fun z => by rw [z, e] at h1; exact nb _ (Option.some.inj h1))]; exact h1⟩ }
  loc := I.loc
  cell := I.cell
  free := by
    have hf := I.free
    rw [upd_ne (fun z => by rw [z, e] at hf; cases hf)]; exact hf
  freeC := fun y c e1 => by
    have hf := I.freeC y c e1
    rw [upd_ne (fun z => by rw [z, e] at hf; cases hf)]; exact hf
  pin := fun p hp => by
    obtain ⟨p1, p2, p3⟩ := I.pin p hp
    refine ⟨p1, ?_, p3⟩
    rw [upd_ne (fun z => by rw [z, e] at p2; cases p2)]; exact p2
  hok := fun c u e1 => by
    by_cases hc : c = d
    · subst hc; rw [upd_same] at e1; cases e1; exact new
    · rw [upd_ne hc] at e1
      refine (I.hok c u e1).stay (fun _ _ _ q => q) (fun y q => ?_) fun y xs q => ?_
      · rw [upd_ne (fun z => by rw [z, e] at q; exact no _ (Option.some.inj q))]; exact q
      · rw [upd_ne (fun z => by rw [z, e] at q; exact nt _ (Option.some.inj q))]; exact q
  len := I.len
theorem dk_up {P : Program} {w : World} {H H' : Hp} {h : Heap} (x : ObjOk P w H h d (.dK kvs)) : ObjOk P w H' h d (.dK kvs) := x
theorem Inv.freeze (I : Inv X pins σ H s) (e : H d = some (.dK kvs)) : ∃ o, s.heap.get? d = some o ∧ (∀ ob u, X.H₀ d ≠ some (.frz ob u)) ∧ Inv X pins σ (upd H d (.frz o (.dK kvs))) s := by
  have x := I.hok d _ e
  obtain ⟨o, ho⟩ := x.there
  have nf : ∀ ob u, X.H₀ d ≠ some (.frz ob u) := fun ob u z => by
    have := I.base.frzs d ob u z
    rw [e] at this; cases this
  exact ⟨o, ho, nf, I.retell e (fun xs z => by cases z) (fun p z => by cases z) (fun y z => by cases z) nf ⟨ho, dk_up x⟩⟩
theorem Inv.thaw (I : Inv X pins σ H s) (nf : ∀ ob u, X.H₀ d ≠ some (.frz ob u)) (e : H d = some (.frz o (.dK kvs))) : Inv X pins σ (thaw d kvs H) s :=
  I.retell e (fun xs z => by cases z) (fun p z => by cases z) (fun y z => by cases z) nf (dk_up (I.hok d _ e).2)
end
section
variable {X : Cx} {st : Stmt} {t : TS}
def tFrozen (t : TS) : TS := fun D σ H => ∃ d kvs, H d = some (.dK kvs) ∧ ∀ o, t (thawEnds d o kvs D) σ (upd H d (.frz o (.dK kvs)))
theorem ps_frozen (h : PS X st t) : PS X st (tFrozen t) := by
  rintro pins s σ H D I ⟨d, kvs, e, q⟩
  obtain ⟨o, ho, nf, I1⟩ := I.freeze e
  refine thn (h pins s σ _ _ I1 (q o)) fun f s1 hq => ?_
  cases f with
  | next => obtain ⟨σ', H', I', e', q'⟩ := hq; exact ⟨σ', _, I'.thaw nf e', q'⟩
  | brk => obtain ⟨σ', H', I', e', q'⟩ := hq; exact ⟨σ', _, I'.thaw nf e', q'⟩
  | cont => obtain ⟨σ', H', I', e', q'⟩ := hq; exact ⟨σ', _, I'.thaw nf e', q'⟩
  | ret u => obtain ⟨v, σ', H', I', r, e', q'⟩ := hq; exact ⟨v, σ', _, I'.thaw nf e', r, q'⟩
end
def epOf (o : Obj) : Nat := match o.data with
  | .dict _ ep => ep
  | _ => 0
theorem frz_at {X : Cx} {pins : List (Addr × Obj)} {σ : St} {H : Hp} {s : Shared} {d : Addr} {kvs : List (Key × V)} {o : Obj} (I : Inv X pins σ H s) (e : H d = some (.frz o (.dK kvs))) : (d == sysModules) = false ∧ ∃ vs, KV kvs vs ∧ s.heap.DictAt (mixKind X.prog X.w) d vs (epOf o) := by
  obtain ⟨ho, _, h1, vs, rel, ob, es, ep, h2, h3, h4, h5, h6, h7⟩ := I.hok d _ e
  rw [ho] at h2; cases h2
  exact ⟨h1, vs, rel, o, es, ho, h3, by rw [h4]; unfold epOf; rw [h4], h5, h6, h7⟩
def Itk (d : Addr) (o : Obj) (kvs : List (Key × V)) : It :=
  ⟨fun i H => H d = some (.frz o (.dK kvs)) ∧ i < kvs.length, fun i H x H' => H' = H ∧ (kvs.map fun p => kV p.1)[i]? = some x, fun i H => H d = some (.frz o (.dK kvs)) ∧ kvs.length ≤ i⟩
def Itv (d : Addr) (o : Obj) (kvs : List (Key × V)) : It :=
  ⟨fun i H => H d = some (.frz o (.dK kvs)) ∧ i < kvs.length, fun i H x H' => H' = H ∧ (kvs.map fun p => p.2)[i]? = some x, fun i H => H d = some (.frz o (.dK kvs)) ∧ kvs.length ≤ i⟩
theorem kV_rel {P : Program} {w : World} {k : Key} {u : Value} (h : (mixKind P w).is k u = true) : RelV (kV k) u := by
  rw [mixKind_is] at h
  rcases keyIs_shape h with ⟨i, t, rfl, rfl⟩ | ⟨x, t, rfl, rfl⟩
  · exact ⟨t, rfl⟩
  · exact ⟨t, rfl⟩
theorem KV.at {kvs : List (Key × V)} {vs : List (Key × Value)} (r : KV kvs vs) {i : Nat} (hi : i < kvs.length) : ∃ k v u, kvs[i]? = some (k, v) ∧ vs[i]? = some (k, u) ∧ RelV v u := by
  induction r generalizing i with
  | nil => cases hi
  | cons h t ih =>
    cases i with
    | zero =>
      rename_i a b _ _
      exact ⟨a.1, a.2, b.2, rfl, by obtain ⟨b1, b2⟩ := b; rw [h.1]; rfl, h.2⟩
    | succ i => exact ih (Nat.lt_of_succ_lt_succ hi)
theorem turn_keys {P : Program} {w : World} {K : PySem.W.Frag} {tg : Expr} (d it : Addr) (o : Obj) (kvs : List (Key × V)) : Turn P w K tg (Itk d o kvs) [it] it (fun i h => h.IsKeyIter it d i kvs.length (epOf o)) where
  mem := by simp
  obj := fun i h st b hb => by
    have e : b = it := by simpa using hb
    subst e
    obtain ⟨o, e, c, dt⟩ := st
    exact ⟨o, e, fun v z => by rw [dt] at z; cases z⟩
  keep := fun i h h' st k => st.at fun o e => k it (by simp) o e
  item := by
    intro X hP hw hK hc i pins s σ H E I hf st hg
    subst hP hw hK
    obtain ⟨hq, hi⟩ := hg
    obtain ⟨_, vs, rel, dd⟩ := frz_at I hq
    have hl : vs.length = kvs.length := rel.length.symm
    obtain ⟨k, v, u, e1, e2, rv⟩ := rel.at hi
    obtain ⟨f0, f1, f2, f3, f4, f5⟩ := hf it (by simp)
    refine wpAny_pyNext_dict_item (knd := mixKind X.prog X.w) (kvs := vs) (by rw [hl]; exact st) dd e2 fun key h' hkey st' sb => ?_
    rw [hl] at st'
    have I1 : Inv X pins σ H { s with heap := h' } := I.turned (t' := s.toks) (fun b o hb e => (sb.2 b hb).trans e) f0 f1 f3 f4 f5
    obtain ⟨ob, e, c, dt⟩ := id st'
    exact ⟨key, rfl, go_of (s := { s with heap := h' }) e c dt (by decide) ⟨kV k, H, I1, kV_rel hkey, ⟨rfl, by rw [List.getElem?_map, e1]; rfl⟩, st', fun b hb => (hf b hb).1⟩⟩
  done := by
    intro X hP hw hK hc i pins s σ H E I hf st hg
    subst hP hw hK
    obtain ⟨hq, hi⟩ := hg
    obtain ⟨_, vs, rel, dd⟩ := frz_at I hq
    have hl : vs.length = kvs.length := rel.length.symm
    obtain ⟨f0, f1, f2, f3, f4, f5⟩ := hf it (by simp)
    exact wpAny_pyNext_dict_end (knd := mixKind X.prog X.w) (kvs := vs) (I.ok.hd hc) (by rw [hl]; exact st) dd (by rw [List.getElem?_eq_none_iff]; omega) fun h' eb => ⟨rfl, I.turned (t' := s.toks) (fun b o hb e => eb b o hb e) f0 f1 f3 f4 f5⟩
  self := fun _ _ _ _ _ st h => wpAny_pyIter_keyiter st h
theorem turn_vals {P : Program} {w : World} {K : PySem.W.Frag} {tg : Expr} (d it : Addr) (o : Obj) (kvs : List (Key × V)) : Turn P w K tg (Itv d o kvs) [it] it (fun i h => h.IsValIter it d i kvs.length (epOf o)) where
  mem := by simp
  obj := fun i h st b hb => by
    have e : b = it := by simpa using hb
    subst e
    obtain ⟨o, e, c, dt⟩ := st
    exact ⟨o, e, fun v z => by rw [dt] at z; cases z⟩
  keep := fun i h h' st k => st.at fun o e => k it (by simp) o e
  item := by
    intro X hP hw hK hc i pins s σ H E I hf st hg
    subst hP hw hK
    obtain ⟨hq, hi⟩ := hg
    obtain ⟨_, vs, rel, dd⟩ := frz_at I hq
    have hl : vs.length = kvs.length := rel.length.symm
    obtain ⟨k, v, u, e1, e2, rv⟩ := rel.at hi
    obtain ⟨f0, f1, f2, f3, f4, f5⟩ := hf it (by simp)
    refine wpAny_pyNext_values_item (knd := mixKind X.prog X.w) (kvs := vs) (by rw [hl]; exact st) dd e2 fun h' st' sb => ?_
    rw [hl] at st'
    have I1 : Inv X pins σ H { s with heap := h' } := I.turned (t' := s.toks) (fun b o hb e => (sb.2 b hb).trans e) f0 f1 f3 f4 f5
    obtain ⟨ob, e, c, dt⟩ := id st'
    exact ⟨u, rfl, go_of (s := { s with heap := h' }) e c dt (by decide) ⟨v, H, I1, rv, ⟨rfl, by rw [List.getElem?_map, e1]; rfl⟩, st', fun b hb => (hf b hb).1⟩⟩
  done := by
    intro X hP hw hK hc i pins s σ H E I hf st hg
    subst hP hw hK
    obtain ⟨hq, hi⟩ := hg
    obtain ⟨_, vs, rel, dd⟩ := frz_at I hq
    have hl : vs.length = kvs.length := rel.length.symm
    obtain ⟨f0, f1, f2, f3, f4, f5⟩ := hf it (by simp)
    exact wpAny_pyNext_values_end (knd := mixKind X.prog X.w) (kvs := vs) (I.ok.hd hc) (by rw [hl]; exact st) dd (by rw [List.getElem?_eq_none_iff]; omega) fun h' eb => ⟨rfl, I.turned (t' := s.toks) (fun b o hb e => eb b o hb e) f0 f1 f3 f4 f5⟩
  self := fun _ _ _ _ _ st h => wpAny_pyIter_valiter st h
section
variable {X : Cx} {tg : Expr}
def iVals (tl : TE) : TI := fun σ H R => tl σ H fun x H1 => ∃ d o kvs, x = .ref d ∧ H1 d = some (.frz o (.dK kvs)) ∧ R (Itv d o kvs) H1
theorem pi_vals {l : Expr} {apos cpos : Pos} {tl : TE} (hl : PE X l tl) (hbase : attributeBase l "values" X.env (eval l X.env) = eval l X.env := by rfl) (hline : (apos.endLine == cpos.line) = true := by rfl) : PI X tg (.Call (.Attribute l "values" apos) [] [] cpos) (iVals tl) := by
  intro pins s σ H R I h
  refine wpAny_Call_method0_late hbase hline (thn (hl pins s σ H _ I h) fun v s1 ⟨x, H1, I1, r1, d, o, kvs, ex, ed, q⟩ => ?_)
  subst ex
  cases r1
  obtain ⟨hd, vs, rel, dd⟩ := frz_at I1 ed
  have hlen : vs.length = kvs.length := rel.length.symm
  obtain ⟨ob, es, e1, e2, e3, e4⟩ := id dd
  have dof : s1.heap.DictOf (mixKind X.prog X.w) d vs := ⟨ob, es, epOf o, e1, e2, e3, e4⟩
  refine ⟨"dict", "dict.values", PySem.F.plainAttrs_dict, PySem.F.slot_dict_values, PySem.F.type_dict_values, dof.typeIs, fun b z => ?_, Calls.callWith_builtin rfl (PySem.evalArgs_none (call_meetsIn PySem.F.slot_dict_values dof.typeIs PySem.F.entry_dict_values (PySem.F.args_dict_values_1 _) (meets_dict_values (mixKind X.prog X.w) d hd) ⟨⟨vs, dof⟩, ?_⟩))⟩
  · cases z; exact ⟨ob, e1, e2.2.1⟩
  have k1 : ∀ b u, s1.heap.get? b = some u → (s1.heap.push { cls := .type "dict_values", data := .fields #[.ref d] }).get? b = some u := fun b u e => Heap.get?_push_of_some _ e
  have I2 : Inv X pins σ H1 { s1 with heap := s1.heap.push { cls := .type "dict_values", data := .fields #[.ref d] } } := I1.kept (t' := s1.toks) k1
  refine wpAny_pyIter_values (v := s1.heap.objs.size) (knd := mixKind X.prog X.w) (kvs := vs) (ep := epOf o) ⟨_, Heap.get?_push_size _ rfl, rfl, rfl⟩ (dd.at' fun u e => k1 _ _ e) ?_
  refine ⟨_, [_], _, _, H1, rfl, I2.kept (t' := s1.toks) fun b o e => Heap.get?_push_of_some _ e, turn_vals d _ o kvs, ⟨_, Heap.get?_push_size _ rfl, rfl, by rw [← hlen]; rfl⟩, fun b hb => ?_, q⟩
  have e : b = (s1.heap.push { cls := .type "dict_values", data := .fields #[.ref d] }).objs.size := by simpa using hb
  subst e
  exact I2.fpOk (Nat.le_refl _) (I2.hok.fresh (Nat.le_refl _))
end
theorem for_keys {d : Addr} {o : Obj} {kvs : List (Key × V)} {g : TG} {tb : TS} {D : Ends} {σ : St} {H : Hp} (Pv : Nat → St → Hp → Prop) (h0 : Pv 0 σ H) (hl : ∀ i σ H, i ≤ kvs.length → Pv i σ H → H d = some (.frz o (.dK kvs)))
    (hs : ∀ i k v σ H, kvs[i]? = some (k, v) → Pv i σ H → g (kV k) σ H fun σ2 H2 => tb { D with nx := Pv (i + 1), ct := Pv (i + 1), bk := D.nx } σ2 H2) (hd : ∀ σ H, Pv kvs.length σ H → D.nx σ H) :
    ∃ W : Nat → Nat → St → Hp → Prop, (∃ m, W 0 m σ H) ∧ ∀ i m σ H, W i m σ H →
      ((Itk d o kvs).stop i H ∧ D.nx σ H) ∨ ((Itk d o kvs).go i H ∧ ∃ N : St → Hp → Prop, (∀ σ' H', N σ' H' → ∃ m', m' < m ∧ W (i + 1) m' σ' H') ∧ ∀ x H', (Itk d o kvs).yld i H x H' → g x σ H' fun σ2 H2 => tb { D with nx := N, ct := N, bk := D.nx } σ2 H2) := by
  refine ⟨fun i m σ H => m = kvs.length - i ∧ i ≤ kvs.length ∧ Pv i σ H, ⟨_, rfl, Nat.zero_le _, h0⟩, ?_⟩
  rintro i m σ H ⟨rfl, hi, hp⟩
  have q := hl i σ H hi hp
  by_cases hlt : i < kvs.length
  · refine .inr ⟨⟨q, hlt⟩, Pv (i + 1), fun σ' H' h' => ⟨kvs.length - (i + 1), by omega, rfl, hlt, h'⟩, fun x H' y => ?_⟩
    obtain ⟨e, y⟩ := y
    subst e
    rw [List.getElem?_map, List.getElem?_eq_getElem hlt] at y
    cases y
    exact hs i _ kvs[i].2 σ _ (List.getElem?_eq_getElem hlt) hp
  · have e : i = kvs.length := by omega
    subst e
    exact .inl ⟨⟨q, Nat.le_refl _⟩, hd σ H hp⟩
theorem for_vals {d : Addr} {o : Obj} {kvs : List (Key × V)} {g : TG} {tb : TS} {D : Ends} {σ : St} {H : Hp} (Pv : Nat → St → Hp → Prop) (h0 : Pv 0 σ H) (hl : ∀ i σ H, i ≤ kvs.length → Pv i σ H → H d = some (.frz o (.dK kvs)))
    (hs : ∀ i k v σ H, kvs[i]? = some (k, v) → Pv i σ H → g v σ H fun σ2 H2 => tb { D with nx := Pv (i + 1), ct := Pv (i + 1), bk := D.nx } σ2 H2) (hd : ∀ σ H, Pv kvs.length σ H → D.nx σ H) :
    ∃ W : Nat → Nat → St → Hp → Prop, (∃ m, W 0 m σ H) ∧ ∀ i m σ H, W i m σ H →
      ((Itv d o kvs).stop i H ∧ D.nx σ H) ∨ ((Itv d o kvs).go i H ∧ ∃ N : St → Hp → Prop, (∀ σ' H', N σ' H' → ∃ m', m' < m ∧ W (i + 1) m' σ' H') ∧ ∀ x H', (Itv d o kvs).yld i H x H' → g x σ H' fun σ2 H2 => tb { D with nx := N, ct := N, bk := D.nx } σ2 H2) := by
  refine ⟨fun i m σ H => m = kvs.length - i ∧ i ≤ kvs.length ∧ Pv i σ H, ⟨_, rfl, Nat.zero_le _, h0⟩, ?_⟩
  rintro i m σ H ⟨rfl, hi, hp⟩
  have q := hl i σ H hi hp
  by_cases hlt : i < kvs.length
  · refine .inr ⟨⟨q, hlt⟩, Pv (i + 1), fun σ' H' h' => ⟨kvs.length - (i + 1), by omega, rfl, hlt, h'⟩, fun x H' y => ?_⟩
    obtain ⟨e, y⟩ := y
    subst e
    rw [List.getElem?_map, List.getElem?_eq_getElem hlt] at y
    cases y
    exact hs i kvs[i].1 _ σ _ (List.getElem?_eq_getElem hlt) hp
  · have e : i = kvs.length := by omega
    subst e
    exact .inl ⟨⟨q, Nat.le_refl _⟩, hd σ H hp⟩
end L2

set_option Elab.async false
set_option linter.all false
set_option maxRecDepth 100000
namespace L2
open PySem PySem.Spec PyProof.Rows
section
variable {X : Cx}
def rRepL1 : R2 := fun x y H Q => ∃ l k v, x = .ref l ∧ y = .int k ∧ H l = some (.lst [v]) ∧ -1000000 ≤ k ∧ k ≤ 1000000 ∧ ∀ p, H p = none → Q (.ref p) (upd H p (.lst (List.replicate k.toNat v)))
theorem op_repL1 : OpR X (binaryOp .Mult) rRepL1 := by
  intro pins s σ H x y v u Q I rx ry h
  obtain ⟨l, k, a, rfl, rfl, hq, h1, h2, q⟩ := h
  cases rx
  obtain ⟨t, rfl⟩ := ry
  obtain ⟨z, its, n, r, hl, e⟩ := I.lstM hq
  obtain ⟨u, rfl, ru⟩ : ∃ u, its = [u] ∧ RelV a u := by
    cases r with
    | cons h t => cases t; exact ⟨_, rfl, h⟩
  have hf : (List.replicate (if (#[u] : Array Value).isEmpty = true then 0 else k.toNat) #[u]).foldl (fun x1 x2 => x1 ++ x2) #[] = (List.replicate k.toNat u).toArray := by
    rw [if_neg (by simp)]
    have := foldl_one u k.toNat []
    simpa using this
  have sl := sizeLine_eq
  refine wpAny_binaryOp_repeat_ref (T := "list") (U := "int") (by decide) ⟨_, e, rfl⟩ (fun s' => typeIs_int s' k t) noFill_list_mul F.fills_int_mul F.slot_int_rmul repeat_list F.slot_int_index.lookup
    (call_meets F.slot_int_rmul (typeIs_int s k t) F.entry_int_rmul (F.args_int_rmul_2 _ _) (int___rmul___int_list k t l _ n)
      ⟨e, rfl, ⟨_, e, rfl⟩, call_meets F.slot_list_mul ⟨_, e, rfl⟩ F.entry_list_mul (F.args_list_mul_2 _ _) (PySem.AutoListH.list___mul___list_int_3 l _ n k t ?_ ?_ ?_) ⟨e, ?_⟩⟩)
  · unfold Builtin.List.listFitsIndex; simp; omega
  · show ¬ 1 * k.toNat > _; omega
  · unfold Builtin.List.listTooLong; show ¬ decide (1 * k.toNat > sizeLine) = true; simp; omega
  · rw [show ([u].toArray : Array Value) = #[u] from rfl, hf]
    exact ⟨.ref s.heap.objs.size, _, I.lnew (t' := s.toks) (vals_rep ru _) (by rw [List.length_replicate]; omega), rfl, q _ I.fresh⟩
end
theorem passF {P : Program} {w : World} {X : Cx} : Passes (CX1 P w) X E0 := by
  rintro pins σ H s e s' I ⟨_, _, _, _, _, _, _, _, _, _, _, _, q⟩
  exact q.elim
theorem PS.nox {X : Cx} {st : Stmt} {t : TS} (h : PS X.nox st t) : PS X st t := fun pins s σ H D I hw =>
  wpAny_mono (h pins s σ H D (I.wish _) hw) (fun _ _ q => q.unwish) fun _ _ z => False.elim z
section
variable {P : Program} {w : World} {K : PySem.W.Frag} {mg : Str → Option Value} {base : Heap}
theorem Fun.ok1 {x qual : Str} {st : Stmt} {f : Addr} {fd : FuncData} {N ps : List Str} {k : Nat} {sp : Sp} (F : Fun K x qual st f fd) (S : FnScope N ps (defScope st)) (len : ∀ vs H Q E, sp vs H Q E → vs.length = ps.length)
    (hbody : ∀ (cdv : Value) (A : Around) (outer : List Env) (s : Shared) (H : Hp) (vs : List V) (Q : VK) (E : XK), Room k (A.deeper (envOfC qual (defScope st) s.heap.objs.size f cdv)) → sp vs H Q E →
      ∃ t, PSs (cxOf (CX1 P w) P w K mg base N qual (defScope st) f cdv A outer s H E) (defBody st) t ∧ t { nx := fun _ H' => Q .non H', rt := Q } (start N vs) H) : FnOk P w K mg base (CX1 P w) (k + 1) f fd ps sp := by
  obtain ⟨oc, od, kV, doc, pm, an, cdv, ct, osl, rfl, lk, hcd⟩ := F.ex
  exact fn_of lk hcd S len fun A outer s H vs Q E hr hsp => hbody cdv A outer s H vs Q E hr hsp
end
section
variable {X : Cx} {k : Nat} {f C : Addr} {fd : FuncData} {ps : List Str} {sp : Sp} {x m : Str} {p pos apos : Pos} {e o : Expr} {es : List Expr} {ta : TE} {t : TA} {W : St → XK}
theorem run_fnW {pins : List (Addr × Obj)} {σ : St} {H : Hp} {s : Shared} {Q : VK} {E : XK} {us : List Value} {vs : List V} (F : FnOk X.prog X.w X.K X.mg X.base (CX1 X.prog X.w) k f fd ps sp) (hr : Room k X.A) (hb : Binds X.K fd ps []) (hx : ∀ e s', CX1 X.prog X.w X.stack H s E e s' → X.xe e s')
    (I : Inv X pins σ H s) (r : Vals vs us) (h : sp vs H Q E) : wpAny (model X.prog X.w) X.A (call (.ref f) us) (EP X pins σ Q) X.xe s := by
  have hl : us.length = ps.length := by rw [← r.length]; exact F.len _ _ _ _ h
  have hb' := hb s us I.kIn (by rw [List.append_nil]; exact hl)
  rw [List.append_nil] at hb'
  refine wpAny_call (codeAny_mono (F.run X.A X.stack s H ⟨us, []⟩ us vs Q E hr I.env0 hb' r h) fun r s' hq => ?_)
  cases r with
  | error e => exact hx e s' hq
  | ok fl =>
    cases fl with
    | ret u => exact I.after hq
    | next => exact False.elim hq
    | brk => exact False.elim hq
    | cont => exact False.elim hq
def tMethW (C : Addr) (m : Str) (sp : Sp) (W : St → XK) (ta : TE) (t : TA) : TE := fun σ H Q => ta σ H fun x H1 => ∃ a dx fs, x = .ref a ∧ H1 a = some (.ins C dx fs) ∧ fs.lookup m = none ∧ t σ H1 fun vs H2 => sp (x :: vs) H2 Q (W σ)
theorem pe_methW {pl : Sem Bool} (he : PE X o ta) (c : Cls X.K C) (hm : Meth X.K C m f) (F : FnOk X.prog X.w X.K X.mg X.base (CX1 X.prog X.w) k f fd ps sp) (hr : Room k X.A) (hb : Binds X.K fd ps []) (hx : PassesW X X.xe W) (ha : PA X (e :: es) t)
    (hst : starEach (e :: es) X.env = (false, eval e X.env) :: starEach es X.env := by rfl) (hpl : (backTo pos (starEach es X.env)).any (·.1) = false := by rfl)
    (ht : eval (.Call (.Attribute o m apos) (e :: es) [] pos) X.env = (do
      let ov ← eval o X.env
      standAt apos.atName
      let (f, first) ← holding [ov] (getMethod ov m pl)
      callWith pos f first (backTo pos (starEach (e :: es) X.env)) (backToKw pos (keywordEach [] X.env))) := by rfl) :
    PE X (.Call (.Attribute o m apos) (e :: es) [] pos) (tMethW C m sp W ta t) := by
  intro pins s σ H Q I h
  refine PySem.W.methodCall_KW (pl := pl) (thn (he pins s σ H _ I h) fun u s1 ⟨x, H1, I1, rx, a, dx, fs, ex, ea, l, q⟩ => ?_) ht
  subst ex
  obtain rfl : u = Value.ref a := rx
  refine getmeth_ok I1 ea c hm l ?_
  refine PySem.W.callWith_K (first := [.ref a]) (h₀ := X.base) I.ok.mod.kin hm.kp (thn (ha pos pins s1 σ H1 _ I1 q) fun us s2 ⟨vs, H2, I2, r, q2⟩ => ⟨I2.kIn, ?_⟩) hst hpl
  exact run_fnW (us := .ref a :: us) (vs := .ref a :: vs) F hr hb (fun e s' hc => hx pins σ H2 s2 e s' I2 hc) I2 (.cons rfl r) q2
end
end L2

set_option Elab.async false
set_option linter.all false
set_option maxRecDepth 100000
namespace L2
open PySem PySem.Spec PyProof.Rows
section
variable {X : Cx}
def repS (x : Str) (n : Int) : Str := if n < 1 then Str.empty else if (n == 1 || x.length == 0) = true then x else ⟨(List.replicate n.toNat x.cps).foldl (· ++ ·) #[]⟩
theorem fold_size (c : Array Nat) : ∀ (m : Nat) (a : Array Nat), ((List.replicate m c).foldl (· ++ ·) a).size = a.size + m * c.size
  | 0, a => by simp
  | m + 1, a => by
    rw [List.replicate_succ, List.foldl_cons, fold_size c m, Array.size_append, Nat.succ_mul]; omega
theorem repS_len (x : Str) (n : Int) : (repS x n).length ≤ x.length * n.toNat := by
  unfold repS
  split
  · exact Nat.zero_le _
  · split
    · rename_i h1 h2
      have : 1 ≤ n.toNat := by omega
      exact Nat.le_mul_of_pos_right _ this
    · show ((List.replicate n.toNat x.cps).foldl (· ++ ·) #[]).size ≤ _
      rw [fold_size, Nat.mul_comm]
      show 0 + x.cps.size * n.toNat ≤ x.cps.size * n.toNat
      omega
theorem op_rep_str : OpR X (binaryOp .Mult) (fun x y H Q => ∃ z n, x = .str z ∧ y = .int n ∧ -1000 ≤ n ∧ n ≤ 1000 ∧ z.length ≤ 1000 ∧ Q (.str (repS z n)) H) := by
  intro pins s σ H x y v u Q I rx ry h
  obtain ⟨z, n, rfl, rfl, h1, h2, h3, q⟩ := h
  obtain ⟨t, rfl⟩ := rx
  obtain ⟨t', rfl⟩ := ry
  have sl := sizeLine_eq
  have hz : z.length * n.toNat ≤ 1000 * 1000 := Nat.mul_le_mul h3 (by omega)
  refine P.mul_str (by simp; omega) (fun a b => ?_) (fun a b => ?_) ?_
  · have h5 : (1000 : Int) ≤ (2 ^ 63 - 1) / n := by
      rw [Int.le_ediv_iff_mul_le (by omega)]
      omega
    omega
  · unfold Builtin.Str.tooLong; simp; omega
  · have fin : ∀ (u : Tok) (tk : Nat), EP X pins σ Q (.str (repS z n) u) { s with toks := tk } := fun u tk => ⟨.str _, H, I.tok _, ⟨_, rfl⟩, q⟩
    have hl := repS_len z n
    unfold repS at fin hl
    split
    · rename_i hn
      rw [if_pos hn] at fin hl
      exact ⟨by omega, fin _ _⟩
    · rename_i hn
      rw [if_neg hn] at fin hl
      split
      · rename_i hb
        rw [if_pos hb] at fin
        exact fin t s.toks
      · rename_i hb
        rw [if_neg hb] at fin hl
        exact ⟨by omega, fin _ _⟩
theorem sl_str : SlR X (fun x lo hi H Q => ∃ z, x = .str z ∧ z.length ≤ sizeLine ∧ Q (.str (PySem.Txt.slice z lo hi)) H) := by
  intro pins s σ H x v vl vu lo hi sl Q I rx hs pl pu h
  obtain ⟨z, rfl, hz, q⟩ := h
  obtain ⟨t, rfl⟩ := rx
  refine ⟨"str", _, F.slot_str_getitem.lookup, typeIs_str _ _ _, ?_⟩
  have fin : ∀ (u : Tok) (tk : Nat), EP X pins σ Q (.str (PySem.Txt.slice z lo hi) u) { s with toks := tk } := fun u tk => ⟨.str _, H, I.tok _, ⟨_, rfl⟩, q⟩
  obtain ⟨o, e1, e2, e3⟩ := hs
  cases pl with
  | none =>
    cases pu with
    | none => exact wpAny_getItem_str_slice (l := none) (u := none) (st := none) ⟨o, e1, e2, e3⟩ rfl (post_val_or_str ⟨Nat.le_trans (PySem.Txt.slice_le z _ _) hz, fun t' k => fin t' k⟩)
    | int j uj => exact wpAny_getItem_str_slice (l := none) (u := some (j, uj)) (st := none) ⟨o, e1, e2, e3⟩ rfl (post_val_or_str ⟨Nat.le_trans (PySem.Txt.slice_le z _ _) hz, fun t' k => fin t' k⟩)
  | int i ui =>
    cases pu with
    | none => exact wpAny_getItem_str_slice (l := some (i, ui)) (u := none) (st := none) ⟨o, e1, e2, e3⟩ rfl (post_val_or_str ⟨Nat.le_trans (PySem.Txt.slice_le z _ _) hz, fun t' k => fin t' k⟩)
    | int j uj => exact wpAny_getItem_str_slice (l := some (i, ui)) (u := some (j, uj)) (st := none) ⟨o, e1, e2, e3⟩ rfl (post_val_or_str ⟨Nat.le_trans (PySem.Txt.slice_le z _ _) hz, fun t' k => fin t' k⟩)
end
end L2

set_option Elab.async false
set_option linter.all false
set_option maxRecDepth 100000
namespace L2
open PySem
section
variable {prog : Program} {w : World} {KT : Type} [DecidableEq KT] {knd : KeyKind prog w KT} {A : Around} {E : Value → Shared → Prop} {s : Shared}
theorem dict_ty {d : Addr} {kvs : List (KT × Value)} {ep : Nat} {h : Heap} (hm : h.DictAt knd d kvs ep) : ∃ o, h.get? d = some o ∧ o.cls = .type "dict" := by
  obtain ⟨o, es, ho, hc, _⟩ := hm
  exact ⟨o, ho, hc.1⟩
theorem extend_dict {R : Result → Shared → Prop} (hh : A.handled = none) (d S : Addr) (res : Value) (c₀ : Nat) (kvs : List (KT × Value)) (ep : Nat) (hd : (d == sysModules) = false) (hm : s.heap.DictAt knd d kvs ep) (hS : s.heap.get? S = some { cls := .type "list", data := .seq #[] c₀ }) (hdS : S ≠ d) (hn : kvs.length ≤ sizeLine)
    (hR : ∀ h' tk acc' c', (∀ b o, b ≠ S → s.heap.get? b = some o → h'.get? b = some o) → h'.get? S = some { cls := .type "list", dict := none, data := .seq acc' c', slots := #[] } →
      ItemsOf (fun i v => ∃ k x, kvs[i]? = some (k, x) ∧ knd.is k v = true) acc' kvs.length → R (.ok (.ret res)) { s with heap := h', toks := tk }) :
    wpAny (model prog w) A.in1 (Builtin.List.listExtendWith (.ref S) (.ref d) res)
      (fun fin s' => match fin with | .done f => R (.ok f) s' | .again c' => c'.quiet = true ∧ codeAny (model prog w) A c' R s') (fun e s' => R (.error e) s') s := by
  obtain ⟨o, ho, hc⟩ := dict_ty hm
  have hlt := Heap.lt_size ho
  have hSI : S ≠ s.heap.objs.size := Nat.ne_of_lt (Heap.lt_size hS)
  have hdI : d ≠ s.heap.objs.size := Nat.ne_of_lt hlt
  have hSf : S ∉ [s.heap.objs.size, d] := fun z => by
    rcases List.mem_cons.mp z with z | z
    · exact hSI z
    · exact hdS (List.mem_singleton.mp z)
  unfold Builtin.List.listExtendWith
  refine wpAny_bind (wpAny_typeOf (T := "dict") (v := .ref d) ⟨o, ho, hc⟩ ?_)
  have h1 : Builtin.List.listSameRef (.ref S) (.ref d) = false := by simp [Builtin.List.listSameRef, hdS]
  have h2 : (Value.type "dict" == Value.type "list") = false := by decide
  have h3 : (Value.type "dict" == Value.type "tuple") = false := by decide
  simp only [h1, h2, h3, Bool.or_false, Bool.false_eq_true, if_false]
  refine wpAny_bind (wpAny_pyIter_dict hd hm ?_)
  refine wpAny_bind (wpAny_holding ?_)
  unfold Builtin.List.listLengthHint
  have ho' : (s.heap.push { cls := .type "dict_keyiterator", data := .fields #[.ref d, .int 0 0, .int kvs.length 0, .int ep 0] }).get? d = some o := Heap.get?_push_of_some _ ho
  refine wpAny_bind (wpAny_specialOf (T := "dict") (v := .ref d) ⟨o, ho', hc⟩ PySem.F.slot_dict_len.lookup ?_)
  wp_delta
  refine wpAny_bind (wpAny_isInstance (T := "dict") (v := .ref d) (b := true) ⟨o, ho', hc⟩ (by rw [isSubtype_type]; kernel_rfl) ?_)
  show wpAny _ _ (typeOf (Value.ref d) >>= _) _ _ _
  refine wpAny_bind (wpAny_typeOf (T := "dict") (v := .ref d) ⟨o, ho', hc⟩ ?_)
  refine wpAny_pure ?_
  rw [if_pos (by decide)]
  show wpAny _ _ (rule "list.extend.makes-room" >>= fun _ => Builtin.List.listTouch (.ref S) >>= fun _ =>
    again (.builtin "list.extend.loop" ⟨[.ref S, .ref s.heap.objs.size, res], []⟩)) _ _ _
  refine wpAny_bind (wpAny_rule ?_)
  generalize hH : s.heap.push { cls := .type "dict_keyiterator", data := .fields #[.ref d, .int 0 0, .int kvs.length 0, .int ep 0] } = H1
  have kp : ∀ b o, s.heap.get? b = some o → H1.get? b = some o := fun b o e => hH ▸ Heap.get?_push_of_some _ e
  have hit : H1.IsKeyIter s.heap.objs.size d 0 kvs.length ep := ⟨_, hH ▸ Heap.get?_push_size _ rfl, rfl, rfl⟩
  have hm1 : H1.DictAt knd d kvs ep := hm.at' fun o e => kp d o e
  have hS₁ := kp _ _ hS
  refine wpAny_bind ?_
  show wpAny _ _ (updateSeq S (·.push .none) >>= fun _ => updateSeq S (·.pop)) _ _ _
  refine wpAny_bind (wpAny_updateSeq hS₁ rfl ?_)
  have hS₂ := Heap.get?_update_self (Obj.mapSeq (·.push Value.none)) hS₁ rfl
  refine wpAny_updateSeq hS₂ rfl ?_
  have hS₃ := Heap.get?_update_self (Obj.mapSeq (·.pop)) hS₂ rfl
  have oth : ∀ b o, b ≠ S → H1.get? b = some o → ((H1.update S (Obj.mapSeq (·.push Value.none))).update S (Obj.mapSeq (·.pop))).get? b = some o :=
    fun b o hb e => (Heap.get?_update_other _ _ (Ne.symm hb)).trans ((Heap.get?_update_other _ _ (Ne.symm hb)).trans e)
  generalize (H1.update S (Obj.mapSeq (·.push Value.none))).update S (Obj.mapSeq (·.pop)) = H2 at hS₃ oth ⊢
  refine wpAny_pure ⟨plainId_quiet PySem.F.plain_extend_loop _, codeAny_extend_loopS (Walks.dictKeys (knd := knd) (A := A.in1) hh s.heap.objs.size d hdI kvs ep).toS hn _ hSf _ kvs.length 0 _ _ _ rfl (Nat.zero_le _) ⟨hit.at fun o e => oth _ o hSI.symm e, hm1.at' fun o e => oth _ o hdS.symm e⟩ hS₃ (ItemsOf.nil _) fun s' acc' c' hmv hS' hacc => ?_⟩
  rw [Moved.eq_with hmv]
  refine hR s'.heap s'.toks acc' c' (fun b ob hb e => hmv.heap b ob (fun hmem => ?_) (oth _ _ hb (kp _ _ e))) hS' hacc
  rcases List.mem_cons.mp hmem with e' | hmem
  · exact hb e'
  · exact absurd (Heap.lt_size e) (by rw [List.mem_singleton.mp hmem]; exact Nat.lt_irrefl _)
theorem code_collect_dict {R : Result → Shared → Prop} (hh : A.handled = none) (d : Addr) (kvs : List (KT × Value)) (ep : Nat) (hd : (d == sysModules) = false) (hm : s.heap.DictAt knd d kvs ep) (hn : kvs.length ≤ sizeLine)
    (hR : ∀ h' tk acc' c', (∀ b o, s.heap.get? b = some o → h'.get? b = some o) → h'.get? s.heap.objs.size = some { cls := .type "list", dict := none, data := .seq acc' c', slots := #[] } →
      ItemsOf (fun i v => ∃ k x, kvs[i]? = some (k, x) ∧ knd.is k v = true) acc' kvs.length → R (.ok (.ret (.ref s.heap.objs.size))) { s with heap := h', toks := tk }) :
    codeAny (model prog w) A (.builtin "proto.collect" ⟨[.ref d], []⟩) R s := by
  obtain ⟨o, ho, _⟩ := dict_ty hm
  refine codeAny_builtin PySem.F.entry_proto_collect ?_
  rw [Around.under_plainId PySem.F.plain_proto_collect _]
  show wpAny _ A.in1 (newList [] >>= fun l => again (.builtin "list.__iadd__" ⟨[l, .ref d], []⟩)) _ _ s
  refine wpAny_bind (wpAny_newObj_type ?_)
  refine wpAny_pure ⟨plainId_quiet PySem.F.plain_list_iadd _, codeAny_builtin PySem.F.entry_list_iadd ?_⟩
  rw [Around.under_plainId PySem.F.plain_list_iadd _]
  show wpAny _ A.in1 (Builtin.List.listExtendWith (.ref s.heap.objs.size) (.ref d) (.ref s.heap.objs.size)) _ _ _
  have hS : (s.heap.push { cls := .type "list", data := .seq ([] : List Value).toArray }).get? s.heap.objs.size = some { cls := .type "list", data := .seq #[] } := Heap.get?_push_size _ rfl
  refine extend_dict (knd := knd) (s := { s with heap := s.heap.push { cls := .type "list", data := .seq ([] : List Value).toArray } }) (R := R) hh d s.heap.objs.size _ _ kvs ep hd (hm.at' fun o e => Heap.get?_push_of_some _ e) hS (Nat.ne_of_lt (Heap.lt_size ho)).symm hn fun h' tk acc' c' hk hS' hacc => ?_
  exact hR h' tk acc' c' (fun b o e => hk b o (Nat.ne_of_lt (Heap.lt_size e)) (Heap.get?_push_of_some _ e)) hS' hacc
theorem collect_dict {Q : List Value → Shared → Prop} (hh : A.handled = none) (d : Addr) (kvs : List (KT × Value)) (ep : Nat) (hd : (d == sysModules) = false) (hm : s.heap.DictAt knd d kvs ep) (hn : kvs.length ≤ sizeLine)
    (hQ : ∀ h' tk acc, (∀ b o, s.heap.get? b = some o → h'.get? b = some o) → s.heap.objs.size < h'.objs.size → ItemsOf (fun i v => ∃ k x, kvs[i]? = some (k, x) ∧ knd.is k v = true) acc kvs.length → Q acc.toList { s with heap := h', toks := tk }) :
    wpAny (model prog w) A (collect (.ref d)) Q E s := by
  unfold collect
  refine wpAny_bind (wpAny_runValue (code_collect_dict (knd := knd) hh d kvs ep hd hm hn fun h' tk acc' c' hk hS' hacc => ?_))
  show wpAny _ A (load s.heap.objs.size >>= _) _ _ _
  refine wpAny_bind (wpAny_load hS' ?_)
  exact wpAny_pure (hQ h' tk acc' hk (Heap.lt_size hS') hacc)
end
end L2

set_option Elab.async false
set_option linter.all false
set_option maxRecDepth 100000
namespace L2
open PySem PySem.Spec PyProof.Rows
theorem strs_vals : ∀ {ss : List Str} {vs : List Value}, Vals (ss.map V.str) vs → StrsAre vs ss
  | [], _, .nil => .nil
  | x :: r, _, .cons rx t => by
    obtain ⟨tk, e⟩ := (show ∃ t, _ = Value.str x t from rx)
    subst e
    exact .cons x tk (strs_vals t)
theorem vals_strsO : ∀ {vs : List Value} {ss : List Str}, StrsAre vs ss → Vals (ss.map V.str) vs
  | _, _, .nil => .nil
  | _, _, .cons x t h => .cons ⟨t, rfl⟩ (vals_strsO h)
theorem strs_len : ∀ {vs : List Value} {ss : List Str}, StrsAre vs ss → vs.length = ss.length
  | _, _, .nil => rfl
  | _, _, .cons x t h => congrArg Nat.succ (strs_len h)
theorem cps_anti {a b : List Nat} (h1 : ltCps a b = false) (h2 : ltCps b a = false) : a = b := by
  rw [ltCps_eq] at h1 h2
  exact List.le_antisymm (show ¬ b < a from of_decide_eq_false h2) (show ¬ a < b from of_decide_eq_false h1)
theorem str_anti {a b : Str} (h1 : ltCps a.cps.toList b.cps.toList = false) (h2 : ltCps b.cps.toList a.cps.toList = false) : a = b := by
  have := cps_anti h1 h2
  obtain ⟨⟨a⟩⟩ := a
  obtain ⟨⟨b⟩⟩ := b
  cases this; rfl
def NotUp (a b : Str) : Prop := ltCps b.cps.toList a.cps.toList = false
theorem notUp_trans {a b c : Str} (h1 : NotUp a b) (h2 : NotUp b c) : NotUp a c := by
  unfold NotUp at *
  rw [ltCps_eq] at *
  exact decide_eq_false (List.le_trans (show ¬ b.cps.toList < a.cps.toList from of_decide_eq_false h1) (show ¬ c.cps.toList < b.cps.toList from of_decide_eq_false h2))
theorem rising_pw : ∀ {l : List Str} {p : Str}, risingS p l = true → (p :: l).Pairwise NotUp
  | [], p, _ => List.pairwise_singleton ..
  | x :: r, p, h => by
    have h' : (!ltCps x.cps.toList p.cps.toList && risingS x r) = true := h
    rw [Bool.and_eq_true] at h'
    have ih := rising_pw h'.2
    have hx : NotUp p x := by
      unfold NotUp
      cases e : ltCps x.cps.toList p.cps.toList with
      | false => rfl
      | true => rw [e] at h'; exact absurd h'.1 (by decide)
    refine List.pairwise_cons.mpr ⟨fun y hy => ?_, ih⟩
    rcases List.mem_cons.mp hy with e | e
    · rw [e]; exact hx
    · exact notUp_trans hx ((List.pairwise_cons.mp ih).1 y e)
theorem sorted_pw {l : List Str} (h : sortedS l = true) : l.Pairwise NotUp := by
  cases l with
  | nil => exact List.Pairwise.nil
  | cons p r => exact rising_pw h
theorem sorted_one {l1 l2 : List Str} (h1 : sortedS l1 = true) (h2 : sortedS l2 = true) (hp : l1.Perm l2) : l1 = l2 :=
  List.Perm.eq_of_pairwise (fun a b _ _ z1 z2 => str_anti z2 z1) (sorted_pw h1) (sorted_pw h2) hp
section
variable {X : Cx}
theorem vals_of_get : ∀ {xs : List V} {us : List Value}, us.length = xs.length → (∀ (i : Nat) x u, xs[i]? = some x → us[i]? = some u → RelV x u) → Vals xs us
  | [], [], _, _ => .nil
  | x :: xs, u :: us, hl, h => .cons (h 0 x u rfl rfl) (vals_of_get (Nat.succ.inj hl) fun i a b e1 e2 => h (i + 1) a b e1 e2)
  | [], _ :: _, hl, _ => by cases hl
  | _ :: _, [], hl, _ => by cases hl
theorem items_keys {P : Program} {w : World} {kvs : List (Key × V)} {vs : List (Key × Value)} {acc : Array Value} (rel : KV kvs vs) (h : ItemsOf (fun i v => ∃ k x, vs[i]? = some (k, x) ∧ (mixKind P w).is k v = true) acc vs.length) : Vals (kvs.map fun kv => kV kv.1) acc.toList := by
  obtain ⟨hs, hi⟩ := h
  have hl : kvs.length = vs.length := rel.length
  refine vals_of_get (by rw [List.length_map, Array.length_toList]; omega) fun i x u e1 e2 => ?_
  rw [Array.getElem?_toList] at e2
  obtain ⟨k, y, h1, h2⟩ := hi i u e2
  rw [List.getElem?_map] at e1
  cases e3 : kvs[i]? with
  | none => rw [e3] at e1; cases e1
  | some kv =>
    rw [e3] at e1; cases e1
    have hk : kv.1 = k := by
      have h3 := congrArg (fun l => l[i]?) rel.keys
      simp only [List.getElem?_map, e3, h1, Option.map_some] at h3
      exact Option.some.inj h3
    show RelV (kV kv.1) u
    rw [hk]; exact kV_rel h2
theorem dict_at {P : Program} {w : World} {h : Heap} {d : Addr} {vs : List (Key × Value)} (x : h.DictOf (mixKind P w) d vs) : ∃ ep, h.DictAt (mixKind P w) d vs ep := by
  obtain ⟨ob, es, ep, e1, e2, e3, e4⟩ := x
  exact ⟨ep, ob, es, e1, e2, e3, e4⟩
theorem call_sortedD (hc : X.calm = true) : CallR X (.builtin "sorted") (fun xs H Q => ∃ (d : Addr) (kvs : List (Key × V)) (ss : List Str), xs = [.ref d] ∧ Rd H d (.dK kvs) ∧ (kvs.map fun kv => kV kv.1) = ss.map V.str ∧ ss.length < 64 ∧ ∀ (l : Addr) (ss' : List Str), H l = none → ss'.Perm ss → sortedS ss' = true → Q (.ref l) (upd H l (.lst (ss'.map V.str)))) := by
  intro pins s σ H xs us Q I r h
  obtain ⟨d, kvs, ss, rfl, hd, hks, h64, q⟩ := h
  obtain ⟨u, rfl, rx⟩ := vals1 r
  cases rx
  obtain ⟨hz, hsm, vs, rel, dof⟩ := dk_rd I.hok hd
  obtain ⟨ep, dd⟩ := dict_at dof
  have hl : kvs.length = vs.length := rel.length
  refine Calls.call_function_entry kind_sorted plain_sorted entry_sorted (args_sorted1 _) ?_
  unfold Builtin.«sorted»
  refine wpAny_bind (m := checkCount "sorted" 1 1 _) (wpAny_pure ?_)
  refine wpAny_bind (collect_dict (A := X.A.in1) (knd := mixKind X.prog X.w) (I.ok.hd hc) d vs ep hsm dd (by omega) fun h' tk acc kp hsz' hi => ?_)
  have hS : StrsAre acc.toList ss := strs_vals (by rw [← hks]; exact items_keys rel hi)
  refine wpAny_bind (wpAny_newList ?_)
  have hoL : (h'.push (seqObj "list" acc.toList.toArray 0)).get? h'.objs.size = some (seqObj "list" acc.toList.toArray 0) := Heap.get?_push_size _ rfl
  have hsz : s.heap.objs.size ≤ h'.objs.size := Nat.le_of_lt hsz'
  refine wpAny_bind (wpAny_holding (wpAny_call_entry slot_list_sort ⟨_, hoL, rfl⟩ entry_list_sort (list_sort_treeK strKind_oneLt hoL hS.keysOf (fun v₁ v₂ rest e => keyKind_strs (by rw [← e]; exact hS)) (by have := strs_len hS; omega) fun st' a1 a2 => ⟨_, rfl, ?_⟩) (args_list_sort _)))
  obtain ⟨ss', b1, b2, b3⟩ := sorted_out_str hS a1 a2
  obtain ⟨e, he⟩ := sortedHeap_at (out := (arrOf st').map (·.2)) hoL
  refine wpAny_pure ⟨_, rfl, .ref h'.objs.size, _, I.laid (a := h'.objs.size) (o := .lst (ss'.map V.str)) (t' := tk) (fun b o eb => ?_) hsz ⟨?_, _, e, vals_strsO b1, he⟩, rfl, q _ ss' (I.hok.fresh hsz) b2 b3⟩
  · have eb' := kp _ _ eb
    have hlt := Heap.lt_size eb'
    rw [sortedHeap_old (Nat.ne_of_lt hlt) (by rw [size_push']; exact Nat.lt_succ_of_lt hlt), Heap.get?_push_ne _ _ _ (Nat.ne_of_lt hlt)]
    exact eb'
  · have := b2.length_eq
    rw [sizeLine_eq, List.length_map]; omega
end
end L2




set_option Elab.async false
set_option linter.all false
set_option maxRecDepth 100000
namespace L2
open PySem PySem.Spec PyProof.Rows
def runT {α : Type} (LT : Nat → Nat → Bool) : PySem.W.KasT α → α
  | .ret a => a
  | .ask i j k => runT LT (k (LT i j))
def GoodT {α : Type} (N : Nat) : PySem.W.KasT α → (α → Prop) → Prop
  | .ret a, P => P a
  | .ask i j k, P => i < N ∧ j < N ∧ ∀ b, GoodT N (k b) P
theorem GoodT.mono {α : Type} {N : Nat} {P P' : α → Prop} (h : ∀ a, P a → P' a) : ∀ {t : PySem.W.KasT α}, GoodT N t P → GoodT N t P'
  | .ret a, g => h a g
  | .ask i j k, g => ⟨g.1, g.2.1, fun b => GoodT.mono h (g.2.2 b)⟩
theorem GoodT.bind {α β : Type} {N : Nat} {P : β → Prop} {f : α → PySem.W.KasT β} : ∀ {t : PySem.W.KasT α}, GoodT N t (fun a => GoodT N (f a) P) → GoodT N (t.bind f) P
  | .ret a, g => g
  | .ask i j k, g => ⟨g.1, g.2.1, fun b => GoodT.bind (t := k b) (g.2.2 b)⟩
theorem GoodT.run {α : Type} {N : Nat} {P : α → Prop} (LT : Nat → Nat → Bool) : ∀ {t : PySem.W.KasT α}, GoodT N t P → P (runT LT t)
  | .ret a, g => g
  | .ask i j k, g => GoodT.run LT (t := k (LT i j)) (g.2.2 (LT i j))
theorem kas_det {α : Type} {cmp : Nat → Nat → (Bool → Shared → Prop) → Shared → Prop} {LT : Nat → Nat → Bool} {s : Shared} {N : Nat} {P : α → Prop} (h : ∀ i j, i < N → j < N → ∀ C : Bool → Shared → Prop, C (LT i j) s → cmp i j C s) {G : α → Shared → Prop} :
    ∀ {t : PySem.W.KasT α}, GoodT N t P → G (runT LT t) s → t.kasWp cmp G s
  | .ret a, _, hG => hG
  | .ask i j k, g, hG => h i j g.1 g.2.1 _ (kas_det h (t := k (LT i j)) (g.2.2 _) hG)
abbrev InN (N : Nat) (p : Array Nat) : Prop := (∀ i ∈ p, i < N) ∧ p.size = N
theorem in_getD {N : Nat} {p : Array Nat} (h : InN N p) (h0 : 0 < N) (k : Nat) : p.getD k 0 < N := by
  unfold Array.getD
  split
  · exact h.1 _ (Array.getElem_mem _)
  · exact h0
theorem in_perm {N : Nat} {p q : Array Nat} (h : InN N p) (e : q.Perm p) (z : q.size = p.size) : InN N q := ⟨fun i hi => h.1 i ((Array.Perm.mem_iff e).mp hi), z.trans h.2⟩
theorem in_rev {N : Nat} {p : Array Nat} (h : InN N p) (i j : Nat) : InN N (PySem.W.kas_rev p i j) := in_perm h (mirror_perm _ _ _ _) (mirror_size _ _ _ _)
theorem in_bub {N : Nat} {p : Array Nat} (h : InN N p) (i j : Nat) : InN N (bubble p i j) := in_perm h (bubble_perm _ _ _) (bubble_size _ _ _)
theorem good_asc {N : Nat} {p : Array Nat} (h : InN N p) (h0 : 0 < N) : ∀ (f n : Nat), GoodT N (PySem.W.kas_asc p f n) (fun _ => True)
  | 0, n => trivial
  | f + 1, n => ⟨in_getD h h0 _, in_getD h h0 _, fun b => by
    cases b with
    | true => exact trivial
    | false => exact good_asc h h0 f (n + 1)⟩
theorem good_desc {N : Nat} (h0 : 0 < N) : ∀ (f : Nat) (p : Array Nat) (n q : Nat), InN N p → GoodT N (PySem.W.kas_desc f p n q) (fun r => InN N r.1)
  | 0, p, n, q, h => h
  | f + 1, p, n, q, h => by
    refine ⟨in_getD h h0 _, in_getD h h0 _, fun b => ?_⟩
    cases b with
    | true =>
      show GoodT N (if q > 0 then _ else _) _
      split
      · exact good_desc h0 f _ _ _ (in_rev h _ _)
      · exact good_desc h0 f _ _ _ h
    | false =>
      refine ⟨in_getD h h0 _, in_getD h h0 _, fun b => ?_⟩
      cases b with
      | true => exact h
      | false => exact good_desc h0 f _ _ _ h
theorem good_tail3 {N : Nat} (h0 : 0 < N) {p : Array Nat} (h : InN N p) (n r : Nat) : GoodT N (PySem.W.kas_tail3 n r p) (fun r => InN N r.2) := by
  unfold PySem.W.kas_tail3
  refine GoodT.bind (GoodT.mono (fun m _ => ?_) (good_asc (in_rev h 0 n) h0 _ _))
  exact in_rev h 0 n
theorem good_descPart {N : Nat} (h0 : 0 < N) {p : Array Nat} (h : InN N p) (n r : Nat) : GoodT N (PySem.W.kas_descPart n r p) (fun r => InN N r.2) := by
  unfold PySem.W.kas_descPart
  refine GoodT.bind (GoodT.mono (fun m hm => ?_) (good_desc h0 _ _ _ _ h))
  split
  · exact good_tail3 h0 (in_rev hm _ _) _ _
  · exact good_tail3 h0 hm _ _
theorem good_count {N : Nat} (h0 : 0 < N) {p : Array Nat} (h : InN N p) (r : Nat) : GoodT N (PySem.W.kas_count r p) (fun r => InN N r.2) := by
  unfold PySem.W.kas_count
  refine GoodT.bind (GoodT.mono (fun n _ => ?_) (good_asc h h0 _ _))
  split
  · exact h
  · split
    · refine ⟨in_getD h h0 _, in_getD h h0 _, fun b => ?_⟩
      cases b with
      | true => exact h
      | false => exact good_descPart h0 (in_rev h _ _) _ _
    · exact good_descPart h0 h _ _
theorem good_place {N : Nat} (h0 : 0 < N) {p : Array Nat} (h : InN N p) (k : Nat) : ∀ (f l r : Nat), GoodT N (PySem.W.kas_place p k f l r) (fun _ => True)
  | 0, l, r => trivial
  | f + 1, l, r => by
    show GoodT N (if l ≥ r then _ else _) _
    split
    · exact trivial
    · refine ⟨in_getD h h0 _, in_getD h h0 _, fun b => ?_⟩
      cases b with
      | true => exact good_place h0 h k f _ _
      | false => exact good_place h0 h k f _ _
theorem good_bin {N : Nat} (h0 : 0 < N) : ∀ (f : Nat) (p : Array Nat) (k : Nat), InN N p → GoodT N (PySem.W.kas_bin f p k) (InN N)
  | 0, p, k, h => h
  | f + 1, p, k, h => GoodT.bind (GoodT.mono (fun l _ => good_bin h0 f _ _ (in_bub h _ _)) (good_place h0 h k _ _ _))
theorem good_sort {N : Nat} (h0 : 0 < N) : GoodT N (PySem.W.kas_sort N) (InN N) := by
  have h : InN N (List.toArray (List.range N)) := ⟨fun i hi => by simpa using hi, by simp⟩
  unfold PySem.W.kas_sort
  refine GoodT.bind (GoodT.mono (fun r hr => ?_) (good_count h0 h N))
  split
  · exact good_bin h0 _ _ _ hr
  · exact hr
def sortIx (nss : List (List Int)) : List Nat :=
  if nss.length < 2 then List.range nss.length else (runT (fun i j => HT.lexLt (nss.getD i []) (nss.getD j [])) (PySem.W.kas_sort nss.length)).toList
theorem sortIx_lt (nss : List (List Int)) : ∀ i ∈ sortIx nss, i < nss.length := fun i hi => by
  unfold sortIx at hi
  split at hi
  · simpa using hi
  · exact (GoodT.run _ (good_sort (N := nss.length) (by omega))).1 i (by simpa using hi)
theorem sortIx_len (nss : List (List Int)) : (sortIx nss).length = nss.length := by
  unfold sortIx
  split
  · rw [List.length_range]
  · rw [Array.length_toList]; exact (GoodT.run _ (good_sort (N := nss.length) (by omega))).2
end L2
namespace HT
open PySem PyProof.Rows
open PySem.SeqAt
open PySem.AutoSeq1 (wpAny_loadPart')
open PySem.MeetsSeq PySem.MeetsSeq2 PySem.MeetsSeq3
theorem ints_at : ∀ {vs : List Value} {ns : List Int}, IntsAre vs ns → ∀ {i : Nat}, i < ns.length → ∃ n t r, vs[i]? = some (.int n t) ∧ ns.drop i = n :: r ∧ r = ns.drop (i + 1)
  | _, _, .nil, i, h => by simp at h
  | _, _, .cons n t r, 0, _ => ⟨n, t, _, rfl, rfl, rfl⟩
  | _, _, .cons n t r, i + 1, h => by
    obtain ⟨m, u, q, h1, h2, h3⟩ := ints_at r (i := i) (by simpa using h)
    exact ⟨m, u, q, by simpa using h1, by simpa using h2, by simpa using h3⟩
theorem lt_loopAt (l b : Addr) (items items2 : Array Value) (n n2 : Nat) (dd dd2 : Option Addr) (sl sl2 : Array (Option Value)) (ns ms : List Int) (hi : IntsAre items.toList ns) (hj : IntsAre items2.toList ms) (hsz : ns.length = ms.length) (k : Nat) :
    ∀ i : Nat, items.size - i = k → Meets (Builtin.«list.__eq__.loop» ⟨[.ref l, .ref b, rawInt i, rawInt 0], []⟩)
      (fun _ R s => s.heap.get? l = some { cls := .type "list", dict := dd, data := .seq items n, slots := sl } ∧ s.heap.get? b = some { cls := .type "list", dict := dd2, data := .seq items2 n2, slots := sl2 } ∧
        R (.ok (.ret (.bool (lexLt (ns.drop i) (ms.drop i))))) s) := by
  have z1 : items.size = ns.length := by rw [← hi.length]; simp
  have z2 : items2.size = ms.length := by rw [← hj.length]; simp
  induction k with
  | zero =>
    intro i hk prog w A R s h
    obtain ⟨hp, g, d, tk, os⟩ := s; obtain ⟨hl, hb, h⟩ := h
    wp_walk using wpAny_loadPart' hl, wpAny_loadPart' hb
    have hi1 : items[((i : Nat) : Int).toNat]? = none := by simp; omega
    have hi2 : items2[((i : Nat) : Int).toNat]? = none := by simp; omega
    rw [List.drop_eq_nil_of_le (by omega), List.drop_eq_nil_of_le (by omega)] at h
    rw [hi1, hi2]
    wp_walk using wpAny_loadPart' hl, wpAny_loadPart' hb
    show R (.ok (.ret (.bool (decide (items.size < items2.size))))) _
    rw [decide_eq_false (by omega)]
    exact h
  | succ k ih =>
    intro i hk prog w A R s h
    obtain ⟨hp, g, d, tk, os⟩ := s; obtain ⟨hl, hb, h⟩ := h
    wp_walk using wpAny_loadPart' hl, wpAny_loadPart' hb
    obtain ⟨a, t, r, ha, hd1, hr1⟩ := ints_at hi (i := i) (by omega)
    obtain ⟨c, u, q, hc, hd2, hr2⟩ := ints_at hj (i := i) (by omega)
    have hi1 : items[((i : Nat) : Int).toNat]? = some (.int a t) := by rw [Int.toNat_natCast, ← Array.getElem?_toList]; exact ha
    have hi2 : items2[((i : Nat) : Int).toNat]? = some (.int c u) := by rw [Int.toNat_natCast, ← Array.getElem?_toList]; exact hc
    have hcc : ((i : Int) + 1) = ((i + 1 : Nat) : Int) := by push_cast; rfl
    rw [hd1, hd2, lexLt_cons, hr1, hr2] at h
    rw [hi1, hi2]
    obtain ⟨e, he, hiff⟩ := eqAt_int A.in1 ⟨hp, g, d, tk, os⟩ a t c u
    refine wpAny_bind (he prog w _ _ ?_)
    cases e with
    | true =>
      rw [if_pos (hiff.mp rfl)] at h
      wp_walk
      rw [hcc]
      exact ⟨plainId_quiet plain_eq_loop _, codeAny_builtin entry_eq_loop (by
        rw [Around.under_plainId plain_eq_loop _]
        exact ih (i + 1) (by omega) prog w A R _ ⟨hl, hb, h⟩)⟩
    | false =>
      rw [if_neg (fun q => absurd (hiff.mpr q) Bool.false_ne_true)] at h
      have hri := rcLt_int A.in1 ⟨hp, g, d, tk, os⟩ a t c u prog w
      wp_walk using wpAny_loadPart' hl, wpAny_loadPart' hb
      rw [hi1, hi2]
      wp_walk using hri
      exact h
theorem list_ltAt (l b : Addr) (items items2 : Array Value) (n n2 : Nat) (dd dd2 : Option Addr) (sl sl2 : Array (Option Value)) (ns ms : List Int) (hi : IntsAre items.toList ns) (hj : IntsAre items2.toList ms) (hsz : ns.length = ms.length) :
    Meets (Builtin.«list.__lt__» ⟨[.ref l, .ref b], []⟩)
      (fun _ R s => s.heap.get? l = some { cls := .type "list", dict := dd, data := .seq items n, slots := sl } ∧ s.heap.get? b = some { cls := .type "list", dict := dd2, data := .seq items2 n2, slots := sl2 } ∧
        R (.ok (.ret (.bool (lexLt ns ms)))) s) := by
  intro prog w A R s h
  obtain ⟨hp, g, d, tk, os⟩ := s; obtain ⟨hl, hb, h⟩ := h
  have f3 := AutoSeq1.sub_list_list
  wp_walk using wpAny_loadPart' hl, wpAny_loadPart' hb
  exact ⟨plainId_quiet plain_eq_loop _, codeAny_builtin entry_eq_loop (by
    rw [Around.under_plainId plain_eq_loop _]
    exact lt_loopAt l b items items2 n n2 dd dd2 sl sl2 ns ms hi hj hsz _ 0 rfl prog w A R _ ⟨hl, hb, by simpa using h⟩)⟩
end HT
namespace L2
open PySem PySem.Spec PyProof.Rows
section
variable {prog : Program} {w : World} {A : Around} {E : Value → Shared → Prop} {s : Shared}
def LstAt (h : Heap) (v : Value) (ns : List Int) : Prop := ∃ a o xs n, v = .ref a ∧ h.get? a = some o ∧ o.cls = .type "list" ∧ o.data = .seq xs n ∧ IntsAre xs.toList ns
theorem LstAt.keep {h h' : Heap} {v : Value} {k : List Int} (f : LstAt h v k) (hk : ∀ b o, h.get? b = some o → h'.get? b = some o) : LstAt h' v k := by
  obtain ⟨a, o, xs, n, e, ho, r⟩ := f
  exact ⟨a, o, xs, n, e, hk _ _ ho, r⟩
theorem lst_lt {x y : Value} {ns ms : List Int} {Q : Bool → Shared → Prop} (hx : LstAt s.heap x ns) (hy : LstAt s.heap y ms) (hsz : ns.length = ms.length) (hu : A.units < cLine) (h : Q (HT.lexLt ns ms) s) : wpAny (model prog w) A (keyLt' oneType' x y) Q E s := by
  obtain ⟨a, ⟨cls, dd, data, sl⟩, xs, n, rfl, ho, hc, hd, hf⟩ := hx
  obtain ⟨b, ⟨cls2, dd2, data2, sl2⟩, ys, m, rfl, ho', hc', hd', hf'⟩ := hy
  simp only at hc hd hc' hd'
  subst hc hd hc' hd'
  rw [keyLt'_oneType, oneLt'_eq]
  simp only [if_true]
  refine wpAny_bind (wpAny_cRoomFor hu ?_)
  refine wpAny_bind (wpAny_callSpecialIfBound?_slot (T := "list") ⟨_, ho, rfl⟩ PySem.F.slot_list_lt (call_meets PySem.F.slot_list_lt ⟨_, ho, rfl⟩ PySem.F.entry_list_lt (PySem.F.args_list_lt_2 _ _) (HT.list_ltAt a b xs ys n m dd dd2 sl sl2 ns ms hf hf' hsz) ⟨ho, ho', ?_⟩))
  exact wpAny_truthy_bool h
theorem paired_at0 {α β : Type} {R : α → β → Prop} : ∀ {as : List α} {bs : List β}, Paired R as bs → ∀ {i : Nat} {x : α}, as[i]? = some x → ∃ y, bs[i]? = some y ∧ R x y
  | _, _, .nil, i, x, h => by simp at h
  | _, _, .cons r t, 0, x, h => by simp at h; subst h; exact ⟨_, rfl, r⟩
  | _, _, .cons r t, i + 1, x, h => by
    obtain ⟨o, h1, h2⟩ := paired_at0 t (i := i) (x := x) (by simpa using h)
    exact ⟨o, by simpa using h1, h2⟩
theorem prd_and {α β : Type} {R : α → β → Prop} {Q : α → Prop} : ∀ {as : List α} {bs : List β}, Paired R as bs → (∀ a ∈ as, Q a) → Paired (fun a b => R a b ∧ Q a) as bs
  | _, _, .nil, _ => .nil
  | _, _, .cons r t, h => .cons ⟨r, h _ List.mem_cons_self⟩ (prd_and t fun a ha => h a (List.mem_cons_of_mem _ ha))
theorem lst_getD {h : Heap} : ∀ {vs : List Value} {ks : List (List Int)} {i : Nat}, Paired (LstAt h) vs ks → i < vs.length → LstAt h (vs.getD i Value.none) (ks.getD i [])
  | _, _, i, .nil, hi => by simp at hi
  | _, _, 0, .cons r t, _ => r
  | _, _, i + 1, .cons r t, hi => by
    rw [List.getD_cons_succ, List.getD_cons_succ]
    exact lst_getD t (by simpa using hi)
theorem getD_mem {ks : List (List Int)} {i : Nat} (h : i < ks.length) : ks.getD i [] ∈ ks := by
  rw [List.getD_eq_getElem?_getD, List.getElem?_eq_getElem h]; exact List.getElem_mem h
theorem map_range (vs : List Value) : (List.range vs.length).map (fun i => vs.getD i Value.none) = vs := by
  refine List.ext_getElem (by simp) fun i h1 h2 => ?_
  simp [h2]
theorem list_sort_treeG {a : Addr} {vs rs : List Value} {ks : List (List Int)} {n : Nat} {P : Fin → Shared → Prop} (ho : s.heap.get? a = some (seqObj "list" vs.toArray n))
    (hK : Paired (LstAt s.heap) vs ks) (ap : ∀ v ∈ vs, v ≠ .ref a) (h16 : ∀ k ∈ ks, k.length = 16) (hu : A.units < cLine) (hs : rs = (sortIx ks).map fun i => vs.getD i Value.none) (h64 : vs.length < 64)
    (h : P (.done (.ret .none)) { s with heap := sortedHeap s.heap a vs rs.toArray }) :
    wpAny (model prog w) A (Builtin.«list.sort» ⟨[.ref a], []⟩) P E s := by
  rw [list_sort_plain]
  have ha : a < s.heap.objs.size := Heap.lt_size ho
  refine wpAny_bind (listItems_at ho rfl ?_)
  refine wpAny_bind (listUpdate_at ho rfl ?_)
  obtain ⟨e1, ho1⟩ : ∃ e1, (s.heap.update a (Obj.mapSeq fun _ => #[])).get? a = some (seqObj "list" #[] e1) := ⟨_, get?_update_seq ho (fun _ => #[])⟩
  refine wpAny_bind (seqEpoch_at ho1 rfl ?_)
  refine wpAny_bind (wpAny_newTuple ?_)
  refine wpAny_bind (wpAny_newList ?_)
  refine wpAny_holding ?_
  have ho6 : (((s.heap.update a (Obj.mapSeq fun _ => #[])).push (seqObj "tuple" vs.toArray 0)).push (seqObj "list" #[] 0)).get? a = some (seqObj "list" #[] e1) := by
    rw [Heap.get?_push_ne _ _ _ (by rw [size_push', Heap.size_update]; exact Nat.ne_of_lt (Nat.lt_succ_of_lt ha)), Heap.get?_push_ne _ _ _ (by rw [Heap.size_update]; exact Nat.ne_of_lt ha)]
    exact ho1
  show wpAny (model prog w) A _ P E { s with heap := ((s.heap.update a (Obj.mapSeq fun _ => #[])).push (seqObj "tuple" vs.toArray 0)).push (seqObj "list" #[] 0) }
  dsimp only
  have hsz : vs.toArray.size = vs.length := by simp
  have lrs : rs.length = vs.length := by
    rw [hs, List.length_map, sortIx_len]
    exact hK.length.symm
  have keep : ∀ b o, s.heap.get? b = some o → b ≠ a → (((s.heap.update a (Obj.mapSeq fun _ => #[])).push (seqObj "tuple" vs.toArray 0)).push (seqObj "list" #[] 0)).get? b = some o := fun b o q hb => by
    have hlt : b < s.heap.objs.size := Heap.lt_size q
    rw [Heap.get?_push_ne _ _ _ (by rw [size_push', Heap.size_update]; exact Nat.ne_of_lt (Nat.lt_succ_of_lt hlt)), Heap.get?_push_ne _ _ _ (by rw [Heap.size_update]; exact Nat.ne_of_lt hlt), Heap.get?_update_ne _ _ _ _ hb]
    exact q
  have hK6 : Paired (LstAt (((s.heap.update a (Obj.mapSeq fun _ => #[])).push (seqObj "tuple" vs.toArray 0)).push (seqObj "list" #[] 0))) vs ks := Paired.mapP (prd_and hK ap) fun v k f => by
    obtain ⟨⟨b, o, xs, n', e, hb, hc, r⟩, hne⟩ := f
    exact ⟨b, o, xs, n', e, keep b o hb fun z => hne (by rw [e, z]), hc, r⟩
  by_cases h2 : vs.toArray.size < 2
  · rw [if_pos h2, if_pos h2]
    refine wpAny_bind (wpAny_pure ?_)
    rw [StateT.run_pure]
    refine wpAny_bind (wpAny_pure ?_)
    dsimp only
    refine wpAny_bind (seqEpoch_at ho6 rfl ?_)
    refine wpAny_bind (listUpdate_at ho6 rfl ?_ (hsz2 := by rw [Array.size_map]; show (pairsOf vs).size ≤ _; rw [pairsOf_size, sizeLine_eq]; omega))
    simp only [bne_self_eq_false, Bool.false_eq_true, if_false]
    refine wpAny_pure ?_
    have e : (arrOf (SortSt.mk' general' (vs.toArray.zip vs.toArray) #[] 7 none)).map (·.2) = vs.toArray := by
      show (vs.toArray.zip vs.toArray).map (·.2) = vs.toArray
      apply Array.toList_inj.mp
      rw [Array.toList_map, Array.toList_zip]
      exact List.map_snd_zip (Nat.le_refl _)
    rw [e]
    have e2 : rs = vs := by
      rw [hs]
      unfold sortIx
      rw [if_pos (by have := hK.length; omega), ← hK.length]
      exact map_range vs
    rw [← e2]; rw [← e2] at h
    exact h
  · rw [if_neg h2, if_neg h2]
    refine wpAny_bind (PySem.W.kas_kind (T := .type "list") (by omega) (fun v hv => by
      obtain ⟨i, hi⟩ := List.getElem?_of_mem hv
      obtain ⟨k, _, b, o, xs, n', e, hb, hc, r⟩ := paired_at0 hK6 hi
      rw [e]
      exact fun A Q E s kk q => wpAny_typeOf ⟨o, kk _ _ hb, hc⟩ q) (by decide) (by rfl) ?_)
    obtain ⟨s6, hs6⟩ : ∃ u, { s with heap := ((s.heap.update a (Obj.mapSeq fun _ => #[])).push (seqObj "tuple" vs.toArray 0)).push (seqObj "list" #[] 0) } = u := ⟨_, rfl⟩
    have e6 : s6.heap = ((s.heap.update a (Obj.mapSeq fun _ => #[])).push (seqObj "tuple" vs.toArray 0)).push (seqObj "list" #[] 0) := by rw [← hs6]
    have hlk : vs.length = ks.length := hK.length
    have ask : (PySem.W.kas_sort vs.length).kasWp (PySem.W.kas_ask prog w A oneType' vs) (fun p s' => p.toList.map (fun i => vs.getD i Value.none) = rs ∧ s' = s6) s6 := by
      rw [← e6] at hK6
      have e1 : runT (fun i j => HT.lexLt (ks.getD i []) (ks.getD j [])) (PySem.W.kas_sort vs.length) = List.toArray (sortIx ks) := by
        unfold sortIx
        rw [if_neg (by omega), ← hlk]
      refine kas_det (N := vs.length) (LT := fun i j => HT.lexLt (ks.getD i []) (ks.getD j [])) (P := InN vs.length) (fun i j hi hj C hC => ?_) (good_sort (by omega)) ?_
      · unfold PySem.W.kas_ask
        have g1 := lst_getD hK6 hi
        have g2 := lst_getD hK6 hj
        refine lst_lt g1 g2 ?_ hu hC
        rw [h16 _ (getD_mem (by omega)), h16 _ (getD_mem (by omega))]
      · rw [e1]
        exact ⟨by rw [List.toList_toArray, hs], rfl⟩
    have run := PySem.W.kat_run (E := E) (ks := vs) (vs := vs) (κ := oneType') (Q := fun st' s' => (arrOf st').map (·.2) = rs.toArray ∧ failedOf st' = none ∧ s' = s6) rfl (by omega) h64 (fun p st' s' hp har hfl hG => ⟨by
      rw [PySem.W.kat_snds rfl har, hG.1], hfl, hG.2⟩) ask
    rw [hs6]
    refine wpAny_bind (wpAny_mono run ?_ fun _ _ e => e)
    rw [← e6] at ho6
    · rintro ⟨⟨⟩, st'⟩ s' ⟨e, hf, rfl⟩
      dsimp only at e hf ⊢
      rw [← hs6] at ho6 ⊢
      refine wpAny_bind (seqEpoch_at ho6 rfl ?_)
      refine wpAny_bind (listUpdate_at ho6 rfl ?_ (hsz2 := by rw [e, sizeLine_eq]; simp; omega))
      rw [hf]
      simp only [bne_self_eq_false, Bool.false_eq_true, if_false]
      refine wpAny_pure ?_
      rw [e]
      exact h
theorem sorted_lsts {l : Addr} {vs rs : List Value} {ks : List (List Int)} {Q : Value → Shared → Prop} (hl : s.heap.IsList l vs.toArray) (hK : Paired (LstAt s.heap) vs ks) (h16 : ∀ k ∈ ks, k.length = 16) (hu : A.units + 64 < cLine) (hs : rs = (sortIx ks).map fun i => vs.getD i Value.none) (h64 : vs.length < 64)
    (h : Q (.ref (s.heap.objs.size + 1)) { s with heap := sortedAll s.heap vs rs.toArray }) :
    wpAny (model prog w) A (call (.builtin "sorted") [.ref l]) Q E s := by
  refine Calls.call_function_entry kind_sorted plain_sorted entry_sorted (args_sorted1 _) ?_
  unfold Builtin.«sorted»
  refine wpAny_bind (m := checkCount "sorted" 1 1 _) (wpAny_pure ?_)
  refine wpAny_bind (collect_list hl ?_)
  refine wpAny_bind (wpAny_newList ?_)
  have hsz : ((s.heap.push (seqObj "list" #[] 0)).update s.heap.objs.size (Obj.mapSeq (· ++ vs.toArray))).objs.size = s.heap.objs.size + 1 := by
    rw [Heap.size_update, size_push']
  have hoL : (((s.heap.push (seqObj "list" #[] 0)).update s.heap.objs.size (Obj.mapSeq (· ++ vs.toArray))).push (seqObj "list" vs.toArray 0)).get? (s.heap.objs.size + 1) = some (seqObj "list" vs.toArray 0) := by
    rw [← hsz]; exact Heap.get?_push_size _ rfl
  have keep : ∀ b o, s.heap.get? b = some o → (((s.heap.push (seqObj "list" #[] 0)).update s.heap.objs.size (Obj.mapSeq (· ++ vs.toArray))).push (seqObj "list" vs.toArray 0)).get? b = some o := fun b o q => by
    have hlt : b < s.heap.objs.size := Heap.lt_size q
    rw [Heap.get?_push_ne _ _ _ (by rw [hsz]; exact Nat.ne_of_lt (Nat.lt_succ_of_lt hlt)), Heap.get?_update_ne _ _ _ _ (Nat.ne_of_lt hlt), Heap.get?_push_ne _ _ _ (Nat.ne_of_lt hlt)]
    exact q
  have apv : ∀ v ∈ vs, v ≠ .ref (s.heap.objs.size + 1) := fun v hv e => by
    obtain ⟨i, hi⟩ := List.getElem?_of_mem hv
    obtain ⟨k, _, b, o, xs, n', e', hb, _⟩ := paired_at0 hK hi
    rw [e] at e'
    cases e'
    exact absurd (Heap.lt_size hb) (Nat.not_lt.mpr (Nat.le_succ _))
  show wpAny _ _ _ _ _ { s with heap := ((s.heap.push (seqObj "list" #[] 0)).update s.heap.objs.size (Obj.mapSeq (· ++ vs.toArray))).push (seqObj "list" vs.toArray 0) }
  rw [hsz]
  refine wpAny_bind (wpAny_holding (wpAny_call_entry slot_list_sort ⟨_, hoL, rfl⟩ entry_list_sort (list_sort_treeG hoL (Paired.mapP hK fun v k f => f.keep keep) apv h16 (by show A.units + 1 + 1 < cLine; omega) hs h64 ⟨_, rfl, ?_⟩) (args_list_sort _)))
  exact wpAny_pure ⟨_, rfl, h⟩
end
section
variable {X : Cx}
theorem vals_pick {us : List V} {its : List Value} (r : Vals us its) : ∀ {l : List Nat}, (∀ i ∈ l, i < us.length) → Vals (l.map fun i => us.getD i .non) (l.map fun i => its.getD i Value.none)
  | [], _ => .nil
  | i :: l, h => by
    have hi := h i List.mem_cons_self
    have e : us[i]? = some (us.getD i .non) := by rw [List.getD_eq_getElem?_getD, List.getElem?_eq_getElem hi]; rfl
    obtain ⟨w, hw, rw'⟩ := r.get e
    refine .cons ?_ (vals_pick r fun j hj => h j (List.mem_cons_of_mem _ hj))
    show RelV (us.getD i .non) (its.getD i Value.none)
    rw [show its.getD i Value.none = w by rw [List.getD_eq_getElem?_getD, hw]; rfl]
    exact rw'
theorem call_sortedG {K : PySem.W.Frag} (hu : X.A.units + 64 < cLine) (hX : X.K = K := by rfl) : CallR X (.builtin "sorted") (fun xs H Q => ∃ (p : Addr) (us : List V) (nss : List (List Int)), xs = [.ref p] ∧ SqL K H p us ∧ Paired (fun v ns => ∃ b, v = .ref b ∧ H b = some (.lst (ns.map V.int))) us nss ∧ (∀ ns ∈ nss, ns.length = 16) ∧ us.length < 64 ∧ ∀ (l : Addr), H l = none → Q (.ref l) (upd H l (.lst ((sortIx nss).map fun i => us.getD i .non)))) := by
  subst hX
  intro pins s σ H xs us Q I r h
  obtain ⟨p, us', ks, rfl, hq, hp, h16, h64, q⟩ := h
  obtain ⟨u, rfl, rx⟩ := vals1 r
  cases rx
  obtain ⟨its, r', pl, hz⟩ := I.list hq
  have hl : us'.length = its.length := r'.length
  have hlk : us'.length = ks.length := hp.length
  have hK : Paired (LstAt s.heap) its ks := by
    clear pl hq q hz h64 hl h16 hlk
    induction r' generalizing ks with
    | nil => cases hp; exact .nil
    | cons rv rt ih =>
      cases hp with
      | cons e et =>
        obtain ⟨b, rfl, eb⟩ := e
        cases rv
        obtain ⟨its2, rr, ht, _⟩ := I.list (SqL.of (K := X.K) eb)
        obtain ⟨o, ho, hc, n, hd⟩ := ht.isList
        exact .cons ⟨b, o, _, n, rfl, ho, hc, hd, by simpa using intsAre_of rr⟩ (ih _ et)
  have lr : ((sortIx ks).map fun i => us'.getD i .non).length = us'.length := by rw [List.length_map, sortIx_len]; omega
  have rr := vals_pick r' (l := sortIx ks) fun i hi => by have := sortIx_lt ks i hi; omega
  refine sorted_lsts pl.isList hK h16 (by omega) rfl (by omega) ?_
  obtain ⟨e, he⟩ := sortedAll_at s.heap its ((sortIx ks).map fun i => its.getD i Value.none).toArray
  refine ⟨.ref (s.heap.objs.size + 1), _, I.laid (a := s.heap.objs.size + 1) (o := .lst ((sortIx ks).map fun i => us'.getD i .non)) (t' := s.toks) (fun b o => sortedAll_old) (Nat.le_succ _) ⟨by omega, _, e, rr, he⟩, rfl, q _ (I.hok.fresh (Nat.le_succ _))⟩
end
end L2

set_option Elab.async false
set_option linter.all false
set_option maxRecDepth 100000
set_option maxHeartbeats 4000000
namespace K79
open PySem L2
def top (i : Nat) : Stmt := PySem.Challenge.pw_gatetown_k79_floors_apart.main.body.getD i (.Pass ⟨0, 0, 0, 0⟩)
abbrev s_blocks_for : Stmt := top 6
abbrev s_Floor___init__ : Stmt := inClass (top 7) 0
abbrev s_Floor_look_for : Stmt := inClass (top 7) 1
abbrev s_Floor_free_blocks : Stmt := inClass (top 7) 2
abbrev s_Floor_keep : Stmt := inClass (top 7) 3
abbrev s_Floor_drop : Stmt := inClass (top 7) 4
abbrev s_Floor_words_of : Stmt := inClass (top 7) 5
abbrev s_Floor_names : Stmt := inClass (top 7) 6
abbrev s_Floor_free : Stmt := inClass (top 7) 7
abbrev s_Floor_blocks_of : Stmt := inClass (top 7) 8
abbrev s_Floor_block : Stmt := inClass (top 7) 9
abbrev s_law_cell : Stmt := top 9
abbrev s_law_mixed : Stmt := top 10
abbrev s_law_parts : Stmt := top 11
abbrev s_law_names : Stmt := top 12
abbrev s_law_filled : Stmt := top 13
abbrev s_law_change : Stmt := top 16
abbrev s_law_deed : Stmt := top 19
abbrev s_law_all : Stmt := top 20
abbrev s_law_spoil : Stmt := top 21
abbrev s_law : Stmt := top 22
structure NetD where
  ins : Int
  keeps : Int
  gates : List (Int × Int)
  nexts : List Int
  outs : List Int
def GateAt (H : Hp) (v : V) (p : Int × Int) : Prop := ∃ q, v = .ref q ∧ H q = some (.tup [.int p.1, .int p.2])
structure NetAt (H : Hp) (v : V) (N : NetD) : Prop where
  ex : ∃ (p g n o : Addr) (gs : List V), v = .ref p ∧ H p = some (.tup [.int N.ins, .int N.keeps, .ref g, .ref n, .ref o]) ∧ H g = some (.lst gs) ∧ Paired (GateAt H) gs N.gates ∧
    H n = some (.lst (N.nexts.map V.int)) ∧ H o = some (.lst (N.outs.map V.int))
  sm : N.gates.length ≤ 1000 ∧ N.nexts.length ≤ 1000 ∧ N.outs.length ≤ 1000
theorem map_int_get {ns : List Int} {i : Nat} {x : V} (h : (ns.map V.int)[i]? = some x) : ∃ n, ns[i]? = some n ∧ x = .int n := by
  rw [List.getElem?_map] at h
  cases e : ns[i]? with
  | none => rw [e] at h; cases h
  | some n => rw [e] at h; exact ⟨n, rfl, (Option.some.inj h).symm⟩

structure Fn (K : PySem.W.Frag) (mg : Str → Option Value) (x : Str) (st : Stmt) (ps : List Str) (a : Addr) (fd : FuncData) : Prop where
  F : Fun K x x st a fd
  m : mg x = some (.ref a)
  b : Binds K fd ps []
structure Bt (mg : Str → Option Value) : Prop where
  b_len : mg "len" = none
  b_range : mg "range" = none
  b_list : mg "list" = none
  b_isinstance : mg "isinstance" = none
  b_int : mg "int" = none
  b_bool : mg "bool" = none
  b_enumerate : mg "enumerate" = none
  b_all : mg "all" = none
  b_abs : mg "abs" = none
  b_max : mg "max" = none
  b_min : mg "min" = none
  b_sorted : mg "sorted" = none
structure Ct (K : PySem.W.Frag) (mg : Str → Option Value) : Prop where
  k_BLOCK : ∃ tk, mg "BLOCK" = some (.int 16 tk)
theorem cmul_l {i j : Int} (h1 : -18446744073709551616 < i) (h2 : i < 18446744073709551616) : CMul i j := .inl ⟨by omega, by omega⟩
theorem cmul_r {i j : Int} (h1 : -18446744073709551616 < j) (h2 : j < 18446744073709551616) : CMul i j := .inr ⟨by omega, by omega⟩
theorem cpow_of {i j : Int} (h0 : 0 ≤ j) (h1 : j ≤ 1000000) (h2 : -18446744073709551616 < i) (h3 : i < 18446744073709551616) : CPow i j := ⟨h0, h1, by omega⟩
theorem atI_ix {ns : List Int} {i : Int} (h0 : 0 ≤ i) (h1 : i < (ns.map V.int).length) : ∃ n, n ∈ ns ∧ atI (ns.map V.int) i = some (.int n) := by
  rw [List.length_map] at h1
  have hj : i.toNat < ns.length := by omega
  refine ⟨ns[i.toNat], List.getElem_mem hj, ?_⟩
  have := atI_nat (xs := ns.map V.int) (j := i.toNat) (v := .int ns[i.toNat]) (by rw [List.getElem?_map, List.getElem?_eq_getElem hj]; rfl)
  rw [Int.toNat_of_nonneg h0] at this
  exact this
theorem atI_mem {α : Type} {xs : List α} {i : Int} (h0 : 0 ≤ i) (h1 : i < xs.length) : ∃ v, v ∈ xs ∧ atI xs i = some v := by
  have hj : i.toNat < xs.length := by omega
  refine ⟨xs[i.toNat], List.getElem_mem hj, ?_⟩
  have := atI_nat (xs := xs) (j := i.toNat) (v := xs[i.toNat]) (List.getElem?_eq_getElem hj)
  rw [Int.toNat_of_nonneg h0] at this
  exact this
structure Small (N : NetD) : Prop where
  g : N.gates.length ≤ 900
  n : N.nexts.length ≤ 100
  o : N.outs.length ≤ 100
  i : N.ins ≤ 100
theorem sIx_pos (n d : Nat) (k : Int) (h0 : 0 ≤ k) : HT.sIx n d (some k) = min k.toNat n := by
  show (if k < 0 then _ else _) = _
  rw [if_neg (by omega)]
theorem cutV_map {α : Type} (f : α → V) (xs : List α) (lo hi : Option Int) : cutV (xs.map f) lo hi = ((xs.drop (HT.sIx xs.length 0 lo)).take (HT.sIx xs.length xs.length hi - HT.sIx xs.length 0 lo)).map f := by
  unfold cutV
  rw [List.length_map, List.map_take, List.map_drop]
theorem cutV_to {α : Type} (f : α → V) (xs : List α) (k : Int) (h0 : 0 ≤ k) (h1 : k ≤ xs.length) : cutV (xs.map f) none (some k) = (xs.take k.toNat).map f := by
  rw [cutV_map, sIx_pos _ _ _ h0, HT.sIx_none, List.drop_zero, Nat.sub_zero, Nat.min_eq_left (by omega)]
def litV : Expr → Option V
  | .Constant (.int i) _ _ => some (.int i)
  | .Constant (.str x) _ _ => some (.str x)
  | _ => none
def litsV : List Expr → Option (List V)
  | [] => some []
  | e :: r => match litV e, litsV r with
    | some v, some vs => some (v :: vs)
    | _, _ => none
def tLits (vs : List V) : TA := fun _ H Q => Q vs H
section
variable {X : Cx}
theorem pa_lits : ∀ {es : List Expr} {vs : List V}, litsV es = some vs → PA X es (tLits vs)
  | [], vs, h => by
    cases h
    exact pa_nil
  | e :: r, vs, h => by
    unfold litsV at h
    cases e1 : litV e with
    | none => rw [e1] at h; cases h
    | some v =>
      cases e2 : litsV r with
      | none => rw [e1, e2] at h; cases h
      | some us =>
        rw [e1, e2] at h
        cases h
        have ih := pa_lits e2
        cases e with
        | Constant c k pos =>
          cases c with
          | int i => cases e1; exact pa_cons pe_int ih rfl
          | str x => cases e1; exact pa_cons pe_str ih rfl
          | _ => cases e1
        | _ => cases e1
end
theorem snoc_int (ms : List Int) (m : Int) : ms.map V.int ++ [V.int m] = (ms ++ [m]).map V.int := by rw [List.map_append]; rfl
theorem ixN_ok {n : Nat} {i : Int} (h0 : 0 ≤ i) (h1 : i < n) : ixN n i = some i.toNat := by unfold ixN; rw [if_pos h0, if_pos h1]
structure Rg (ss r : List Int) : Prop where
  len : r.length = ss.length
  bd : ∀ (j : Nat) (s : Int), ss[j]? = some s → 0 ≤ r.getD j 0 ∧ r.getD j 0 < s
def Kl (l : Addr) (H H' : Hp) : Prop := ∀ b o, H b = some o → b ≠ l → H' b = some o
theorem Kl.one {l : Addr} {o : HO} {H : Hp} : Kl l H (upd H l o) := fun b o' e n => by rw [upd_ne n]; exact e
theorem Kl.same {l : Addr} {H0 H H' : Hp} (s : Same H0 H) (n : H0 l = none) (k : Kl l H H') : Same H0 H' := fun b o e => k b o (s b o e) (ne_of_none e n)
end K79

set_option Elab.async false
set_option linter.all false
set_option maxRecDepth 100000
set_option maxHeartbeats 4000000
namespace K79
open PySem L2
abbrev FRow := Str × List Nat × List Int
structure FS where
  cont : List (List Int)
  files : List FRow
def chunk (ws : List Int) (k : Nat) : List Int := (ws.drop (16 * k)).take 16 ++ List.replicate (16 - ((ws.drop (16 * k)).take 16).length) 0
def nbl (ws : List Int) : Nat := (ws.length + 15) / 16
def used (fs : List FRow) : List Nat := fs.flatMap (·.2.1)
def without (fs : List FRow) (name : Str) : List FRow := fs.filter fun f => decide (f.1 ≠ name)
structure FS.Ok (n : Nat) (S : FS) : Prop where
  len : S.cont.length = n
  nd : (S.files.map (·.1)).Nodup
  bl : ∀ f ∈ S.files, f.2.1.length = nbl f.2.2
  lt : ∀ b ∈ used S.files, b < n
  un : (used S.files).Nodup
  ct : ∀ f ∈ S.files, ∀ (k b : Nat), f.2.1[k]? = some b → S.cont.getD b [] = chunk f.2.2 k
  fr : ∀ b, b < n → b ∉ used S.files → S.cont.getD b [] = List.replicate 16 0
def freeL (n : Nat) (fs : List FRow) : List Nat := (List.range n).filter fun b => decide (b ∉ used fs)
theorem mem_used {fs : List FRow} {b : Nat} : b ∈ used fs ↔ ∃ f ∈ fs, b ∈ f.2.1 := by unfold used; rw [List.mem_flatMap]
theorem used_snoc (fs : List FRow) (f : FRow) : used (fs ++ [f]) = used fs ++ f.2.1 := by unfold used; rw [List.flatMap_append]; simp
theorem free_len {n : Nat} {fs : List FRow} (lt : ∀ b ∈ used fs, b < n) (un : (used fs).Nodup) : (freeL n fs).length + (used fs).length = n := by
  have h1 : ((List.range n).filter fun b => decide (b ∈ used fs)).length = (used fs).length := by
    refine List.Perm.length_eq ((List.perm_ext_iff_of_nodup (List.nodup_range.filter _) un).mpr fun b => ?_)
    rw [List.mem_filter, List.mem_range, decide_eq_true_eq]
    exact ⟨fun h => h.2, fun h => ⟨lt b h, h⟩⟩
  have h2 : (freeL n fs).length + ((List.range n).filter fun b => decide (b ∈ used fs)).length = (List.range n).length := by
    unfold freeL
    generalize List.range n = l
    induction l with
    | nil => rfl
    | cons b l ih =>
      by_cases hb : b ∈ used fs
      · rw [List.filter_cons_of_neg (by simpa using hb), List.filter_cons_of_pos (by simpa using hb), List.length_cons, List.length_cons]; omega
      · rw [List.filter_cons_of_pos (by simpa using hb), List.filter_cons_of_neg (by simpa using hb), List.length_cons, List.length_cons]; omega
  rw [List.length_range, h1] at h2
  exact h2
theorem used_without {fs : List FRow} {name : Str} {b : Nat} (h : b ∈ used (without fs name)) : b ∈ used fs := by
  obtain ⟨f, hf, hb⟩ := mem_used.mp h
  exact mem_used.mpr ⟨f, (List.mem_filter.mp hf).1, hb⟩
theorem without_none {fs : List FRow} {name : Str} (h : name ∉ fs.map (·.1)) : without fs name = fs := by
  unfold without
  rw [List.filter_eq_self]
  intro f hf
  exact decide_eq_true fun e => h (e ▸ List.mem_map_of_mem hf)
theorem without_len {fs : List FRow} {name : Str} {bl : List Nat} {ws : List Int} (nd : (fs.map (·.1)).Nodup) (h : (name, bl, ws) ∈ fs) : (used (without fs name)).length + bl.length = (used fs).length := by
  induction fs with
  | nil => cases h
  | cons f r ih =>
    rw [List.map_cons, List.nodup_cons] at nd
    have hu : ∀ l : List FRow, (used (f :: l)).length = f.2.1.length + (used l).length := fun l => by unfold used; rw [List.flatMap_cons, List.length_append]
    rcases List.mem_cons.mp h with e | e
    · subst e
      rw [show without ((name, bl, ws) :: r) name = without r name from List.filter_cons_of_neg (by simp), without_none nd.1, hu]
      show _ + bl.length = bl.length + _
      omega
    · have hn : f.1 ≠ name := fun z => nd.1 (z ▸ List.mem_map_of_mem (f := (·.1)) e)
      rw [show without (f :: r) name = f :: without r name from List.filter_cons_of_pos (by simpa using hn), hu, hu]
      have := ih nd.2 e
      omega
theorem without_nodup {fs : List FRow} (name : Str) (un : (used fs).Nodup) : (used (without fs name)).Nodup := by
  refine un.sublist ?_
  unfold used without
  clear un
  induction fs with
  | nil => exact List.Sublist.refl _
  | cons f r ih =>
    by_cases h : f.1 = name
    · rw [List.filter_cons_of_neg (by simpa using h), List.flatMap_cons]
      exact ih.trans (List.sublist_append_right _ _)
    · rw [List.filter_cons_of_pos (by simpa using h), List.flatMap_cons, List.flatMap_cons]
      exact (List.Sublist.refl _).append ih
theorem without_names {fs : List FRow} (name : Str) (nd : (fs.map (·.1)).Nodup) : ((without fs name).map (·.1)).Nodup := nd.sublist ((List.filter_sublist).map _)
theorem without_not (fs : List FRow) (name : Str) : name ∉ (without fs name).map (·.1) := fun h => by
  obtain ⟨f, hf, e⟩ := List.mem_map.mp h
  exact of_decide_eq_true (List.mem_filter.mp hf).2 e
theorem block_of {fs : List FRow} {name : Str} {bl : List Nat} {ws : List Int} (nd : (fs.map (·.1)).Nodup) (un : (used fs).Nodup) (h : (name, bl, ws) ∈ fs) {b : Nat} : b ∈ used fs → b ∉ used (without fs name) → b ∈ bl := fun h1 h2 => by
  obtain ⟨f, hf, hb⟩ := mem_used.mp h1
  by_cases e : f.1 = name
  · have : f = (name, bl, ws) := by
      clear un h1 h2 hb
      induction fs with
      | nil => cases hf
      | cons g r ih =>
        rw [List.map_cons, List.nodup_cons] at nd
        rcases List.mem_cons.mp hf with z1 | z1 <;> rcases List.mem_cons.mp h with z2 | z2
        · rw [z1, z2]
        · exact (nd.1 (by rw [← z1, e]; exact List.mem_map_of_mem (f := (·.1)) z2)).elim
        · exact (nd.1 (by rw [← z2]; show name ∈ _; rw [← e]; exact List.mem_map_of_mem (f := (·.1)) z1)).elim
        · exact ih nd.2 z2 z1
    rw [this] at hb; exact hb
  · exact (h2 (mem_used.mpr ⟨f, List.mem_filter.mpr ⟨hf, decide_eq_true e⟩, hb⟩)).elim
theorem bl_in_used {fs : List FRow} {f : FRow} (hf : f ∈ fs) {b : Nat} (hb : b ∈ f.2.1) : b ∈ used fs := mem_used.mpr ⟨f, hf, hb⟩
theorem bl_apart {fs : List FRow} {name : Str} {bl : List Nat} {ws : List Int} (nd : (fs.map (·.1)).Nodup) (un : (used fs).Nodup) (h : (name, bl, ws) ∈ fs) {b : Nat} (hb : b ∈ bl) : b ∉ used (without fs name) := by
  induction fs with
  | nil => cases h
  | cons f r ih =>
    rw [List.map_cons, List.nodup_cons] at nd
    have hu : used (f :: r) = f.2.1 ++ used r := by unfold used; rw [List.flatMap_cons]
    rw [hu, List.nodup_append] at un
    rcases List.mem_cons.mp h with e | e
    · subst e
      rw [show without ((name, bl, ws) :: r) name = without r name from List.filter_cons_of_neg (by simp), without_none nd.1]
      exact fun z => un.2.2 b hb b z rfl
    · have hn : f.1 ≠ name := fun z => nd.1 (z ▸ List.mem_map_of_mem (f := (·.1)) e)
      rw [show without (f :: r) name = f :: without r name from List.filter_cons_of_pos (by simpa using hn)]
      intro z
      have hu2 : used (f :: without r name) = f.2.1 ++ used (without r name) := by unfold used; rw [List.flatMap_cons]
      rw [hu2] at z
      rcases List.mem_append.mp z with z | z
      · exact un.2.2 b z b (bl_in_used e hb) rfl
      · exact ih nd.2 un.2.1 e z
theorem mem_freeL {n : Nat} {fs : List FRow} {b : Nat} : b ∈ freeL n fs ↔ b < n ∧ b ∉ used fs := by
  unfold freeL; rw [List.mem_filter, List.mem_range, decide_eq_true_eq]
theorem freeL_nodup (n : Nat) (fs : List FRow) : (freeL n fs).Nodup := List.nodup_range.filter _
theorem FS.Ok.drop {n : Nat} {S : FS} {name : Str} {bl : List Nat} {ws : List Int} {cont : List (List Int)} (ok : S.Ok n) (h : (name, bl, ws) ∈ S.files) (hl : cont.length = n) (hz : ∀ b ∈ bl, cont.getD b [] = List.replicate 16 0) (hs : ∀ b, b ∉ bl → cont.getD b [] = S.cont.getD b []) :
    FS.Ok n ⟨cont, without S.files name⟩ where
  len := hl
  nd := without_names name ok.nd
  bl := fun f hf => ok.bl f (List.mem_filter.mp hf).1
  lt := fun b hb => ok.lt b (used_without hb)
  un := without_nodup name ok.un
  ct := fun f hf k b e => by
    have hf' : f ∈ S.files := (List.mem_filter.mp hf).1
    have hb : b ∉ bl := fun z => bl_apart ok.nd ok.un h z (bl_in_used hf (List.mem_of_getElem? e))
    rw [hs b hb]
    exact ok.ct f hf' k b e
  fr := fun b hb hn => by
    by_cases z : b ∈ bl
    · exact hz b z
    · rw [hs b z]
      exact ok.fr b hb fun hu => z (block_of ok.nd ok.un h hu hn)
theorem FS.Ok.add {n : Nat} {S : FS} {name : Str} {bl : List Nat} {ws : List Int} {cont : List (List Int)} (ok : S.Ok n) (hn : name ∉ S.files.map (·.1)) (hb : bl.length = nbl ws) (hf : ∀ b ∈ bl, b < n ∧ b ∉ used S.files) (hu : bl.Nodup) (hl : cont.length = n)
    (hc : ∀ (k b : Nat), bl[k]? = some b → cont.getD b [] = chunk ws k) (hs : ∀ b, b ∉ bl → cont.getD b [] = S.cont.getD b []) : FS.Ok n ⟨cont, S.files ++ [(name, bl, ws)]⟩ where
  len := hl
  nd := by
    show ((S.files ++ [(name, bl, ws)]).map (·.1)).Nodup
    rw [List.map_append, List.nodup_append]
    exact ⟨ok.nd, List.nodup_cons.mpr ⟨List.not_mem_nil, List.nodup_nil⟩, fun a ha b hb => by rw [List.mem_singleton.mp hb]; exact fun z => hn (by have z' : a = name := z; rw [← z']; exact ha)⟩
  bl := fun f hf' => by
    rcases List.mem_append.mp hf' with z | z
    · exact ok.bl f z
    · rw [List.mem_singleton.mp z]; exact hb
  lt := fun b h => by
    have h : b ∈ used (S.files ++ [(name, bl, ws)]) := h
    rw [used_snoc] at h
    rcases List.mem_append.mp h with z | z
    · exact ok.lt b z
    · exact (hf b z).1
  un := by
    show (used (S.files ++ [(name, bl, ws)])).Nodup
    rw [used_snoc, List.nodup_append]
    exact ⟨ok.un, hu, fun a ha b hb z => (hf b hb).2 (z ▸ ha)⟩
  ct := fun f hf' k b e => by
    rcases List.mem_append.mp hf' with z | z
    · have nb : b ∉ bl := fun y => (hf b y).2 (bl_in_used z (List.mem_of_getElem? e))
      show cont.getD b [] = _
      rw [hs b nb]; exact ok.ct f z k b e
    · rw [List.mem_singleton.mp z] at e ⊢
      exact hc k b e
  fr := fun b hb' hnu => by
    have hnu : b ∉ used (S.files ++ [(name, bl, ws)]) := hnu
    rw [used_snoc] at hnu
    have h1 : b ∉ bl := fun z => hnu (List.mem_append_right _ z)
    show cont.getD b [] = _
    rw [hs b h1]
    exact ok.fr b hb' fun z => hnu (List.mem_append_left _ z)
def room (n : Nat) (S : FS) (name : Str) (ws : List Int) : Prop := nbl ws + (used (without S.files name)).length ≤ n
instance (n : Nat) (S : FS) (name : Str) (ws : List Int) : Decidable (room n S name ws) := inferInstanceAs (Decidable (_ ≤ _))
theorem q_co : ¬ (("contents" : Str) = "owned") := by decide +kernel
theorem q_cl : ¬ (("contents" : Str) = "lengths") := by decide +kernel
theorem q_ol : ¬ (("owned" : Str) = "lengths") := by decide +kernel
def fflds (lc ow le : Addr) : List (Str × V) := putF "lengths" (.ref le) (putF "owned" (.ref ow) (putF "contents" (.ref lc) []))
theorem ff_co {lc ow le : Addr} : (fflds lc ow le).lookup ("contents" : Str) = some (.ref lc) := by
  unfold fflds; rw [lookup_putF, if_neg q_cl, lookup_putF, if_neg q_co, lookup_putF, if_pos rfl]
theorem ff_ow {lc ow le : Addr} : (fflds lc ow le).lookup ("owned" : Str) = some (.ref ow) := by
  unfold fflds; rw [lookup_putF, if_neg q_ol, lookup_putF, if_pos rfl]
theorem ff_le {lc ow le : Addr} : (fflds lc ow le).lookup ("lengths" : Str) = some (.ref le) := by
  unfold fflds; rw [lookup_putF, if_pos rfl]
theorem ff_no {lc ow le : Addr} {m : Str} (h1 : ¬ m = "lengths") (h2 : ¬ m = "owned") (h3 : ¬ m = "contents") : (fflds lc ow le).lookup m = none := by
  unfold fflds; rw [lookup_putF, if_neg h1, lookup_putF, if_neg h2, lookup_putF, if_neg h3]; rfl
def RowAt (H : Hp) (a : Addr) (r : List Int) : Prop := H a = some (.lst (r.map V.int))
def natsV (bs : List Nat) : List V := bs.map fun (b : Nat) => V.int (b : Int)
def fkv : List FRow → List Addr → List (Key × V)
  | f :: fs, a :: as => (.inr f.1, .ref a) :: fkv fs as
  | _, _ => []
def lkv (fs : List FRow) : List (Key × V) := fs.map fun f => (.inr f.1, .int (f.2.2.length : Int))
def BlAt (H : Hp) (a : Addr) (f : FRow) : Prop := H a = some (.lst (natsV f.2.1))
structure FlAt (C : Addr) (H : Hp) (p lc ow le : Addr) (rs bas : List Addr) (S : FS) : Prop where
  ob : ∃ dx, H p = some (.ins C dx (fflds lc ow le))
  co : H lc = some (.lst (rs.map V.ref))
  ro : Paired (RowAt H) rs S.cont
  od : H ow = some (.dK (fkv S.files bas))
  ba : Paired (BlAt H) bas S.files
  ld : H le = some (.dK (lkv S.files))
  ol : ow ≠ le
  ap : lc ∉ rs
  ab : lc ∉ bas
theorem FlAt.same {C : Addr} {H H' : Hp} {p lc ow le : Addr} {rs bas : List Addr} {S : FS} (h : FlAt C H p lc ow le rs bas S) (s : Same H H') : FlAt C H' p lc ow le rs bas S := by
  obtain ⟨⟨dx, h1⟩, h2, h3, h4, h5, h6, h7, h8, h9⟩ := h
  exact ⟨⟨dx, s _ _ h1⟩, s _ _ h2, Paired.mapP h3 fun _ _ z => s _ _ z, s _ _ h4, Paired.mapP h5 fun _ _ z => s _ _ z, s _ _ h6, h7, h8, h9⟩
def Kf (lc ow le : Addr) (H H' : Hp) : Prop := ∀ b o, H b = some o → b ≠ lc → b ≠ ow → b ≠ le → H' b = some o
theorem Kf.of {lc ow le : Addr} {H H' : Hp} (s : Same H H') : Kf lc ow le H H' := fun _ _ e _ _ _ => s _ _ e
theorem Kf.trans {lc ow le : Addr} {H H1 H2 : Hp} (a : Kf lc ow le H H1) (b : Kf lc ow le H1 H2) : Kf lc ow le H H2 := fun x o e n1 n2 n3 => b x o (a x o e n1 n2 n3) n1 n2 n3
theorem Kf.same {lc ow le : Addr} {H0 H H' : Hp} (s : Same H0 H) (n1 : H0 lc = none) (n2 : H0 ow = none) (n3 : H0 le = none) (k : Kf lc ow le H H') : Same H0 H' := fun b o e => k b o (s b o e) (ne_of_none e n1) (ne_of_none e n2) (ne_of_none e n3)
theorem paired_at {α β : Type} {F : α → β → Prop} : ∀ {l1 : List α} {l2 : List β} {i : Nat} {x : α} {y : β}, Paired F l1 l2 → l1[i]? = some x → l2[i]? = some y → F x y
  | _, _, 0, _, _, .cons r _, h1, h2 => by cases h1; cases h2; exact r
  | _, _, i + 1, _, _, .cons _ t, h1, h2 => paired_at (i := i) t h1 h2
theorem paired_of {α β : Type} {F : α → β → Prop} : ∀ {l1 : List α} {l2 : List β}, l1.length = l2.length → (∀ (i : Nat) x y, l1[i]? = some x → l2[i]? = some y → F x y) → Paired F l1 l2
  | [], [], _, _ => .nil
  | x :: l1, y :: l2, hl, h => .cons (h 0 x y rfl rfl) (paired_of (Nat.succ.inj hl) fun i a b e1 e2 => h (i + 1) a b e1 e2)
  | [], _ :: _, hl, _ => by cases hl
  | _ :: _, [], hl, _ => by cases hl
theorem Paired.app {α β : Type} {F : α → β → Prop} : ∀ {l1 m1 : List α} {l2 m2 : List β}, Paired F l1 l2 → Paired F m1 m2 → Paired F (l1 ++ m1) (l2 ++ m2)
  | _, _, _, _, .nil, b => b
  | _, _, _, _, .cons r t, b => .cons r (Paired.app t b)
theorem Kl.trans {l : Addr} {H H1 H2 : Hp} (a : Kl l H H1) (b : Kl l H1 H2) : Kl l H H2 := fun x o e n => b x o (a x o e n) n
theorem Kl.of {l : Addr} {H H' : Hp} (s : Same H H') : Kl l H H' := fun _ _ e _ => s _ _ e
theorem atI_ref {rs : List Addr} {i : Nat} {a : Addr} (h : rs[i]? = some a) : atI (rs.map V.ref) (i : Int) = some (.ref a) := atI_nat (by rw [List.getElem?_map, h]; rfl)
theorem nat_get {bs : List Nat} {i : Nat} {x : V} (h : (natsV bs)[i]? = some x) : ∃ b, bs[i]? = some b ∧ x = .int (b : Int) := by
  unfold natsV at h
  rw [List.getElem?_map] at h
  cases e : bs[i]? with
  | none => rw [e] at h; cases h
  | some a => rw [e] at h; cases h; exact ⟨a, rfl, rfl⟩
theorem nats_len (bs : List Nat) : (natsV bs).length = bs.length := List.length_map ..
theorem nats_snoc (bs : List Nat) (b : Nat) : natsV bs ++ [V.int (b : Int)] = natsV (bs ++ [b]) := by unfold natsV; rw [List.map_append]; rfl
theorem inr_ne {a b : Str} (h : a ≠ b) : ¬ ((Sum.inr a : Key) = Sum.inr b) := fun z => h (Sum.inr.inj z)
theorem fkv_none {name : Str} : ∀ {fs : List FRow} {as : List Addr}, name ∉ fs.map (·.1) → valV (fkv fs as) (.inr name) = none
  | [], _, _ => by unfold fkv; rfl
  | _ :: _, [], _ => by unfold fkv; rfl
  | f :: fs, a :: as, h => by
    rw [List.map_cons, List.mem_cons, not_or] at h
    show valV ((.inr f.1, .ref a) :: fkv fs as) _ = none
    rw [valV_neg (inr_ne (Ne.symm h.1))]
    exact fkv_none h.2
theorem fkv_some {H : Hp} {name : Str} {bl : List Nat} {ws : List Int} : ∀ {fs : List FRow} {as : List Addr}, Paired (BlAt H) as fs → (fs.map (·.1)).Nodup → (name, bl, ws) ∈ fs → ∃ a, valV (fkv fs as) (.inr name) = some (.ref a) ∧ H a = some (.lst (natsV bl))
  | _, _, .nil, _, h => by cases h
  | f :: fs, a :: as, .cons r t, nd, h => by
    rw [List.map_cons, List.nodup_cons] at nd
    rcases List.mem_cons.mp h with e | e
    · subst e
      exact ⟨a, valV_pos (p := (Sum.inr name, V.ref a)) rfl, r⟩
    · have hn : f.1 ≠ name := fun z => nd.1 (z ▸ List.mem_map_of_mem (f := (·.1)) e)
      obtain ⟨a', e1, e2⟩ := fkv_some t nd.2 e
      exact ⟨a', by show valV ((.inr f.1, .ref a) :: fkv fs as) _ = _; rw [valV_neg (inr_ne hn)]; exact e1, e2⟩
theorem fkv_drop {H : Hp} (name : Str) : ∀ {fs : List FRow} {as : List Addr}, Paired (BlAt H) as fs → ∃ as', dropK (fkv fs as) (.inr name) = fkv (without fs name) as' ∧ Paired (BlAt H) as' (without fs name) ∧ ∀ a ∈ as', a ∈ as
  | _, _, .nil => ⟨[], rfl, .nil, fun _ h => h⟩
  | f :: fs, a :: as, .cons r t => by
    obtain ⟨as', e1, e2, e3⟩ := fkv_drop name t
    by_cases h : f.1 = name
    · refine ⟨as', ?_, ?_, fun x hx => List.mem_cons_of_mem _ (e3 x hx)⟩
      · rw [show without (f :: fs) name = without fs name from List.filter_cons_of_neg (by simpa using h)]
        show dropK ((.inr f.1, .ref a) :: fkv fs as) _ = _
        rw [← e1]
        exact List.filter_cons_of_neg (by simp [h])
      · rw [show without (f :: fs) name = without fs name from List.filter_cons_of_neg (by simpa using h)]; exact e2
    · refine ⟨a :: as', ?_, ?_, fun x hx => ?_⟩
      · rw [show without (f :: fs) name = f :: without fs name from List.filter_cons_of_pos (by simpa using h)]
        show dropK ((.inr f.1, .ref a) :: fkv fs as) _ = (.inr f.1, .ref a) :: fkv (without fs name) as'
        rw [← e1]
        exact List.filter_cons_of_pos (by simpa using inr_ne h)
      · rw [show without (f :: fs) name = f :: without fs name from List.filter_cons_of_pos (by simpa using h)]; exact .cons r e2
      · rcases List.mem_cons.mp hx with z | z
        · rw [z]; exact List.mem_cons_self
        · exact List.mem_cons_of_mem _ (e3 x z)
theorem fkv_snoc (f : FRow) (a : Addr) : ∀ {fs : List FRow} {as : List Addr}, as.length = fs.length → fkv fs as ++ [(.inr f.1, .ref a)] = fkv (fs ++ [f]) (as ++ [a])
  | [], [], _ => rfl
  | g :: fs, b :: as, h => by
    show (.inr g.1, .ref b) :: (fkv fs as ++ _) = _
    rw [fkv_snoc f a (Nat.succ.inj h)]; rfl
  | [], _ :: _, h => by cases h
  | _ :: _, [], h => by cases h
theorem lkv_none {name : Str} : ∀ {fs : List FRow}, name ∉ fs.map (·.1) → valV (lkv fs) (.inr name) = none
  | [], _ => rfl
  | f :: fs, h => by
    rw [List.map_cons, List.mem_cons, not_or] at h
    show valV ((.inr f.1, V.int (f.2.2.length : Int)) :: lkv fs) _ = none
    rw [valV_neg (inr_ne (Ne.symm h.1))]
    exact lkv_none h.2
theorem lkv_some {name : Str} {bl : List Nat} {ws : List Int} : ∀ {fs : List FRow}, (fs.map (·.1)).Nodup → (name, bl, ws) ∈ fs → valV (lkv fs) (.inr name) = some (.int (ws.length : Int))
  | [], _, h => by cases h
  | f :: fs, nd, h => by
    rw [List.map_cons, List.nodup_cons] at nd
    rcases List.mem_cons.mp h with e | e
    · subst e
      exact valV_pos (p := (Sum.inr name, V.int (ws.length : Int))) rfl
    · have hn : f.1 ≠ name := fun z => nd.1 (z ▸ List.mem_map_of_mem (f := (·.1)) e)
      show valV ((.inr f.1, V.int (f.2.2.length : Int)) :: lkv fs) _ = _
      rw [valV_neg (inr_ne hn)]
      exact lkv_some nd.2 e
theorem lkv_drop (name : Str) : ∀ fs : List FRow, dropK (lkv fs) (.inr name) = lkv (without fs name)
  | [] => rfl
  | f :: fs => by
    have ih := lkv_drop name fs
    by_cases h : f.1 = name
    · rw [show without (f :: fs) name = without fs name from List.filter_cons_of_neg (by simpa using h), ← ih]
      exact List.filter_cons_of_neg (by simp [h])
    · rw [show without (f :: fs) name = f :: without fs name from List.filter_cons_of_pos (by simpa using h)]
      show dropK ((.inr f.1, V.int (f.2.2.length : Int)) :: lkv fs) _ = (.inr f.1, V.int (f.2.2.length : Int)) :: lkv (without fs name)
      rw [← ih]
      exact List.filter_cons_of_pos (by simpa using inr_ne h)
theorem lkv_snoc (fs : List FRow) (f : FRow) : lkv fs ++ [(.inr f.1, .int (f.2.2.length : Int))] = lkv (fs ++ [f]) := by unfold lkv; rw [List.map_append]; rfl
theorem fkv_at {H : Hp} : ∀ {fs : List FRow} {as : List Addr}, Paired (BlAt H) as fs → ∀ {i : Nat} {k : Key} {v : V}, (fkv fs as)[i]? = some (k, v) → ∃ f a, fs[i]? = some f ∧ v = .ref a ∧ H a = some (.lst (natsV f.2.1))
  | _, _, .nil, i, k, v, h => by unfold fkv at h; simp at h
  | f :: fs, a :: as, .cons r t, i, k, v, h => by
    cases i with
    | zero => cases h; exact ⟨f, a, rfl, rfl, r⟩
    | succ i => exact fkv_at t (i := i) h
theorem fkv_length {H : Hp} : ∀ {fs : List FRow} {as : List Addr}, Paired (BlAt H) as fs → (fkv fs as).length = fs.length
  | _, _, .nil => rfl
  | _, _, .cons _ t => congrArg Nat.succ (fkv_length t)
structure Mt (K : PySem.W.Frag) (C : Addr) (m q : Str) (st : Stmt) (ps : List Str) (a : Addr) (fd : FuncData) : Prop where
  F : Fun K m q st a fd
  me : Meth K C m a
  b : Binds K fd ps []
structure Mc (K : PySem.W.Frag) (mg : Str → Option Value) (C : Addr) (f : Addr) (fd : FuncData) : Prop where
  cl : Cls K C
  mks : Mk K C f
  F : Fun K "__init__" "Floor.__init__" s_Floor___init__ f fd
  b : Binds K fd ["self", "blocks"] []
  mg : mg "Floor" = some (.ref C)
  nC : NoAttr K C "contents"
  nO : NoAttr K C "owned"
  nL : NoAttr K C "lengths"
structure Xc (K : PySem.W.Frag) (mg : Str → Option Value) (x : Str) (C TE : Addr) : Prop where
  m : mg x = some (.ref C)
  c : PySem.W.excIn K C bmV "ValueError.__new__" = true
  k : XcOk K C
  up : (Value.ref C :: xcMro K C).contains (.ref TE) = true
theorem Xc.by {K : PySem.W.Frag} {mg : Str → Option Value} {x : Str} {C TE : Addr} (X : Xc K mg x C TE) : CaughtBy K TE (.ref C) := ⟨C, rfl, X.k, X.up⟩
end K79

set_option Elab.async false
set_option linter.all false
set_option maxRecDepth 100000
set_option maxHeartbeats 4000000
namespace K79
open PySem L2
def sp_cell (K : PySem.W.Frag) : Sp := fun vs H Q _ => ∃ (a : Addr) (ns : List Int) (k : Int), vs = [.ref a, .int k] ∧ SqL K H a (ns.map V.int) ∧ 0 ≤ k ∧ ∀ c : Int, Q (.int c) H
def sp_mix : Sp := fun vs H Q _ => ∃ (c k : Int), vs = [.int c, .int k] ∧ 0 ≤ k ∧ k ≤ 100000 ∧ ∀ v : Int, 0 ≤ v → Q (.int v) H
def sp_parts (K : PySem.W.Frag) : Sp := fun vs H Q _ => ∃ (a : Addr) (ns : List Int) (k : Int) (l : Addr) (ss : List Int), vs = [.ref a, .int k, .ref l] ∧ SqL K H a (ns.map V.int) ∧ ns.length ≤ 63 ∧ 0 ≤ k ∧ k ≤ 1000 ∧ H l = some (.lst (ss.map V.int)) ∧ ss.length ≤ 100 ∧ (∀ s ∈ ss, 0 < s ∧ s < 1000000) ∧ ∀ (r : Addr) (H' : Hp) (rs : List Int), H r = none → Same H H' → Rg ss rs → H' r = some (.lst (rs.map V.int)) → Q (.ref r) H'
def sp_filled : Sp := fun vs H Q _ => ∃ (n : Nat) (a b : Int), vs = [.int (n : Int), .int a, .int b] ∧ n ≤ 100000 ∧ 0 ≤ b ∧ b ≤ 1000000 ∧ ∀ (r : Addr) (H' : Hp) (ws : List Int), H r = none → Same H H' → ws.length = n → H' r = some (.lst (ws.map V.int)) → Q (.ref r) H'
theorem rg_snoc {ss rs : List Int} {i : Nat} {s v : Int} (h : Rg (ss.take i) rs) (hs : ss[i]? = some s) (hv : 0 ≤ v ∧ v < s) : Rg (ss.take (i + 1)) (rs ++ [v]) := by
  have hi : i < ss.length := (List.getElem?_eq_some_iff.mp hs).1
  have l1 := h.len
  rw [List.length_take] at l1
  refine ⟨by rw [List.length_append, h.len, List.length_take, List.length_take]; show _ + 1 = _; omega, fun j s' e => ?_⟩
  rw [List.take_add_one, hs] at e
  have lt : (ss.take i).length = i := by rw [List.length_take]; omega
  by_cases hj : j < i
  · rw [List.getElem?_append_left (by omega)] at e
    have := h.bd j s' e
    rw [List.getD_eq_getElem?_getD, List.getElem?_append_left (by omega), ← List.getD_eq_getElem?_getD]
    exact this
  · rw [List.getElem?_append_right (by omega)] at e
    have hj' : j = i := by
      have := (List.getElem?_eq_some_iff.mp e).1
      have h1 : (some s : Option Int).toList.length = 1 := rfl
      omega
    subst hj'
    rw [lt, Nat.sub_self] at e
    cases e
    rw [List.getD_eq_getElem?_getD, List.getElem?_append_right (by omega), show j - rs.length = 0 by omega]
    exact hv
abbrev Q0 (K : PySem.W.Frag) (mg : Str → Option Value) := Fn K mg "_law_cell" s_law_cell ["_law_script", "_law_k"]
abbrev Q1 (K : PySem.W.Frag) (mg : Str → Option Value) := Fn K mg "_law_mixed" s_law_mixed ["_law_cell_here", "_law_k"]
abbrev Q2 (K : PySem.W.Frag) (mg : Str → Option Value) := Fn K mg "blocks_for" s_blocks_for ["words"]
abbrev Q3 (K : PySem.W.Frag) (mg : Str → Option Value) := Fn K mg "_law_spoil" s_law_spoil ["_law_floor", "_law_blocks"]
abbrev Q4 (K : PySem.W.Frag) (mg : Str → Option Value) := Fn K mg "_law_all" s_law_all ["_law_floor", "_law_blocks"]
section
variable {P : Program} {w : World} {K : PySem.W.Frag} {mg : Str → Option Value} {base : Heap}
local macro_rules | `(tactic| walk_at "sd") => `(tactic| ((try dsimp only); first | omega | decide | exact cmul_l (by omega) (by omega) | exact cmul_r (by omega) (by omega) | exact ⟨by omega, by omega⟩ | exact cpow_of (by omega) (by omega) (by omega) (by omega) | (split <;> omega)))
local macro_rules | `(tactic| walk_at "rd") => `(tactic| repeat (first | refine ⟨_, rfl, ?_⟩ | refine ⟨_, _, rfl, rfl, ?_⟩ | refine And.intro (by walk_at "sd") ?_))
theorem sc_law_cell : FnScope ["_law_script", "_law_k"] ["_law_script", "_law_k"] (defScope s_law_cell) := ⟨rfl, rfl, rfl, by decide +kernel, rfl, by decide +kernel, by decide +kernel⟩
theorem ok_law_cell {f : Addr} {fd : FuncData} (F : Fun K "_law_cell" "_law_cell" s_law_cell f fd) (T : Bt mg) : FnOk P w K mg base CX0 1 f fd ["_law_script", "_law_k"] (sp_cell K) := by
  refine F.ok sc_law_cell (fun vs H Q E h => ?_) (fun cdv A outer s H vs Q E hr h => ?_)
  · obtain ⟨a, ns, k, rfl, _⟩ := h; rfl
  · obtain ⟨a, ns, k, rfl, hq, hk, q⟩ := h
    refine ⟨_, (pss_cons (ps_if (pt_cmpR op_lt (pv 1) (pe_callB call_len_seq rfl T.b_len (by decide +kernel) (pa_consN (pv 0) pa_nil)) (nomark _))
        (pss_one (ps_ret (pe_ix ix_list (pv 0) (pv 1) (fun _ _ => rfl))))
        pss_nil)
      (pss_one (ps_ret pe_int))), ?_⟩
    refine ⟨_, rfl, _, rfl, a, _, rfl, .inl hq, _, _, rfl, rfl, _, rfl, ?_⟩
    refine ite2 (fun h => ?_) (fun h => ?_)
    · obtain ⟨n, _, e⟩ := atI_ix (ns := ns) hk (of_decide_eq_true h)
      exact ⟨_, rfl, _, rfl, a, _, _, _, rfl, rfl, hq, e, q n⟩
    · exact q 0
theorem sc_law_mixed : FnScope ["_law_cell_here", "_law_k", "_law_once"] ["_law_cell_here", "_law_k"] (defScope s_law_mixed) := ⟨rfl, rfl, rfl, by decide +kernel, rfl, by decide +kernel, by decide +kernel⟩
theorem ok_law_mixed {f : Addr} {fd : FuncData} (F : Fun K "_law_mixed" "_law_mixed" s_law_mixed f fd) : FnOk P w K mg base CX0 1 f fd ["_law_cell_here", "_law_k"] sp_mix := by
  refine F.ok sc_law_mixed (fun vs H Q E h => ?_) (fun cdv A outer s H vs Q E hr h => ?_)
  · obtain ⟨c, k, rfl, _⟩ := h; rfl
  · obtain ⟨c, k, rfl, h0, h1, q⟩ := h
    refine ⟨_, (pss_cons (ps_set (i := 2) sc_law_mixed.nd rfl (Or.inl rfl) (pe_op op_mod (pe_op op_mul (pe_op op_add (pe_op op_add (pe_op op_mod (pv 0) pe_int) (pe_op op_mul pe_int (pv 1))) pe_int) (pe_op op_add (pe_op op_mul (pv 1) (pv 1)) pe_int)) pe_int))
      (pss_one (ps_ret (pe_op op_mod (pe_op op_mul (pv 2) (pe_op op_add (pe_op op_add (pe_op op_mod (pv 2) pe_int) (pv 1)) pe_int)) pe_int)))), ?_⟩
    refine ⟨_, rfl, _, _, rfl, rfl, (by show (0 : Int) < 2305843009213693951; decide), _, rfl, _, _, rfl, rfl, cmul_l (by decide) (by decide), _, _, rfl, rfl, _, _, rfl, rfl, ?_⟩
    obtain ⟨b, hb⟩ : ∃ b, b = c % 2305843009213693951 + 3 * k + 1 := ⟨_, rfl⟩
    have hb0 := Int.emod_nonneg c (b := 2305843009213693951) (by decide)
    have hb1 := Int.emod_lt_of_pos c (b := 2305843009213693951) (by decide)
    refine ⟨_, rfl, _, rfl, _, _, rfl, rfl, cmul_l (by omega) (by omega), _, _, rfl, rfl, _, _, rfl, rfl, cmul_l (by omega) (by omega), _, _, rfl, rfl, (by show (0 : Int) < 2147483399; decide), ?_⟩
    obtain ⟨o, ho⟩ : ∃ o : Int, (c % 2305843009213693951 + 3 * k + 1) * (k * k + 48271) % 2147483399 = o := ⟨_, rfl⟩
    have ho0 : 0 ≤ o := by rw [← ho]; exact Int.emod_nonneg _ (by decide)
    have ho1 : o < 2147483399 := by rw [← ho]; exact Int.emod_lt_of_pos _ (by decide)
    have eo : (fun i j => V.int (i % j)) ((fun i j => i * j) (c % 2305843009213693951 + 3 * k + 1) (k * k + 48271)) 2147483399 = V.int o := congrArg V.int ho
    refine ⟨_, rfl, _, rfl, _, _, rfl, rfl, (by show (0 : Int) < 1013; decide), _, rfl, _, _, rfl, rfl, _, _, rfl, rfl, _, _, rfl, rfl, cmul_l (by rw [ho]; omega) (by rw [ho]; omega), _, _, rfl, rfl, (by show (0 : Int) < 998244353; decide), q _ (Int.emod_nonneg _ (by decide))⟩
theorem z20 : FnScope ["_law_script", "_law_k", "_law_sizes", "_law_rest", "_law_plain", "_law_found", "_law_j", "_law_size", "_law_cell_here"] ["_law_script", "_law_k", "_law_sizes"] (defScope s_law_parts) := ⟨rfl, rfl, rfl, by decide +kernel, rfl, by decide +kernel, by decide +kernel⟩
theorem ok_law_parts {f f1 f2 : Addr} {fd d1 d2 : FuncData} (F : Fun K "_law_parts" "_law_parts" s_law_parts f fd) (T : Bt mg) (z16 : Q0 K mg f1 d1) (z14 : Q1 K mg f2 d2) : FnOk P w K mg base CX0 2 f fd ["_law_script", "_law_k", "_law_sizes"] (sp_parts K) := by
  have G_law_cell := ok_law_cell (P := P) (w := w) (base := base) z16.F T
  have G_law_mixed := ok_law_mixed (P := P) (w := w) (mg := mg) (base := base) z14.F
  refine F.ok z20 (fun vs H Q E h => ?_) (fun cdv A outer s H vs Q E hr h => ?_)
  · obtain ⟨a, ns, k, l, ss, rfl, _⟩ := h; rfl
  · obtain ⟨a, ns, k, l, ss, rfl, hq, hn63, hk0, hk1, hl, hsl, hpos, q⟩ := h
    have hs : sizeLine = 16777216 := sizeLine_eq
    have h512 : (1000000 : Int) < 2 ^ 512 := by decide +kernel
    refine ⟨_, (pss_cons (ps_set (i := 3) z20.nd rfl (Or.inl rfl) (pe_callB call_abs rfl T.b_abs (by decide +kernel) (pa_consN (pe_call G_law_cell (hr.mono (by decide)) rfl z16.m z16.F.kp z16.b .nil pass0 (pa_consN (pv 0) (pa_consN (pv 1) pa_nil))) pa_nil)))
      (pss_cons (ps_set (i := 4) z20.nd rfl (Or.inl rfl) (pe_cmpR op_ge (pv 3) (pe_op op_pow pe_int pe_int) (nomark _)))
      (pss_cons (ps_set (i := 5) z20.nd rfl (Or.inl rfl) (pe_lst pa_nil))
      (pss_cons (ps_for PassesOwn.never rfl (pi_enum (K := K) rfl T.b_enumerate (pa_consN (pv 2) pa_nil)) (pg_tup rfl (pgs_cons (pg_name (i := 6) z20.nd rfl (Or.inl rfl)) (pgs_cons (pg_name (i := 7) z20.nd rfl (Or.inl rfl)) pgs_nil)))
        (pss_one (ps_if (pt_det (PW.pt (pw_and (pt_val (pv 4)) (pw_and1 (pt_cmpR op_gt (pv 3) pe_int (nomark _))))))
          (pss_cons (ps_expr (pe_bm PySem.F.plainAttrs_list PySem.F.slot_list_append PySem.F.type_list_append mt_append (pv 5) (pa_consN (pe_op op_mod (pv 3) (pv 7)) pa_nil)))
          (pss_one (ps_set (i := 3) z20.nd rfl (Or.inl rfl) (pe_op op_fdivL (pv 3) (pv 7)))))
          (pss_cons (ps_set (i := 8) z20.nd rfl (Or.inl rfl) (pe_call G_law_cell (hr.mono (by decide)) rfl z16.m z16.F.kp z16.b .nil pass0 (pa_consN (pv 0) (pa_consN (pe_op op_mod (pv 1) (pe_callB (call_max2 rfl) rfl T.b_max (by decide +kernel) (pa_consN pe_int (pa_consN (pe_callB call_len_seq rfl T.b_len (by decide +kernel) (pa_consN (pv 0) pa_nil)) pa_nil)))) pa_nil))))
          (pss_one (ps_expr (pe_bm PySem.F.plainAttrs_list PySem.F.slot_list_append PySem.F.type_list_append mt_append (pv 5) (pa_consN (pe_op op_mod (pe_call G_law_mixed (hr.mono (by decide)) rfl z14.m z14.F.kp z14.b .nil pass0 (pa_consN (pe_call G_law_mixed (hr.mono (by decide)) rfl z14.m z14.F.kp z14.b .nil pass0 (pa_consN (pv 8) (pa_consN (pe_op op_add (pv 6) (pe_op op_mul pe_int (pv 1))) pa_nil))) (pa_consN (pv 6) pa_nil))) (pv 7)) pa_nil))))))))
      (pss_one (ps_ret (pv 5))))))), ?_⟩
    refine ⟨_, rfl, _, rfl, a, ns, k, rfl, hq, hk0, fun c => ⟨c, rfl, ?_⟩⟩
    obtain ⟨rest, hrest⟩ : ∃ z : Int, z = if c < 0 then -c else c := ⟨_, rfl⟩
    have hr0 : 0 ≤ rest := by rw [hrest]; split <;> omega
    rw [← hrest]
    clear hrest
    refine ⟨_, rfl, _, _, rfl, rfl, cpow_of (by decide) (by decide) (by decide) (by decide), _, _, rfl, rfl, ?_⟩
    obtain ⟨pl, hpl⟩ : ∃ b : Bool, b = decide ((10 : Int) ^ (Int.toNat 18) ≤ rest) := ⟨_, rfl⟩
    refine ⟨Nat.zero_le _, fun r hr0' => ?_⟩
    have y0 := Same.put (o := .lst []) hr0'
    have er : upd H r (.lst []) r = some (.lst (([] : List Int).map V.int)) := upd_same
    generalize upd H r (.lst []) = H1 at y0 er ⊢
    refine ⟨_, rfl, l, _, rfl, y0 _ _ hl, for_enum (K := K) (a := l) (xs := ss.map V.int) (fun i σ H2 => ∃ (rest : Int) (rs : List Int) (v6 v7 v8 : Option V), σ = [some (.ref a), some (.int k), some (.ref l), some (.int rest), some (.bl pl), some (.ref r), v6, v7, v8] ∧ 0 ≤ rest ∧ Same H H2 ∧ Rg (ss.take i) rs ∧ H2 r = some (.lst (rs.map V.int)))
      ⟨rest, [], none, none, none, by rw [hpl]; rfl, hr0, y0, ⟨rfl, fun j s e => by simp at e⟩, er⟩ ?_ ?_ ?_⟩
    · rintro i σ H2 _ ⟨rest, rs, v6, v7, v8, rfl, _, s2, _⟩
      exact SqL.of (s2 _ _ hl)
    · rintro i x σ H2 Tt hx ⟨rest, rs, v6, v7, v8, rfl, hrest, s2, hR, er2⟩ hT
      obtain ⟨sz, hsz, rfl⟩ := map_int_get hx
      have hi : i < ss.length := (List.getElem?_eq_some_iff.mp hsz).1
      have hp := hpos sz (List.mem_of_getElem? hsz)
      have lr := hR.len
      rw [List.length_take] at lr
      have yT := Same.put (o := .tup [V.int (i : Int), V.int sz]) hT
      refine ⟨Tt, _, rfl, SqT.of upd_same, rfl, _, _, rfl, _, _, rfl, rfl, ?_⟩
      generalize upd H2 Tt (.tup [V.int (i : Int), V.int sz]) = H3 at yT ⊢
      have s3 := s2.trans yT
      have er3 := yT _ _ er2
      have app : ∀ (v : Int), 0 ≤ v ∧ v < sz → Same H (upd H3 r (.lst (rs.map V.int ++ [V.int v]))) ∧ Rg (ss.take (i + 1)) (rs ++ [v]) ∧ upd H3 r (.lst (rs.map V.int ++ [V.int v])) r = some (.lst ((rs ++ [v]).map V.int)) := fun v hv =>
        ⟨Kl.same s3 hr0' Kl.one, rg_snoc hR hsz hv, by rw [upd_same, snoc_int]⟩
      refine ⟨pl && decide (0 < rest), ?_, ?_⟩
      · cases pl with
        | false => exact ⟨_, rfl, _, rfl, iteF ⟨rfl, rfl⟩⟩
        | true => exact ⟨_, rfl, _, rfl, iteT ⟨_, rfl, _, _, rfl, rfl, _, rfl, rfl, rfl⟩⟩
      refine ite2 (fun h => ?_) (fun h => ?_)
      · refine ⟨_, rfl, .inl ⟨rfl, _, SqL.of er3⟩, _, rfl, _, rfl, _, _, rfl, rfl, hp.1, r, _, _, rfl, rfl, er3, (by rw [List.length_map]; omega), ?_⟩
        obtain ⟨a1, a2, a3⟩ := app (rest % sz) ⟨Int.emod_nonneg _ (by omega), Int.emod_lt_of_pos _ hp.1⟩
        refine ⟨_, rfl, _, rfl, _, _, rfl, rfl, ⟨hp.1, by omega⟩, ?_⟩
        exact ⟨rest / sz, rs ++ [rest % sz], _, _, _, rfl, Int.ediv_nonneg hrest (by omega), a1, a2, a3⟩
      · obtain ⟨mx, hmx⟩ : ∃ z : Int, z = if ((ns.map V.int).length : Int) > 1 then ((ns.map V.int).length : Int) else 1 := ⟨_, rfl⟩
        have hm1 : 1 ≤ mx := by rw [hmx]; split <;> omega
        refine ⟨_, rfl, _, rfl, _, rfl, a, _, rfl, .inl (s3.seq hq), _, _, rfl, ?_⟩
        rw [← hmx]
        refine ⟨_, _, rfl, rfl, (by show (0 : Int) < mx; omega), a, ns, _, rfl, s3.seq hq, Int.emod_nonneg _ (by omega), fun c2 => ?_⟩
        refine ⟨_, rfl, .inl ⟨rfl, _, SqL.of er3⟩, _, rfl, _, rfl, _, rfl, _, _, rfl, rfl, cmul_l (by decide) (by decide), _, _, rfl, rfl, c2, _, rfl, by omega, by omega, fun v1 hv1 => ⟨_, rfl, v1, (i : Int), rfl, by omega, by omega, fun v2 hv2 => ?_⟩⟩
        refine ⟨_, rfl, _, _, rfl, rfl, hp.1, r, _, _, rfl, rfl, er3, (by rw [List.length_map]; omega), ?_⟩
        obtain ⟨a1, a2, a3⟩ := app (v2 % sz) ⟨Int.emod_nonneg _ (by omega), Int.emod_lt_of_pos _ hp.1⟩
        exact ⟨rest, rs ++ [v2 % sz], _, _, _, rfl, hrest, a1, a2, a3⟩
    · rintro σ H2 ⟨rest, rs, v6, v7, v8, rfl, _, s2, hR, er2⟩
      rw [List.length_map, List.take_of_length_le (Nat.le_refl _)] at hR
      exact ⟨_, rfl, q r H2 rs hr0' s2 hR er2⟩
theorem sc_law_filled : FnScope ["_law_count", "_law_first", "_law_step"] ["_law_count", "_law_first", "_law_step"] (defScope s_law_filled) := ⟨rfl, rfl, rfl, by decide +kernel, rfl, by decide +kernel, by decide +kernel⟩
theorem ok_law_filled {f : Addr} {fd : FuncData} (F : Fun K "_law_filled" "_law_filled" s_law_filled f fd) (T : Bt mg) : FnOk P w K mg base CX0 1 f fd ["_law_count", "_law_first", "_law_step"] sp_filled := by
  refine F.ok sc_law_filled (fun vs H Q E h => ?_) (fun cdv A outer s H vs Q E hr h => ?_)
  · obtain ⟨n, a, b, rfl, _⟩ := h; rfl
  · obtain ⟨n, a, b, rfl, hn, hb0, hb1, q⟩ := h
    have hs : sizeLine = 16777216 := sizeLine_eq
    refine ⟨_, (pss_one (ps_ret (pe_comp rfl (blk_of (sc0 := defScope s_law_filled) (N0 := ["_law_count", "_law_first", "_law_step"]) (N' := ["_law_k", "_law_first", "_law_step"]) (own := 1) (fv := [1, 2]) (by decide +kernel) rfl rfl) (pi_range1 rfl T.b_range (pa_consN (pv 0) pa_nil)) (fun _ _ _ _ => (pg_name (i := 0) (by show List.Nodup (["_law_k", "_law_first", "_law_step"] : List Str); decide +kernel) rfl (Or.inl rfl))) (fun _ _ _ _ => (pe_op op_mod (pe_op op_add (pv 1) (pe_op op_mul (pv 2) (pv 0))) pe_int))))), ?_⟩
    refine ⟨_, rfl, _, rfl, by omega, by omega, comp_rngInv (lo := 0) (n := (n : Int).toNat) (fvals := [some (.int a), some (.int b)]) (fun acc j H2 => H acc = none ∧ Same H H2 ∧ ∃ ws : List Int, ws.length = j ∧ H2 acc = some (.lst (ws.map V.int))) ?_ ?_ ?_⟩
    · intro acc hacc
      exact ⟨hacc, Same.put hacc, [], rfl, upd_same⟩
    · rintro acc j H2 R hj ⟨hacc, s2, ws, hw, ea⟩ hRR
      rw [Int.toNat_natCast] at hj
      refine ⟨_, rfl, _, rfl, _, rfl, _, _, rfl, rfl, cmul_l (by omega) (by omega), _, _, rfl, rfl, _, _, rfl, rfl, (by show (0 : Int) < 65536; decide), ?_⟩
      exact hRR _ _ ⟨_, ea, by rw [List.length_map]; omega, hacc, Kl.same s2 hacc Kl.one, ws ++ [(a + b * (0 + (j : Int))) % 65536], by rw [List.length_append, hw]; rfl, by rw [upd_same, snoc_int]⟩
    · rintro r H2 _ ⟨hr0, s2, ws, hw, ea⟩
      exact q r H2 ws hr0 s2 (by rw [hw]; exact Int.toNat_natCast n) ea
end
end K79

set_option Elab.async false
set_option linter.all false
set_option maxRecDepth 100000
set_option maxHeartbeats 4000000
namespace K79
open PySem L2
def one (c : Nat) : Str := ⟨#[c]⟩
theorem glue_one : ∀ (cs : List Nat), Builtin.Str.glued "" (cs.map one) = ⟨cs.toArray⟩ := by
  have h : ∀ (cs : List Nat) (a : Array Nat), (cs.map one).foldl (fun acc p => acc ++ ("" : Str).cps ++ p.cps) a = a ++ cs.toArray := by
    intro cs
    induction cs with
    | nil => intro a; simp
    | cons c r ih =>
      intro a
      rw [List.map_cons, List.foldl_cons, ih]
      have e : ("" : Str).cps = #[] := by decide +kernel
      rw [e]
      show a ++ #[] ++ #[c] ++ r.toArray = _
      apply Array.ext'
      simp
  intro cs
  cases cs with
  | nil => decide +kernel
  | cons c r =>
    unfold Builtin.Str.glued
    show (⟨(r.map one).foldl _ #[c]⟩ : Str) = _
    rw [h r #[c]]
    apply congrArg
    apply Array.ext'
    simp
theorem glue_len (cs : List Nat) : ((cs.map one).toArray.foldl (· + ·.length + ("" : Str).length) 0) = cs.length := by
  have h : ∀ (cs : List Nat) (k : Nat), (cs.map one).foldl (fun a p => a + p.length + ("" : Str).length) k = k + cs.length := by
    intro cs
    induction cs with
    | nil => intro k; rfl
    | cons c r ih =>
      intro k
      rw [List.map_cons, List.foldl_cons, ih, List.length_cons]
      show k + 1 + 0 + r.length = _
      omega
  have := h cs 0
  rw [Nat.zero_add] at this
  rw [← this]
  simp
theorem strs_not_long {cs : List Nat} (h : cs.length ≤ 1000) : Builtin.Str.tooLong ((cs.map one).toArray.foldl (· + ·.length + ("" : Str).length) 0) = false := by
  rw [glue_len]
  have hs : sizeLine = 16777216 := sizeLine_eq
  show decide (cs.length > sizeLine) = false
  exact decide_eq_false (by omega)
abbrev OkS (s : Str) : Prop := ∀ c ∈ s.cps.toList, c < 0x110000
theorem OkS.ok {s : Str} (h : OkS s) : PyData.strOk s = true := by
  unfold PyData.strOk
  rw [Array.all_eq_true']
  intro c hc
  exact decide_eq_true (h c (Array.mem_toList_iff.mpr hc))
theorem oks_one {c : Nat} (h : c < 0x110000) : OkS ⟨#[c]⟩ := fun x hx => by
  have : x = c := by simpa using hx
  rw [this]; exact h
theorem oks_app {a b : Str} (ha : OkS a) (hb : OkS b) : OkS (a ++ b) := fun x hx => by
  have e : (a ++ b).cps.toList = a.cps.toList ++ b.cps.toList := by show (a.cps ++ b.cps).toList = _; simp
  rw [e] at hx
  rcases List.mem_append.mp hx with z | z
  · exact ha x z
  · exact hb x z
theorem oks_fold {c : Array Nat} (hc : ∀ x ∈ c.toList, x < 0x110000) : ∀ (m : Nat) (a : Array Nat), (∀ x ∈ a.toList, x < 0x110000) → ∀ x ∈ ((List.replicate m c).foldl (· ++ ·) a).toList, x < 0x110000
  | 0, a, ha => ha
  | m + 1, a, ha => by
    show ∀ x ∈ ((List.replicate m c).foldl (· ++ ·) (a ++ c)).toList, x < 0x110000
    refine oks_fold hc m (a ++ c) fun x hx => ?_
    rw [Array.toList_append] at hx
    rcases List.mem_append.mp hx with z | z
    · exact ha x z
    · exact hc x z
theorem oks_rep {x : Str} (h : OkS x) (n : Int) : OkS (repS x n) := by
  unfold repS
  split
  · intro c hc; cases hc
  · split
    · exact h
    · exact oks_fold h _ _ (fun x hx => by cases hx)
theorem oks_to {cs : List Nat} (h : ∀ c ∈ cs, c < 0x110000) {k : Int} (h0 : 0 ≤ k) (h1 : k ≤ cs.length) : OkS (PySem.Txt.slice ⟨cs.toArray⟩ none (some k)) := fun x hx => by
  have e : PySem.Txt.slice (⟨cs.toArray⟩ : Str) none (some k) = ⟨((cs.drop 0).take (k - 0).toNat).toArray⟩ := StrLaws.sliceText_to (x := ⟨cs.toArray⟩) (j := k) ⟨h0, by simpa using h1⟩
  rw [e] at hx
  exact h x (List.mem_of_mem_drop (i := 0) (List.mem_of_mem_take (i := (k - 0).toNat) hx))
theorem oks_from {cs : List Nat} (h : ∀ c ∈ cs, c < 0x110000) {k : Int} (h0 : 0 ≤ k) (h1 : k ≤ cs.length) : OkS (PySem.Txt.slice ⟨cs.toArray⟩ (some k) none) := fun x hx => by
  have e : PySem.Txt.slice (⟨cs.toArray⟩ : Str) (some k) none = ⟨((cs.drop k.toNat).take ((cs.length : Int) - k).toNat).toArray⟩ := StrLaws.sliceText_from (x := ⟨cs.toArray⟩) (i := k) ⟨h0, by simpa using h1⟩
  rw [e] at hx
  exact h x (List.mem_of_mem_drop (i := k.toNat) (List.mem_of_mem_take (i := ((cs.length : Int) - k).toNat) hx))
theorem snoc_all {α : Type} {P : α → Prop} {l : List α} {x : α} (h : ∀ a ∈ l, P a) (hx : P x) : ∀ a ∈ l ++ [x], P a := fun a ha => by
  rcases List.mem_append.mp ha with z | z
  · exact h a z
  · rw [List.mem_singleton.mp z]; exact hx
def sp_names : Sp := fun vs H Q _ => ∃ (n : Int), vs = [.int n] ∧ 0 ≤ n ∧ n ≤ 1000000 ∧ ∀ (r : Addr) (H' : Hp) (ss : List Str), H r = none → Same H H' → ss.length = 6 → (∀ s ∈ ss, OkS s) → H' r = some (.lst (ss.map V.str)) → Q (.ref r) H'
def sp_deed (K : PySem.W.Frag) : Sp := fun vs H Q _ => ∃ (a : Addr) (ns : List Int) (k : Int) (l : Addr) (ss : List Str), vs = [.ref a, .int k, .ref l] ∧ SqL K H a (ns.map V.int) ∧ ns.length ≤ 63 ∧ 0 ≤ k ∧ k ≤ 1000 ∧ H l = some (.lst (ss.map V.str)) ∧ ss.length = 6 ∧ ∀ (t wl : Addr) (H' : Hp) (what name : Str) (ws : List Int), Same H H' → H wl = none → (what = "keep" ∨ what = "drop") → name ∈ ss → ws.length ≤ 120 → H' wl = some (.lst (ws.map V.int)) → H' t = some (.tup [.str what, .str name, .ref wl]) → Q (.ref t) H'
abbrev abc : Str := "abcdefghijklmnopqrstuvwxyz"
theorem abc_len : abc.length = 26 := by decide +kernel
theorem abc_at {i : Int} (h0 : 0 ≤ i) (h1 : i < 26) : ∃ c, abc.cps[i.toNat]? = some c ∧ c < 0x110000 := by
  have h : i.toNat < abc.cps.size := by
    have := abc_len
    have e : abc.cps.size = 26 := this
    omega
  have hall : ∀ c ∈ abc.cps, c < 0x110000 := by decide +kernel
  exact ⟨abc.cps[i.toNat], Array.getElem?_eq_getElem h, hall _ (Array.getElem_mem h)⟩
theorem one_len (c : Nat) : (⟨#[c]⟩ : Str).length = 1 := rfl
section
variable {P : Program} {w : World} {K : PySem.W.Frag} {mg : Str → Option Value} {base : Heap}
theorem z29 : FnScope ["_law_number", "_law_letters", "_law_first", "_law_size", "_law_at", "_law_stem"] ["_law_number"] (defScope s_law_names) := ⟨rfl, rfl, rfl, by decide +kernel, rfl, by decide +kernel, by decide +kernel⟩
theorem ok_law_names {f : Addr} {fd : FuncData} (F : Fun K "_law_names" "_law_names" s_law_names f fd) (T : Bt mg) : FnOk P w K mg base CX0 1 f fd ["_law_number"] sp_names := by
  refine F.ok z29 (fun vs H Q E h => ?_) (fun cdv A outer s H vs Q E hr h => ?_)
  · obtain ⟨n, rfl, _⟩ := h; rfl
  · obtain ⟨n, rfl, hn0, hn1, q⟩ := h
    have hs : sizeLine = 16777216 := sizeLine_eq
    refine ⟨_, (pss_cons (ps_set (i := 1) z29.nd rfl (Or.inr rfl) pe_str)
      (pss_cons (ps_set (i := 2) z29.nd rfl (Or.inr rfl) (pe_op op_mod (pe_op op_fdiv (pv 0) pe_int) pe_int))
      (pss_cons (ps_if (pt_cmpR op_eq (pe_op op_mod (pv 0) pe_int) pe_int (nomark _))
        (pss_one (ps_ret (pe_comp rfl (blk_of (sc0 := defScope s_law_names) (N0 := ["_law_number", "_law_letters", "_law_first", "_law_size", "_law_at", "_law_stem"]) (N' := ["_law_k", "_law_letters", "_law_first"]) (own := 1) (fv := [1, 2]) (by decide +kernel) rfl rfl) (pi_range1 rfl T.b_range (pa_consN pe_int pa_nil)) (fun _ _ _ _ => (pg_name (i := 0) (by show List.Nodup (["_law_k", "_law_letters", "_law_first"] : List Str); decide +kernel) rfl (Or.inl rfl))) (fun _ _ _ _ => (pe_op op_rep_str (pe_item_str (pv 1) (pv 2) (fun _ _ => rfl)) (pe_op op_sub pe_int (pv 0)))))))
        pss_nil)
      (pss_cons (ps_set (i := 3) z29.nd rfl (Or.inl rfl) (pe_op op_mod (pe_op op_fdiv (pv 0) pe_int) pe_int))
      (pss_cons (ps_set (i := 4) z29.nd rfl (Or.inr rfl) (pe_op op_mod (pe_op op_fdiv (pv 0) pe_int) (pe_op op_add (pv 3) pe_int)))
      (pss_cons (ps_set (i := 5) z29.nd rfl (Or.inr rfl) (pe_bm PySem.F.plainAttrs_str PySem.F.slot_str_join PySem.F.type_str_join mt_join pe_str (pa_consN (pe_comp rfl (blk_of (sc0 := defScope s_law_names) (N0 := ["_law_number", "_law_letters", "_law_first", "_law_size", "_law_at", "_law_stem"]) (N' := ["_law_k", "_law_letters", "_law_number"]) (own := 1) (fv := [1, 0]) (by decide +kernel) rfl rfl) (pi_range1 rfl T.b_range (pa_consN (pv 3) pa_nil)) (fun _ _ _ _ => (pg_name (i := 0) (by show List.Nodup (["_law_k", "_law_letters", "_law_number"] : List Str); decide +kernel) rfl (Or.inl rfl))) (fun _ _ _ _ => (pe_item_str (pv 1) (pe_op op_mod (pe_op op_add (pe_op op_fdiv (pv 2) pe_int) (pe_op op_mul pe_int (pv 0))) pe_int) (fun _ _ => rfl)))) pa_nil)))
      (pss_one (ps_ret (pe_comp rfl (blk_of (sc0 := defScope s_law_names) (N0 := ["_law_number", "_law_letters", "_law_first", "_law_size", "_law_at", "_law_stem"]) (N' := ["_law_k", "_law_stem", "_law_letters", "_law_at", "_law_first"]) (own := 1) (fv := [5, 1, 4, 2]) (by decide +kernel) rfl rfl) (pi_range1 rfl T.b_range (pa_consN pe_int pa_nil)) (fun _ _ _ _ => (pg_name (i := 0) (by show List.Nodup (["_law_k", "_law_stem", "_law_letters", "_law_at", "_law_first"] : List Str); decide +kernel) rfl (Or.inl rfl))) (fun _ _ _ _ => (pe_op op_add_str (pe_op op_add_str (pe_slice sl_str (pv 1) po_none (po_some (pv 3))) (pe_item_str (pv 2) (pe_op op_mod (pe_op op_add (pv 4) (pe_op op_mul pe_int (pv 0))) pe_int) (fun _ _ => rfl))) (pe_slice sl_str (pv 1) (po_some (pv 3)) po_none)))))))))))), ?_⟩
    refine ⟨_, rfl, _, _, rfl, rfl, ⟨by decide, by decide⟩, _, _, rfl, rfl, (by show (0 : Int) < 26; decide), ?_⟩
    have f0 : 0 ≤ n / 2 % 26 := Int.emod_nonneg _ (by decide)
    have f1 : n / 2 % 26 < 26 := Int.emod_lt_of_pos _ (by decide)
    refine ⟨_, rfl, _, _, rfl, rfl, (by show (0 : Int) < 2; decide), rfl, _, rfl, ite2 (fun h => ?_) (fun h => ?_)⟩
    · refine ⟨6, rfl, by decide, by decide, comp_rngInv (lo := 0) (n := 6) (fvals := [some (.str abc), some (.int (n / 2 % 26))]) (fun acc j H2 => H acc = none ∧ Same H H2 ∧ ∃ ss : List Str, ss.length = j ∧ (∀ s ∈ ss, OkS s) ∧ H2 acc = some (.lst (ss.map V.str))) ?_ ?_ ?_⟩
      · intro acc hacc
        exact ⟨hacc, Same.put hacc, [], rfl, (fun _ z => by cases z), upd_same⟩
      · rintro acc j H2 R hj ⟨hacc, s2, ss, hw, hok, ea⟩ hRR
        obtain ⟨c, hc, hcl⟩ := abc_at f0 f1
        refine ⟨_, rfl, _, rfl, abc, n / 2 % 26, c, rfl, rfl, f0, by omega, by rw [abc_len]; omega, hc, _, rfl, _, _, rfl, rfl, _, _, rfl, rfl, by omega, by omega, by rw [one_len]; omega, ?_⟩
        exact hRR _ _ ⟨_, ea, by rw [List.length_map]; omega, hacc, Kl.same s2 hacc Kl.one, ss ++ [repS ⟨#[c]⟩ (8 - (0 + (j : Int)))], by rw [List.length_append, hw]; rfl, snoc_all hok (oks_rep (oks_one hcl) _), by rw [upd_same, List.map_append]; rfl⟩
      · rintro r H2 _ ⟨hr0, s2, ss, hw, hok, ea⟩
        exact q r H2 ss hr0 s2 hw hok ea
    refine ⟨_, rfl, _, _, rfl, rfl, ⟨by decide, by decide⟩, _, _, rfl, rfl, (by show (0 : Int) < 8; decide), ?_⟩
    obtain ⟨sz, hsz⟩ : ∃ z : Int, z = n / 52 % 8 := ⟨_, rfl⟩
    have s0 : 0 ≤ sz := by rw [hsz]; exact Int.emod_nonneg _ (by decide)
    have s1 : sz < 8 := by rw [hsz]; exact Int.emod_lt_of_pos _ (by decide)
    refine ⟨_, rfl, _, _, rfl, rfl, ⟨by decide, by decide⟩, _, rfl, _, _, rfl, rfl, _, _, rfl, rfl, (by show (0 : Int) < n / 52 % 8 + 1; omega), ?_⟩
    obtain ⟨at', hat⟩ : ∃ z : Int, z = n / 416 % (n / 52 % 8 + 1) := ⟨_, rfl⟩
    have a0 : 0 ≤ at' := by rw [hat]; exact Int.emod_nonneg _ (by omega)
    have a1 : at' < 100 := by
      have := Int.emod_lt_of_pos (n / 416) (b := n / 52 % 8 + 1) (by omega)
      omega
    refine ⟨rfl, _, rfl, _, rfl, (by show -(2 ^ 62) ≤ n / 52 % 8; omega), (by show n / 52 % 8 < 2 ^ 62; omega), comp_rngInv (lo := 0) (n := (n / 52 % 8).toNat) (fvals := [some (.str abc), some (.int n)]) (fun acc j H2 => H acc = none ∧ Same H H2 ∧ ∃ cs : List Nat, cs.length = j ∧ (∀ c ∈ cs, c < 0x110000) ∧ H2 acc = some (.lst ((cs.map one).map V.str))) ?_ ?_ ?_⟩
    · intro acc hacc
      exact ⟨hacc, Same.put hacc, [], rfl, (fun _ z => by cases z), upd_same⟩
    · rintro acc j H2 R hj ⟨hacc, s2, cs, hw, hok, ea⟩ hRR
      obtain ⟨ix, hix⟩ : ∃ z : Int, z = (n / 3328 + 5 * (0 + (j : Int))) % 26 := ⟨_, rfl⟩
      have i0 : 0 ≤ ix := by rw [hix]; exact Int.emod_nonneg _ (by decide)
      have i1 : ix < 26 := by rw [hix]; exact Int.emod_lt_of_pos _ (by decide)
      obtain ⟨c, hc, hcl⟩ := abc_at i0 i1
      refine ⟨_, rfl, _, rfl, _, _, rfl, rfl, ⟨by decide, by decide⟩, _, rfl, _, _, rfl, rfl, cmul_l (by decide) (by decide), _, _, rfl, rfl, _, _, rfl, rfl, (by show (0 : Int) < 26; decide), abc, ix, c, rfl, by rw [hix], i0, by omega, by rw [abc_len]; omega, hc, ?_⟩
      exact hRR _ _ ⟨_, ea, by rw [List.length_map, List.length_map]; omega, hacc, Kl.same s2 hacc Kl.one, cs ++ [c], by rw [List.length_append, hw]; rfl, snoc_all hok hcl, by rw [upd_same, List.map_append, List.map_append]; rfl⟩
    rintro acc H2 hacc ⟨_, y2, cs, hw, hcs, ea⟩
    have hw7 : cs.length ≤ 7 := by omega
    refine ⟨"", acc, cs.map one, rfl, rfl, SqL.of ea, strs_not_long (by omega), ?_, ?_⟩
    · rw [glue_one]; show cs.toArray.size ≤ sizeLine; rw [List.size_toArray]; omega
    obtain ⟨stem, hst⟩ : ∃ z : Str, z = Builtin.Str.glued "" (cs.map one) := ⟨_, rfl⟩
    have stl : stem.length ≤ 7 := by rw [hst, glue_one]; show cs.toArray.size ≤ 7; rw [List.size_toArray]; omega
    have hst' : stem = ⟨cs.toArray⟩ := by rw [hst, glue_one]
    have a2 : n / 416 % (n / 52 % 8 + 1) ≤ cs.length := by
      have := Int.emod_lt_of_pos (n / 416) (b := n / 52 % 8 + 1) (by omega)
      omega
    have a3 : 0 ≤ n / 416 % (n / 52 % 8 + 1) := Int.emod_nonneg _ (by omega)
    have st1 : OkS (PySem.Txt.slice stem none (some (n / 416 % (n / 52 % 8 + 1)))) := by rw [hst']; exact oks_to hcs a3 a2
    have st2 : OkS (PySem.Txt.slice stem (some (n / 416 % (n / 52 % 8 + 1))) none) := by rw [hst']; exact oks_from hcs a3 a2
    rw [← hst]
    refine ⟨6, rfl, by decide, by decide, comp_rngInv (lo := 0) (n := 6) (fvals := [some (.str stem), some (.str abc), some (.int (n / 416 % (n / 52 % 8 + 1))), some (.int (n / 2 % 26))]) (fun acc j H3 => H2 acc = none ∧ Same H2 H3 ∧ ∃ ss : List Str, ss.length = j ∧ (∀ s ∈ ss, OkS s) ∧ H3 acc = some (.lst (ss.map V.str))) ?_ ?_ ?_⟩
    · intro acc hacc
      exact ⟨hacc, Same.put hacc, [], rfl, (fun _ z => by cases z), upd_same⟩
    · rintro acc j H3 R hj ⟨hacc, s2, ss, hw, hok, ea⟩ hRR
      obtain ⟨ix, hix⟩ : ∃ z : Int, z = (n / 2 % 26 + 7 * (0 + (j : Int))) % 26 := ⟨_, rfl⟩
      have i0 : 0 ≤ ix := by rw [hix]; exact Int.emod_nonneg _ (by decide)
      have i1 : ix < 26 := by rw [hix]; exact Int.emod_lt_of_pos _ (by decide)
      obtain ⟨c, hc, hcl⟩ := abc_at i0 i1
      have l1 := PySem.Txt.slice_le stem none (some (n / 416 % (n / 52 % 8 + 1)))
      have l2 := PySem.Txt.slice_le stem (some (n / 416 % (n / 52 % 8 + 1))) none
      have l3 : (PySem.Txt.slice stem none (some (n / 416 % (n / 52 % 8 + 1))) ++ (⟨#[c]⟩ : Str)).length = (PySem.Txt.slice stem none (some (n / 416 % (n / 52 % 8 + 1)))).length + 1 := by
        show (_ ++ #[c]).size = _
        rw [Array.size_append]; rfl
      refine ⟨_, rfl, _, rfl, _, rfl, stem, rfl, by omega, _, rfl, _, rfl, _, rfl, _, _, rfl, rfl, cmul_l (by decide) (by decide), _, _, rfl, rfl, _, _, rfl, rfl, (by show (0 : Int) < 26; decide), abc, ix, c, rfl, by rw [hix], i0, by omega, by rw [abc_len]; omega, hc, _, _, rfl, rfl, by rw [one_len]; omega, _, rfl, _, rfl, _, rfl, stem, rfl, by omega, _, _, rfl, rfl, by rw [l3]; omega, ?_⟩
      exact hRR _ _ ⟨_, ea, by rw [List.length_map]; omega, hacc, Kl.same s2 hacc Kl.one, ss ++ [_], by rw [List.length_append, hw]; rfl, snoc_all hok (oks_app (oks_app st1 (oks_one hcl)) st2), by rw [upd_same, List.map_append]; rfl⟩
    · rintro r H3 hr0 ⟨_, y3, ss, hw, hok, ea⟩
      exact q r H3 ss (y2.free hr0) (y2.trans y3) hw hok ea
end
end K79

set_option Elab.async false
set_option linter.all false
set_option maxRecDepth 100000
set_option maxHeartbeats 4000000
namespace K79
open PySem L2
theorem list5 {ms : List Int} (h : ms.length = 5) : ∃ a b c d e, ms = [a, b, c, d, e] := by
  match ms, h with
  | [a, b, c, d, e], _ => exact ⟨a, b, c, d, e, rfl⟩
def tbD : List Expr := [ (PySem.Expr.Constant (PySem.Const.str "keep") 0 ⟨124, 13, 124, 19⟩), (PySem.Expr.Constant (PySem.Const.str "keep") 0 ⟨124, 21, 124, 27⟩), (PySem.Expr.Constant (PySem.Const.str "keep") 0 ⟨124, 29, 124, 35⟩), (PySem.Expr.Constant (PySem.Const.str "keep") 0 ⟨124, 37, 124, 43⟩), (PySem.Expr.Constant (PySem.Const.str "keep") 0 ⟨124, 45, 124, 51⟩), (PySem.Expr.Constant (PySem.Const.str "drop") 0 ⟨124, 53, 124, 59⟩), (PySem.Expr.Constant (PySem.Const.str "drop") 0 ⟨124, 61, 124, 67⟩), (PySem.Expr.Constant (PySem.Const.str "drop") 0 ⟨124, 69, 124, 75⟩)]
abbrev stD (es : List Expr) : Stmt := (PySem.Stmt.Return (value := (some (PySem.Expr.Tuple (elts := [ (PySem.Expr.Subscript (value := (PySem.Expr.List (elts := es) (pos := ⟨124, 12, 124, 76⟩))) (slice := (PySem.Expr.Name "_law_how" ⟨124, 77, 124, 85⟩)) (pos := ⟨124, 12, 124, 86⟩)), (PySem.Expr.Subscript (value := (PySem.Expr.Name "_law_names_here" ⟨124, 88, 124, 103⟩)) (slice := (PySem.Expr.Name "_law_which" ⟨124, 104, 124, 114⟩)) (pos := ⟨124, 88, 124, 115⟩)), (PySem.Expr.Name "_law_words" ⟨124, 117, 124, 127⟩)]) (k := 0) (pos := ⟨124, 11, 124, 128⟩)))) (pos := ⟨124, 4, 124, 128⟩))
theorem body_deed : defBody s_law_deed = [(defBody s_law_deed).getD 0 (.Pass ⟨0, 0, 0, 0⟩), (defBody s_law_deed).getD 1 (.Pass ⟨0, 0, 0, 0⟩), stD tbD] := by kernel_rfl
theorem lits_deed : litsV tbD = some [V.str "keep", V.str "keep", V.str "keep", V.str "keep", V.str "keep", V.str "drop", V.str "drop", V.str "drop"] := by kernel_rfl
theorem body_deed' : ∃ es vs, defBody s_law_deed = [(defBody s_law_deed).getD 0 (.Pass ⟨0, 0, 0, 0⟩), (defBody s_law_deed).getD 1 (.Pass ⟨0, 0, 0, 0⟩), stD es] ∧ litsV es = some vs ∧ vs.length = 8 ∧ ∀ v ∈ vs, ∃ wh : Str, v = .str wh ∧ (wh = "keep" ∨ wh = "drop") := by
  refine ⟨tbD, _, body_deed, lits_deed, rfl, fun v hv => ?_⟩
  simp only [List.mem_cons, List.not_mem_nil, or_false] at hv
  rcases hv with h | h | h | h | h | h | h | h
  · exact ⟨_, h, .inl rfl⟩
  · exact ⟨_, h, .inl rfl⟩
  · exact ⟨_, h, .inl rfl⟩
  · exact ⟨_, h, .inl rfl⟩
  · exact ⟨_, h, .inl rfl⟩
  · exact ⟨_, h, .inr rfl⟩
  · exact ⟨_, h, .inr rfl⟩
  · exact ⟨_, h, .inr rfl⟩

section
variable {P : Program} {w : World} {K : PySem.W.Frag} {mg : Str → Option Value} {base : Heap}
theorem z27 : FnScope ["_law_script", "_law_k", "_law_names_here", "_law_how", "_law_which", "_law_count", "_law_first", "_law_step", "_law_words"] ["_law_script", "_law_k", "_law_names_here"] (defScope s_law_deed) := ⟨rfl, rfl, rfl, by decide +kernel, rfl, by decide +kernel, by decide +kernel⟩
theorem ok_law_deed {f f1 f2 f3 f4 : Addr} {fd d1 d2 d3 d4 : FuncData} (F : Fun K "_law_deed" "_law_deed" s_law_deed f fd) (T : Bt mg) (z16 : Q0 K mg f1 d1) (z14 : Q1 K mg f2 d2)
    (z18 : Fn K mg "_law_parts" s_law_parts ["_law_script", "_law_k", "_law_sizes"] f3 d3) (z30 : Fn K mg "_law_filled" s_law_filled ["_law_count", "_law_first", "_law_step"] f4 d4) : FnOk P w K mg base CX0 3 f fd ["_law_script", "_law_k", "_law_names_here"] (sp_deed K) := by
  have G_law_parts := ok_law_parts (P := P) (w := w) (base := base) z18.F T z16 z14
  have G_law_filled := ok_law_filled (P := P) (w := w) (base := base) z30.F T
  refine F.ok z27 (fun vs H Q E h => ?_) (fun cdv A outer s H vs Q E hr h => ?_)
  · obtain ⟨a, ns, k, l, ss, rfl, _⟩ := h; rfl
  · obtain ⟨a, ns, k, l, ss, rfl, hq, hn63, hk0, hk1, hl, hsl, q⟩ := h
    have hs : sizeLine = 16777216 := sizeLine_eq
    obtain ⟨es, vs8, bt, hA, l8, h8⟩ := body_deed'
    have hT : PSs (cxOf CX0 P w K mg base ["_law_script", "_law_k", "_law_names_here", "_law_how", "_law_which", "_law_count", "_law_first", "_law_step", "_law_words"] "_law_deed" (defScope s_law_deed) f cdv A outer s H E).nox [(defBody s_law_deed).getD 0 (.Pass ⟨0, 0, 0, 0⟩), (defBody s_law_deed).getD 1 (.Pass ⟨0, 0, 0, 0⟩), stD es] _ := (pss_cons (ps_asg (pe_call G_law_parts (hr.mono (by decide)) rfl z18.m z18.F.kp z18.b .nil pass0 (pa_consN (pv 0) (pa_consN (pv 1) (pa_consN (pe_lst (pa_consN pe_int (pa_consN pe_int (pa_consN pe_int (pa_consN pe_int (pa_consN pe_int pa_nil)))))) pa_nil)))) (pg_lst rfl (pgs_cons (pg_name (i := 3) z27.nd rfl (Or.inl rfl)) (pgs_cons (pg_name (i := 4) z27.nd rfl (Or.inl rfl)) (pgs_cons (pg_name (i := 5) z27.nd rfl (Or.inl rfl)) (pgs_cons (pg_name (i := 6) z27.nd rfl (Or.inl rfl)) (pgs_cons (pg_name (i := 7) z27.nd rfl (Or.inl rfl)) pgs_nil)))))))
      (pss_cons (ps_set (i := 8) z27.nd rfl (Or.inl rfl) (pe_call G_law_filled (hr.mono (by decide)) rfl z30.m z30.F.kp z30.b .nil pass0 (pa_consN (pe_ix ix_list (pe_lst (pa_consN (pv 5) (pa_consN (pe_op op_mod (pv 5) pe_int) (pa_consN (pe_op op_mod (pv 5) pe_int) pa_nil)))) (pe_op op_mod (pv 6) pe_int) (fun _ _ => rfl)) (pa_consN (pv 6) (pa_consN (pv 7) pa_nil)))))
      (pss_one (ps_ret (pe_tup (pa_consN (pe_ix ix_list (pe_lst (pa_lits hA)) (pv 3) (fun _ _ => rfl)) (pa_consN (pe_ix ix_list (pv 2) (pv 4) (fun _ _ => rfl)) (pa_consN (pv 8) pa_nil))))))))
    rw [← bt] at hT
    refine ⟨_, hT, ?_⟩
    refine ⟨_, rfl, _, rfl, (by show 5 ≤ sizeLine; omega), fun L hL => ?_⟩
    have y1 := Same.put (o := .lst [V.int 8, V.int 6, V.int 120, V.int 65536, V.int 65536]) hL
    have eL : upd H L (.lst [V.int 8, V.int 6, V.int 120, V.int 65536, V.int 65536]) L = some (.lst (([8, 6, 120, 65536, 65536] : List Int).map V.int)) := upd_same
    generalize upd H L (.lst [V.int 8, V.int 6, V.int 120, V.int 65536, V.int 65536]) = H1 at y1 eL ⊢
    refine ⟨a, ns, k, L, [8, 6, 120, 65536, 65536], rfl, y1.seq hq, hn63, hk0, hk1, eL, by decide, by decide, fun r H2 rs hr0 s2 hR er => ?_⟩
    obtain ⟨how, which, count, first, step, rfl⟩ := list5 hR.len
    have b0 := hR.bd 0 8 rfl
    have b1 := hR.bd 1 6 rfl
    have b2 := hR.bd 2 120 rfl
    have b3 := hR.bd 3 65536 rfl
    have b4 := hR.bd 4 65536 rfl
    have b0' : 0 ≤ how ∧ how < 8 := b0
    have b1' : 0 ≤ which ∧ which < 6 := b1
    have b2' : 0 ≤ count ∧ count < 120 := b2
    have b3' : 0 ≤ first ∧ first < 65536 := b3
    have b4' : 0 ≤ step ∧ step < 65536 := b4
    refine ⟨r, _, rfl, SqL.of er, rfl, _, _, rfl, _, _, rfl, _, _, rfl, _, _, rfl, _, _, rfl, rfl, ?_⟩
    have s02 := y1.trans s2
    refine ⟨_, rfl, _, rfl, _, _, rfl, rfl, (by show (0 : Int) < 34; decide), _, rfl, _, _, rfl, rfl, (by show (0 : Int) < 18; decide), (by show 3 ≤ sizeLine; omega), fun M hM => ?_⟩
    have y3 := Same.put (o := .lst [V.int count, V.int (count % 34), V.int (count % 18)]) hM
    have eM : upd H2 M (.lst [V.int count, V.int (count % 34), V.int (count % 18)]) M = some (.lst (([count, count % 34, count % 18] : List Int).map V.int)) := upd_same
    generalize upd H2 M (.lst [V.int count, V.int (count % 34), V.int (count % 18)]) = H3 at y3 eM ⊢
    obtain ⟨m, hm, em⟩ := atI_ix (ns := [count, count % 34, count % 18]) (i := first % 3) (Int.emod_nonneg _ (by decide)) (by show _ < ((3 : Nat) : Int); exact Int.emod_lt_of_pos _ (by decide))
    have hmb : 0 ≤ m ∧ m ≤ 120 := by
      simp only [List.mem_cons, List.not_mem_nil, or_false] at hm
      have h1 := Int.emod_nonneg count (b := 34) (by decide)
      have h2 := Int.emod_lt_of_pos count (b := 34) (by decide)
      have h3 := Int.emod_nonneg count (b := 18) (by decide)
      have h4 := Int.emod_lt_of_pos count (b := 18) (by decide)
      omega
    refine ⟨_, rfl, _, _, rfl, rfl, (by show (0 : Int) < 3; decide), M, _, _, _, rfl, rfl, SqL.of eM, em, _, rfl, _, rfl, m.toNat, first, step, by rw [Int.toNat_of_nonneg hmb.1]; rfl, by omega, by omega, by omega, fun wl H4 ws hwl0 y4 hws ewl => ?_⟩
    have s03 := s02.trans y3
    have s04 := s03.trans y4
    refine ⟨(by show vs8.length ≤ sizeLine; omega), fun M2 hM2 => ?_⟩
    have y5 := Same.put (o := .lst vs8) hM2
    have eM2 : upd H4 M2 (.lst vs8) M2 = some (.lst vs8) := upd_same
    generalize upd H4 M2 (.lst vs8) = H5 at y5 eM2 ⊢
    obtain ⟨v, hv, ev⟩ := atI_mem (xs := vs8) (i := how) b0'.1 (by rw [l8]; omega)
    have hv' := h8 v hv
    obtain ⟨wh, rfl, hwh⟩ := hv'
    obtain ⟨v2, hv2, ev2⟩ := atI_mem (xs := ss.map V.str) (i := which) b1'.1 (by rw [List.length_map, hsl]; omega)
    obtain ⟨nm, hnm, rfl⟩ := List.mem_map.mp hv2
    have s05 := s04.trans y5
    refine ⟨_, rfl, M2, _, _, _, rfl, rfl, SqL.of eM2, ev, _, rfl, _, rfl, l, _, _, _, rfl, rfl, SqL.of (s05 _ _ hl), ev2, _, rfl, (by show 3 ≤ sizeLine; omega), fun t ht => ?_⟩
    have y6 := Same.put (o := .tup [V.str wh, V.str nm, V.ref wl]) ht
    exact q t wl _ wh nm ws (s05.trans y6) (s03.free hwl0) hwh hnm (by omega) (y6 _ _ (y5 _ _ ewl)) upd_same
end
end K79

set_option Elab.async false
set_option linter.all false
set_option maxRecDepth 100000
set_option maxHeartbeats 4000000
namespace K79
open PySem L2
def zeros16 : List Int := List.replicate 16 0
def sp_bfor : Sp := fun vs H Q _ => ∃ (l : Addr) (ws : List Int), vs = [.ref l] ∧ H l = some (.lst (ws.map V.int)) ∧ Q (.int (nbl ws : Int)) H
def sp_finit (C : Addr) : Sp := fun vs H Q _ => ∃ (p dx : Addr) (n : Nat), vs = [.ref p, .int (n : Int)] ∧ n ≤ 1000 ∧ H p = some (.ins C dx []) ∧ ∀ (lc ow le : Addr) (rs : List Addr) (H' : Hp), H lc = none → H ow = none → H le = none → FlAt C H' p lc ow le rs [] ⟨List.replicate n zeros16, []⟩ → (∀ b o, H b = some o → b ≠ p → H' b = some o) → Q .non H'
def sp_look (C CF : Addr) : Sp := fun vs H Q E => ∃ (p lc ow le : Addr) (rs bas : List Addr) (S : FS) (name : Str), vs = [.ref p, .str name] ∧ FlAt C H p lc ow le rs bas S ∧ (S.files.map (·.1)).Nodup ∧ (name ∉ S.files.map (·.1) → E (.ref CF) none H) ∧ (name ∈ S.files.map (·.1) → Q .non H)
def sp_fblk (C : Addr) : Sp := fun vs H Q _ => ∃ (p lc ow le : Addr) (rs bas : List Addr) (S : FS) (n : Nat), vs = [.ref p] ∧ FlAt C H p lc ow le rs bas S ∧ S.Ok n ∧ n ≤ 1000 ∧ ∀ (r : Addr) (H' : Hp), Same H H' → H r = none → H' r = some (.lst (natsV (freeL n S.files))) → Q (.ref r) H'
def sp_free (C : Addr) : Sp := fun vs H Q _ => ∃ (p lc ow le : Addr) (rs bas : List Addr) (S : FS) (n : Nat), vs = [.ref p] ∧ FlAt C H p lc ow le rs bas S ∧ S.Ok n ∧ n ≤ 1000 ∧ ∀ (H' : Hp), Same H H' → Q (.int ((freeL n S.files).length : Int)) H'
def sp_block (C : Addr) : Sp := fun vs H Q _ => ∃ (p lc ow le : Addr) (rs bas : List Addr) (S : FS) (b : Nat), vs = [.ref p, .int (b : Int)] ∧ FlAt C H p lc ow le rs bas S ∧ b < S.cont.length ∧ ∀ (r : Addr), H r = none → Q (.ref r) (upd H r (.lst ((S.cont.getD b []).map V.int)))
def sp_bof (C CF : Addr) : Sp := fun vs H Q E => ∃ (p lc ow le : Addr) (rs bas : List Addr) (S : FS) (name : Str), vs = [.ref p, .str name] ∧ FlAt C H p lc ow le rs bas S ∧ (S.files.map (·.1)).Nodup ∧ (name ∉ S.files.map (·.1) → E (.ref CF) none H) ∧ ∀ bl ws, (name, bl, ws) ∈ S.files → ∀ (r : Addr), H r = none → Q (.ref r) (upd H r (.lst (natsV bl)))
theorem row_at {H : Hp} {rs : List Addr} {cont : List (List Int)} (h : Paired (RowAt H) rs cont) {b : Nat} (hb : b < cont.length) : ∃ a, rs[b]? = some a ∧ H a = some (.lst ((cont.getD b []).map V.int)) := by
  have hl : rs.length = cont.length := h.length
  refine ⟨rs[b]'(by omega), List.getElem?_eq_getElem (by omega), ?_⟩
  have := paired_at h (List.getElem?_eq_getElem (show b < rs.length by omega)) (List.getElem?_eq_getElem hb)
  rw [List.getD_eq_getElem?_getD, List.getElem?_eq_getElem hb]
  exact this
theorem of_name {fs : List FRow} {name : Str} (h : name ∈ fs.map (·.1)) : ∃ bl ws, (name, bl, ws) ∈ fs := by
  obtain ⟨f, hf, e⟩ := List.mem_map.mp h
  obtain ⟨a, b, c⟩ := f
  subst e
  exact ⟨b, c, hf⟩
section
variable {P : Program} {w : World} {K : PySem.W.Frag} {mg : Str → Option Value} {base : Heap}
theorem sc_blocks_for : FnScope ["words"] ["words"] (defScope s_blocks_for) := ⟨rfl, rfl, rfl, by decide +kernel, rfl, by decide +kernel, by decide +kernel⟩
theorem ok_blocks_for {f : Addr} {fd : FuncData} (F : Fun K "blocks_for" "blocks_for" s_blocks_for f fd) (T : Bt mg) (C : Ct K mg) : FnOk P w K mg base CX0 1 f fd ["words"] sp_bfor := by
  refine F.ok sc_blocks_for (fun vs H Q E h => ?_) (fun cdv A outer s H vs Q E hr h => ?_)
  · obtain ⟨l, ws, rfl, _⟩ := h; rfl
  · obtain ⟨l, ws, rfl, hl, q⟩ := h
    refine ⟨_, (pss_one (ps_ret (pe_op op_fdivL (pe_op op_sub (pe_op op_add (pe_callB call_len_seq rfl T.b_len (by decide +kernel) (pa_consN (pv 0) pa_nil)) (pe_glob (v := .int 16) rfl C.k_BLOCK.choose_spec ⟨_, rfl⟩)) pe_int) (pe_glob (v := .int 16) rfl C.k_BLOCK.choose_spec ⟨_, rfl⟩)))), ?_⟩
    refine ⟨_, rfl, l, _, rfl, .inl (SqL.of hl), _, _, rfl, rfl, _, _, rfl, rfl, _, _, rfl, rfl, ⟨by decide, by decide +kernel⟩, ?_⟩
    have e : (((ws.map V.int).length : Nat) : Int) + 16 - 1 = ((ws.length + 15 : Nat) : Int) := by rw [List.length_map]; omega
    have e2 : ((((ws.map V.int).length : Nat) : Int) + 16 - 1) / 16 = ((nbl ws : Nat) : Int) := by rw [e]; unfold nbl; omega
    show Q (.int (((((ws.map V.int).length : Nat) : Int) + 16 - 1) / 16)) H
    rw [e2]; exact q
theorem sc_Floor___init__ : FnScope ["self", "blocks"] ["self", "blocks"] (defScope s_Floor___init__) := ⟨rfl, rfl, rfl, by decide +kernel, rfl, by decide +kernel, by decide +kernel⟩
theorem ok_Floor___init__ {f FC : Addr} {fd : FuncData} (z0 : Mc K mg FC f fd) (T : Bt mg) (C : Ct K mg) : FnOk P w K mg base CX0 1 f fd ["self", "blocks"] (sp_finit FC) := by
  refine z0.F.ok sc_Floor___init__ (fun vs H Q E h => ?_) (fun cdv A outer s H vs Q E hr h => ?_)
  · obtain ⟨p, dx, n, rfl, _⟩ := h; rfl
  · obtain ⟨p, dx, n, rfl, hn, hp, q⟩ := h
    have hs : sizeLine = 16777216 := sizeLine_eq
    refine ⟨_, (pss_cons (ps_fld (pv 0) (pe_comp rfl (blk_of (sc0 := defScope s_Floor___init__) (N0 := ["self", "blocks"]) (N' := ["number"]) (own := 1) (fv := []) (by decide +kernel) rfl rfl) (pi_range1 rfl T.b_range (pa_consN (pv 1) pa_nil)) (fun _ _ _ _ => (pg_name (i := 0) (by show List.Nodup (["number"] : List Str); decide +kernel) rfl (Or.inl rfl))) (fun _ _ _ _ => (pe_op op_repL1 (pe_lst (pa_consN pe_int pa_nil)) (pe_glob (v := .int 16) rfl C.k_BLOCK.choose_spec ⟨_, rfl⟩)))) rfl)
      (pss_cons (ps_fld (pv 0) pe_dnewK rfl)
      (pss_one (ps_fld (pv 0) pe_dnewK rfl)))), ?_⟩
    refine ⟨_, rfl, _, rfl, by omega, by omega, comp_rngInv (lo := 0) (n := (n : Int).toNat) (fvals := []) (fun acc j H2 => H acc = none ∧ Same H H2 ∧ ∃ rs : List Addr, H2 acc = some (.lst (rs.map V.ref)) ∧ Paired (fun a r => RowAt H2 a r ∧ a ≠ acc) rs (List.replicate j zeros16)) ?_ ?_ ?_⟩
    · intro acc hacc
      exact ⟨hacc, Same.put hacc, [], upd_same, .nil⟩
    · rintro acc j H2 R hj ⟨hacc, s2, rs, ea, hR⟩ hRR
      rw [Int.toNat_natCast] at hj
      have lr : rs.length = j := by have := hR.length; rwa [List.length_replicate] at this
      refine ⟨(by show 1 ≤ sizeLine; omega), fun l hl => ?_⟩
      have y1 := Same.put (o := .lst [V.int 0]) hl
      refine ⟨l, 16, .int 0, rfl, rfl, upd_same, by decide, by decide, fun r hr0 => ?_⟩
      have y2 := Same.put (o := .lst (List.replicate (Int.toNat 16) (V.int 0))) hr0
      have y02 := y1.trans y2
      have er : upd (upd H2 l (.lst [V.int 0])) r (.lst (List.replicate (Int.toNat 16) (V.int 0))) r = some (.lst (zeros16.map V.int)) := upd_same
      generalize upd (upd H2 l (.lst [V.int 0])) r (.lst (List.replicate (Int.toNat 16) (V.int 0))) = H3 at y2 y02 er ⊢
      have ra : r ≠ acc := (ne_of_none (y1 _ _ ea) hr0).symm
      refine hRR _ _ ⟨_, y02 _ _ ea, by rw [List.length_map]; omega, hacc, Kl.same (s2.trans y02) hacc Kl.one, rs ++ [r], by rw [upd_same, List.map_append]; rfl, ?_⟩
      rw [List.replicate_succ']
      refine Paired.app (Paired.mapP hR fun a x z => ⟨?_, z.2⟩) (.cons ⟨?_, ra⟩ .nil)
      · show upd H3 acc _ a = _
        rw [upd_ne z.2]; exact y02 _ _ z.1
      · show upd H3 acc _ r = _
        rw [upd_ne ra]; exact er
    · rintro lc H2 _ ⟨hlc, s2, rs, ea, hR⟩
      rw [Int.toNat_natCast] at hR
      have hp2 := s2 _ _ hp
      have pl : p ≠ lc := ne_of_none hp hlc
      refine ⟨_, rfl, p, FC, dx, [], rfl, hp2, z0.cl, z0.nC, (by show 0 < 1000; decide), ?_⟩
      have k1 : Kl p H2 (upd H2 p (.ins FC dx (putF "contents" (.ref lc) []))) := Kl.one
      have e1 : upd H2 p (.ins FC dx (putF "contents" (.ref lc) [])) p = some (.ins FC dx (putF "contents" (.ref lc) [])) := upd_same
      generalize upd H2 p (.ins FC dx (putF "contents" (.ref lc) [])) = H3 at k1 e1 ⊢
      intro ow how
      have y4 := Same.put (o := .dK []) how
      have eow : upd H3 ow (.dK []) ow = some (.dK []) := upd_same
      generalize upd H3 ow (.dK []) = H4 at y4 eow ⊢
      have po : p ≠ ow := ne_of_none e1 how
      refine ⟨_, rfl, p, FC, dx, _, rfl, y4 _ _ e1, z0.cl, z0.nO, (by show 1 < 1000; decide), ?_⟩
      have k5 : Kl p H4 (upd H4 p (.ins FC dx (putF "owned" (.ref ow) (putF "contents" (.ref lc) [])))) := Kl.one
      have e5 : upd H4 p (.ins FC dx (putF "owned" (.ref ow) (putF "contents" (.ref lc) []))) p = some (.ins FC dx (putF "owned" (.ref ow) (putF "contents" (.ref lc) []))) := upd_same
      generalize upd H4 p (.ins FC dx (putF "owned" (.ref ow) (putF "contents" (.ref lc) []))) = H5 at k5 e5 ⊢
      intro le hle
      have y6 := Same.put (o := .dK []) hle
      have ele : upd H5 le (.dK []) le = some (.dK []) := upd_same
      generalize upd H5 le (.dK []) = H6 at y6 ele ⊢
      have eow5 : H5 ow = some (.dK []) := k5 _ _ eow po.symm
      have pe : p ≠ le := ne_of_none e5 hle
      refine ⟨_, rfl, p, FC, dx, _, rfl, y6 _ _ e5, z0.cl, z0.nL, ?_, ?_⟩
      · show (if ("contents" : Str) = "owned" then [(("contents" : Str), V.ref ow)] else (("contents" : Str), V.ref lc) :: putF "owned" (V.ref ow) []).length < 1000
        rw [if_neg q_co]; show 2 < 1000; decide
      have k7 : Kl p H6 (upd H6 p (.ins FC dx (fflds lc ow le))) := Kl.one
      have step : ∀ b o, H2 b = some o → b ≠ p → upd H6 p (.ins FC dx (fflds lc ow le)) b = some o := fun b o e hb => k7 _ _ (y6 _ _ (k5 _ _ (y4 _ _ (k1 _ _ e hb)) hb)) hb
      have H3n : ∀ b, H3 b = none → H2 b = none := fun b h => by
        cases e : H2 b with
        | none => rfl
        | some u =>
          by_cases z : b = p
          · rw [z, e1] at h; cases h
          · rw [k1 _ _ e z] at h; cases h
      have H5n : ∀ b, H5 b = none → H3 b = none := fun b h => by
        cases e : H3 b with
        | none => rfl
        | some u =>
          by_cases z : b = p
          · rw [z, e5] at h; cases h
          · rw [k5 _ _ (y4 _ _ e) z] at h; cases h
      refine q lc ow le rs _ hlc (s2.free (H3n ow how)) (s2.free (H3n le (H5n le hle))) ⟨⟨dx, upd_same⟩, step _ _ ea pl.symm, Paired.mapP hR fun a x z => step _ _ z.1 (fun y => ?_), k7 _ _ (y6 _ _ eow5) po.symm, .nil, k7 _ _ ele pe.symm, ne_of_none eow5 hle, fun z => ?_, by simp⟩ fun b o e hb => step _ _ (s2 _ _ e) hb
      · have z1 := z.1
        rw [y] at z1
        unfold RowAt at z1
        rw [hp2] at z1; cases z1
      · obtain ⟨j, hj, e1⟩ := List.getElem_of_mem z
        have hl := hR.length
        exact (paired_at hR (List.getElem?_eq_getElem hj) (List.getElem?_eq_getElem (by omega))).2 e1
theorem sc_Floor_look_for : FnScope ["self", "name"] ["self", "name"] (defScope s_Floor_look_for) := ⟨rfl, rfl, rfl, by decide +kernel, rfl, by decide +kernel, by decide +kernel⟩
theorem ok_Floor_look_for {f FC fi CF TE : Addr} {fd fdi : FuncData} (z0 : Mc K mg FC fi fdi) (T : Bt mg) (C : Ct K mg) (X_NoFile : Xc K mg "NoFile" CF TE) (z4 : Mt K FC "look_for" "Floor.look_for" s_Floor_look_for ["self", "name"] f fd) : FnOk P w K mg base (CX1 P w) 1 f fd ["self", "name"] (sp_look FC CF) := by
  refine z4.F.ok1 sc_Floor_look_for (fun vs H Q E h => ?_) (fun cdv A outer s H vs Q E hr h => ?_)
  · obtain ⟨p, lc, ow, le, rs, bas, S, name, rfl, _⟩ := h; rfl
  · obtain ⟨p, lc, ow, le, rs, bas, S, name, rfl, M, nd, hno, hyes⟩ := h
    obtain ⟨dx, ob⟩ := M.ob
    refine ⟨_, (pss_one (ps_if (pt_cmp (pc_dnotin (hu_of hr) (pv 1) (pe_fld (pv 0) rfl)))
        (pss_one (ps_raise0 rfl rfl X_NoFile.m X_NoFile.c raises1))
        pss_nil)), ?_⟩
    refine ⟨_, rfl, _, rfl, p, FC, dx, _, _, rfl, ob, z0.cl, z0.nO, ff_ow, ow, _, rfl, DGet.k (k := .inr name) M.od, _, rfl, ?_⟩
    by_cases hn : name ∈ S.files.map (·.1)
    · obtain ⟨bl, ws, hf⟩ := of_name hn
      obtain ⟨a, ea, _⟩ := fkv_some M.ba nd hf
      rw [ea]
      exact iteF (hyes hn)
    · rw [fkv_none hn]
      exact iteT (hno hn)
theorem sc_Floor_blocks_of : FnScope ["self", "name"] ["self", "name"] (defScope s_Floor_blocks_of) := ⟨rfl, rfl, rfl, by decide +kernel, rfl, by decide +kernel, by decide +kernel⟩
theorem ok_Floor_blocks_of {f g FC fi CF TE : Addr} {fd dg fdi : FuncData} (z0 : Mc K mg FC fi fdi) (T : Bt mg) (C : Ct K mg) (X_NoFile : Xc K mg "NoFile" CF TE) (z4 : Mt K FC "look_for" "Floor.look_for" s_Floor_look_for ["self", "name"] g dg) (z7 : Mt K FC "blocks_of" "Floor.blocks_of" s_Floor_blocks_of ["self", "name"] f fd) : FnOk P w K mg base (CX1 P w) 2 f fd ["self", "name"] (sp_bof FC CF) := by
  have z22 := ok_Floor_look_for (P := P) (w := w) (base := base) z0 T C X_NoFile z4
  refine z7.F.ok1 sc_Floor_blocks_of (fun vs H Q E h => ?_) (fun cdv A outer s H vs Q E hr h => ?_)
  · obtain ⟨p, lc, ow, le, rs, bas, S, name, rfl, _⟩ := h; rfl
  · obtain ⟨p, lc, ow, le, rs, bas, S, name, rfl, M, nd, hno, hyes⟩ := h
    obtain ⟨dx, ob⟩ := M.ob
    refine ⟨_, (pss_cons (ps_expr (pe_meth (pv 0) z0.cl z4.me z22 (hr.mono (by decide)) z4.b .nil pass1 (pa_consN (pv 1) pa_nil)))
      (pss_one (PS.nox (ps_ret (pe_callTy call_list_of rfl T.b_list (by decide +kernel) (pa_consN (pe_dget (hu_of hr) (pe_fld (pv 0) rfl) (pv 1) (fun _ _ => rfl)) pa_nil)))))), ?_⟩
    refine ⟨_, rfl, p, dx, _, rfl, ob, ff_no (by decide +kernel) (by decide +kernel) (by decide +kernel), _, rfl, p, lc, ow, le, rs, bas, S, name, rfl, M, nd, hno, fun hn => ?_⟩
    obtain ⟨bl, ws, hf⟩ := of_name hn
    obtain ⟨a, ea, eb⟩ := fkv_some M.ba nd hf
    refine ⟨_, rfl, p, FC, dx, _, _, rfl, ob, z0.cl, z0.nO, ff_ow, _, rfl, ow, .ref a, rfl, ?_, a, _, rfl, .inl (SqL.of eb), hyes bl ws hf⟩
    rw [← ea]; exact DGet.k (k := .inr name) M.od
theorem sc_Floor_block : FnScope ["self", "number"] ["self", "number"] (defScope s_Floor_block) := ⟨rfl, rfl, rfl, by decide +kernel, rfl, by decide +kernel, by decide +kernel⟩
theorem ok_Floor_block {f FC fi : Addr} {fd fdi : FuncData} (z0 : Mc K mg FC fi fdi) (T : Bt mg) (C : Ct K mg) (z12 : Mt K FC "block" "Floor.block" s_Floor_block ["self", "number"] f fd) : FnOk P w K mg base CX0 1 f fd ["self", "number"] (sp_block FC) := by
  refine z12.F.ok sc_Floor_block (fun vs H Q E h => ?_) (fun cdv A outer s H vs Q E hr h => ?_)
  · obtain ⟨p, lc, ow, le, rs, bas, S, b, rfl, _⟩ := h; rfl
  · obtain ⟨p, lc, ow, le, rs, bas, S, b, rfl, M, hb, q⟩ := h
    obtain ⟨dx, ob⟩ := M.ob
    obtain ⟨a, ea, eb⟩ := row_at M.ro hb
    refine ⟨_, (pss_one (ps_ret (pe_callTy call_list_of rfl T.b_list (by decide +kernel) (pa_consN (pe_ix ix_list (pe_fld (pv 0) rfl) (pv 1) (fun _ _ => rfl)) pa_nil)))), ?_⟩
    exact ⟨_, rfl, p, FC, dx, _, _, rfl, ob, z0.cl, z0.nC, ff_co, _, rfl, lc, _, _, _, rfl, rfl, SqL.of M.co, atI_ref ea, a, _, rfl, .inl (SqL.of eb), q⟩
end
end K79

set_option Elab.async false
set_option linter.all false
set_option maxRecDepth 100000
set_option maxHeartbeats 4000000
namespace K79
open PySem L2
theorem used_take_succ {fs : List FRow} {i : Nat} {f : FRow} (h : fs[i]? = some f) : used (fs.take (i + 1)) = used (fs.take i) ++ f.2.1 := by
  rw [List.take_add_one, h]; exact used_snoc _ _
theorem used_take_len (fs : List FRow) (i : Nat) : (used (fs.take i)).length ≤ (used fs).length := by
  have h := List.take_append_drop i fs
  have : used fs = used (fs.take i) ++ used (fs.drop i) := by
    conv => lhs; rw [← h]
    unfold used; rw [List.flatMap_append]
  rw [this, List.length_append]; omega
section
variable {P : Program} {w : World} {K : PySem.W.Frag} {mg : Str → Option Value} {base : Heap}
theorem z19 : FnScope ["self", "taken", "blocks", "number"] ["self"] (defScope s_Floor_free_blocks) := ⟨rfl, rfl, rfl, by decide +kernel, rfl, by decide +kernel, by decide +kernel⟩
theorem ok_Floor_free_blocks {f FC fi : Addr} {fd fdi : FuncData} (z0 : Mc K mg FC fi fdi) (T : Bt mg) (C : Ct K mg) (z5 : Mt K FC "free_blocks" "Floor.free_blocks" s_Floor_free_blocks ["self"] f fd) : FnOk P w K mg base CX0 1 f fd ["self"] (sp_fblk FC) := by
  refine z5.F.ok z19 (fun vs H Q E h => ?_) (fun cdv A outer s H vs Q E hr h => ?_)
  · obtain ⟨p, lc, ow, le, rs, bas, S, n, rfl, _⟩ := h; rfl
  · obtain ⟨p, lc, ow, le, rs, bas, S, n, rfl, M, ok, hn, q⟩ := h
    have hs : sizeLine = 16777216 := sizeLine_eq
    have hul := free_len ok.lt ok.un
    obtain ⟨dx, ob⟩ := M.ob
    refine ⟨_, (pss_cons (ps_set (i := 1) z19.nd rfl (Or.inr rfl) pe_dnewK)
      (pss_cons (ps_frozen (ps_for PassesOwn.never rfl (pi_vals (pe_fld (pv 0) rfl)) (pg_name (i := 2) z19.nd rfl (Or.inl rfl))
        (pss_one (ps_for PassesOwn.never rfl (pi_list (pv 2)) (pg_name (i := 3) z19.nd rfl (Or.inl rfl))
          (pss_one (ps_dput (hu_of hr) (pv 1) (pv 3) pe_bl rfl))))))
      (pss_one (ps_ret (pe_compIf rfl (blk_of (sc0 := defScope s_Floor_free_blocks) (N0 := ["self", "taken", "blocks", "number"]) (N' := ["number", "taken"]) (own := 1) (fv := [1]) (by decide +kernel) rfl rfl) (pi_range1 rfl T.b_range (pa_consN (pe_callB call_len_seq rfl T.b_len (by decide +kernel) (pa_consN (pe_fld (pv 0) rfl) pa_nil)) pa_nil)) (fun _ _ _ _ => (pg_name (i := 0) (by show List.Nodup (["number", "taken"] : List Str); decide +kernel) rfl (Or.inl rfl))) (fun _ _ _ _ => (pt_cmp (pc_dnotin (hu_of hr) (pv 0) (pv 1)))) (fun _ _ _ _ => (pv 0))))))), ?_⟩
    intro tk htk
    have y1 := Same.put (o := .dK []) htk
    have etk : upd H tk (.dK []) tk = some (.dK []) := upd_same
    generalize upd H tk (.dK []) = H1 at y1 etk ⊢
    have M1 := M.same y1
    have otk : ow ≠ tk := ne_of_none M.od htk
    refine ⟨ow, _, M1.od, fun o => ?_⟩
    have kf : ∀ b u, H1 b = some u → b ≠ ow → upd H1 ow (.frz o (.dK (fkv S.files bas))) b = some u := fun b u e hb => by rw [upd_ne hb]; exact e
    have efz : upd H1 ow (.frz o (.dK (fkv S.files bas))) ow = some (.frz o (.dK (fkv S.files bas))) := upd_same
    generalize upd H1 ow (.frz o (.dK (fkv S.files bas))) = Hf at kf efz ⊢
    have pow : p ≠ ow := ne_of ob M.od (by intro z; cases z)
    have lcw : lc ≠ ow := ne_of M.co M.od (by intro z; cases z)
    have ptk : p ≠ tk := ne_of_none ob htk
    have lctk : lc ≠ tk := ne_of_none M.co htk
    have obf := kf _ _ (y1 _ _ ob) pow
    refine ⟨_, rfl, p, FC, dx, _, _, rfl, obf, z0.cl, z0.nO, ff_ow, ow, o, _, rfl, efz, for_vals (d := ow) (o := o) (kvs := fkv S.files bas) (fun i σ H2 => ∃ (v2 v3 : Option V) (ks : List (Key × V)), σ = [some (.ref p), some (.ref tk), v2, v3] ∧ Kl tk Hf H2 ∧ H2 tk = some (.dK ks) ∧ ks.length ≤ (used (S.files.take i)).length ∧ ∀ b : Nat, (valV ks (.inl (b : Int))).isSome = decide (b ∈ used (S.files.take i)))
      ⟨none, none, [], rfl, Kl.of (Same.refl _), kf _ _ etk otk.symm, Nat.zero_le _, fun b => by simp [valV, used]⟩ ?_ ?_ ?_⟩
    · rintro i σ H2 _ ⟨v2, v3, ks, rfl, k2, _⟩
      exact k2 _ _ efz otk
    · rintro i k v σ H2 hi ⟨v2, v3, ks, rfl, k2, e2, hl2, hk2⟩
      obtain ⟨fr, a, hfr, rfl, ea⟩ := fkv_at M1.ba hi
      have aow : a ≠ ow := ne_of ea M1.od (by intro z; cases z)
      have atk : a ≠ tk := ne_of ea etk (by intro z; cases z)
      have ea2 := k2 _ _ (kf _ _ ea aow) atk
      have hul2 := used_take_len S.files (i + 1)
      rw [used_take_succ hfr, List.length_append] at hul2
      refine ⟨_, rfl, a, rfl, ⟨_, SqL.of ea2⟩, for_list (xs := natsV fr.2.1) (fun j σ H3 => ∃ (v3 : Option V) (ks : List (Key × V)), σ = [some (.ref p), some (.ref tk), some (.ref a), v3] ∧ Kl tk Hf H3 ∧ H3 tk = some (.dK ks) ∧ ks.length ≤ (used (S.files.take i)).length + j ∧ ∀ b : Nat, (valV ks (.inl (b : Int))).isSome = decide (b ∈ used (S.files.take i) ++ fr.2.1.take j))
        ⟨v3, ks, rfl, k2, e2, hl2, fun b => by rw [hk2, List.take_zero, List.append_nil]⟩ ?_ ?_ ?_⟩
      · rintro j σ H3 _ ⟨v3, ks, rfl, k3, _⟩
        exact SqL.of (k3 _ _ (kf _ _ ea aow) atk)
      · rintro j x σ H3 hx ⟨v3, ks, rfl, k3, e3, hl3, hk3⟩
        obtain ⟨b, hb, rfl⟩ := nat_get hx
        have hj : j < fr.2.1.length := (List.getElem?_eq_some_iff.mp hb).1
        refine ⟨_, rfl, _, rfl, tk, _, rfl, DPut.k (k := .inl (b : Int)) e3 (by omega), ?_⟩
        refine ⟨_, putK ks (.inl (b : Int)) (.bl true), rfl, k3.trans Kl.one, upd_same, ?_, fun c => ?_⟩
        · have := length_putK ks (.inl (b : Int)) (.bl true); omega
        · rw [valV_put, List.take_add_one, hb]
          by_cases e : c = b
          · subst e
            rw [if_pos rfl]
            exact (decide_eq_true (List.mem_append_right _ (List.mem_append_right _ (List.mem_singleton.mpr rfl)))).symm
          · rw [if_neg (fun z => e (by have := Sum.inl.inj z; omega)), hk3]
            refine decide_eq_decide.mpr ?_
            rw [List.mem_append, List.mem_append, List.mem_append]
            refine ⟨fun h => h.elim .inl fun h => .inr (.inl h), fun h => h.elim .inl fun h => h.elim .inr fun h => (e (List.mem_singleton.mp h)).elim⟩
      · rintro σ H3 ⟨v3, ks, rfl, k3, e3, hl3, hk3⟩
        rw [nats_len] at hl3 hk3
        refine ⟨_, _, ks, rfl, k3, e3, ?_, fun b => ?_⟩
        · rw [used_take_succ hfr, List.length_append]; exact hl3
        · rw [hk3, used_take_succ hfr, List.take_of_length_le (Nat.le_refl _)]
    rintro σ H2 ⟨v2, v3, ks, rfl, k2, e2, hl2, hk2⟩
    rw [fkv_length M1.ba, List.take_of_length_le (Nat.le_refl _)] at hk2
    refine ⟨k2 _ _ efz otk, ?_⟩
    have sT : Same H (thaw ow (fkv S.files bas) H2) := fun b u e => by
      unfold thaw
      by_cases hb : b = ow
      · subst hb; rw [upd_same, ← e]; exact M.od.symm
      · rw [upd_ne hb]
        exact k2 _ _ (kf _ _ (y1 _ _ e) hb) (ne_of_none e htk)
    have eT : thaw ow (fkv S.files bas) H2 tk = some (.dK ks) := by unfold thaw; rw [upd_ne otk.symm]; exact e2
    generalize thaw ow (fkv S.files bas) H2 = H3 at sT eT ⊢
    have M3 := M.same sT
    have hlr : rs.length = n := by rw [M.ro.length]; exact ok.len
    refine ⟨_, rfl, p, FC, dx, _, _, rfl, sT _ _ ob, z0.cl, z0.nC, ff_co, lc, _, rfl, .inl (SqL.of M3.co), _, rfl, ?_⟩
    rw [List.length_map, hlr]
    refine ⟨by omega, by omega, compIf_rng (lo := 0) (n := (n : Int).toNat) (fvals := [some (.ref tk)]) (fun acc i H4 => H3 acc = none ∧ Same H3 H4 ∧ H4 acc = some (.lst (natsV ((List.range i).filter fun b => decide (b ∉ used S.files))))) ?_ ?_ ?_⟩
    · intro acc hacc
      exact ⟨hacc, Same.put hacc, upd_same⟩
    · rintro acc i H4 m W hi ⟨hacc, y4, ea⟩ hW
      rw [Int.toNat_natCast] at hi
      refine ⟨_, rfl, _, rfl, tk, _, rfl, DGet.k (k := .inl (0 + (i : Int))) (y4 _ _ eT), _, rfl, ?_⟩
      rw [show (Sum.inl (0 + (i : Int)) : Key) = .inl (i : Int) by rw [Int.zero_add], hk2]
      by_cases hu : i ∈ used S.files
      · rw [decide_eq_true hu]
        refine iteF (hW _ ⟨hacc, y4, ?_⟩)
        rw [List.range_succ, List.filter_append, List.filter_cons_of_neg (by simpa using hu), List.filter_nil, List.append_nil]
        exact ea
      · rw [decide_eq_false hu]
        refine iteT ⟨_, rfl, _, ea, ?_, hW _ ⟨hacc, Kl.same y4 hacc Kl.one, ?_⟩⟩
        · have h1 := List.length_filter_le (fun b => decide (b ∉ used S.files)) (List.range i)
          rw [List.length_range] at h1
          rw [nats_len]; omega
        · rw [upd_same, Int.zero_add, nats_snoc, List.range_succ, List.filter_append, List.filter_cons_of_pos (by simpa using hu), List.filter_nil]
    · rintro r H4 hr0 ⟨_, y4, ea⟩
      rw [Int.toNat_natCast] at ea
      exact q r H4 (sT.trans y4) (sT.free hr0) ea
theorem sc_Floor_free : FnScope ["self"] ["self"] (defScope s_Floor_free) := ⟨rfl, rfl, rfl, by decide +kernel, rfl, by decide +kernel, by decide +kernel⟩
theorem ok_Floor_free {f g FC fi : Addr} {fd dg fdi : FuncData} (z0 : Mc K mg FC fi fdi) (T : Bt mg) (C : Ct K mg) (z5 : Mt K FC "free_blocks" "Floor.free_blocks" s_Floor_free_blocks ["self"] g dg) (z11 : Mt K FC "free" "Floor.free" s_Floor_free ["self"] f fd) : FnOk P w K mg base CX0 2 f fd ["self"] (sp_free FC) := by
  have z28 := ok_Floor_free_blocks (P := P) (w := w) (base := base) z0 T C z5
  refine z11.F.ok sc_Floor_free (fun vs H Q E h => ?_) (fun cdv A outer s H vs Q E hr h => ?_)
  · obtain ⟨p, lc, ow, le, rs, bas, S, n, rfl, _⟩ := h; rfl
  · obtain ⟨p, lc, ow, le, rs, bas, S, n, rfl, M, ok, hn, q⟩ := h
    obtain ⟨dx, ob⟩ := M.ob
    refine ⟨_, (pss_one (ps_ret (pe_callB call_len_seq rfl T.b_len (by decide +kernel) (pa_consN (pe_meth0 (pv 0) z0.cl z5.me z28 (hr.mono (by decide)) z5.b .nil pass0) pa_nil)))), ?_⟩
    refine ⟨_, rfl, p, dx, _, rfl, ob, ff_no (by decide +kernel) (by decide +kernel) (by decide +kernel), p, lc, ow, le, rs, bas, S, n, rfl, M, ok, hn, fun r H' s' hr0 er => ⟨r, _, rfl, .inl (SqL.of er), ?_⟩⟩
    rw [nats_len]
    exact q H' s'
end
end K79

set_option Elab.async false
set_option linter.all false
set_option maxRecDepth 100000
set_option maxHeartbeats 4000000
namespace K79
open PySem L2
def sp_fdrop (C CF : Addr) : Sp := fun vs H Q E => ∃ (p lc ow le : Addr) (rs bas : List Addr) (S : FS) (n : Nat) (name : Str), vs = [.ref p, .str name] ∧ FlAt C H p lc ow le rs bas S ∧ S.Ok n ∧ n ≤ 1000 ∧ (name ∉ S.files.map (·.1) → E (.ref CF) none H) ∧
  (name ∈ S.files.map (·.1) → ∀ (H' : Hp) (rs' bas' : List Addr) (cont : List (List Int)), Kf lc ow le H H' → (∀ x ∈ rs' ++ bas', x ∈ rs ++ bas ∨ H x = none) → FlAt C H' p lc ow le rs' bas' ⟨cont, without S.files name⟩ → FS.Ok n ⟨cont, without S.files name⟩ → Q .non H')
theorem none_back {H H' : Hp} {a b c : Addr} (k : ∀ x o, H x = some o → x ≠ a → x ≠ b → x ≠ c → H' x = some o) {oa ob oc : HO} (ha : H' a = some oa) (hb : H' b = some ob) (hc : H' c = some oc) {r : Addr} (hr : H' r = none) : H r = none := by
  cases e : H r with
  | none => rfl
  | some o =>
    have := k r o e (fun z => by rw [z, ha] at hr; cases hr) (fun z => by rw [z, hb] at hr; cases hr) (fun z => by rw [z, hc] at hr; cases hr)
    rw [hr] at this; cases this
theorem fr_set {H : Hp} {rs rs' : List Addr} {b : Nat} {r : Addr} (h : ∀ x ∈ rs', x ∈ rs ∨ H x = none) (hr : H r = none) : ∀ x ∈ rs'.set b r, x ∈ rs ∨ H x = none := fun x hx => by
  rcases List.mem_or_eq_of_mem_set hx with z | z
  · exact h x z
  · rw [z]; exact .inr hr
theorem getD_setL {cont : List (List Int)} {i j : Nat} {r : List Int} (h : i < cont.length) : (cont.set i r).getD j [] = if i = j then r else cont.getD j [] := by
  rw [List.getD_eq_getElem?_getD, List.getD_eq_getElem?_getD, List.getElem?_set]
  by_cases e : i = j
  · subst e; rw [if_pos rfl, if_pos h, if_pos rfl]; rfl
  · rw [if_neg e, if_neg e]
theorem rows_set {H H' : Hp} {lc r : Addr} {rs : List Addr} {cont : List (List Int)} {b : Nat} {x : List Int} (h : Paired (RowAt H) rs cont) (ap : lc ∉ rs) (k : Kl lc H H') (er : RowAt H' r x) : Paired (RowAt H') (rs.set b r) (cont.set b x) := by
  have hl : rs.length = cont.length := h.length
  refine paired_of (by rw [List.length_set, List.length_set]; exact hl) fun j a y e1 e2 => ?_
  by_cases hj : j = b
  · subst hj
    have l1 : j < rs.length := by have := (List.getElem?_eq_some_iff.mp e1).1; rwa [List.length_set] at this
    rw [List.getElem?_set_self l1] at e1
    rw [List.getElem?_set_self (by omega)] at e2
    cases e1; cases e2
    exact er
  · rw [List.getElem?_set_ne (Ne.symm hj)] at e1 e2
    have hx : RowAt H a y := paired_at h e1 e2
    exact k _ _ hx (fun z => ap (z ▸ List.mem_of_getElem? e1))
theorem ap_set {lc r : Addr} {rs : List Addr} {b : Nat} (ap : lc ∉ rs) (hr : lc ≠ r) : lc ∉ rs.set b r := fun z => by
  rcases List.mem_or_eq_of_mem_set z with h | h
  · exact ap h
  · exact hr h
theorem set_ref (rs : List Addr) (b : Nat) (r : Addr) : (rs.map V.ref).set b (V.ref r) = (rs.set b r).map V.ref := by rw [List.map_set]
section
variable {P : Program} {w : World} {K : PySem.W.Frag} {mg : Str → Option Value} {base : Heap}
theorem sc_Floor_drop : FnScope ["self", "name", "blocks", "number"] ["self", "name"] (defScope s_Floor_drop) := ⟨rfl, rfl, rfl, by decide +kernel, rfl, by decide +kernel, by decide +kernel⟩
theorem ok_Floor_drop {f g FC fi CF TE : Addr} {fd dg fdi : FuncData} (z0 : Mc K mg FC fi fdi) (T : Bt mg) (C : Ct K mg) (X_NoFile : Xc K mg "NoFile" CF TE) (z4 : Mt K FC "look_for" "Floor.look_for" s_Floor_look_for ["self", "name"] g dg) (z13 : Mt K FC "drop" "Floor.drop" s_Floor_drop ["self", "name"] f fd) : FnOk P w K mg base (CX1 P w) 2 f fd ["self", "name"] (sp_fdrop FC CF) := by
  have z22 := ok_Floor_look_for (P := P) (w := w) (base := base) z0 T C X_NoFile z4
  refine z13.F.ok1 sc_Floor_drop (fun vs H Q E h => ?_) (fun cdv A outer s H vs Q E hr h => ?_)
  · obtain ⟨p, lc, ow, le, rs, bas, S, n, name, rfl, _⟩ := h; rfl
  · obtain ⟨p, lc, ow, le, rs, bas, S, n, name, rfl, M, ok, hn, hno, hyes⟩ := h
    have hs : sizeLine = 16777216 := sizeLine_eq
    obtain ⟨dx, ob⟩ := M.ob
    refine ⟨_, (pss_cons (ps_expr (pe_meth (pv 0) z0.cl z4.me z22 (hr.mono (by decide)) z4.b .nil pass1 (pa_consN (pv 1) pa_nil)))
      (pss_cons (PS.nox (ps_set (i := 2) sc_Floor_drop.nd rfl (Or.inl rfl) (pe_dpop1 (pe_fld (pv 0) rfl) (pv 1) ⟨rfl, rfl, rfl, rfl⟩)))
      (pss_cons (PS.nox (ps_for PassesOwn.never rfl (pi_list (pv 2)) (pg_name (i := 3) sc_Floor_drop.nd rfl (Or.inl rfl))
        (pss_one (ps_asg (pe_op op_repL1 (pe_lst (pa_consN pe_int pa_nil)) (pe_glob (v := .int 16) rfl C.k_BLOCK.choose_spec ⟨_, rfl⟩)) (pg_sub (pe_fld (pv 0) rfl) (pv 3) set_list)))))
      (pss_one (PS.nox (ps_expr (pe_dpop1 (pe_fld (pv 0) rfl) (pv 1) ⟨rfl, rfl, rfl, rfl⟩))))))), ?_⟩
    refine ⟨_, rfl, p, dx, _, rfl, ob, ff_no (by decide +kernel) (by decide +kernel) (by decide +kernel), _, rfl, p, lc, ow, le, rs, bas, S, name, rfl, M, ok.nd, hno, fun hin => ?_⟩
    obtain ⟨bl, ws, hf⟩ := of_name hin
    obtain ⟨a, ea, eb⟩ := fkv_some M.ba ok.nd hf
    obtain ⟨bas', e1, e2, e3⟩ := fkv_drop (H := H) name M.ba
    refine ⟨_, rfl, p, FC, dx, _, _, rfl, ob, z0.cl, z0.nO, ff_ow, ow, rfl, .inl ⟨_, .inl M.od⟩, _, rfl, _, .inr name, .ref a, M.od, rfl, ea, ?_⟩
    rw [e1]
    have k1 : Kl ow H (upd H ow (.dK (fkv (without S.files name) bas'))) := Kl.one
    have eo1 : upd H ow (.dK (fkv (without S.files name) bas')) ow = some (.dK (fkv (without S.files name) bas')) := upd_same
    generalize upd H ow (.dK (fkv (without S.files name) bas')) = H1 at k1 eo1 ⊢
    have pow : p ≠ ow := ne_of ob M.od (by intro z; cases z)
    have lcw : lc ≠ ow := ne_of M.co M.od (by intro z; cases z)
    have aow : a ≠ ow := ne_of eb M.od (by intro z; cases z)
    have low : le ≠ ow := M.ol.symm
    have lcle : lc ≠ le := ne_of M.co M.ld (by intro z; cases z)
    have ple : p ≠ le := ne_of ob M.ld (by intro z; cases z)
    have plc : p ≠ lc := ne_of ob M.co (by intro z; cases z)
    have ob1 := k1 _ _ ob pow
    have eb1 := k1 _ _ eb aow
    have co1 := k1 _ _ M.co lcw
    have ro1 : Paired (RowAt H1) rs S.cont := Paired.mapP M.ro fun x y z => k1 _ _ z (ne_of z M.od (by intro z; cases z))
    have alc : a ≠ lc := fun z => M.ab (by
      have hm : ∀ {fs : List FRow} {as : List Addr} {v : V}, valV (fkv fs as) (.inr name) = some v → ∃ x ∈ as, v = .ref x := by
        intro fs
        induction fs with
        | nil => intro as v h; unfold fkv at h; cases h
        | cons g r ih =>
          intro as v h
          cases as with
          | nil => unfold fkv at h; cases h
          | cons y ys =>
            have h : valV ((.inr g.1, .ref y) :: fkv r ys) (.inr name) = some v := h
            by_cases e : g.1 = name
            · rw [valV_pos (p := (Sum.inr g.1, V.ref y)) (congrArg Sum.inr e)] at h
              cases h
              exact ⟨y, List.mem_cons_self, rfl⟩
            · rw [valV_neg (inr_ne e)] at h
              obtain ⟨x, hx, e2⟩ := ih h
              exact ⟨x, List.mem_cons_of_mem _ hx, e2⟩
      obtain ⟨x, hx, e2⟩ := hm ea
      cases e2
      rw [← z]; exact hx)
    have hlt : ∀ b ∈ bl, b < n := fun b hb => ok.lt b (bl_in_used hf hb)
    refine ⟨_, rfl, a, rfl, ⟨_, SqL.of eb1⟩, for_list (xs := natsV bl) (fun j σ H2 => ∃ (v3 : Option V) (rs' : List Addr) (cont : List (List Int)), σ = [some (.ref p), some (.str name), some (.ref a), v3] ∧ Kl lc H1 H2 ∧ H2 lc = some (.lst (rs'.map V.ref)) ∧ Paired (RowAt H2) rs' cont ∧ lc ∉ rs' ∧ (∀ x ∈ rs', x ∈ rs ∨ H x = none) ∧ cont.length = n ∧ (∀ b ∈ bl.take j, cont.getD b [] = zeros16) ∧ (∀ b, b ∉ bl.take j → cont.getD b [] = S.cont.getD b []))
      ⟨none, rs, S.cont, rfl, Kl.of (Same.refl _), co1, ro1, M.ap, (fun x hx => .inl hx), ok.len, by simp, fun _ _ => rfl⟩ ?_ ?_ ?_⟩
    · rintro j σ H2 _ ⟨v3, rs', cont, rfl, k2, _⟩
      exact SqL.of (k2 _ _ eb1 alc)
    · rintro j x σ H2 hx ⟨v3, rs', cont, rfl, k2, ec, hR, ap, hfr, hl, hz, hsm⟩
      obtain ⟨b, hb, rfl⟩ := nat_get hx
      have hbn := hlt b (List.mem_of_getElem? hb)
      have lrs : rs'.length = n := by rw [hR.length]; exact hl
      refine ⟨(by show 1 ≤ sizeLine; omega), fun l hl0 => ⟨l, 16, .int 0, rfl, rfl, upd_same, by decide, by decide, fun r hr0 => ?_⟩⟩
      have y3 := Same.put (o := .lst [V.int 0]) hl0
      have y4 := Same.put (o := .lst (List.replicate (Int.toNat 16) (V.int 0))) hr0
      have y34 := y3.trans y4
      have er : upd (upd H2 l (.lst [V.int 0])) r (.lst (List.replicate (Int.toNat 16) (V.int 0))) r = some (.lst (zeros16.map V.int)) := upd_same
      generalize upd (upd H2 l (.lst [V.int 0])) r (.lst (List.replicate (Int.toNat 16) (V.int 0))) = H4 at y4 y34 er ⊢
      have rlc : lc ≠ r := ne_of_none (y3 _ _ ec) hr0
      refine ⟨_, rfl, p, FC, dx, _, _, rfl, y34 _ _ (k2 _ _ ob1 plc), z0.cl, z0.nC, ff_co, _, rfl, lc, _, _, _, rfl, rfl, y34 _ _ ec, ixN_ok (by omega) (by rw [List.length_map]; omega), ?_⟩
      rw [Int.toNat_natCast, set_ref]
      have k5 : Kl lc H4 (upd H4 lc (.lst ((rs'.set b r).map V.ref))) := Kl.one
      refine ⟨_, rs'.set b r, cont.set b zeros16, rfl, (k2.trans (Kl.of y34)).trans k5, upd_same, rows_set hR ap ((Kl.of y34).trans k5) (k5 _ _ er rlc.symm), ap_set ap rlc, fr_set hfr (none_back (c := lc) (fun x o e n1 n2 n3 => k2 _ _ (k1 _ _ e n1) n2) (k2 _ _ eo1 lcw.symm) ec ec (y3.free hr0)), by rw [List.length_set]; exact hl, fun c hc => ?_, fun c hc => ?_⟩
      · rw [getD_setL (by omega)]
        by_cases e : b = c
        · rw [if_pos e]
        · rw [if_neg e]
          rw [List.take_add_one, hb] at hc
          rcases List.mem_append.mp hc with z | z
          · exact hz c z
          · exact (e (List.mem_singleton.mp z).symm).elim
      · rw [List.take_add_one, hb] at hc
        rw [getD_setL (by omega), if_neg (fun e => hc (List.mem_append_right _ (by rw [← e]; exact List.mem_singleton.mpr rfl)))]
        exact hsm c fun z => hc (List.mem_append_left _ z)
    rintro σ H2 ⟨v3, rs', cont, rfl, k2, ec, hR, ap, hfr, hl, hz, hsm⟩
    rw [nats_len, List.take_of_length_le (Nat.le_refl _)] at hz hsm
    have ld1 : H1 le = some (.dK (lkv S.files)) := k1 _ _ M.ld low
    have ld2 := k2 _ _ ld1 lcle.symm
    refine ⟨_, rfl, p, FC, dx, _, _, rfl, k2 _ _ ob1 plc, z0.cl, z0.nL, ff_le, le, rfl, .inl ⟨_, .inl ld2⟩, _, rfl, _, .inr name, .int (ws.length : Int), ld2, rfl, lkv_some ok.nd hf, ?_⟩
    rw [lkv_drop]
    have k3 : Kl le H2 (upd H2 le (.dK (lkv (without S.files name)))) := Kl.one
    have el3 : upd H2 le (.dK (lkv (without S.files name))) le = some (.dK (lkv (without S.files name))) := upd_same
    generalize upd H2 le (.dK (lkv (without S.files name))) = H3 at k3 el3 ⊢
    refine hyes hin H3 rs' bas' cont (fun b o e n1 n2 n3 => k3 _ _ (k2 _ _ (k1 _ _ e n2) n1) n3) (fun x hx => by
      rcases List.mem_append.mp hx with z | z
      · exact (hfr x z).imp (fun z => List.mem_append_left _ z) id
      · exact .inl (List.mem_append_right _ (e3 _ z))) ⟨⟨dx, k3 _ _ (k2 _ _ ob1 plc) ple⟩, k3 _ _ ec lcle, Paired.mapP hR fun x y z => k3 _ _ z (ne_of z ld2 (by intro z; cases z)), k3 _ _ (k2 _ _ eo1 lcw.symm) low.symm, ?_, el3, M.ol, ap, fun z => M.ab (e3 _ z)⟩ (ok.drop hf hl hz hsm)
    have hba : Paired (fun x y => BlAt H x y ∧ x ≠ lc) bas' (without S.files name) := paired_of e2.length fun i x y h1 h2 => ⟨paired_at e2 h1 h2, fun z => M.ab (z ▸ e3 _ (List.mem_of_getElem? h1))⟩
    exact Paired.mapP hba fun x y z => k3 _ _ (k2 _ _ (k1 _ _ z.1 (ne_of z.1 M.od (by intro z; cases z))) z.2) (ne_of z.1 M.ld (by intro z; cases z))
end
end K79

set_option Elab.async false
set_option linter.all false
set_option maxRecDepth 100000
set_option maxHeartbeats 4000000
namespace K79
open PySem L2
def sp_keep (C CR : Addr) : Sp := fun vs H Q E => ∃ (p lc ow le : Addr) (rs bas : List Addr) (S : FS) (n : Nat) (name : Str) (wl : Addr) (ws : List Int), vs = [.ref p, .str name, .ref wl] ∧ FlAt C H p lc ow le rs bas S ∧ S.Ok n ∧ n ≤ 1000 ∧ H wl = some (.lst (ws.map V.int)) ∧ wl ≠ lc ∧ ws.length ≤ 100000 ∧ S.files.length ≤ 1000 ∧
  (¬ room n S name ws → ∀ H', Same H H' → E (.ref CR) none H') ∧
  (room n S name ws → ∀ (H' : Hp) (rs' bas' : List Addr) (cont : List (List Int)) (bl : List Nat), bl = (freeL n (without S.files name)).take (nbl ws) → Kf lc ow le H H' → (∀ x ∈ rs' ++ bas', x ∈ rs ++ bas ∨ H x = none) → FlAt C H' p lc ow le rs' bas' ⟨cont, without S.files name ++ [(name, bl, ws)]⟩ → FS.Ok n ⟨cont, without S.files name ++ [(name, bl, ws)]⟩ → Q .non H')
theorem cut16 (ws : List Int) (k : Nat) : cutV (ws.map V.int) (some ((k : Int) * 16)) (some ((k : Int) * 16 + 16)) = ((ws.drop (16 * k)).take 16).map V.int := by
  have h1 : ((k : Int) * 16).toNat = 16 * k := by omega
  have h2 : ((k : Int) * 16 + 16).toNat = 16 * k + 16 := by omega
  rw [cutV_map, sIx_pos _ _ _ (by omega), sIx_pos _ _ _ (by omega), h1, h2]
  congr 1
  by_cases h : 16 * k ≤ ws.length
  · rw [Nat.min_eq_left h]
    by_cases h3 : 16 * k + 16 ≤ ws.length
    · rw [Nat.min_eq_left h3, show 16 * k + 16 - 16 * k = 16 by omega]
    · rw [Nat.min_eq_right (by omega), List.take_of_length_le (by rw [List.length_drop]; exact Nat.le_refl _), List.take_of_length_le (by rw [List.length_drop]; omega)]
  · rw [Nat.min_eq_right (show ws.length ≤ 16 * k by omega), List.drop_of_length_le (l := ws) (i := ws.length) (Nat.le_refl _), List.drop_of_length_le (l := ws) (i := 16 * k) (by omega)]
    simp
theorem chunk_map (ws : List Int) (k : Nat) : ((ws.drop (16 * k)).take 16).map V.int ++ List.replicate (16 - ((ws.drop (16 * k)).take 16).length) (V.int 0) = (chunk ws k).map V.int := by
  unfold chunk; rw [List.map_append, List.map_replicate]
section
variable {P : Program} {w : World} {K : PySem.W.Frag} {mg : Str → Option Value} {base : Heap}
theorem z25 : FnScope ["self", "name", "words", "needed", "blocks", "place", "number", "some"] ["self", "name", "words"] (defScope s_Floor_keep) := ⟨rfl, rfl, rfl, by decide +kernel, rfl, by decide +kernel, by decide +kernel⟩
theorem keep_B {f g FC fi : Addr} {dg fdi : FuncData} (z0 : Mc K mg FC fi fdi) (T : Bt mg) (C : Ct K mg) (z5 : Mt K FC "free_blocks" "Floor.free_blocks" s_Floor_free_blocks ["self"] g dg)
    {cdv : Value} {A : Around} {outer : List Env} {s : Shared} {H : Hp} {E : XK} (hr : Room 3 (A.deeper (PyProof.Rows.envOfC "Floor.keep" (defScope s_Floor_keep) s.heap.objs.size f cdv))) :
    ∃ u, PSs (cxOf (CX1 P w) P w K mg base ["self", "name", "words", "needed", "blocks", "place", "number", "some"] "Floor.keep" (defScope s_Floor_keep) f cdv A outer s H E) ((defBody s_Floor_keep).drop 3) u ∧
      ∀ (D : Ends) (v4 v5 v6 v7 : Option V) (p lc ow le : Addr) (rs bas : List Addr) (S : FS) (n : Nat) (name : Str) (wl : Addr) (ws : List Int) (H1 : Hp), FlAt FC H1 p lc ow le rs bas S → S.Ok n → n ≤ 1000 → name ∉ S.files.map (·.1) → H1 wl = some (.lst (ws.map V.int)) → wl ≠ lc → ws.length ≤ 100000 → nbl ws + (used S.files).length ≤ n → S.files.length ≤ 1000 →
        (∀ (H' : Hp) (rs' bas' : List Addr) (cont : List (List Int)) (bl : List Nat) (σ : St), bl = (freeL n S.files).take (nbl ws) → Kf lc ow le H1 H' → (∀ x ∈ rs' ++ bas', x ∈ rs ++ bas ∨ H1 x = none) → FlAt FC H' p lc ow le rs' bas' ⟨cont, S.files ++ [(name, bl, ws)]⟩ → FS.Ok n ⟨cont, S.files ++ [(name, bl, ws)]⟩ → D.nx σ H') →
        u D [some (.ref p), some (.str name), some (.ref wl), some (.int (nbl ws : Int)), v4, v5, v6, v7] H1 := by
  have z28 := ok_Floor_free_blocks (P := P) (w := w) (base := base) z0 T C z5
  refine ⟨_, (pss_cons (PS.nox (ps_set (i := 4) z25.nd rfl (Or.inl rfl) (pe_slice sl_list (pe_meth0 (pv 0) z0.cl z5.me z28 (hr.mono (by decide)) z5.b .nil pass0) po_none (po_some (pv 3)))))
      (pss_cons (PS.nox (ps_for PassesOwn.never rfl (pi_enum (K := K) rfl T.b_enumerate (pa_consN (pv 4) pa_nil)) (pg_tup rfl (pgs_cons (pg_name (i := 5) z25.nd rfl (Or.inl rfl)) (pgs_cons (pg_name (i := 6) z25.nd rfl (Or.inl rfl)) pgs_nil)))
        (pss_cons (ps_set (i := 7) z25.nd rfl (Or.inl rfl) (pe_slice sl_list (pv 2) (po_some (pe_op op_mul (pv 5) (pe_glob (v := .int 16) rfl C.k_BLOCK.choose_spec ⟨_, rfl⟩))) (po_some (pe_op op_add (pe_op op_mul (pv 5) (pe_glob (v := .int 16) rfl C.k_BLOCK.choose_spec ⟨_, rfl⟩)) (pe_glob (v := .int 16) rfl C.k_BLOCK.choose_spec ⟨_, rfl⟩)))))
        (pss_one (ps_asg (pe_op op_cat (pe_callTy call_list_of rfl T.b_list (by decide +kernel) (pa_consN (pv 7) pa_nil)) (pe_op op_repL1 (pe_lst (pa_consN pe_int pa_nil)) (pe_op op_sub (pe_glob (v := .int 16) rfl C.k_BLOCK.choose_spec ⟨_, rfl⟩) (pe_callB call_len_seq rfl T.b_len (by decide +kernel) (pa_consN (pv 7) pa_nil))))) (pg_sub (pe_fld (pv 0) rfl) (pv 6) set_list))))))
      (pss_cons (PS.nox (ps_dput (hu_of hr) (pe_fld (pv 0) rfl) (pv 1) (pv 4) rfl))
      (pss_one (PS.nox (ps_dput (hu_of hr) (pe_fld (pv 0) rfl) (pv 1) (pe_callB call_len_seq rfl T.b_len (by decide +kernel) (pa_consN (pv 2) pa_nil)) rfl)))))), ?_⟩
  intro D v4 v5 v6 v7 p lc ow le rs bas S n name wl ws H1 M ok hn hnm ewl wlc hws hroom hfl1 q
  have hs : sizeLine = 16777216 := sizeLine_eq
  have hfl := free_len ok.lt ok.un
  obtain ⟨dx, ob⟩ := M.ob
  refine ⟨_, rfl, p, dx, _, rfl, ob, ff_no (by decide +kernel) (by decide +kernel) (by decide +kernel), p, lc, ow, le, rs, bas, S, n, rfl, M, ok, hn, fun r H2 y2 hr0 er => ?_⟩
  refine ⟨_, rfl, _, rfl, r, _, rfl, SqL.of er, fun bk hbk => ?_⟩
  rw [show cutV (natsV (freeL n S.files)) none (some (nbl ws : Int)) = natsV ((freeL n S.files).take (nbl ws)) by unfold natsV; rw [cutV_to _ _ _ (by omega) (by omega), Int.toNat_natCast]]
  obtain ⟨nb, hnb⟩ : ∃ nb, (freeL n S.files).take (nbl ws) = nb := ⟨_, rfl⟩
  rw [hnb]
  have lnb : nb.length = nbl ws := by rw [← hnb, List.length_take]; omega
  have fnb : ∀ b ∈ nb, b < n ∧ b ∉ used S.files := fun b hb => mem_freeL.mp (by rw [← hnb] at hb; exact List.mem_of_mem_take hb)
  have unb : nb.Nodup := by rw [← hnb]; exact (freeL_nodup n S.files).sublist (List.take_sublist _ _)
  have y3 := Same.put (o := .lst (natsV nb)) hbk
  have ebk : upd H2 bk (.lst (natsV nb)) bk = some (.lst (natsV nb)) := upd_same
  have y23 := y2.trans y3
  have bklc : bk ≠ lc := fun z => by rw [z, y2 _ _ M.co] at hbk; cases hbk
  have hbk1 : H1 bk = none := y2.free hbk
  generalize upd H2 bk (.lst (natsV nb)) = H3 at y3 ebk y23 ⊢
  have M3 := M.same y23
  have ob3 := y23 _ _ ob
  have ewl3 := y23 _ _ ewl
  have plc : p ≠ lc := ne_of ob M.co (by intro z; cases z)
  have pow : p ≠ ow := ne_of ob M.od (by intro z; cases z)
  have ple : p ≠ le := ne_of ob M.ld (by intro z; cases z)
  have lcw : lc ≠ ow := ne_of M.co M.od (by intro z; cases z)
  have lcle : lc ≠ le := ne_of M.co M.ld (by intro z; cases z)
  have low : le ≠ ow := M.ol.symm
  have wlow : wl ≠ ow := ne_of ewl M.od (by intro z; cases z)
  have wlle : wl ≠ le := ne_of ewl M.ld (by intro z; cases z)
  refine ⟨_, rfl, bk, _, rfl, ebk, for_enum (K := K) (a := bk) (xs := natsV nb) (fun i σ H4 => ∃ (v5 v6 v7 : Option V) (rs' : List Addr) (cont : List (List Int)), σ = [some (.ref p), some (.str name), some (.ref wl), some (.int (nbl ws : Int)), some (.ref bk), v5, v6, v7] ∧ Kl lc H3 H4 ∧ H4 lc = some (.lst (rs'.map V.ref)) ∧ Paired (RowAt H4) rs' cont ∧ lc ∉ rs' ∧ (∀ x ∈ rs', x ∈ rs ∨ H1 x = none) ∧ cont.length = n ∧ (∀ (k b : Nat), k < i → nb[k]? = some b → cont.getD b [] = chunk ws k) ∧ (∀ b, b ∉ nb.take i → cont.getD b [] = S.cont.getD b []))
    ⟨v5, v6, v7, rs, S.cont, rfl, Kl.of (Same.refl _), M3.co, M3.ro, M.ap, (fun x hx => .inl hx), ok.len, fun k b h => absurd h (Nat.not_lt_zero _), fun _ _ => rfl⟩ ?_ ?_ ?_⟩
  · rintro i σ H4 _ ⟨v5, v6, v7, rs', cont, rfl, k4, _⟩
    exact SqL.of (k4 _ _ ebk bklc)
  · rintro i x σ H4 Tt hx ⟨v5, v6, v7, rs', cont, rfl, k4, ec, hR, ap, hfr, hl, hc, hsm⟩ hT
    obtain ⟨b, hb, rfl⟩ := nat_get hx
    have hi : i < nb.length := (List.getElem?_eq_some_iff.mp hb).1
    have hbn := (fnb b (List.mem_of_getElem? hb)).1
    have lrs : rs'.length = n := by rw [hR.length]; exact hl
    have yT := Same.put (o := .tup [V.int (i : Int), V.int (b : Int)]) hT
    refine ⟨Tt, _, rfl, SqT.of upd_same, rfl, _, _, rfl, _, _, rfl, rfl, ?_⟩
    generalize upd H4 Tt (.tup [V.int (i : Int), V.int (b : Int)]) = H5 at yT ⊢
    have ewl5 := yT _ _ (k4 _ _ ewl3 wlc)
    refine ⟨_, rfl, _, rfl, _, _, rfl, rfl, cmul_r (by decide) (by decide), _, rfl, _, rfl, _, _, rfl, rfl, cmul_r (by decide) (by decide), _, _, rfl, rfl, _, rfl, wl, _, rfl, SqL.of ewl5, fun sm hsm0 => ?_⟩
    rw [cut16]
    obtain ⟨part, hpart⟩ : ∃ x, (ws.drop (16 * i)).take 16 = x := ⟨_, rfl⟩
    rw [hpart]
    have lpart : part.length ≤ 16 := by rw [← hpart, List.length_take]; omega
    have y6 := Same.put (o := .lst (part.map V.int)) hsm0
    have esm : upd H5 sm (.lst (part.map V.int)) sm = some (.lst (part.map V.int)) := upd_same
    generalize upd H5 sm (.lst (part.map V.int)) = H6 at y6 esm ⊢
    refine ⟨_, rfl, sm, _, rfl, .inl (SqL.of esm), fun l1 hl1 => ?_⟩
    have y7 := Same.put (o := .lst (part.map V.int)) hl1
    have el1 : upd H6 l1 (.lst (part.map V.int)) l1 = some (.lst (part.map V.int)) := upd_same
    generalize upd H6 l1 (.lst (part.map V.int)) = H7 at y7 el1 ⊢
    refine ⟨(by show 1 ≤ sizeLine; omega), fun l2 hl2 => ?_⟩
    have y8 := Same.put (o := .lst [V.int 0]) hl2
    have el2 : upd H7 l2 (.lst [V.int 0]) l2 = some (.lst [V.int 0]) := upd_same
    generalize upd H7 l2 (.lst [V.int 0]) = H8 at y8 el2 ⊢
    refine ⟨_, rfl, sm, _, rfl, .inl (SqL.of (y8 _ _ (y7 _ _ esm))), _, _, rfl, rfl, l2, 16 - (part.length : Int), .int 0, rfl, by rw [List.length_map], el2, by omega, by omega, fun l3 hl3 => ?_⟩
    rw [show (16 - (part.length : Int)).toNat = 16 - part.length by omega]
    have y9 := Same.put (o := .lst (List.replicate (16 - part.length) (V.int 0))) hl3
    have el3 : upd H8 l3 (.lst (List.replicate (16 - part.length) (V.int 0))) l3 = some (.lst (List.replicate (16 - part.length) (V.int 0))) := upd_same
    generalize upd H8 l3 (.lst (List.replicate (16 - part.length) (V.int 0))) = H9 at y9 el3 ⊢
    refine ⟨l1, l3, _, _, rfl, rfl, y9 _ _ (y8 _ _ el1), el3, (by rw [List.length_map, List.length_replicate]; omega), fun r hr1 => ?_⟩
    rw [show part.map V.int ++ List.replicate (16 - part.length) (V.int 0) = (chunk ws i).map V.int by rw [← hpart]; exact chunk_map ws i]
    have ya := Same.put (o := .lst ((chunk ws i).map V.int)) hr1
    have er1 : upd H9 r (.lst ((chunk ws i).map V.int)) r = some (.lst ((chunk ws i).map V.int)) := upd_same
    have y49 : Same H4 H9 := (((yT.trans y6).trans y7).trans y8).trans y9
    have rlc : lc ≠ r := ne_of_none (y49 _ _ ec) hr1
    generalize upd H9 r (.lst ((chunk ws i).map V.int)) = Ha at ya er1 ⊢
    have y4a : Same H4 Ha := y49.trans ya
    refine ⟨_, rfl, p, FC, dx, _, _, rfl, y4a _ _ (k4 _ _ ob3 plc), z0.cl, z0.nC, ff_co, _, rfl, lc, _, _, _, rfl, rfl, y4a _ _ ec, ixN_ok (by omega) (by rw [List.length_map]; omega), ?_⟩
    rw [Int.toNat_natCast, set_ref]
    have kb : Kl lc Ha (upd Ha lc (.lst ((rs'.set b r).map V.ref))) := Kl.one
    refine ⟨_, _, _, rs'.set b r, cont.set b (chunk ws i), rfl, (k4.trans (Kl.of y4a)).trans kb, upd_same, rows_set hR ap ((Kl.of y4a).trans kb) (kb _ _ er1 rlc.symm), ap_set ap rlc, fr_set hfr (none_back (b := lc) (c := lc) (fun x o e n1 n2 n3 => k4 _ _ (y23 _ _ e) n1) ec ec ec (y49.free hr1)), by rw [List.length_set]; exact hl, fun k c hk hc' => ?_, fun c hc' => ?_⟩
    · rw [getD_setL (by omega)]
      by_cases e : b = c
      · rw [if_pos e]
        have : i = k := by
          subst e
          exact List.getElem_inj unb |>.mp ((List.getElem?_eq_some_iff.mp hb).2.trans (List.getElem?_eq_some_iff.mp hc').2.symm)
        rw [this]
      · rw [if_neg e]
        refine hc k c ?_ hc'
        by_cases e2 : k = i
        · subst e2; rw [hb] at hc'; cases hc'; exact (e rfl).elim
        · omega
    · rw [List.take_add_one, hb] at hc'
      rw [getD_setL (by omega), if_neg (fun e => hc' (List.mem_append_right _ (by rw [← e]; exact List.mem_singleton.mpr rfl)))]
      exact hsm c fun z => hc' (List.mem_append_left _ z)
  rintro σ H4 ⟨v5, v6, v7, rs', cont, rfl, k4, ec, hR, ap, hfr, hl, hc, hsm⟩
  rw [nats_len] at hc hsm
  rw [List.take_of_length_le (Nat.le_refl _)] at hsm
  have od4 := k4 _ _ M3.od lcw.symm
  have ld4 := k4 _ _ M3.ld lcle.symm
  have ob4 := k4 _ _ ob3 plc
  have hfk := fkv_length M.ba
  refine ⟨_, rfl, _, rfl, p, FC, dx, _, _, rfl, ob4, z0.cl, z0.nO, ff_ow, _, rfl, ow, _, rfl, DPut.k (k := .inr name) od4 (by omega), ?_⟩
  rw [putK_new _ (fkv_none hnm), fkv_snoc (name, nb, ws) bk M.ba.length]
  have k5 : Kl ow H4 (upd H4 ow (.dK (fkv (S.files ++ [(name, nb, ws)]) (bas ++ [bk])))) := Kl.one
  have eo5 : upd H4 ow (.dK (fkv (S.files ++ [(name, nb, ws)]) (bas ++ [bk]))) ow = some (.dK (fkv (S.files ++ [(name, nb, ws)]) (bas ++ [bk]))) := upd_same
  generalize upd H4 ow (.dK (fkv (S.files ++ [(name, nb, ws)]) (bas ++ [bk]))) = H5 at k5 eo5 ⊢
  have ld5 := k5 _ _ ld4 low
  have ewl5 := k5 _ _ (k4 _ _ ewl3 wlc) wlow
  refine ⟨_, rfl, wl, _, rfl, .inl (SqL.of ewl5), _, rfl, p, FC, dx, _, _, rfl, k5 _ _ ob4 pow, z0.cl, z0.nL, ff_le, _, rfl, le, _, rfl, DPut.k (k := .inr name) ld5 (by unfold lkv; rw [List.length_map]; omega), ?_⟩
  rw [putK_new _ (lkv_none hnm), List.length_map, lkv_snoc S.files (name, nb, ws)]
  have k6 : Kl le H5 (upd H5 le (.dK (lkv (S.files ++ [(name, nb, ws)])))) := Kl.one
  have el6 : upd H5 le (.dK (lkv (S.files ++ [(name, nb, ws)]))) le = some (.dK (lkv (S.files ++ [(name, nb, ws)]))) := upd_same
  generalize upd H5 le (.dK (lkv (S.files ++ [(name, nb, ws)]))) = H6 at k6 el6 ⊢
  have kAll : Kf lc ow le H3 H6 := fun b o e n1 n2 n3 => k6 _ _ (k5 _ _ (k4 _ _ e n1) n2) n3
  have bkow : bk ≠ ow := ne_of ebk M3.od (by intro z; cases z)
  have bkle : bk ≠ le := ne_of ebk M3.ld (by intro z; cases z)
  have hba : Paired (fun x y => BlAt H3 x y ∧ x ≠ lc) bas S.files := paired_of M3.ba.length fun i x y h1 h2 => ⟨paired_at M3.ba h1 h2, fun z => M.ab (z ▸ List.mem_of_getElem? h1)⟩
  refine q H6 rs' (bas ++ [bk]) cont nb _ hnb.symm (fun b o e n1 n2 n3 => kAll _ _ (y23 _ _ e) n1 n2 n3) (fun x hx => by
      rcases List.mem_append.mp hx with z | z
      · exact (hfr x z).imp (fun z => List.mem_append_left _ z) id
      · rcases List.mem_append.mp z with z | z
        · exact .inl (List.mem_append_right _ z)
        · rw [List.mem_singleton.mp z]; exact .inr hbk1) ⟨⟨dx, k6 _ _ (k5 _ _ ob4 pow) ple⟩, k6 _ _ (k5 _ _ ec lcw) lcle, Paired.mapP hR fun x y z => k6 _ _ (k5 _ _ z (ne_of z od4 (by intro z; cases z))) (ne_of z ld4 (by intro z; cases z)), k6 _ _ eo5 low.symm, ?_, el6, M.ol, ap, ?_⟩ (ok.add hnm lnb fnb unb hl (fun k b e => hc k b (List.getElem?_eq_some_iff.mp e).1 e) hsm)
  · exact Paired.app (Paired.mapP hba fun x y z => kAll _ _ z.1 z.2 (ne_of z.1 M3.od (by intro z; cases z)) (ne_of z.1 M3.ld (by intro z; cases z))) (.cons (kAll _ _ ebk bklc bkow bkle) .nil)
  · intro z
    rcases List.mem_append.mp z with z | z
    · exact M.ab z
    · exact bklc (List.mem_singleton.mp z).symm
end
end K79

set_option Elab.async false
set_option linter.all false
set_option maxRecDepth 100000
set_option maxHeartbeats 4000000
namespace K79
open PySem L2
section
variable {P : Program} {w : World} {K : PySem.W.Frag} {mg : Str → Option Value} {base : Heap}
theorem ok_Floor_keep {f g1 g2 g3 g4 g5 FC fi CF CR TE : Addr} {fd d1 d2 d3 d4 d5 fdi : FuncData} (z0 : Mc K mg FC fi fdi) (T : Bt mg) (C : Ct K mg) (X_NoFile : Xc K mg "NoFile" CF TE) (X_NoRoom : Xc K mg "NoRoom" CR TE) (z21 : Q2 K mg g5 d5)
    (z4 : Mt K FC "look_for" "Floor.look_for" s_Floor_look_for ["self", "name"] g1 d1) (z5 : Mt K FC "free_blocks" "Floor.free_blocks" s_Floor_free_blocks ["self"] g2 d2) (z13 : Mt K FC "drop" "Floor.drop" s_Floor_drop ["self", "name"] g3 d3) (z11 : Mt K FC "free" "Floor.free" s_Floor_free ["self"] g4 d4)
    (z23 : Mt K FC "keep" "Floor.keep" s_Floor_keep ["self", "name", "words"] f fd) : FnOk P w K mg base (CX1 P w) 4 f fd ["self", "name", "words"] (sp_keep FC CR) := by
  have G_blocks_for := ok_blocks_for (P := P) (w := w) (base := base) z21.F T C
  have G_Floor_free := ok_Floor_free (P := P) (w := w) (base := base) z0 T C z5 z11
  have G_Floor_drop := ok_Floor_drop (P := P) (w := w) (base := base) z0 T C X_NoFile z4 z13
  refine z23.F.ok1 z25 (fun vs H Q E h => ?_) (fun cdv A outer s H vs Q E hr h => ?_)
  · obtain ⟨p, lc, ow, le, rs, bas, S, n, name, wl, ws, rfl, _⟩ := h; rfl
  · obtain ⟨p, lc, ow, le, rs, bas, S, n, name, wl, ws, rfl, M, ok, hn, ewl, wlc, hws, hfs, hno, hyes⟩ := h
    have hs : sizeLine = 16777216 := sizeLine_eq
    obtain ⟨dx, ob⟩ := M.ob
    have hfl := free_len ok.lt ok.un
    obtain ⟨uB, hB, kB⟩ := keep_B (P := P) (w := w) (base := base) (f := f) z0 T C z5 (cdv := cdv) (A := A) (outer := outer) (s := s) (H := H) (E := E) hr
    refine ⟨_, (pss_cons (PS.nox (ps_set (i := 3) z25.nd rfl (Or.inl rfl) (pe_call G_blocks_for (hr.mono (by decide)) rfl z21.m z21.F.kp z21.b .nil pass0 (pa_consN (pv 2) pa_nil))))
      (pss_cons (ps_if (pt_cmpR op_gt (pv 3) (pe_op op_add (pe_meth0 (pv 0) z0.cl z11.me G_Floor_free (hr.mono (by decide)) z11.b .nil pass0) (pe_callB call_len_seq rfl T.b_len (by decide +kernel) (pa_consN (pe_dget2 (hu_of hr) (pe_fld (pv 0) rfl) (pv 1) (pe_lst pa_nil) ⟨rfl, rfl, rfl, rfl⟩) pa_nil))) (nomark _))
        (pss_one (ps_raise0 rfl rfl X_NoRoom.m X_NoRoom.c raises1))
        pss_nil)
      (pss_cons (ps_if (pt_cmp (pc_din (hu_of hr) (pv 1) (pe_fld (pv 0) rfl)))
        (pss_one (ps_expr (pe_meth (pv 0) z0.cl z13.me G_Floor_drop (hr.mono (by decide)) z13.b .nil pass1 (pa_consN (pv 1) pa_nil))))
        pss_nil)
      hB))), ?_⟩
    refine ⟨_, rfl, wl, ws, rfl, ewl, ?_⟩
    refine ⟨_, rfl, _, rfl, p, dx, _, rfl, ob, ff_no (by decide +kernel) (by decide +kernel) (by decide +kernel), p, lc, ow, le, rs, bas, S, n, rfl, M, ok, hn, fun H1 y1 => ?_⟩
    have M1 := M.same y1
    have ob1 := y1 _ _ ob
    refine ⟨_, rfl, p, FC, dx, _, _, rfl, ob1, z0.cl, z0.nO, ff_ow, ow, rfl, .inl ⟨_, .inl M1.od⟩, _, rfl, Nat.zero_le _, fun e0 he0 => ?_⟩
    have y2 := Same.put (o := .lst []) he0
    have ee0 : upd H1 e0 (.lst []) e0 = some (.lst []) := upd_same
    generalize upd H1 e0 (.lst []) = H2 at y2 ee0 ⊢
    have y02 := y1.trans y2
    have M2 := M.same y02
    have ob2 := y02 _ _ ob
    have ewl2 := y02 _ _ ewl
    refine ⟨_, DGet.k (k := .inr name) M2.od, ?_⟩
    have wlr : Kf lc ow le H H2 := Kf.of y02
    by_cases hin : name ∈ S.files.map (·.1)
    · obtain ⟨bl, ws0, hf⟩ := of_name hin
      obtain ⟨a, ea, eb⟩ := fkv_some M2.ba ok.nd hf
      have hwl := without_len ok.nd hf
      rw [ea]
      refine ⟨a, _, rfl, .inl (SqL.of eb), _, _, rfl, rfl, _, _, rfl, rfl, _, rfl, ?_⟩
      rw [nats_len]
      refine ite2 (fun h => ?_) (fun h => ?_)
      · refine hno (fun hr' => ?_) H2 y02
        unfold room at hr'
        have h' := of_decide_eq_true h
        omega
      have hroom : room n S name ws := by
        unfold room
        have h' : ¬ ((freeL n S.files).length : Int) + (bl.length : Int) < (nbl ws : Int) := fun z => h (decide_eq_true z)
        omega
      refine ⟨_, rfl, _, rfl, p, FC, dx, _, _, rfl, ob2, z0.cl, z0.nO, ff_ow, ow, _, rfl, DGet.k (k := .inr name) M2.od, _, rfl, ?_⟩
      rw [ea]
      refine iteT ⟨_, rfl, p, dx, _, rfl, ob2, ff_no (by decide +kernel) (by decide +kernel) (by decide +kernel), _, rfl, p, lc, ow, le, rs, bas, S, n, name, rfl, M2, ok, hn, fun z => absurd hin z, fun _ H3 rs3 bas3 cont3 k3 fr3 M3 ok3 => ?_⟩
      have wlow : wl ≠ ow := ne_of ewl M.od (by intro z; cases z)
      have wlle : wl ≠ le := ne_of ewl M.ld (by intro z; cases z)
      have hwf : (without S.files name).length ≤ 1000 := Nat.le_trans (List.length_filter_le _ _) hfs
      refine kB _ _ _ _ _ p lc ow le rs3 bas3 ⟨cont3, without S.files name⟩ n name wl ws H3 M3 ok3 hn (without_not _ _) (k3 _ _ ewl2 wlc wlow wlle) wlc hws hroom hwf fun H' rs' bas' cont bl' σ e' k' fr' M' ok' => ?_
      exact hyes hroom H' rs' bas' cont bl' e' ((wlr.trans k3).trans k') (fun x hx => by
        rcases fr' x hx with z | z
        · exact (fr3 x z).imp id (fun z => y02.free z)
        · exact .inr (y02.free (none_back (fun x o e n1 n2 n3 => k3 x o e n1 n2 n3) M3.co M3.od M3.ld z))) M' ok'
    · rw [fkv_none hin]
      refine ⟨e0, _, rfl, .inl (SqL.of ee0), _, _, rfl, rfl, _, _, rfl, rfl, _, rfl, ?_⟩
      have hwn := without_none hin
      refine ite2 (fun h => ?_) (fun h => ?_)
      · refine hno (fun hr' => ?_) H2 y02
        unfold room at hr'
        rw [hwn] at hr'
        have h' : ((freeL n S.files).length : Int) + ((0 : Nat) : Int) < (nbl ws : Int) := of_decide_eq_true h
        omega
      have hroom : room n S name ws := by
        unfold room
        rw [hwn]
        have h' : ¬ ((freeL n S.files).length : Int) + ((0 : Nat) : Int) < (nbl ws : Int) := fun z => h (decide_eq_true z)
        omega
      refine ⟨_, rfl, _, rfl, p, FC, dx, _, _, rfl, ob2, z0.cl, z0.nO, ff_ow, ow, _, rfl, DGet.k (k := .inr name) M2.od, _, rfl, ?_⟩
      rw [fkv_none hin]
      refine iteF ?_
      have hr2 := hroom
      unfold room at hr2
      rw [hwn] at hr2
      refine kB _ _ _ _ _ p lc ow le rs bas S n name wl ws H2 M2 ok hn hin ewl2 wlc hws hr2 hfs fun H' rs' bas' cont bl' σ e' k' fr' M' ok' => ?_
      have hy := hyes hroom H' rs' bas' cont bl' (by rw [hwn]; exact e') (wlr.trans k') (fun x hx => (fr' x hx).imp id (fun z => y02.free z))
      rw [hwn] at hy
      exact hy M' ok'
end
end K79

set_option Elab.async false
set_option linter.all false
set_option maxRecDepth 100000
set_option maxHeartbeats 4000000
namespace K79
open PySem L2
def sp_change (C CR CF : Addr) : Sp := fun vs H Q _ => ∃ (p lc ow le : Addr) (rs bas : List Addr) (S : FS) (n : Nat) (what name : Str) (wl : Addr) (ws : List Int), vs = [.ref p, .str what, .str name, .ref wl] ∧ FlAt C H p lc ow le rs bas S ∧ S.Ok n ∧ n ≤ 1000 ∧ H wl = some (.lst (ws.map V.int)) ∧ wl ≠ lc ∧ ws.length ≤ 100000 ∧ S.files.length ≤ 1000 ∧
  (what = "keep" → ¬ room n S name ws → ∀ (ea : Addr) (H' : Hp), Same H H' → H ea = none → H' ea = some (XO (.ref CR) ea) → Q (.ref ea) H') ∧
  (what = "keep" → room n S name ws → ∀ (H' : Hp) (rs' bas' : List Addr) (cont : List (List Int)) (bl : List Nat), bl = (freeL n (without S.files name)).take (nbl ws) → Kf lc ow le H H' → (∀ x ∈ rs' ++ bas', x ∈ rs ++ bas ∨ H x = none) → FlAt C H' p lc ow le rs' bas' ⟨cont, without S.files name ++ [(name, bl, ws)]⟩ → FS.Ok n ⟨cont, without S.files name ++ [(name, bl, ws)]⟩ → Q .non H') ∧
  (what ≠ "keep" → name ∉ S.files.map (·.1) → ∀ (ea : Addr) (H' : Hp), Same H H' → H ea = none → H' ea = some (XO (.ref CF) ea) → Q (.ref ea) H') ∧
  (what ≠ "keep" → name ∈ S.files.map (·.1) → ∀ (H' : Hp) (rs' bas' : List Addr) (cont : List (List Int)), Kf lc ow le H H' → (∀ x ∈ rs' ++ bas', x ∈ rs ++ bas ∨ H x = none) → FlAt C H' p lc ow le rs' bas' ⟨cont, without S.files name⟩ → FS.Ok n ⟨cont, without S.files name⟩ → Q .non H')
section
variable {P : Program} {w : World} {K : PySem.W.Frag} {mg : Str → Option Value} {base : Heap}
theorem sc_law_change : FnScope ["_law_floor", "_law_what", "_law_name", "_law_words", "_law_caught", "e"] ["_law_floor", "_law_what", "_law_name", "_law_words"] (defScope s_law_change) := ⟨rfl, rfl, rfl, by decide +kernel, rfl, by decide +kernel, by decide +kernel⟩
theorem ok_law_change {f g0 g1 g2 g3 g4 g5 FC fi CF CR TE : Addr} {fd d0 d1 d2 d3 d4 d5 fdi : FuncData} (F : Fun K "_law_change" "_law_change" s_law_change f fd) (z0 : Mc K mg FC fi fdi) (T : Bt mg) (C : Ct K mg) (X_TownError : Xc K mg "TownError" TE TE) (X_NoFile : Xc K mg "NoFile" CF TE) (X_NoRoom : Xc K mg "NoRoom" CR TE) (z21 : Q2 K mg g5 d5)
    (z4 : Mt K FC "look_for" "Floor.look_for" s_Floor_look_for ["self", "name"] g1 d1) (z5 : Mt K FC "free_blocks" "Floor.free_blocks" s_Floor_free_blocks ["self"] g2 d2) (z23 : Mt K FC "keep" "Floor.keep" s_Floor_keep ["self", "name", "words"] g0 d0) (z13 : Mt K FC "drop" "Floor.drop" s_Floor_drop ["self", "name"] g3 d3) (z11 : Mt K FC "free" "Floor.free" s_Floor_free ["self"] g4 d4) :
    FnOk P w K mg base CX0 5 f fd ["_law_floor", "_law_what", "_law_name", "_law_words"] (sp_change FC CR CF) := by
  have G_Floor_keep := ok_Floor_keep (P := P) (w := w) (base := base) z0 T C X_NoFile X_NoRoom z21 z4 z5 z13 z11 z23
  have G_Floor_drop := ok_Floor_drop (P := P) (w := w) (base := base) z0 T C X_NoFile z4 z13
  refine F.ok sc_law_change (fun vs H Q E h => ?_) (fun cdv A outer s H vs Q E hr h => ?_)
  · obtain ⟨p, lc, ow, le, rs, bas, S, n, what, name, wl, ws, rfl, _⟩ := h; rfl
  · obtain ⟨p, lc, ow, le, rs, bas, S, n, what, name, wl, ws, rfl, M, ok, hn, ewl, wlc, hws, hfs, h1, h2, h3, h4⟩ := h
    obtain ⟨dx, ob⟩ := M.ob
    refine ⟨_, (pss_cons (ps_set (i := 4) sc_law_change.nd rfl (Or.inl rfl) pe_non)
      (pss_cons (ps_tryAs (i := 5) rfl rfl rfl sc_law_change.nd rfl rfl (Or.inl rfl) rfl X_TownError.m X_TownError.k (fun _ _ _ hW => (pss_one (ps_if (pt_cmpR op_eq (pv 1) pe_str (nomark _))
          (pss_one (ps_expr (pe_methW (pv 0) z0.cl z23.me G_Floor_keep (hr.mono (by decide)) z23.b hW (pa_consN (pv 2) (pa_consN (pv 3) pa_nil)))))
          (pss_one (ps_expr (pe_methW (pv 0) z0.cl z13.me G_Floor_drop (hr.mono (by decide)) z13.b hW (pa_consN (pv 2) pa_nil))))))) (fun _ => (pss_one (ps_set (i := 4) sc_law_change.nd rfl (Or.inl rfl) (pv 5)))))
      (pss_one (ps_ret (pv 4))))), ?_⟩
    refine ⟨_, rfl, rfl, _, rfl, ite2 (fun h => ?_) (fun h => ?_)⟩
    · have hk : what = "keep" := by have := of_decide_eq_true h; exact V.str.inj this
      refine ⟨_, rfl, p, dx, _, rfl, ob, ff_no (by decide +kernel) (by decide +kernel) (by decide +kernel), _, rfl, _, rfl, p, lc, ow, le, rs, bas, S, n, name, wl, ws, rfl, M, ok, hn, ewl, wlc, hws, hfs, fun hr' H' y => ⟨X_NoRoom.by, fun ea hea => ?_⟩, fun hr' H' rs' bas' cont bl e' k' fr' M' ok' => ?_⟩
      · exact ⟨_, rfl, _, rfl, h1 hk hr' ea _ (y.trans (Same.put hea)) (y.free hea) upd_same⟩
      · exact ⟨_, rfl, h2 hk hr' H' rs' bas' cont bl e' k' fr' M' ok'⟩
    · have hk : what ≠ "keep" := fun z => h (decide_eq_true (congrArg V.str z))
      refine ⟨_, rfl, p, dx, _, rfl, ob, ff_no (by decide +kernel) (by decide +kernel) (by decide +kernel), _, rfl, p, lc, ow, le, rs, bas, S, n, name, rfl, M, ok, hn, fun hr' => ⟨X_NoFile.by, fun ea hea => ?_⟩, fun hr' H' rs' bas' cont k' fr' M' ok' => ?_⟩
      · exact ⟨_, rfl, _, rfl, h3 hk hr' ea _ (Same.put hea) hea upd_same⟩
      · exact ⟨_, rfl, h4 hk hr' H' rs' bas' cont k' fr' M' ok'⟩
end
end K79

set_option Elab.async false
set_option linter.all false
set_option maxRecDepth 100000
set_option maxHeartbeats 4000000
namespace K79
open PySem L2
def sp_words (C CF : Addr) : Sp := fun vs H Q E => ∃ (p lc ow le : Addr) (rs bas : List Addr) (S : FS) (n : Nat) (name : Str), vs = [.ref p, .str name] ∧ FlAt C H p lc ow le rs bas S ∧ S.Ok n ∧ n ≤ 1000 ∧ (name ∉ S.files.map (·.1) → E (.ref CF) none H) ∧ ∀ bl ws, (name, bl, ws) ∈ S.files → ∀ (r : Addr) (H' : Hp), Same H H' → H r = none → H' r = some (.lst (ws.map V.int)) → Q (.ref r) H'
def sp_nms (C : Addr) : Sp := fun vs H Q _ => ∃ (p lc ow le : Addr) (rs bas : List Addr) (S : FS), vs = [.ref p] ∧ FlAt C H p lc ow le rs bas S ∧ S.files.length < 64 ∧ ∀ (r : Addr) (ss : List Str), H r = none → ss.Perm (S.files.map (·.1)) → PyProof.Rows.sortedS ss = true → Q (.ref r) (upd H r (.lst (ss.map V.str)))
def chunks (ws : List Int) (k : Nat) : List Int := (List.range k).flatMap (chunk ws)
theorem chunks_succ (ws : List Int) (k : Nat) : chunks ws (k + 1) = chunks ws k ++ chunk ws k := by
  unfold chunks; rw [List.range_succ, List.flatMap_append]; simp
theorem chunk_len (ws : List Int) (k : Nat) : (chunk ws k).length = 16 := by
  unfold chunk
  rw [List.length_append, List.length_replicate]
  have : ((ws.drop (16 * k)).take 16).length ≤ 16 := by rw [List.length_take]; omega
  omega
theorem chunks_len (ws : List Int) : ∀ k, (chunks ws k).length = 16 * k
  | 0 => rfl
  | k + 1 => by rw [chunks_succ, List.length_append, chunks_len ws k, chunk_len]; omega
theorem chunks_take (ws : List Int) : ∀ k, (chunks ws k).take ws.length = ws.take (16 * k)
  | 0 => by rw [show chunks ws 0 = [] from rfl]; simp
  | k + 1 => by
    rw [chunks_succ, List.take_append, chunks_len, chunks_take ws k]
    by_cases h : ws.length ≤ 16 * k
    · rw [show ws.length - 16 * k = 0 by omega, List.take_zero, List.append_nil, List.take_of_length_le h, List.take_of_length_le (by omega)]
    · have e : ws.take (16 * (k + 1)) = ws.take (16 * k) ++ (ws.drop (16 * k)).take 16 := by
        rw [show 16 * (k + 1) = 16 * k + 16 by omega, List.take_add]
      rw [e]
      congr 1
      unfold chunk
      have l1 : ((ws.drop (16 * k)).take 16).length = min 16 (ws.length - 16 * k) := by rw [List.length_take, List.length_drop]
      by_cases h2 : ws.length - 16 * k ≤ 16
      · rw [List.take_append_of_le_length (by omega), List.take_of_length_le (by omega)]
      · have l2 : ((ws.drop (16 * k)).take 16).length = 16 := by omega
        rw [l2, Nat.sub_self, List.replicate_zero, List.append_nil, List.take_of_length_le (by omega)]
theorem chunks_all (ws : List Int) : (chunks ws (nbl ws)).take ws.length = ws := by
  rw [chunks_take, List.take_of_length_le (by unfold nbl; omega)]
theorem row_le {fs : List FRow} {f : FRow} (hf : f ∈ fs) : f.2.1.length ≤ (used fs).length := by
  induction fs with
  | nil => cases hf
  | cons g r ih =>
    have hu : used (g :: r) = g.2.1 ++ used r := by unfold used; rw [List.flatMap_cons]
    rw [hu, List.length_append]
    rcases List.mem_cons.mp hf with e | e
    · rw [e]; omega
    · have := ih e; omega
theorem fkv_names {H : Hp} : ∀ {fs : List FRow} {as : List Addr}, Paired (BlAt H) as fs → ((fkv fs as).map fun kv => kV kv.1) = (fs.map (·.1)).map V.str
  | _, _, .nil => rfl
  | f :: fs, a :: as, .cons r t => by
    show kV (.inr f.1) :: ((fkv fs as).map fun kv => kV kv.1) = _
    rw [fkv_names t]; rfl
section
variable {P : Program} {w : World} {K : PySem.W.Frag} {mg : Str → Option Value} {base : Heap}
theorem sc_Floor_names : FnScope ["self"] ["self"] (defScope s_Floor_names) := ⟨rfl, rfl, rfl, by decide +kernel, rfl, by decide +kernel, by decide +kernel⟩
theorem ok_Floor_names {f FC fi : Addr} {fd fdi : FuncData} (z0 : Mc K mg FC fi fdi) (T : Bt mg) (C : Ct K mg) (M_ : Mt K FC "names" "Floor.names" s_Floor_names ["self"] f fd) : FnOk P w K mg base CX0 1 f fd ["self"] (sp_nms FC) := by
  refine M_.F.ok sc_Floor_names (fun vs H Q E h => ?_) (fun cdv A outer s H vs Q E hr h => ?_)
  · obtain ⟨p, lc, ow, le, rs, bas, S, rfl, _⟩ := h; rfl
  · obtain ⟨p, lc, ow, le, rs, bas, S, rfl, M, hl, q⟩ := h
    obtain ⟨dx, ob⟩ := M.ob
    refine ⟨_, (pss_one (ps_ret (pe_callB (call_sortedD rfl) rfl T.b_sorted (by decide +kernel) (pa_consN (pe_fld (pv 0) rfl) pa_nil)))), ?_⟩
    refine ⟨_, rfl, p, FC, dx, _, _, rfl, ob, z0.cl, z0.nO, ff_ow, ow, _, S.files.map (·.1), rfl, .inl M.od, ?_, by rw [List.length_map]; exact hl, fun r ss hr0 h1 h2 => q r ss hr0 h1 h2⟩
    exact fkv_names M.ba
theorem sc_Floor_words_of : FnScope ["self", "name", "words", "number"] ["self", "name"] (defScope s_Floor_words_of) := ⟨rfl, rfl, rfl, by decide +kernel, rfl, by decide +kernel, by decide +kernel⟩
theorem ok_Floor_words_of {f g FC fi CF TE : Addr} {fd dg fdi : FuncData} (z0 : Mc K mg FC fi fdi) (T : Bt mg) (C : Ct K mg) (X_NoFile : Xc K mg "NoFile" CF TE) (z4 : Mt K FC "look_for" "Floor.look_for" s_Floor_look_for ["self", "name"] g dg) (z8 : Mt K FC "words_of" "Floor.words_of" s_Floor_words_of ["self", "name"] f fd) : FnOk P w K mg base (CX1 P w) 2 f fd ["self", "name"] (sp_words FC CF) := by
  have z22 := ok_Floor_look_for (P := P) (w := w) (base := base) z0 T C X_NoFile z4
  refine z8.F.ok1 sc_Floor_words_of (fun vs H Q E h => ?_) (fun cdv A outer s H vs Q E hr h => ?_)
  · obtain ⟨p, lc, ow, le, rs, bas, S, n, name, rfl, _⟩ := h; rfl
  · obtain ⟨p, lc, ow, le, rs, bas, S, n, name, rfl, M, ok, hn, hno, hyes⟩ := h
    have hs : sizeLine = 16777216 := sizeLine_eq
    obtain ⟨dx, ob⟩ := M.ob
    refine ⟨_, (pss_cons (ps_expr (pe_meth (pv 0) z0.cl z4.me z22 (hr.mono (by decide)) z4.b .nil pass1 (pa_consN (pv 1) pa_nil)))
      (pss_cons (PS.nox (ps_set (i := 2) sc_Floor_words_of.nd rfl (Or.inl rfl) (pe_lst pa_nil)))
      (pss_cons (PS.nox (ps_for PassesOwn.never rfl (pi_list (pe_dget (hu_of hr) (pe_fld (pv 0) rfl) (pv 1) (fun _ _ => rfl))) (pg_name (i := 3) sc_Floor_words_of.nd rfl (Or.inl rfl))
        (pss_one (ps_expr (pe_bm PySem.F.plainAttrs_list PySem.F.slot_list_extend PySem.F.type_list_extend mt_extend (pv 2) (pa_consN (pe_ix ix_list (pe_fld (pv 0) rfl) (pv 3) (fun _ _ => rfl)) pa_nil))))))
      (pss_one (PS.nox (ps_ret (pe_slice sl_list (pv 2) po_none (po_some (pe_dget (hu_of hr) (pe_fld (pv 0) rfl) (pv 1) (fun _ _ => rfl)))))))))), ?_⟩
    refine ⟨_, rfl, p, dx, _, rfl, ob, ff_no (by decide +kernel) (by decide +kernel) (by decide +kernel), _, rfl, p, lc, ow, le, rs, bas, S, name, rfl, M, ok.nd, hno, fun hin => ?_⟩
    obtain ⟨bl, ws, hf⟩ := of_name hin
    obtain ⟨a, ea, eb⟩ := fkv_some M.ba ok.nd hf
    have lbl : bl.length = nbl ws := ok.bl _ hf
    have lbn : bl.length ≤ 1000 := by
      have h1 := row_le hf
      have h2 := free_len ok.lt ok.un
      have h3 : (name, bl, ws).2.1.length = bl.length := rfl
      omega
    refine ⟨Nat.zero_le _, fun wd hwd => ?_⟩
    have y1 := Same.put (o := .lst []) hwd
    have ewd : upd H wd (.lst []) wd = some (.lst ((chunks ws 0).map V.int)) := upd_same
    generalize upd H wd (.lst []) = H1 at y1 ewd ⊢
    have M1 := M.same y1
    have k01 : ∀ {H2 : Hp}, Kl wd H1 H2 → Same H H2 := fun k => Kl.same y1 hwd k
    refine ⟨_, rfl, p, FC, dx, _, _, rfl, y1 _ _ ob, z0.cl, z0.nO, ff_ow, _, rfl, ow, .ref a, rfl, ?_, a, rfl, ⟨_, SqL.of (y1 _ _ eb)⟩, for_list (xs := natsV bl) (fun i σ H2 => ∃ v3 : Option V, σ = [some (.ref p), some (.str name), some (.ref wd), v3] ∧ Kl wd H1 H2 ∧ H2 wd = some (.lst ((chunks ws i).map V.int))) ⟨_, rfl, Kl.of (Same.refl _), ewd⟩ ?_ ?_ ?_⟩
    · rw [← ea]; exact DGet.k (k := .inr name) M1.od
    · rintro i σ H2 _ ⟨v3, rfl, k2, _⟩
      exact SqL.of (k01 k2 _ _ eb)
    · rintro i x σ H2 hx ⟨v3, rfl, k2, ew2⟩
      obtain ⟨b, hb, rfl⟩ := nat_get hx
      have hi : i < bl.length := (List.getElem?_eq_some_iff.mp hb).1
      have hbn : b < n := ok.lt b (bl_in_used hf (List.mem_of_getElem? hb))
      have M2 := M.same (k01 k2)
      have lrs : rs.length = n := by rw [M.ro.length]; exact ok.len
      have hx2 : rs[b]? = some (rs[b]'(by omega)) := List.getElem?_eq_getElem _
      have hc2 : S.cont[b]? = some (chunk ws i) := by
        have hl : b < S.cont.length := by rw [ok.len]; exact hbn
        have := ok.ct _ hf i b hb
        rw [List.getD_eq_getElem?_getD, List.getElem?_eq_getElem hl] at this
        rw [List.getElem?_eq_getElem hl]; exact congrArg some this
      have hrow : RowAt H2 _ _ := paired_at M2.ro hx2 hc2
      refine ⟨_, rfl, .inl ⟨rfl, _, SqL.of ew2⟩, _, rfl, p, FC, dx, _, _, rfl, k01 k2 _ _ ob, z0.cl, z0.nC, ff_co, _, rfl, lc, _, _, _, rfl, rfl, SqL.of M2.co, atI_ref hx2, wd, _, _, _, rfl, rfl, ew2, hrow, ?_, ?_⟩
      · rw [List.length_map, List.length_map, chunks_len, chunk_len]; omega
      · exact ⟨_, rfl, k2.trans Kl.one, by rw [upd_same, ← List.map_append, chunks_succ]⟩
    · rintro σ H2 ⟨v3, rfl, k2, ew2⟩
      rw [nats_len, lbl] at ew2
      have M2 := M.same (k01 k2)
      have hlen : ws.length ≤ 16 * nbl ws := by unfold nbl; omega
      refine ⟨_, rfl, _, rfl, p, FC, dx, _, _, rfl, k01 k2 _ _ ob, z0.cl, z0.nL, ff_le, _, rfl, le, .int (ws.length : Int), rfl, ?_, _, rfl, wd, _, rfl, SqL.of ew2, fun r hr0 => ?_⟩
      · rw [← lkv_some ok.nd hf]; exact DGet.k (k := .inr name) M2.ld
      rw [cutV_to _ _ _ (by omega) (by rw [chunks_len]; omega), Int.toNat_natCast, chunks_all]
      exact hyes bl ws hf r _ ((k01 k2).trans (Same.put hr0)) ((k01 k2).free hr0) upd_same
end
end K79

set_option Elab.async false
set_option linter.all false
set_option maxRecDepth 100000
set_option maxHeartbeats 4000000
namespace K79
open PySem L2
def fwS (S : FS) (nm : Str) : List Int := ((S.files.find? fun f => decide (f.1 = nm)).map (·.2.2)).getD []
def fbS (S : FS) (nm : Str) : Nat := (((S.files.find? fun f => decide (f.1 = nm)).map (·.2.1)).getD []).length
theorem find_file : ∀ {fs : List FRow} {nm : Str} {bl : List Nat} {ws : List Int}, (fs.map (·.1)).Nodup → (nm, bl, ws) ∈ fs → fs.find? (fun f => decide (f.1 = nm)) = some (nm, bl, ws)
  | [], nm, bl, ws, _, h => by cases h
  | f :: r, nm, bl, ws, nd, h => by
    rw [List.map_cons, List.nodup_cons] at nd
    rcases List.mem_cons.mp h with e | e
    · rw [← e]; rw [List.find?_cons_of_pos]; exact decide_eq_true rfl
    · have hn : f.1 ≠ nm := fun z => nd.1 (z ▸ List.mem_map_of_mem (f := (·.1)) e)
      rw [List.find?_cons_of_neg (by simpa using hn)]
      exact find_file nd.2 e
theorem file_at {S : FS} {nm : Str} {bl : List Nat} {ws : List Int} (nd : (S.files.map (·.1)).Nodup) (h : (nm, bl, ws) ∈ S.files) : fwS S nm = ws ∧ fbS S nm = bl.length := by
  unfold fwS fbS
  rw [find_file nd h]; exact ⟨rfl, rfl⟩
inductive El (acc : Addr) (H : Hp) : V → PyData → Prop
  | int (i : Int) : El acc H (.int i) (.int i)
  | lst (a : Addr) (ns : List Int) (h : H a = some (.lst (ns.map V.int))) (n : a ≠ acc) : El acc H (.ref a) (.list (ns.map PyData.int))
  | sts (a : Addr) (ss : List Str) (h : H a = some (.lst (ss.map V.str))) (n : a ≠ acc) : El acc H (.ref a) (.list (ss.map PyData.str))
theorem El.kl {acc : Addr} {H H' : Hp} {v : V} {d : PyData} (h : El acc H v d) (k : Kl acc H H') : El acc H' v d := by
  cases h with
  | int i => exact .int i
  | lst a ns h n => exact .lst a ns (k _ _ h n) n
  | sts a ss h n => exact .sts a ss (k _ _ h n) n
theorem rep_intsA (K : PySem.W.Frag) (H : Hp) : ∀ l : List Int, RepAll K H (l.map V.int) (l.map PyData.int)
  | [] => .nil
  | x :: r => .cons (.int x) (rep_intsA K H r)
theorem rep_strsA (K : PySem.W.Frag) (H : Hp) : ∀ l : List Str, RepAll K H (l.map V.str) (l.map PyData.str)
  | [] => .nil
  | x :: r => .cons (.str x) (rep_strsA K H r)
theorem El.rep (K : PySem.W.Frag) {acc : Addr} {H : Hp} {v : V} {d : PyData} (h : El acc H v d) : Rep K H v d := by
  cases h with
  | int i => exact .int i
  | lst a ns h n => exact .lst (SqL.of h) (rep_intsA K H ns)
  | sts a ss h n => exact .lst (SqL.of h) (rep_strsA K H ss)
theorem els_rep (K : PySem.W.Frag) {acc : Addr} {H : Hp} : ∀ {vs : List V} {ds : List PyData}, Paired (El acc H) vs ds → RepAll K H vs ds
  | _, _, .nil => .nil
  | _, _, .cons r t => .cons (r.rep K) (els_rep K t)
theorem rep_snoc {K : PySem.W.Frag} {H : Hp} : ∀ {vs : List V} {ds : List PyData} {v : V} {d : PyData}, RepAll K H vs ds → Rep K H v d → RepAll K H (vs ++ [v]) (ds ++ [d])
  | _, _, _, _, .nil, h => .cons h .nil
  | _, _, _, _, .cons r t, h => .cons r (rep_snoc t h)
def fileD (S : FS) (nm : Str) : List PyData := [.list ((fwS S nm).map PyData.int), .int ((fbS S nm : Nat) : Int)]
def toldD (n : Nat) (S : FS) (ss : List Str) (k : Nat) : List PyData := [.list (ss.map PyData.str), .int ((freeL n S.files).length : Int)] ++ (ss.take k).flatMap (fileD S)
def contD (S : FS) : PyData := .list ((sortIx S.cont).map fun i => PyData.list ((S.cont.getD i []).map PyData.int))
def allD (n : Nat) (S : FS) (ss : List Str) : PyData := .list (toldD n S ss ss.length ++ [contD S])
theorem flat_take {α β : Type} (f : α → List β) {l : List α} {i : Nat} {x : α} (h : l[i]? = some x) : (l.take (i + 1)).flatMap f = (l.take i).flatMap f ++ f x := by
  rw [List.take_add_one, h, Option.toList_some, List.flatMap_append, List.flatMap_singleton]
theorem rep_pick {K : PySem.W.Frag} {H : Hp} {us : List V} {nss : List (List Int)} (h : Paired (fun v ns => ∃ b, v = V.ref b ∧ H b = some (.lst (ns.map V.int))) us nss) : ∀ {l : List Nat}, (∀ i ∈ l, i < nss.length) → RepAll K H (l.map fun i => us.getD i .non) (l.map fun i => PyData.list ((nss.getD i []).map PyData.int))
  | [], _ => .nil
  | i :: l, hl => by
    have hi := hl i List.mem_cons_self
    have hu : i < us.length := by rw [h.length]; exact hi
    have e : us[i]? = some (us.getD i .non) := by rw [List.getD_eq_getElem?_getD, List.getElem?_eq_getElem hu]; rfl
    obtain ⟨ns, hns, b, eb, hb⟩ := paired_at0 h e
    refine .cons ?_ (rep_pick h fun j hj => hl j (List.mem_cons_of_mem _ hj))
    show Rep K H (us.getD i .non) (.list ((nss.getD i []).map PyData.int))
    rw [eb, show nss.getD i [] = ns by rw [List.getD_eq_getElem?_getD, hns]; rfl]
    exact .lst (SqL.of hb) (rep_intsA K H ns)
def sp_all (K : PySem.W.Frag) (C : Addr) : Sp := fun vs H Q _ => ∃ (p lc ow le : Addr) (rs bas : List Addr) (S : FS) (n : Nat), vs = [.ref p, .int (n : Int)] ∧ FlAt C H p lc ow le rs bas S ∧ S.Ok n ∧ n ≤ 60 ∧ S.files.length ≤ 60 ∧ (∀ r ∈ S.cont, r.length = 16) ∧
  ∀ (r : Addr) (H' : Hp) (ss : List Str), Same H H' → ss.Perm (S.files.map (·.1)) → PyProof.Rows.sortedS ss = true → Rep K H' (.ref r) (allD n S ss) → Q (.ref r) H'
def sp_spoil (C : Addr) : Sp := fun vs H Q _ => ∃ (p lc ow le : Addr) (rs bas : List Addr) (S : FS) (n : Nat), vs = [.ref p, .int (n : Int)] ∧ FlAt C H p lc ow le rs bas S ∧ S.Ok n ∧ n ≤ 60 ∧ S.files.length ≤ 60 ∧ ∀ (H' : Hp), Same H H' → Q .non H'
section
variable {P : Program} {w : World} {K : PySem.W.Frag} {mg : Str → Option Value} {base : Heap}
theorem sc_law_all : FnScope ["_law_floor", "_law_blocks", "_law_told", "_law_name"] ["_law_floor", "_law_blocks"] (defScope s_law_all) := ⟨rfl, rfl, rfl, by decide +kernel, rfl, by decide +kernel, by decide +kernel⟩
theorem ok_law_all {f g1 g2 g3 g4 g5 g6 g7 FC fi CF TE : Addr} {fdd d1 d2 d3 d4 d5 d6 d7 fdi : FuncData} (F : Fun K "_law_all" "_law_all" s_law_all f fdd) (z0 : Mc K mg FC fi fdi) (T : Bt mg) (C : Ct K mg) (X_NoFile : Xc K mg "NoFile" CF TE)
    (z4 : Mt K FC "look_for" "Floor.look_for" s_Floor_look_for ["self", "name"] g1 d1) (z5 : Mt K FC "free_blocks" "Floor.free_blocks" s_Floor_free_blocks ["self"] g2 d2) (z8 : Mt K FC "words_of" "Floor.words_of" s_Floor_words_of ["self", "name"] g3 d3) (z10 : Mt K FC "names" "Floor.names" s_Floor_names ["self"] g4 d4) (z11 : Mt K FC "free" "Floor.free" s_Floor_free ["self"] g5 d5) (z7 : Mt K FC "blocks_of" "Floor.blocks_of" s_Floor_blocks_of ["self", "name"] g6 d6) (z12 : Mt K FC "block" "Floor.block" s_Floor_block ["self", "number"] g7 d7) :
    FnOk P w K mg base CX0 4 f fdd ["_law_floor", "_law_blocks"] (sp_all K FC) := by
  have G_Floor_words_of := ok_Floor_words_of (P := P) (w := w) (base := base) z0 T C X_NoFile z4 z8
  have z31 := ok_Floor_names (P := P) (w := w) (base := base) z0 T C z10
  have G_Floor_free := ok_Floor_free (P := P) (w := w) (base := base) z0 T C z5 z11
  have G_Floor_blocks_of := ok_Floor_blocks_of (P := P) (w := w) (base := base) z0 T C X_NoFile z4 z7
  have G_Floor_block := ok_Floor_block (P := P) (w := w) (base := base) z0 T C z12
  refine F.ok sc_law_all (fun vs H Q E h => ?_) (fun cdv A outer s H vs Q E hr h => ?_)
  · obtain ⟨p, lc, ow, le, rs, bas, S, n, rfl, _⟩ := h; rfl
  · obtain ⟨p, lc, ow, le, rs, bas, S, n, rfl, M, ok, hn, hfl, h16, q⟩ := h
    have hs : sizeLine = 16777216 := sizeLine_eq
    obtain ⟨dx, ob⟩ := M.ob
    refine ⟨_, (pss_cons (ps_set (i := 2) sc_law_all.nd rfl (Or.inl rfl) (pe_lst (pa_consN (pe_meth0 (pv 0) z0.cl z10.me z31 (hr.mono (by decide)) z10.b .nil pass0) (pa_consN (pe_meth0 (pv 0) z0.cl z11.me G_Floor_free (hr.mono (by decide)) z11.b .nil pass0) pa_nil))))
      (pss_cons (ps_for PassesOwn.never rfl (pi_list (pe_meth0 (pv 0) z0.cl z10.me z31 (hr.mono (by decide)) z10.b .nil pass0)) (pg_name (i := 3) sc_law_all.nd rfl (Or.inl rfl))
        (pss_cons (ps_expr (pe_bm PySem.F.plainAttrs_list PySem.F.slot_list_append PySem.F.type_list_append mt_append (pv 2) (pa_consN (pe_meth (pv 0) z0.cl z8.me G_Floor_words_of (hr.mono (by decide)) z8.b .nil passF (pa_consN (pv 3) pa_nil)) pa_nil)))
        (pss_one (ps_expr (pe_bm PySem.F.plainAttrs_list PySem.F.slot_list_append PySem.F.type_list_append mt_append (pv 2) (pa_consN (pe_callB call_len_seq rfl T.b_len (by decide +kernel) (pa_consN (pe_meth (pv 0) z0.cl z7.me G_Floor_blocks_of (hr.mono (by decide)) z7.b .nil passF (pa_consN (pv 3) pa_nil)) pa_nil)) pa_nil))))))
      (pss_one (ps_ret (pe_op op_cat (pv 2) (pe_lst (pa_consN (pe_callB (call_sortedG (K := K) hr.units) rfl T.b_sorted (by decide +kernel) (pa_consN (pe_comp rfl (blk_of (sc0 := defScope s_law_all) (N0 := ["_law_floor", "_law_blocks", "_law_told", "_law_name"]) (N' := ["_law_number", "_law_floor"]) (own := 1) (fv := [0]) (by decide +kernel) rfl rfl) (pi_range1 rfl T.b_range (pa_consN (pv 1) pa_nil)) (fun _ _ _ _ => (pg_name (i := 0) (by show List.Nodup (["_law_number", "_law_floor"] : List Str); decide +kernel) rfl (Or.inl rfl))) (fun _ _ _ _ => (pe_meth (pv 1) z0.cl z12.me G_Floor_block (hr.mono (by decide)) z12.b .nil pass0 (pa_consN (pv 0) pa_nil)))) pa_nil)) pa_nil))))))), ?_⟩
    refine ⟨_, rfl, p, dx, _, rfl, ob, ff_no (by decide +kernel) (by decide +kernel) (by decide +kernel), p, lc, ow, le, rs, bas, S, rfl, M, by omega, fun a0 ss h0 hp hsrt => ?_⟩
    have lss : ss.length = S.files.length := by rw [hp.length_eq, List.length_map]
    have y0 := Same.put (o := .lst (ss.map V.str)) h0
    have e0 : upd H a0 (.lst (ss.map V.str)) a0 = some (.lst (ss.map V.str)) := upd_same
    generalize upd H a0 (.lst (ss.map V.str)) = H0 at y0 e0 ⊢
    refine ⟨_, rfl, p, dx, _, rfl, y0 _ _ ob, ff_no (by decide +kernel) (by decide +kernel) (by decide +kernel), p, lc, ow, le, rs, bas, S, n, rfl, M.same y0, ok, by omega, fun H1 y1 => ?_⟩
    have s1 := y0.trans y1
    refine ⟨(by show 2 ≤ sizeLine; omega), fun tl htl => ?_⟩
    have y2 := Same.put (o := .lst [V.ref a0, V.int ((freeL n S.files).length : Int)]) htl
    have et : upd H1 tl (.lst [V.ref a0, V.int ((freeL n S.files).length : Int)]) tl = some (.lst [V.ref a0, V.int ((freeL n S.files).length : Int)]) := upd_same
    have a0t : a0 ≠ tl := ne_of_none (y1 _ _ e0) htl
    generalize upd H1 tl (.lst [V.ref a0, V.int ((freeL n S.files).length : Int)]) = H2 at y2 et ⊢
    have s2 := s1.trans y2
    have htl0 : H tl = none := s1.free htl
    refine ⟨_, rfl, p, dx, _, rfl, s2 _ _ ob, ff_no (by decide +kernel) (by decide +kernel) (by decide +kernel), p, lc, ow, le, rs, bas, S, rfl, M.same s2, by omega, fun a1 ss' h1 hp' hsrt' => ?_⟩
    have hss : ss' = ss := sorted_one hsrt' hsrt (hp'.trans hp.symm)
    rw [hss]
    have y3 := Same.put (o := .lst (ss.map V.str)) h1
    have e1 : upd H2 a1 (.lst (ss.map V.str)) a1 = some (.lst (ss.map V.str)) := upd_same
    have a1t : a1 ≠ tl := (ne_of_none et h1).symm
    generalize upd H2 a1 (.lst (ss.map V.str)) = H3 at y3 e1 ⊢
    have s3 := s2.trans y3
    have et3 := y3 _ _ et
    refine ⟨a1, rfl, ⟨_, SqL.of e1⟩, for_list (K := K) (a := a1) (xs := ss.map V.str) (fun i σ H4 => ∃ (v3 : Option V) (vs : List V), σ = [some (.ref p), some (.int (n : Int)), some (.ref tl), v3] ∧ Kl tl H3 H4 ∧ H4 tl = some (.lst vs) ∧ Paired (El tl H4) vs (toldD n S ss i))
      ⟨_, _, rfl, Kl.of (Same.refl _), et3, .cons (.sts a0 ss (y3 _ _ (y2 _ _ (y1 _ _ e0))) a0t) (.cons (.int _) .nil)⟩ ?_ ?_ ?_⟩
    · rintro i σ H4 _ ⟨v3, vs, rfl, k4, _⟩
      exact SqL.of (k4 _ _ e1 a1t)
    · rintro i x σ H4 hx ⟨v3, vs, rfl, k4, et4, hvs⟩
      rw [List.getElem?_map] at hx
      obtain ⟨nm, hnm, rfl⟩ := Option.map_eq_some_iff.mp hx
      have hi : i < ss.length := (List.getElem?_eq_some_iff.mp hnm).1
      have hin : nm ∈ S.files.map (·.1) := hp.mem_iff.mp (List.mem_of_getElem? hnm)
      have s4 : Same H H4 := Kl.same s3 htl0 k4
      have lvs : vs.length ≤ 1000 := by
        have := hvs.length
        have h2 : ∀ l : List Str, (l.flatMap (fileD S)).length = 2 * l.length := by
          intro l
          induction l with
          | nil => rfl
          | cons a r ih => rw [List.flatMap_cons, List.length_append, ih, List.length_cons]; show 2 + _ = _; omega
        unfold toldD at this
        rw [List.length_append, h2, List.length_take] at this
        have h3 : ([PyData.list (ss.map PyData.str), PyData.int ((freeL n S.files).length : Int)] : List PyData).length = 2 := rfl
        omega
      refine ⟨_, rfl, .inl ⟨rfl, _, SqL.of et4⟩, _, rfl, p, dx, _, rfl, s4 _ _ ob, ff_no (by decide +kernel) (by decide +kernel) (by decide +kernel), _, rfl, p, lc, ow, le, rs, bas, S, n, nm, rfl, M.same s4, ok, by omega, fun z => (z hin).elim, fun bl ws hm a2 H5 y5 h2 e2 => ?_⟩
      obtain ⟨f1, f2⟩ := file_at ok.nd hm
      have et5 := y5 _ _ et4
      have a2t : a2 ≠ tl := (ne_of_none et4 h2).symm
      refine ⟨tl, _, _, rfl, rfl, et5, by omega, ?_⟩
      have k6 : Kl tl H5 (upd H5 tl (.lst (vs ++ [.ref a2]))) := Kl.one
      have et6 : upd H5 tl (.lst (vs ++ [.ref a2])) tl = some (.lst (vs ++ [.ref a2])) := upd_same
      have e26 := k6 _ _ e2 a2t
      generalize upd H5 tl (.lst (vs ++ [.ref a2])) = H6 at k6 et6 e26 ⊢
      have k46 := (Kl.of y5).trans k6
      have s6 : Same H H6 := Kl.same s3 htl0 (k4.trans k46)
      refine ⟨_, rfl, .inl ⟨rfl, _, SqL.of et6⟩, _, rfl, p, dx, _, rfl, s6 _ _ ob, ff_no (by decide +kernel) (by decide +kernel) (by decide +kernel), _, rfl, p, lc, ow, le, rs, bas, S, nm, rfl, M.same s6, ok.nd, fun z => (z hin).elim, fun bl' ws' hm' a3 h3 => ?_⟩
      obtain ⟨_, f3⟩ := file_at ok.nd hm'
      have y7 := Same.put (o := .lst (natsV bl')) h3
      have e3 : upd H6 a3 (.lst (natsV bl')) a3 = some (.lst (natsV bl')) := upd_same
      generalize upd H6 a3 (.lst (natsV bl')) = H7 at y7 e3 ⊢
      have et7 := y7 _ _ et6
      refine ⟨a3, _, rfl, .inl (SqL.of e3), ?_⟩
      refine ⟨tl, _, _, rfl, rfl, et7, by rw [List.length_append]; show vs.length + 1 < sizeLine; omega, ?_⟩
      have k8 : Kl tl H7 (upd H7 tl (.lst ((vs ++ [.ref a2]) ++ [.int ((natsV bl').length : Int)]))) := Kl.one
      refine ⟨_, _, rfl, ((k4.trans k46).trans (Kl.of y7)).trans k8, upd_same, ?_⟩
      have kk := (k46.trans (Kl.of y7)).trans k8
      have k68 := (Kl.of y7).trans k8
      have hD : toldD n S ss (i + 1) = (toldD n S ss i ++ [PyData.list (ws.map PyData.int)]) ++ [PyData.int ((natsV bl').length : Int)] := by
        unfold toldD
        rw [flat_take (fileD S) hnm]
        unfold fileD
        rw [f1, f3, nats_len]; simp
      rw [hD]
      exact Paired.snoc (Paired.snoc (Paired.mapP hvs fun _ _ z => z.kl kk) (.lst a2 ws (k68 _ _ e26 a2t) a2t)) (.int _)
    rintro σ H4 ⟨v3, vs, rfl, k4, et4, hvs⟩
    rw [List.length_map] at hvs
    have s4 : Same H H4 := Kl.same s3 htl0 k4
    have lvs : vs.length ≤ 1000 := by
      have := hvs.length
      have h2 : ∀ l : List Str, (l.flatMap (fileD S)).length = 2 * l.length := by
        intro l
        induction l with
        | nil => rfl
        | cons a r ih => rw [List.flatMap_cons, List.length_append, ih, List.length_cons]; show 2 + _ = _; omega
      unfold toldD at this
      rw [List.length_append, h2, List.length_take] at this
      have h3 : ([PyData.list (ss.map PyData.str), PyData.int ((freeL n S.files).length : Int)] : List PyData).length = 2 := rfl
      omega
    refine ⟨_, rfl, _, rfl, _, rfl, by omega, by omega, comp_rngInv (lo := 0) (n := (n : Int).toNat) (fvals := [some (.ref p)]) (fun acc j Hx => H4 acc = none ∧ Same H4 Hx ∧ ∃ us : List V, Hx acc = some (.lst us) ∧ Paired (fun v ns => ∃ b, v = V.ref b ∧ Hx b = some (.lst (ns.map V.int)) ∧ b ≠ acc) us (S.cont.take j)) ?_ ?_ ?_⟩
    · intro acc hacc
      exact ⟨hacc, Same.put hacc, [], upd_same, .nil⟩
    · rintro acc j Hx R hj ⟨hacc, sx, us, ea, hR⟩ hRR
      rw [Int.toNat_natCast] at hj
      have sxx := s4.trans sx
      have hjc : j < S.cont.length := by rw [ok.len]; exact hj
      have lr : us.length = j := by have := hR.length; rw [List.length_take] at this; omega
      refine ⟨_, rfl, p, dx, _, rfl, sxx _ _ ob, ff_no (by decide +kernel) (by decide +kernel) (by decide +kernel), _, rfl, p, lc, ow, le, rs, bas, S, j, (by show [V.ref p, V.int (0 + (j : Int))] = [V.ref p, V.int (j : Int)]; rw [Int.zero_add]), M.same sxx, hjc, fun r hr0 => ?_⟩
      have yr := Same.put (o := .lst ((S.cont.getD j []).map V.int)) hr0
      have er : upd Hx r (.lst ((S.cont.getD j []).map V.int)) r = some (.lst ((S.cont.getD j []).map V.int)) := upd_same
      generalize upd Hx r (.lst ((S.cont.getD j []).map V.int)) = Hy at yr er ⊢
      have ra : r ≠ acc := (ne_of_none ea hr0).symm
      refine hRR _ _ ⟨_, yr _ _ ea, by omega, hacc, Kl.same (sx.trans yr) hacc Kl.one, us ++ [.ref r], upd_same, ?_⟩
      rw [List.take_add_one, List.getElem?_eq_getElem hjc]
      refine Paired.snoc (Paired.mapP hR fun v ns z => ?_) ⟨r, rfl, ?_, ra⟩
      · obtain ⟨b, e, hb, hne⟩ := z
        exact ⟨b, e, by rw [upd_ne hne]; exact yr _ _ hb, hne⟩
      · rw [upd_ne ra, er, List.getD_eq_getElem?_getD, List.getElem?_eq_getElem hjc]; rfl
    rintro acc Hx hacc ⟨_, sx, us, ea, hR⟩
    rw [Int.toNat_natCast, List.take_of_length_le (by have := ok.len; omega)] at hR
    have lr : us.length = n := by rw [hR.length, ok.len]
    have hR' : Paired (fun v ns => ∃ b, v = V.ref b ∧ Hx b = some (.lst (ns.map V.int))) us S.cont := Paired.mapP hR fun v ns ⟨b, e, hb, _⟩ => ⟨b, e, hb⟩
    refine ⟨acc, us, S.cont, rfl, SqL.of ea, hR', h16, by omega, fun sl hsl => ?_⟩
    have z1 := Same.put (o := .lst ((sortIx S.cont).map fun i => us.getD i .non)) hsl
    have e5 : upd Hx sl (.lst ((sortIx S.cont).map fun i => us.getD i .non)) sl = some (.lst ((sortIx S.cont).map fun i => us.getD i .non)) := upd_same
    generalize upd Hx sl (.lst ((sortIx S.cont).map fun i => us.getD i .non)) = Hy at z1 e5 ⊢
    refine ⟨(by show 1 ≤ sizeLine; omega), fun l1 hl1 => ?_⟩
    have z2 := Same.put (o := .lst [V.ref sl]) hl1
    have e6 : upd Hy l1 (.lst [V.ref sl]) l1 = some (.lst [V.ref sl]) := upd_same
    generalize upd Hy l1 (.lst [V.ref sl]) = Hz at z2 e6 ⊢
    have szx := (sx.trans z1).trans z2
    refine ⟨tl, l1, _, _, rfl, rfl, szx _ _ et4, e6, (by show vs.length + 1 ≤ sizeLine; omega), fun r hr0 => ?_⟩
    have z3 := Same.put (o := .lst (vs ++ [V.ref sl])) hr0
    have hRz : Paired (fun v ns => ∃ b, v = V.ref b ∧ upd Hz r (.lst (vs ++ [V.ref sl])) b = some (.lst (ns.map V.int))) us S.cont := Paired.mapP hR' fun v ns ⟨b, e, hb⟩ => ⟨b, e, z3 _ _ (z2 _ _ (z1 _ _ hb))⟩
    refine q r _ ss ((s4.trans szx).trans z3) hp hsrt ?_
    refine .lst (SqL.of upd_same) (rep_snoc (RepAll.same (szx.trans z3) (els_rep K hvs)) ?_)
    exact .lst (SqL.of (z3 _ _ (z2 _ _ e5))) (rep_pick hRz (sortIx_lt S.cont))
theorem sc_law_spoil : FnScope ["_law_floor", "_law_blocks", "_law_name", "_law_number"] ["_law_floor", "_law_blocks"] (defScope s_law_spoil) := ⟨rfl, rfl, rfl, by decide +kernel, rfl, by decide +kernel, by decide +kernel⟩
theorem ok_law_spoil {f g1 g3 g4 g6 g7 FC fi CF TE : Addr} {fdd d1 d3 d4 d6 d7 fdi : FuncData} (F : Fun K "_law_spoil" "_law_spoil" s_law_spoil f fdd) (z0 : Mc K mg FC fi fdi) (T : Bt mg) (C : Ct K mg) (X_NoFile : Xc K mg "NoFile" CF TE)
    (z4 : Mt K FC "look_for" "Floor.look_for" s_Floor_look_for ["self", "name"] g1 d1) (z8 : Mt K FC "words_of" "Floor.words_of" s_Floor_words_of ["self", "name"] g3 d3) (z10 : Mt K FC "names" "Floor.names" s_Floor_names ["self"] g4 d4) (z7 : Mt K FC "blocks_of" "Floor.blocks_of" s_Floor_blocks_of ["self", "name"] g6 d6) (z12 : Mt K FC "block" "Floor.block" s_Floor_block ["self", "number"] g7 d7) :
    FnOk P w K mg base CX0 4 f fdd ["_law_floor", "_law_blocks"] (sp_spoil FC) := by
  have G_Floor_words_of := ok_Floor_words_of (P := P) (w := w) (base := base) z0 T C X_NoFile z4 z8
  have z31 := ok_Floor_names (P := P) (w := w) (base := base) z0 T C z10
  have G_Floor_blocks_of := ok_Floor_blocks_of (P := P) (w := w) (base := base) z0 T C X_NoFile z4 z7
  have G_Floor_block := ok_Floor_block (P := P) (w := w) (base := base) z0 T C z12
  refine F.ok sc_law_spoil (fun vs H Q E h => ?_) (fun cdv A outer s H vs Q E hr h => ?_)
  · obtain ⟨p, lc, ow, le, rs, bas, S, n, rfl, _⟩ := h; rfl
  · obtain ⟨p, lc, ow, le, rs, bas, S, n, rfl, M, ok, hn, hfl, q⟩ := h
    have hs : sizeLine = 16777216 := sizeLine_eq
    obtain ⟨dx, ob⟩ := M.ob
    refine ⟨_, (pss_cons (ps_for PassesOwn.never rfl (pi_list (pe_meth0 (pv 0) z0.cl z10.me z31 (hr.mono (by decide)) z10.b .nil pass0)) (pg_name (i := 2) sc_law_spoil.nd rfl (Or.inl rfl))
        (pss_cons (ps_expr (pe_bm PySem.F.plainAttrs_list PySem.F.slot_list_append PySem.F.type_list_append mt_append (pe_meth (pv 0) z0.cl z8.me G_Floor_words_of (hr.mono (by decide)) z8.b .nil passF (pa_consN (pv 2) pa_nil)) (pa_consN pe_int pa_nil)))
        (pss_one (ps_expr (pe_bm0 PySem.F.plainAttrs_list PySem.F.slot_list_reverse PySem.F.type_list_reverse mt_reverse (pe_meth (pv 0) z0.cl z7.me G_Floor_blocks_of (hr.mono (by decide)) z7.b .nil passF (pa_consN (pv 2) pa_nil)))))))
      (pss_cons (ps_for PassesOwn.never rfl (pi_range1 rfl T.b_range (pa_consN (pv 1) pa_nil)) (pg_name (i := 3) sc_law_spoil.nd rfl (Or.inl rfl))
        (pss_one (ps_expr (pe_bm0 PySem.F.plainAttrs_list PySem.F.slot_list_clear PySem.F.type_list_clear mt_clear (pe_meth (pv 0) z0.cl z12.me G_Floor_block (hr.mono (by decide)) z12.b .nil pass0 (pa_consN (pv 3) pa_nil))))))
      (pss_one (ps_expr (pe_bm0 PySem.F.plainAttrs_list PySem.F.slot_list_clear PySem.F.type_list_clear mt_clear (pe_meth0 (pv 0) z0.cl z10.me z31 (hr.mono (by decide)) z10.b .nil pass0)))))), ?_⟩
    refine ⟨_, rfl, p, dx, _, rfl, ob, ff_no (by decide +kernel) (by decide +kernel) (by decide +kernel), p, lc, ow, le, rs, bas, S, rfl, M, by omega, fun a1 ss h1 hp hsrt => ?_⟩
    have y1 := Same.put (o := .lst (ss.map V.str)) h1
    have e1 : upd H a1 (.lst (ss.map V.str)) a1 = some (.lst (ss.map V.str)) := upd_same
    generalize upd H a1 (.lst (ss.map V.str)) = H1 at y1 e1 ⊢
    refine ⟨a1, rfl, ⟨_, SqL.of e1⟩, for_list (K := K) (a := a1) (xs := ss.map V.str) (fun i σ H4 => ∃ (v2 v3 : Option V), σ = [some (.ref p), some (.int (n : Int)), v2, v3] ∧ Same H1 H4)
      ⟨_, _, rfl, Same.refl _⟩ ?_ ?_ ?_⟩
    · rintro i σ H4 _ ⟨v2, v3, rfl, s4⟩
      exact SqL.of (s4 _ _ e1)
    · rintro i x σ H4 hx ⟨v2, v3, rfl, s4⟩
      rw [List.getElem?_map] at hx
      obtain ⟨nm, hnm, rfl⟩ := Option.map_eq_some_iff.mp hx
      have hin : nm ∈ S.files.map (·.1) := hp.mem_iff.mp (List.mem_of_getElem? hnm)
      have s04 := y1.trans s4
      refine ⟨_, rfl, p, dx, _, rfl, s04 _ _ ob, ff_no (by decide +kernel) (by decide +kernel) (by decide +kernel), _, rfl, p, lc, ow, le, rs, bas, S, n, nm, rfl, M.same s04, ok, by omega, fun z => (z hin).elim, fun bl ws hm a2 H5 y5 h2 e2 => ?_⟩
      have hbl := ok.bl _ hm
      have hus := row_le hm
      have hfl2 := free_len ok.lt ok.un
      have lws : ws.length ≤ 10000 := by
        have h3 : bl.length = nbl ws := hbl
        have h4 : bl.length ≤ (used S.files).length := hus
        unfold nbl at h3
        omega
      refine ⟨.inl ⟨rfl, _, SqL.of e2⟩, a2, _, _, rfl, rfl, e2, by rw [List.length_map]; omega, ?_⟩
      have s6 : Same H4 (upd H5 a2 (.lst (ws.map V.int ++ [V.int 9]))) := Kl.same y5 h2 Kl.one
      generalize upd H5 a2 (.lst (ws.map V.int ++ [V.int 9])) = H6 at s6 ⊢
      have s06 := s04.trans s6
      refine ⟨_, rfl, p, dx, _, rfl, s06 _ _ ob, ff_no (by decide +kernel) (by decide +kernel) (by decide +kernel), _, rfl, p, lc, ow, le, rs, bas, S, nm, rfl, M.same s06, ok.nd, fun z => (z hin).elim, fun bl' ws' hm' a3 h3 => ?_⟩
      have y7 := Same.put (o := .lst (natsV bl')) h3
      have e3 : upd H6 a3 (.lst (natsV bl')) a3 = some (.lst (natsV bl')) := upd_same
      generalize upd H6 a3 (.lst (natsV bl')) = H7 at y7 e3 ⊢
      refine ⟨.inl ⟨rfl, _, SqL.of e3⟩, a3, _, rfl, rfl, e3, ?_⟩
      exact ⟨_, _, rfl, s4.trans (s6.trans (Kl.same y7 h3 Kl.one))⟩
    rintro σ H4 ⟨v2, v3, rfl, s4⟩
    have s04 := y1.trans s4
    refine ⟨_, rfl, _, rfl, by omega, by omega, for_range (lo := 0) (n := (n : Int).toNat) (fun i σ H5 => ∃ (v2 v3 : Option V), σ = [some (.ref p), some (.int (n : Int)), v2, v3] ∧ Same H4 H5)
      ⟨_, _, rfl, Same.refl _⟩ ?_ ?_⟩
    · rintro i σ H5 hi ⟨v2, v3, rfl, s5⟩
      rw [Int.toNat_natCast] at hi
      have s05 := s04.trans s5
      refine ⟨_, rfl, p, dx, _, rfl, s05 _ _ ob, ff_no (by decide +kernel) (by decide +kernel) (by decide +kernel), _, rfl, p, lc, ow, le, rs, bas, S, i, (by show [V.ref p, V.int (0 + (i : Int))] = [V.ref p, V.int (i : Int)]; rw [Int.zero_add]), M.same s05, (by rw [ok.len]; exact hi), fun r hr0 => ?_⟩
      have y6 := Same.put (o := .lst ((S.cont.getD i []).map V.int)) hr0
      have e6 : upd H5 r (.lst ((S.cont.getD i []).map V.int)) r = some (.lst ((S.cont.getD i []).map V.int)) := upd_same
      generalize upd H5 r (.lst ((S.cont.getD i []).map V.int)) = H6 at y6 e6 ⊢
      refine ⟨.inl ⟨rfl, _, SqL.of e6⟩, r, _, rfl, rfl, e6, ?_⟩
      exact ⟨_, _, rfl, s5.trans (Kl.same y6 hr0 Kl.one)⟩
    rintro σ H5 ⟨v2, v3, rfl, s5⟩
    have s05 := s04.trans s5
    refine ⟨_, rfl, p, dx, _, rfl, s05 _ _ ob, ff_no (by decide +kernel) (by decide +kernel) (by decide +kernel), p, lc, ow, le, rs, bas, S, rfl, M.same s05, by omega, fun a2 ss2 h2 hp2 hsrt2 => ?_⟩
    have y6 := Same.put (o := .lst (ss2.map V.str)) h2
    have e6 : upd H5 a2 (.lst (ss2.map V.str)) a2 = some (.lst (ss2.map V.str)) := upd_same
    generalize upd H5 a2 (.lst (ss2.map V.str)) = H6 at y6 e6 ⊢
    refine ⟨.inl ⟨rfl, _, SqL.of e6⟩, a2, _, rfl, rfl, e6, ?_⟩
    exact q _ (s05.trans (Kl.same y6 h2 Kl.one))
end
end K79

set_option Elab.async false
set_option linter.all false
set_option maxRecDepth 100000
set_option maxHeartbeats 4000000
namespace K79
open PySem L2
structure FA where
  p : Addr
  lc : Addr
  ow : Addr
  le : Addr
def FlE (C : Addr) (H : Hp) (A : FA) (S : FS) : Prop := ∃ rs bas, FlAt C H A.p A.lc A.ow A.le rs bas S
theorem FlE.same {C : Addr} {H H' : Hp} {A : FA} {S : FS} (h : FlE C H A S) (s : Same H H') : FlE C H' A S := by
  obtain ⟨rs, bas, M⟩ := h
  exact ⟨rs, bas, M.same s⟩
structure Apt (A B : FA) : Prop where
  cc : A.lc ≠ B.lc
  oo : A.ow ≠ B.ow
  ol : A.ow ≠ B.le
  lo : A.le ≠ B.ow
  ll : A.le ≠ B.le
theorem Apt.symm {A B : FA} (h : Apt A B) : Apt B A := ⟨h.cc.symm, h.oo.symm, h.lo.symm, h.ol.symm, h.ll.symm⟩
theorem refs_ints {rs : List Addr} {xs : List Int} (h : HO.lst (rs.map V.ref) = HO.lst (xs.map V.int)) : rs = [] := by
  injection h with h
  cases rs with
  | nil => rfl
  | cons a r =>
    cases xs with
    | nil => cases h
    | cons x y => rw [List.map_cons, List.map_cons] at h; injection h with h _; cases h
theorem natsV_I (bl : List Nat) : natsV bl = (bl.map fun b : Nat => (b : Int)).map V.int := by
  unfold natsV
  rw [List.map_map]; rfl
theorem FlAt.kf {C : Addr} {H H' : Hp} {A B : FA} {S T : FS} {rs bas : List Addr} (h : FlAt C H A.p A.lc A.ow A.le rs bas S) (hb : FlE C H B T) (hn : 1 ≤ T.cont.length) (ap : Apt A B) (k : Kf B.lc B.ow B.le H H') : FlAt C H' A.p A.lc A.ow A.le rs bas S := by
  obtain ⟨⟨dx, ob⟩, co, ro, od, ba, ld, ol, al, ab⟩ := h
  obtain ⟨rs', bas', ⟨dx', ob'⟩, co', ro', od', ba', ld', ol', al', ab'⟩ := hb
  have lrs : rs'.length = T.cont.length := ro'.length
  have nl : ∀ {a : Addr} {xs : List Int}, H a = some (.lst (xs.map V.int)) → a ≠ B.lc := fun e z => by
    rw [z, co'] at e
    have := refs_ints (Option.some.inj e)
    rw [this] at lrs
    simp at lrs
    omega
  have kd : ∀ {a : Addr} {o : HO}, H a = some o → a ≠ B.lc → (∀ d, o ≠ .dK d) → H' a = some o := fun e n1 nd => k _ _ e n1 (ne_of e od' (nd _)) (ne_of e ld' (nd _))
  refine ⟨⟨dx, kd ob (ne_of ob co' (by intro z; cases z)) (fun d z => by cases z)⟩, kd co ap.cc (fun d z => by cases z), Paired.mapP ro fun a x z => kd z (nl z) (fun d z => by cases z), k _ _ od (ne_of od co' (by intro z; cases z)) ap.oo ap.ol, Paired.mapP ba fun a f z => ?_, k _ _ ld (ne_of ld co' (by intro z; cases z)) ap.lo ap.ll, ol, al, ab⟩
  have z : H a = some (.lst (natsV f.2.1)) := z
  rw [natsV_I] at z
  have := kd z (nl z) (fun d z => by cases z)
  show H' a = some (.lst (natsV f.2.1))
  rw [natsV_I]; exact this
theorem FlE.kf {C : Addr} {H H' : Hp} {A B : FA} {S T : FS} (h : FlE C H A S) (hb : FlE C H B T) (hn : 1 ≤ T.cont.length) (ap : Apt A B) (k : Kf B.lc B.ow B.le H H') : FlE C H' A S := by
  obtain ⟨rs, bas, M⟩ := h
  exact ⟨rs, bas, FlAt.kf M hb hn ap k⟩
def FlN (C : Addr) (H : Hp) (A : FA) (S : FS) (l : Addr) : Prop := ∃ rs bas, FlAt C H A.p A.lc A.ow A.le rs bas S ∧ A.lc ≠ l ∧ ∀ x ∈ rs ++ bas, x ≠ l
theorem FlN.e {C : Addr} {H : Hp} {A : FA} {S : FS} {l : Addr} (h : FlN C H A S l) : FlE C H A S := by
  obtain ⟨rs, bas, M, _⟩ := h
  exact ⟨rs, bas, M⟩
theorem FlE.n {C : Addr} {H : Hp} {A : FA} {S : FS} {l : Addr} (h : FlE C H A S) (hl : H l = none) : FlN C H A S l := by
  obtain ⟨rs, bas, M⟩ := h
  refine ⟨rs, bas, M, ne_of_none M.co hl, fun x hx => ?_⟩
  rcases List.mem_append.mp hx with z | z
  · obtain ⟨i, hi⟩ := List.getElem?_of_mem z
    obtain ⟨y, _, hy⟩ := paired_at0 M.ro hi
    exact ne_of_none hy hl
  · obtain ⟨i, hi⟩ := List.getElem?_of_mem z
    obtain ⟨y, _, hy⟩ := paired_at0 M.ba hi
    exact ne_of_none hy hl
theorem FlN.same {C : Addr} {H H' : Hp} {A : FA} {S : FS} {l : Addr} (h : FlN C H A S l) (s : Same H H') : FlN C H' A S l := by
  obtain ⟨rs, bas, M, r⟩ := h
  exact ⟨rs, bas, M.same s, r⟩
theorem FlN.kf {C : Addr} {H H' : Hp} {A B : FA} {S T : FS} {l : Addr} (h : FlN C H A S l) (hb : FlE C H B T) (hn : 1 ≤ T.cont.length) (ap : Apt A B) (k : Kf B.lc B.ow B.le H H') : FlN C H' A S l := by
  obtain ⟨rs, bas, M, r⟩ := h
  exact ⟨rs, bas, FlAt.kf M hb hn ap k, r⟩
theorem cont_at {n : Nat} {S : FS} (h : S.Ok n) {b : Nat} (hb : b < n) : (∃ f k, f ∈ S.files ∧ f.2.1[k]? = some b ∧ S.cont.getD b [] = chunk f.2.2 k) ∨ (b ∉ used S.files ∧ S.cont.getD b [] = List.replicate 16 0) := by
  by_cases hu : b ∈ used S.files
  · obtain ⟨f, hf, hbf⟩ := mem_used.mp hu
    obtain ⟨k, hk⟩ := List.getElem?_of_mem hbf
    exact .inl ⟨f, k, hf, hk, h.ct f hf k b hk⟩
  · exact .inr ⟨hu, h.fr b hb hu⟩
theorem cont_det {n : Nat} {c c' : List (List Int)} {fs : List FRow} (h : FS.Ok n ⟨c, fs⟩) (h' : FS.Ok n ⟨c', fs⟩) : c = c' := by
  have l1 : c.length = n := h.len
  have l2 : c'.length = n := h'.len
  have hg : ∀ b, b < n → c.getD b [] = c'.getD b [] := fun b hb => by
    rcases cont_at h hb with ⟨f, k, hf, hk, e⟩ | ⟨hu, e⟩
    · have e : c.getD b [] = _ := e
      rw [e]; exact (h'.ct f hf k b hk).symm
    · have e : c.getD b [] = _ := e
      rw [e]; exact (h'.fr b hb hu).symm
  refine List.ext_getElem (by omega) fun b h1 h2 => ?_
  have := hg b (by omega)
  rw [List.getD_eq_getElem?_getD, List.getD_eq_getElem?_getD, List.getElem?_eq_getElem h1, List.getElem?_eq_getElem h2] at this
  exact this
theorem cont_16 {n : Nat} {S : FS} (h : S.Ok n) : ∀ r ∈ S.cont, r.length = 16 := fun r hr => by
  obtain ⟨b, hb⟩ := List.getElem?_of_mem hr
  have hl : b < S.cont.length := (List.getElem?_eq_some_iff.mp hb).1
  have e : S.cont.getD b [] = r := by rw [List.getD_eq_getElem?_getD, hb]; rfl
  rcases cont_at h (by rw [← h.len]; exact hl) with ⟨f, k, _, _, e2⟩ | ⟨_, e2⟩
  · rw [← e, e2]; exact chunk_len _ _
  · rw [← e, e2, List.length_replicate]
theorem lay_intsA : ∀ l : List Int, PyData.canLayAll0 (l.map PyData.int) = true
  | [] => rfl
  | x :: r => by show (true && PyData.canLayAll0 (r.map PyData.int)) = true; rw [lay_intsA r]; rfl
theorem dep_intsA : ∀ l : List Int, PyData.depthAll (l.map PyData.int) ≤ 0
  | [] => Nat.le_refl _
  | x :: r => by
    have := dep_intsA r
    show max 0 (PyData.depthAll (r.map PyData.int)) ≤ 0
    omega
theorem lay_strsA : ∀ {l : List Str}, (∀ x ∈ l, OkS x) → PyData.canLayAll0 (l.map PyData.str) = true
  | [], _ => rfl
  | x :: r, h => by
    show (PyData.strOk x && PyData.canLayAll0 (r.map PyData.str)) = true
    rw [(h x List.mem_cons_self).ok, lay_strsA fun y hy => h y (List.mem_cons_of_mem _ hy)]; rfl
theorem dep_strsA : ∀ l : List Str, PyData.depthAll (l.map PyData.str) ≤ 0
  | [] => Nat.le_refl _
  | x :: r => by
    have := dep_strsA r
    show max 0 (PyData.depthAll (r.map PyData.str)) ≤ 0
    omega
theorem layA_app : ∀ {a b : List PyData}, PyData.canLayAll0 a = true → PyData.canLayAll0 b = true → PyData.canLayAll0 (a ++ b) = true
  | [], b, _, h => h
  | x :: r, b, h, h2 => by
    have h : (x.canLay0 && PyData.canLayAll0 r) = true := h
    rw [Bool.and_eq_true] at h
    show (x.canLay0 && PyData.canLayAll0 (r ++ b)) = true
    rw [h.1, layA_app h.2 h2]; rfl
theorem depA_app : ∀ {a b : List PyData} {m : Nat}, PyData.depthAll a ≤ m → PyData.depthAll b ≤ m → PyData.depthAll (a ++ b) ≤ m
  | [], b, m, _, h => h
  | x :: r, b, m, h, h2 => by
    have h : max x.depth (PyData.depthAll r) ≤ m := h
    have := depA_app (a := r) (b := b) (m := m) (by omega) h2
    show max x.depth (PyData.depthAll (r ++ b)) ≤ m
    omega
theorem all_lay (n : Nat) (S : FS) {ss : List Str} (h : ∀ x ∈ ss, OkS x) : (allD n S ss).canLay0 = true ∧ (allD n S ss).depth ≤ 64 := by
  have hf : ∀ l : List Str, PyData.canLayAll0 (l.flatMap (fileD S)) = true ∧ PyData.depthAll (l.flatMap (fileD S)) ≤ 1 := by
    intro l
    induction l with
    | nil => exact ⟨rfl, Nat.zero_le _⟩
    | cons a r ih =>
      rw [List.flatMap_cons]
      refine ⟨layA_app ?_ ih.1, depA_app ?_ ih.2⟩
      · show (PyData.canLayAll0 ((fwS S a).map PyData.int) && (true && true)) = true; rw [lay_intsA]; rfl
      · have := dep_intsA (fwS S a)
        show max (PyData.depthAll ((fwS S a).map PyData.int) + 1) (max 0 0) ≤ 1
        omega
  have hc : ∀ l : List Nat, PyData.canLayAll0 (l.map fun i => PyData.list ((S.cont.getD i []).map PyData.int)) = true ∧ PyData.depthAll (l.map fun i => PyData.list ((S.cont.getD i []).map PyData.int)) ≤ 1 := by
    intro l
    induction l with
    | nil => exact ⟨rfl, Nat.zero_le _⟩
    | cons a r ih =>
      rw [List.map_cons]
      refine ⟨?_, ?_⟩
      · show (PyData.canLayAll0 ((S.cont.getD a []).map PyData.int) && PyData.canLayAll0 (r.map _)) = true; rw [lay_intsA, ih.1]; rfl
      · have := dep_intsA (S.cont.getD a [])
        have h2 := ih.2
        show max (PyData.depthAll ((S.cont.getD a []).map PyData.int) + 1) (PyData.depthAll (r.map _)) ≤ 1
        omega
  have ht : PyData.canLayAll0 (toldD n S ss ss.length) = true ∧ PyData.depthAll (toldD n S ss ss.length) ≤ 1 := by
    unfold toldD
    refine ⟨layA_app ?_ (hf _).1, depA_app ?_ (hf _).2⟩
    · show (PyData.canLayAll0 (ss.map PyData.str) && (true && true)) = true; rw [lay_strsA h]; rfl
    · have := dep_strsA ss
      show max (PyData.depthAll (ss.map PyData.str) + 1) (max 0 0) ≤ 1
      omega
  refine ⟨layA_app ht.1 ?_, ?_⟩
  · show ((contD S).canLay0 && true) = true
    rw [show (contD S).canLay0 = true from (hc _).1]; rfl
  · have h3 := (hc (sortIx S.cont)).2
    have : PyData.depthAll (toldD n S ss ss.length ++ [contD S]) ≤ 2 := depA_app (Nat.le_trans ht.2 (by decide)) (by
      show max (PyData.depthAll _ + 1) 0 ≤ 2
      omega)
    show PyData.depthAll _ + 1 ≤ 64
    omega
theorem FlN.put {C : Addr} {H : Hp} {A : FA} {S : FS} {l : Addr} {xs ys : List V} (h : FlN C H A S l) (e : H l = some (.lst xs)) : FlN C (upd H l (.lst ys)) A S l := by
  obtain ⟨rs, bas, M, n1, n2⟩ := h
  obtain ⟨⟨dx, ob⟩, co, ro, od, ba, ld, ol, al, ab⟩ := M
  refine ⟨rs, bas, ⟨⟨dx, by rw [upd_ne (ne_of ob e (by intro z; cases z))]; exact ob⟩, by rw [upd_ne n1]; exact co, ?_, by rw [upd_ne (ne_of od e (by intro z; cases z))]; exact od, ?_, by rw [upd_ne (ne_of ld e (by intro z; cases z))]; exact ld, ol, al, ab⟩, n1, n2⟩
  · exact Paired.mapP (prd_and ro fun a ha => n2 a (List.mem_append_left _ ha)) fun a x z => by show upd H l _ a = _; rw [upd_ne z.2]; exact z.1
  · exact Paired.mapP (prd_and ba fun a ha => n2 a (List.mem_append_right _ ha)) fun a x z => by show upd H l _ a = _; rw [upd_ne z.2]; exact z.1
def Out (n : Nat) (S : FS) (what name : Str) (ws : List Int) : Bool → FS → Prop
  | true, S' => (what = "keep" ∧ room n S name ws ∧ ∃ cont bl, bl = (freeL n (without S.files name)).take (nbl ws) ∧ S' = ⟨cont, without S.files name ++ [(name, bl, ws)]⟩ ∧ S'.Ok n) ∨ (what ≠ "keep" ∧ name ∈ S.files.map (·.1) ∧ ∃ cont, S' = ⟨cont, without S.files name⟩ ∧ S'.Ok n)
  | false, S' => S' = S ∧ ((what = "keep" ∧ ¬ room n S name ws) ∨ (what ≠ "keep" ∧ name ∉ S.files.map (·.1)))
theorem Out.det {n : Nat} {S : FS} {what name : Str} {ws : List Int} {b b' : Bool} {S1 S2 : FS} (h : Out n S what name ws b S1) (h' : Out n S what name ws b' S2) : b = b' ∧ S1 = S2 := by
  cases b with
  | true =>
    cases b' with
    | true =>
      refine ⟨rfl, ?_⟩
      rcases h with ⟨k1, r1, c1, bl1, e1, f1, o1⟩ | ⟨k1, r1, c1, f1, o1⟩ <;> rcases h' with ⟨k2, r2, c2, bl2, e2, f2, o2⟩ | ⟨k2, r2, c2, f2, o2⟩
      · subst f1 f2 e1 e2
        rw [cont_det o1 o2]
      · exact absurd k1 k2
      · exact absurd k2 k1
      · subst f1 f2
        rw [cont_det o1 o2]
    | false =>
      exfalso
      rcases h with ⟨k1, r1, _⟩ | ⟨k1, r1, _⟩ <;> rcases h'.2 with ⟨k2, r2⟩ | ⟨k2, r2⟩
      · exact r2 r1
      · exact k2 k1
      · exact k1 k2
      · exact r2 r1
  | false =>
    cases b' with
    | true =>
      exfalso
      rcases h.2 with ⟨k1, r1⟩ | ⟨k1, r1⟩ <;> rcases h' with ⟨k2, r2, _⟩ | ⟨k2, r2, _⟩
      · exact r1 r2
      · exact k2 k1
      · exact k1 k2
      · exact r1 r2
    | false => exact ⟨rfl, h.1.trans h'.1.symm⟩
theorem Out.ok {n : Nat} {S : FS} {what name : Str} {ws : List Int} {b : Bool} {S1 : FS} (h : Out n S what name ws b S1) (hS : S.Ok n) {nms : List Str} (hn : name ∈ nms) (hs : ∀ f ∈ S.files, f.1 ∈ nms) {c : Nat} (hc : S.files.length ≤ c) : S1.Ok n ∧ (∀ f ∈ S1.files, f.1 ∈ nms) ∧ S1.files.length ≤ c + 1 := by
  have hw : ∀ f ∈ without S.files name, f.1 ∈ nms := fun f hf => hs f (List.mem_filter.mp hf).1
  have lw : (without S.files name).length ≤ S.files.length := List.length_filter_le _ _
  cases b with
  | true =>
    rcases h with ⟨_, _, c1, bl1, _, f1, o1⟩ | ⟨_, _, c1, f1, o1⟩
    · subst f1
      refine ⟨o1, fun f hf => ?_, ?_⟩
      · rcases List.mem_append.mp hf with z | z
        · exact hw f z
        · rw [List.mem_singleton.mp z]; exact hn
      · show (without S.files name ++ [_]).length ≤ c + 1
        rw [List.length_append, List.length_singleton]; omega
    · subst f1
      exact ⟨o1, hw, by show (without S.files name).length ≤ c + 1; omega⟩
  | false => obtain ⟨rfl, _⟩ := h; exact ⟨hS, hs, by omega⟩
theorem chg_of {C CR CF : Addr} {H : Hp} {Q : VK} {E : XK} {A : FA} {rs bas : List Addr} {S : FS} {n : Nat} {what name : Str} {wl : Addr} {ws : List Int} (M : FlAt C H A.p A.lc A.ow A.le rs bas S) (ok : S.Ok n) (hn : n ≤ 1000) (ew : H wl = some (.lst (ws.map V.int))) (wlc : wl ≠ A.lc) (hw : ws.length ≤ 100000) (hf : S.files.length ≤ 1000)
    (q : ∀ (b : Bool) (S' : FS) (told : V) (H' : Hp) (rs' bas' : List Addr), Out n S what name ws b S' → decide (told = V.non) = b → Kf A.lc A.ow A.le H H' → FlAt C H' A.p A.lc A.ow A.le rs' bas' S' → (∀ x ∈ rs' ++ bas', x ∈ rs ++ bas ∨ H x = none) → Q told H') :
    sp_change C CR CF [.ref A.p, .str what, .str name, .ref wl] H Q E := by
  refine ⟨A.p, A.lc, A.ow, A.le, rs, bas, S, n, what, name, wl, ws, rfl, M, ok, hn, ew, wlc, hw, hf, fun hk hr ea H' y _ _ => ?_, fun hk hr H' rs' bas' cont bl e k M' ok' => ?_, fun hk hr ea H' y _ _ => ?_, fun hk hr H' rs' bas' cont k fr M' ok' => ?_⟩
  · exact q false S _ H' rs bas ⟨rfl, .inl ⟨hk, hr⟩⟩ (decide_eq_false (by intro z; cases z)) (Kf.of y) (M.same y) (fun x hx => .inl hx)
  · exact fun ok'' => q true _ _ H' rs' bas' (.inl ⟨hk, hr, cont, bl, e, rfl, ok''⟩) (decide_eq_true rfl) k ok' M'
  · exact q false S _ H' rs bas ⟨rfl, .inr ⟨hk, hr⟩⟩ (decide_eq_false (by intro z; cases z)) (Kf.of y) (M.same y) (fun x hx => .inl hx)
  · exact q true _ _ H' rs' bas' (.inr ⟨hk, hr, cont, rfl, ok'⟩) (decide_eq_true rfl) k M' fr
structure Iv (C : Addr) (n : Nat) (nms : List Str) (c : Nat) (H : Hp) (A : Bool → Nat → FA) (S : Nat → FS) : Prop where
  fl : ∀ b w, w < 2 → FlE C H (A b w) (S w)
  ok : ∀ w, w < 2 → (S w).Ok n
  nm : ∀ w, w < 2 → ∀ f ∈ (S w).files, f.1 ∈ nms
  ln : ∀ w, w < 2 → (S w).files.length ≤ c
theorem Iv.same {C : Addr} {n : Nat} {nms : List Str} {c : Nat} {H H' : Hp} {A : Bool → Nat → FA} {S : Nat → FS} (h : Iv C n nms c H A S) (s : Same H H') : Iv C n nms c H' A S := ⟨fun b w hw => (h.fl b w hw).same s, h.ok, h.nm, h.ln⟩
def AptA (A : Bool → Nat → FA) : Prop := ∀ b w b' w', w < 2 → w' < 2 → (b ≠ b' ∨ w ≠ w') → Apt (A b w) (A b' w')
def forBody : Stmt → List Stmt
  | .For _ _ b _ _ => b
  | _ => []
abbrev lawLoop : List Stmt := forBody ((defBody s_law).getD 5 (.Pass ⟨0, 0, 0, 0⟩))
theorem at_w {a b : Nat → V} {w : Nat} (hw : w < 2) : atI [a 0, a 1] (w : Int) = some (a w) := by
  match w, hw with
  | 0, _ => rfl
  | 1, _ => rfl
theorem at_v {a : Nat → V} {w : Nat} (hw : w < 2) : atI [a 0, a 1] (1 - (w : Int)) = some (a (1 - w)) := by
  match w, hw with
  | 0, _ => rfl
  | 1, _ => rfl
section
variable {P : Program} {w : World} {K : PySem.W.Frag} {mg : Str → Option Value} {base : Heap}
theorem sc_law : FnScope ["_law_script", "_law_blocks", "_law_number", "_law_names_here", "_law_floors", "_law_plain", "_law_k", "_law_what", "_law_name", "_law_words", "_law_which", "_law_handed", "_law_told", "_law_due_here", "_law_j"] ["_law_script"] (defScope s_law) := ⟨rfl, rfl, rfl, by decide +kernel, rfl, by decide +kernel, by decide +kernel⟩
theorem lw_C {f a1 a2 FC : Addr} {e1 e2 : FuncData} (T : Bt mg) (z15 : Q3 K mg a1 e1) (G_law_spoil : FnOk P w K mg base CX0 4 a1 e1 ["_law_floor", "_law_blocks"] (sp_spoil FC)) (z24 : Q4 K mg a2 e2) (G_law_all : FnOk P w K mg base CX0 4 a2 e2 ["_law_floor", "_law_blocks"] (sp_all K FC))
    {cdv : Value} {A : Around} {outer : List Env} {s : Shared} {Hc : Hp} {E : XK} (hr : Room 5 (A.deeper (PyProof.Rows.envOfC "law" (defScope s_law) s.heap.objs.size f cdv))) :
    ∃ u, PSs (cxOf CX0 P w K mg base ["_law_script", "_law_blocks", "_law_number", "_law_names_here", "_law_floors", "_law_plain", "_law_k", "_law_what", "_law_name", "_law_words", "_law_which", "_law_handed", "_law_told", "_law_due_here", "_law_j"] "law" (defScope s_law) f cdv A outer s Hc E).nox (lawLoop.drop 8) u ∧
      ∀ (D : Ends) (v0 v2 v3 v6 v7 v8 v9 v11 v12 v13 v14 : Option V) (fl pn : Addr) (n w c : Nat) (nms : List Str) (Z : Bool → Nat → FA) (S : Nat → FS) (H : Hp), n ≤ 60 → c ≤ 60 → w < 2 → (∀ x ∈ nms, OkS x) → H fl = some (.lst [.ref (Z false 0).p, .ref (Z false 1).p]) → H pn = some (.lst [.ref (Z true 0).p, .ref (Z true 1).p]) → Iv FC n nms c H Z S →
        (∀ (v14 : Option V) (H' : Hp), Same H H' → D.nx [v0, some (.int (n : Int)), v2, v3, some (.ref fl), some (.ref pn), v6, v7, v8, v9, some (.int (w : Int)), v11, v12, v13, v14] H') →
        u D [v0, some (.int (n : Int)), v2, v3, some (.ref fl), some (.ref pn), v6, v7, v8, v9, some (.int (w : Int)), v11, v12, v13, v14] H := by
  refine ⟨_, (pss_cons (ps_expr (pe_call G_law_spoil (hr.mono (by decide)) rfl z15.m z15.F.kp z15.b .nil pass0 (pa_consN (pe_ix ix_list (pv 4) (pe_op op_sub pe_int (pv 10)) (fun _ _ => rfl)) (pa_consN (pv 1) pa_nil))))
        (pss_cons (ps_expr (pe_call G_law_spoil (hr.mono (by decide)) rfl z15.m z15.F.kp z15.b .nil pass0 (pa_consN (pe_ix ix_list (pv 4) (pv 10) (fun _ _ => rfl)) (pa_consN (pv 1) pa_nil))))
        (pss_one (ps_for PassesOwn.never rfl (pi_range1 rfl T.b_range (pa_consN pe_int pa_nil)) (pg_name (i := 14) sc_law.nd rfl (Or.inl rfl))
          (pss_one (ps_if (pt_cmpR (op_neD (hr.units)) (pe_call G_law_all (hr.mono (by decide)) rfl z24.m z24.F.kp z24.b .nil pass0 (pa_consN (pe_ix ix_list (pv 4) (pv 14) (fun _ _ => rfl)) (pa_consN (pv 1) pa_nil))) (pe_call G_law_all (hr.mono (by decide)) rfl z24.m z24.F.kp z24.b .nil pass0 (pa_consN (pe_ix ix_list (pv 5) (pv 14) (fun _ _ => rfl)) (pa_consN (pv 1) pa_nil))) (nomark _))
            (pss_one (ps_ret pe_bl))
            pss_nil)))))), ?_⟩
  intro D v0 v2 v3 v6 v7 v8 v9 v11 v12 v13 v14 fl pn n w c nms Z S H hn hc hw hok efl epn I q
  have hs : sizeLine = 16777216 := sizeLine_eq
  have hw1 : 1 - w < 2 := by omega
  obtain ⟨rs1, bas1, M1⟩ := I.fl false (1 - w) hw1
  have l1 := I.ln (1 - w) hw1
  have l0 := I.ln w hw
  refine ⟨_, rfl, _, rfl, _, _, rfl, rfl, fl, _, _, _, rfl, rfl, SqL.of efl, at_v (a := fun w => V.ref (Z false w).p) hw, _, rfl, _, _, _, _, rs1, bas1, S (1 - w), n, rfl, M1, I.ok _ hw1, hn, by omega, fun H1 y1 => ?_⟩
  have I1 := I.same y1
  obtain ⟨rs2, bas2, M2⟩ := I1.fl false w hw
  refine ⟨_, rfl, _, rfl, fl, _, _, _, rfl, rfl, SqL.of (y1 _ _ efl), at_w (a := fun w => V.ref (Z false w).p) (b := fun _ => .non) hw, _, rfl, _, _, _, _, rs2, bas2, S w, n, rfl, M2, I.ok _ hw, hn, by omega, fun H2 y2 => ?_⟩
  have s2 := y1.trans y2
  refine ⟨_, rfl, by decide, by decide, for_range (lo := 0) (n := (2 : Int).toNat) (fun i σ H5 => ∃ (v14 : Option V), σ = [v0, some (.int (n : Int)), v2, v3, some (.ref fl), some (.ref pn), v6, v7, v8, v9, some (.int (w : Int)), v11, v12, v13, v14] ∧ Same H H5)
    ⟨_, rfl, s2⟩ ?_ ?_⟩
  · rintro i σ H5 hi ⟨v14, rfl, s5⟩
    have hi : i < 2 := hi
    have I5 := I.same s5
    obtain ⟨rs3, bas3, M3⟩ := I5.fl false i hi
    have li := I.ln i hi
    refine ⟨_, rfl, _, rfl, fl, _, _, _, rfl, rfl, SqL.of (s5 _ _ efl), (by rw [Int.zero_add]; exact at_w (a := fun w => V.ref (Z false w).p) (b := fun _ => .non) hi), _, rfl, _, _, _, _, rs3, bas3, S i, n, rfl, M3, I.ok _ hi, hn, by omega, cont_16 (I.ok _ hi), fun r1 H6 ss1 y6 hp1 hs1 hr1 => ?_⟩
    have I6 := I5.same y6
    obtain ⟨rs4, bas4, M4⟩ := I6.fl true i hi
    refine ⟨_, rfl, _, rfl, pn, _, _, _, rfl, rfl, SqL.of (y6 _ _ (s5 _ _ epn)), (by rw [Int.zero_add]; exact at_w (a := fun w => V.ref (Z true w).p) (b := fun _ => .non) hi), _, rfl, _, _, _, _, rs4, bas4, S i, n, rfl, M4, I.ok _ hi, hn, by omega, cont_16 (I.ok _ hi), fun r2 H7 ss2 y7 hp2 hs2 hr2 => ?_⟩
    have hss : ss2 = ss1 := sorted_one hs2 hs1 (hp2.trans hp1.symm)
    rw [hss] at hr2
    obtain ⟨lay, dep⟩ := all_lay n (S i) (ss := ss1) fun x hx => by
      obtain ⟨g, hg, rfl⟩ := List.mem_map.mp (hp1.mem_iff.mp hx)
      exact hok _ (I.nm i hi g hg)
    refine ⟨allD n (S i) ss1, allD n (S i) ss1, Rep.same y7 hr1, hr2, lay, lay, dep, _, rfl, ?_⟩
    rw [SeqAt.eqv_refl _ lay]
    exact iteF ⟨_, rfl, (s5.trans y6).trans y7⟩
  · rintro σ H5 ⟨v14, rfl, s5⟩
    exact q v14 H5 s5
theorem lw_B {f a1 a2 a3 a4 FC CR CF : Addr} {e1 e2 e3 e4 : FuncData} (T : Bt mg) (z15 : Q3 K mg a1 e1) (G_law_spoil : FnOk P w K mg base CX0 4 a1 e1 ["_law_floor", "_law_blocks"] (sp_spoil FC)) (z24 : Q4 K mg a2 e2) (G_law_all : FnOk P w K mg base CX0 4 a2 e2 ["_law_floor", "_law_blocks"] (sp_all K FC))
    (T_law_deed : Fn K mg "_law_deed" s_law_deed ["_law_script", "_law_k", "_law_names_here"] a3 e3) (G_law_deed : FnOk P w K mg base CX0 3 a3 e3 ["_law_script", "_law_k", "_law_names_here"] (sp_deed K)) (z17 : Fn K mg "_law_change" s_law_change ["_law_floor", "_law_what", "_law_name", "_law_words"] a4 e4) (G_law_change : FnOk P w K mg base CX0 5 a4 e4 ["_law_floor", "_law_what", "_law_name", "_law_words"] (sp_change FC CR CF))
    {cdv : Value} {A : Around} {outer : List Env} {s : Shared} {Hc : Hp} {E : XK} (hr : Room 6 (A.deeper (PyProof.Rows.envOfC "law" (defScope s_law) s.heap.objs.size f cdv))) :
    ∃ u, PSs (cxOf CX0 P w K mg base ["_law_script", "_law_blocks", "_law_number", "_law_names_here", "_law_floors", "_law_plain", "_law_k", "_law_what", "_law_name", "_law_words", "_law_which", "_law_handed", "_law_told", "_law_due_here", "_law_j"] "law" (defScope s_law) f cdv A outer s Hc E).nox lawLoop u ∧
      ∀ (D : Ends) (v2 v7 v8 v9 v10 v11 v12 v13 v14 : Option V) (a nh fl pn : Addr) (ns : List Int) (k : Int) (n c : Nat) (nms : List Str) (Z : Bool → Nat → FA) (S : Nat → FS) (H3 H : Hp), 1 ≤ n → n ≤ 60 → c + 1 ≤ 60 → 0 ≤ k → k ≤ 1000 → (∀ x ∈ nms, OkS x) → nms.length = 6 → ns.length ≤ 63 → SqL K H3 a (ns.map V.int) → H3 nh = some (.lst (nms.map V.str)) → Same H3 H → H fl = some (.lst [.ref (Z false 0).p, .ref (Z false 1).p]) → H pn = some (.lst [.ref (Z true 0).p, .ref (Z true 1).p]) → Iv FC n nms c H Z S →
        AptA Z → (∀ b w, w < 2 → H3 (Z b w).lc = none ∧ H3 (Z b w).ow = none ∧ H3 (Z b w).le = none) → (∀ b w, w < 2 → fl ≠ (Z b w).lc ∧ pn ≠ (Z b w).lc) →
        (∀ (v7 v8 v9 v10 v11 v12 v13 v14 : Option V) (H' : Hp) (S' : Nat → FS), Same H3 H' → H' fl = some (.lst [.ref (Z false 0).p, .ref (Z false 1).p]) → H' pn = some (.lst [.ref (Z true 0).p, .ref (Z true 1).p]) → Iv FC n nms (c + 1) H' Z S' → D.nx [some (.ref a), some (.int (n : Int)), v2, some (.ref nh), some (.ref fl), some (.ref pn), some (.int k), v7, v8, v9, v10, v11, v12, v13, v14] H') →
        u D [some (.ref a), some (.int (n : Int)), v2, some (.ref nh), some (.ref fl), some (.ref pn), some (.int k), v7, v8, v9, v10, v11, v12, v13, v14] H := by
  obtain ⟨uT, hT, kT⟩ := lw_C (P := P) (w := w) (base := base) (f := f) (cdv := cdv) (outer := outer) (Hc := Hc) (E := E) T z15 G_law_spoil z24 G_law_all (hr.mono (by decide))
  refine ⟨_, (pss_cons (ps_asg (pe_call G_law_deed (hr.mono (by decide)) rfl T_law_deed.m T_law_deed.F.kp T_law_deed.b .nil pass0 (pa_consN (pv 0) (pa_consN (pv 6) (pa_consN (pv 3) pa_nil)))) (pg_tup rfl (pgs_cons (pg_name (i := 7) sc_law.nd rfl (Or.inl rfl)) (pgs_cons (pg_name (i := 8) sc_law.nd rfl (Or.inl rfl)) (pgs_cons (pg_name (i := 9) sc_law.nd rfl (Or.inl rfl)) pgs_nil)))))
        (pss_cons (ps_set (i := 10) sc_law.nd rfl (Or.inl rfl) (pe_op op_mod (pe_callB call_len_seq rfl T.b_len (by decide +kernel) (pa_consN (pv 9) pa_nil)) pe_int))
        (pss_cons (ps_set (i := 11) sc_law.nd rfl (Or.inl rfl) (pe_callTy call_list_of rfl T.b_list (by decide +kernel) (pa_consN (pv 9) pa_nil)))
        (pss_cons (ps_set (i := 12) sc_law.nd rfl (Or.inl rfl) (pe_call G_law_change (hr.mono (by decide)) rfl z17.m z17.F.kp z17.b .nil pass0 (pa_consN (pe_ix ix_list (pv 4) (pv 10) (fun _ _ => rfl)) (pa_consN (pv 7) (pa_consN (pv 8) (pa_consN (pv 11) pa_nil))))))
        (pss_cons (ps_expr (pe_bm PySem.F.plainAttrs_list PySem.F.slot_list_append PySem.F.type_list_append mt_append (pv 11) (pa_consN pe_int pa_nil)))
        (pss_cons (ps_expr (pe_bm0 PySem.F.plainAttrs_list PySem.F.slot_list_reverse PySem.F.type_list_reverse mt_reverse (pv 11)))
        (pss_cons (ps_set (i := 13) sc_law.nd rfl (Or.inl rfl) (pe_call G_law_change (hr.mono (by decide)) rfl z17.m z17.F.kp z17.b .nil pass0 (pa_consN (pe_ix ix_list (pv 5) (pv 10) (fun _ _ => rfl)) (pa_consN (pv 7) (pa_consN (pv 8) (pa_consN (pe_callTy call_list_of rfl T.b_list (by decide +kernel) (pa_consN (pv 9) pa_nil)) pa_nil))))))
        (pss_cons (ps_if (pt_cmpR op_ne (pe_cmpR op_isN (pv 12) pe_non (nomark _)) (pe_cmpR op_isN (pv 13) pe_non (nomark _)) (nomark _))
          (pss_one (ps_ret pe_bl))
          pss_nil)
        hT)))))))), ?_⟩
  intro D v2 v7 v8 v9 v10 v11 v12 v13 v14 a nh fl pn ns k n c nms Z S H3 H hn1 hn hc hk0 hk1 hok h6 hn63 hq enh sH efl epn I apt hfr hnf q
  have hs : sizeLine = 16777216 := sizeLine_eq
  have cl : ∀ w, w < 2 → 1 ≤ (S w).cont.length := fun w hw => by rw [(I.ok w hw).len]; exact hn1
  refine ⟨_, rfl, _, rfl, _, rfl, a, ns, k, nh, nms, rfl, sH.seq hq, hn63, hk0, hk1, sH _ _ enh, h6, fun t wl H1 what name ws y1 hwl hwh hnm hws ewl et => ?_⟩
  refine ⟨t, _, rfl, SqT.of et, rfl, _, _, rfl, _, _, rfl, _, _, rfl, rfl, ?_⟩
  have I1 := I.same y1
  obtain ⟨wq, hwq⟩ : ∃ wq : Nat, (((ws.map V.int).length : Nat) : Int) % 2 = (wq : Int) := ⟨((((ws.map V.int).length : Nat) : Int) % 2).toNat, by omega⟩
  have hw2 : wq < 2 := by omega
  refine ⟨_, rfl, wl, _, rfl, .inl (SqL.of ewl), _, _, rfl, rfl, (by show (0 : Int) < 2; decide), ?_⟩
  have hwq' : (((ws.map V.int).length : Nat) : Int) % (2 : Int) = (wq : Int) := hwq
  dsimp only
  rw [hwq']
  refine ⟨_, rfl, wl, _, rfl, .inl (SqL.of ewl), fun hd hhd => ?_⟩
  have y2 := Same.put (o := .lst (ws.map V.int)) hhd
  have ehd : upd H1 hd (.lst (ws.map V.int)) hd = some (.lst (ws.map V.int)) := upd_same
  generalize upd H1 hd (.lst (ws.map V.int)) = H2 at y2 ehd ⊢
  have s2 := y1.trans y2
  have N2 : ∀ b w, w < 2 → FlN FC H2 (Z b w) (S w) hd := fun b w hw => ((I1.fl b w hw).n hhd).same y2
  obtain ⟨rs, bas, M, mlc, mrs⟩ := N2 false wq hw2
  have efl2 := s2 _ _ efl
  have epn2 := s2 _ _ epn
  have lS := I.ln wq hw2
  refine ⟨_, rfl, _, rfl, fl, _, _, _, rfl, rfl, SqL.of efl2, at_w (a := fun w => V.ref (Z false w).p) (b := fun _ => .non) hw2, _, rfl, _, rfl, _, rfl, ?_⟩
  dsimp only [tNil]
  refine chg_of (CR := CR) (CF := CF) (what := what) (name := name) (wl := hd) (ws := ws) M (I.ok _ hw2) (by omega) ehd mlc.symm (by omega) (by omega) fun b1 S1 told1 Ha rs1 bas1 o1 t1 k1 M1 fr1 => ?_
  have keepL : ∀ {x : Addr} {xs : List V} {Hx Hy : Hp} {B : FA} {SB : FS}, FlE FC Hx B SB → Kf B.lc B.ow B.le Hx Hy → Hx x = some (.lst xs) → x ≠ B.lc → Hy x = some (.lst xs) := fun hB k e n => by
    obtain ⟨_, _, MB⟩ := hB
    exact k _ _ e n (ne_of e MB.od (by intro z; cases z)) (ne_of e MB.ld (by intro z; cases z))
  have lcH : ∀ b w, w < 2 → ∃ xs, H (Z b w).lc = some (.lst xs) := fun b w hw => by
    obtain ⟨_, _, MB⟩ := I.fl b w hw
    exact ⟨_, MB.co⟩
  have wlc : ∀ b w, w < 2 → wl ≠ (Z b w).lc := fun b w hw => by
    obtain ⟨_, e⟩ := lcH b w hw
    exact (ne_of_none e hwl).symm
  have hd3 : H3 hd = none := (sH.trans y1).free hhd
  have flhd : fl ≠ hd := ne_of_none (y1 _ _ efl) hhd
  have pnhd : pn ≠ hd := ne_of_none (y1 _ _ epn) hhd
  have wlhd : wl ≠ hd := ne_of_none ewl hhd
  have e2w := (N2 false wq hw2).e
  have na : ∀ b w, w < 2 → (b ≠ false ∨ w ≠ wq) → FlN FC Ha (Z b w) (S w) hd := fun b w hw hne => (N2 b w hw).kf e2w (cl wq hw2) (apt b w false wq hw hw2 hne) k1
  have nw : FlN FC Ha (Z false wq) S1 hd := ⟨rs1, bas1, M1, mlc, fun x hx => (fr1 x hx).elim (mrs x) fun z => (ne_of_none ehd z).symm⟩
  have ehda := keepL e2w k1 ehd mlc.symm
  have efla := keepL e2w k1 efl2 (hnf false wq hw2).1
  have epna := keepL e2w k1 epn2 (hnf false wq hw2).2
  have ewla := keepL e2w k1 (y2 _ _ ewl) (wlc false wq hw2)
  obtain ⟨f1, f2, f3⟩ := hfr false wq hw2
  have sa : Same H3 Ha := Kf.same (sH.trans s2) f1 f2 f3 k1
  refine ⟨_, rfl, .inl ⟨rfl, _, SqL.of ehda⟩, hd, _, _, rfl, rfl, ehda, (by rw [List.length_map]; omega), ?_⟩
  have sb : Same H3 (upd Ha hd (.lst (ws.map V.int ++ [V.int 7]))) := Kl.same sa hd3 Kl.one
  have nb : ∀ b w, w < 2 → (b ≠ false ∨ w ≠ wq) → FlN FC (upd Ha hd (.lst (ws.map V.int ++ [V.int 7]))) (Z b w) (S w) hd := fun b w hw hne => (na b w hw hne).put ehda
  have nwb : FlN FC (upd Ha hd (.lst (ws.map V.int ++ [V.int 7]))) (Z false wq) S1 hd := nw.put ehda
  have kb : Kl hd Ha (upd Ha hd (.lst (ws.map V.int ++ [V.int 7]))) := Kl.one
  have ehdb : upd Ha hd (.lst (ws.map V.int ++ [V.int 7])) hd = some (.lst (ws.map V.int ++ [V.int 7])) := upd_same
  have eflb := kb _ _ efla flhd
  have epnb := kb _ _ epna pnhd
  have ewlb := kb _ _ ewla wlhd
  clear kb
  generalize upd Ha hd (.lst (ws.map V.int ++ [V.int 7])) = Hb at sb nb nwb ehdb eflb epnb ewlb ⊢
  refine ⟨_, rfl, .inl ⟨rfl, _, SqL.of ehdb⟩, hd, _, rfl, rfl, ehdb, ?_⟩
  have kc : Kl hd Hb (upd Hb hd (.lst (ws.map V.int ++ [V.int 7]).reverse)) := Kl.one
  have sc : Same H3 (upd Hb hd (.lst (ws.map V.int ++ [V.int 7]).reverse)) := Kl.same sb hd3 kc
  have nc : ∀ b w, w < 2 → (b ≠ false ∨ w ≠ wq) → FlN FC (upd Hb hd (.lst (ws.map V.int ++ [V.int 7]).reverse)) (Z b w) (S w) hd := fun b w hw hne => (nb b w hw hne).put ehdb
  have nwc : FlN FC (upd Hb hd (.lst (ws.map V.int ++ [V.int 7]).reverse)) (Z false wq) S1 hd := nwb.put ehdb
  have eflc := kc _ _ eflb flhd
  have epnc := kc _ _ epnb pnhd
  have ewlc := kc _ _ ewlb wlhd
  clear kc
  generalize upd Hb hd (.lst (ws.map V.int ++ [V.int 7]).reverse) = Hq at sc nc nwc eflc epnc ewlc ⊢
  refine ⟨_, rfl, _, rfl, pn, _, _, _, rfl, rfl, SqL.of epnc, at_w (a := fun w => V.ref (Z true w).p) (b := fun _ => .non) hw2, _, rfl, _, rfl, _, rfl, wl, _, rfl, .inl (SqL.of ewlc), fun h2 hh2 => ?_⟩
  have yd := Same.put (o := .lst (ws.map V.int)) hh2
  have eh2 : upd Hq h2 (.lst (ws.map V.int)) h2 = some (.lst (ws.map V.int)) := upd_same
  have nd : ∀ b w, w < 2 → (b ≠ false ∨ w ≠ wq) → FlE FC (upd Hq h2 (.lst (ws.map V.int))) (Z b w) (S w) := fun b w hw hne => (nc b w hw hne).e.same yd
  have nwd : FlE FC (upd Hq h2 (.lst (ws.map V.int))) (Z false wq) S1 := nwc.e.same yd
  have efld := yd _ _ eflc
  have epnd := yd _ _ epnc
  have sd := sc.trans yd
  have h2lc : h2 ≠ (Z true wq).lc := by
    obtain ⟨_, _, MB⟩ := (nc true wq hw2 (.inl (by decide))).e
    exact (ne_of_none MB.co hh2).symm
  clear yd
  generalize upd Hq h2 (.lst (ws.map V.int)) = Hd at eh2 nd nwd efld epnd sd ⊢
  obtain ⟨rs2, bas2, M2⟩ := nd true wq hw2 (.inl (by decide))
  dsimp only [tNil]
  refine chg_of (CR := CR) (CF := CF) (what := what) (name := name) (wl := h2) (ws := ws) M2 (I.ok _ hw2) (by omega) eh2 h2lc (by omega) (by omega) fun b2 S2 told2 He rs3 bas3 o2 t2 k2 M3 fr3 => ?_
  obtain ⟨hb, hS⟩ := o1.det o2
  subst hb hS
  have e2d : FlE FC Hd (Z true wq) (S wq) := ⟨rs2, bas2, M2⟩
  obtain ⟨g1, g2, g3⟩ := hfr true wq hw2
  have se : Same H3 He := Kf.same sd g1 g2 g3 k2
  have efle := keepL e2d k2 efld (hnf true wq hw2).1
  have epne := keepL e2d k2 epnd (hnf true wq hw2).2
  obtain ⟨okS, nmS, lnS⟩ := o1.ok (I.ok _ hw2) hnm (I.nm _ hw2) (I.ln _ hw2)
  have Ie : Iv FC n nms (c + 1) He Z (fun v => if v = wq then S1 else S v) := by
    refine ⟨fun b v hv => ?_, fun v hv => ?_, fun v hv => ?_, fun v hv => ?_⟩
    · by_cases hvw : v = wq
      · subst hvw
        rw [if_pos rfl]
        cases b with
        | true => exact ⟨rs3, bas3, M3⟩
        | false => exact nwd.kf e2d (cl _ hw2) (apt false v true v hw2 hw2 (.inl (by decide))) k2
      · rw [if_neg hvw]
        exact (nd b v hv (.inr hvw)).kf e2d (cl _ hw2) (apt b v true wq hv hw2 (.inr hvw)) k2
    · by_cases hvw : v = wq
      · rw [if_pos hvw]; exact okS
      · rw [if_neg hvw]; exact I.ok v hv
    · by_cases hvw : v = wq
      · rw [if_pos hvw]; exact nmS
      · rw [if_neg hvw]; exact I.nm v hv
    · by_cases hvw : v = wq
      · rw [if_pos hvw]; exact lnS
      · rw [if_neg hvw]; exact Nat.le_trans (I.ln v hv) (Nat.le_succ _)
  refine ⟨_, rfl, rfl, _, rfl, rfl, rfl, _, rfl, ?_⟩
  rw [t1, t2, decide_eq_true rfl]
  refine iteF ?_
  exact kT D _ _ _ _ _ _ _ _ _ _ _ fl pn n wq (c + 1) nms Z _ He hn hc hw2 hok efle epne Ie fun v14 H' s' => q _ _ _ _ _ _ _ _ H' _ (se.trans s') (s' _ _ efle) (s' _ _ epne) (Ie.same s')
end
end K79

set_option Elab.async false
set_option linter.all false
set_option maxRecDepth 100000
set_option maxHeartbeats 4000000
namespace K79
open PySem L2
def sp_law (K : PySem.W.Frag) : Sp := fun vs H Q _ => ∃ (a : Addr) (ns : List Int), vs = [.ref a] ∧ SqL K H a (ns.map V.int) ∧ ns.length ≤ 63 ∧ ∀ H', Q (.bl true) H'
theorem list2 {α : Type} {l : List α} (h : l.length = 2) : ∃ a b, l = [a, b] := by
  match l, h with
  | [a, b], _ => exact ⟨a, b, rfl⟩
def zOf (A B C D : FA) : Bool → Nat → FA
  | false, 0 => A
  | false, _ => B
  | true, 0 => C
  | true, _ => D
theorem z_all {A B C D : FA} {R : FA → Prop} (h1 : R A) (h2 : R B) (h3 : R C) (h4 : R D) : ∀ b w, R (zOf A B C D b w) := fun b w => by
  cases b with
  | false => cases w with
    | zero => exact h1
    | succ w => exact h2
  | true => cases w with
    | zero => exact h3
    | succ w => exact h4
theorem z_apt {A B C D : FA} (ab : Apt A B) (ac : Apt A C) (ad : Apt A D) (bc : Apt B C) (bd : Apt B D) (cd : Apt C D) : AptA (zOf A B C D) := by
  intro b w b' w' hw hw' hne
  match b, w, hw, b', w', hw' with
  | false, 0, _, false, 0, _ => exact (hne.elim (fun z => z rfl) fun z => z rfl).elim
  | false, 0, _, false, 1, _ => exact ab
  | false, 0, _, true, 0, _ => exact ac
  | false, 0, _, true, 1, _ => exact ad
  | false, 1, _, false, 0, _ => exact ab.symm
  | false, 1, _, false, 1, _ => exact (hne.elim (fun z => z rfl) fun z => z rfl).elim
  | false, 1, _, true, 0, _ => exact bc
  | false, 1, _, true, 1, _ => exact bd
  | true, 0, _, false, 0, _ => exact ac.symm
  | true, 0, _, false, 1, _ => exact bc.symm
  | true, 0, _, true, 0, _ => exact (hne.elim (fun z => z rfl) fun z => z rfl).elim
  | true, 0, _, true, 1, _ => exact cd
  | true, 1, _, false, 0, _ => exact ad.symm
  | true, 1, _, false, 1, _ => exact bd.symm
  | true, 1, _, true, 0, _ => exact cd.symm
  | true, 1, _, true, 1, _ => exact (hne.elim (fun z => z rfl) fun z => z rfl).elim
theorem apt_new {C : Addr} {H : Hp} {A B : FA} {S : FS} (h : FlE C H A S) (h1 : H B.lc = none) (h2 : H B.ow = none) (h3 : H B.le = none) : Apt A B := by
  obtain ⟨rs, bas, M⟩ := h
  exact ⟨ne_of_none M.co h1, ne_of_none M.od h2, ne_of_none M.od h3, ne_of_none M.ld h2, ne_of_none M.ld h3⟩
abbrev S0 (n : Nat) : FS := ⟨List.replicate n zeros16, []⟩
theorem s0_ok (n : Nat) : (S0 n).Ok n := ⟨List.length_replicate .., List.nodup_nil, fun f hf => by (cases hf), fun b hb => by (cases hb), List.nodup_nil, fun f hf => by (cases hf), fun b hb _ => by show (List.replicate n zeros16).getD b [] = _; rw [List.getD_eq_getElem?_getD, List.getElem?_replicate, if_pos hb]; rfl⟩
section
variable {P : Program} {w : World} {K : PySem.W.Frag} {mg : Str → Option Value} {base : Heap}
theorem ok_law {f fi : Addr} {fdd fdi : FuncData} {FC CF CR TE : Addr} {a1 a2 a3 a4 a5 a6 a7 a8 a9 a10 g0 g1 g2 g3 g4 g5 g6 g7 g8 : Addr} {c1 c2 c3 c4 c5 c6 c7 c8 c9 c10 d0 d1 d2 d3 d4 d5 d6 d7 d8 : FuncData} (F : Fun K "law" "law" s_law f fdd) (T : Bt mg) (C : Ct K mg)
    (z21 : Q2 K mg a1 c1)
    (z16 : Q0 K mg a2 c2)
    (z14 : Q1 K mg a3 c3)
    (z18 : Fn K mg "_law_parts" s_law_parts ["_law_script", "_law_k", "_law_sizes"] a4 c4)
    (T_law_names : Fn K mg "_law_names" s_law_names ["_law_number"] a5 c5)
    (z30 : Fn K mg "_law_filled" s_law_filled ["_law_count", "_law_first", "_law_step"] a6 c6)
    (z17 : Fn K mg "_law_change" s_law_change ["_law_floor", "_law_what", "_law_name", "_law_words"] a7 c7)
    (T_law_deed : Fn K mg "_law_deed" s_law_deed ["_law_script", "_law_k", "_law_names_here"] a8 c8)
    (z24 : Q4 K mg a9 c9)
    (z15 : Q3 K mg a10 c10)
    (z0 : Mc K mg FC fi fdi)
    (z4 : Mt K FC "look_for" "Floor.look_for" s_Floor_look_for ["self", "name"] g0 d0)
    (z5 : Mt K FC "free_blocks" "Floor.free_blocks" s_Floor_free_blocks ["self"] g1 d1)
    (z23 : Mt K FC "keep" "Floor.keep" s_Floor_keep ["self", "name", "words"] g2 d2)
    (z13 : Mt K FC "drop" "Floor.drop" s_Floor_drop ["self", "name"] g3 d3)
    (z8 : Mt K FC "words_of" "Floor.words_of" s_Floor_words_of ["self", "name"] g4 d4)
    (z10 : Mt K FC "names" "Floor.names" s_Floor_names ["self"] g5 d5)
    (z11 : Mt K FC "free" "Floor.free" s_Floor_free ["self"] g6 d6)
    (z7 : Mt K FC "blocks_of" "Floor.blocks_of" s_Floor_blocks_of ["self", "name"] g7 d7)
    (z12 : Mt K FC "block" "Floor.block" s_Floor_block ["self", "number"] g8 d8)
    (X_TownError : Xc K mg "TownError" TE TE) (X_NoRoom : Xc K mg "NoRoom" CR TE) (X_NoFile : Xc K mg "NoFile" CF TE) :
    FnOk P w K mg base CX0 7 f fdd ["_law_script"] (sp_law K) := by
  have z26 := ok_Floor___init__ (P := P) (w := w) (base := base) z0 T C
  have G_law_parts := ok_law_parts (P := P) (w := w) (base := base) z18.F T z16 z14
  have G_law_names := ok_law_names (P := P) (w := w) (base := base) T_law_names.F T
  have G_law_deed := ok_law_deed (P := P) (w := w) (base := base) T_law_deed.F T z16 z14 z18 z30
  have G_law_change := ok_law_change (P := P) (w := w) (base := base) z17.F z0 T C X_TownError X_NoFile X_NoRoom z21 z4 z5 z23 z13 z11
  have G_law_all := ok_law_all (P := P) (w := w) (base := base) z24.F z0 T C X_NoFile z4 z5 z8 z10 z11 z7 z12
  have G_law_spoil := ok_law_spoil (P := P) (w := w) (base := base) z15.F z0 T C X_NoFile z4 z8 z10 z7 z12
  refine F.ok (k := 6) sc_law (fun vs H Q E h => ?_) (fun cdv A outer s H vs Q E hr h => ?_)
  · obtain ⟨a, ns, rfl, _⟩ := h; rfl
  · obtain ⟨a, ns, rfl, hq, hn63, q⟩ := h
    have hs : sizeLine = 16777216 := sizeLine_eq
    obtain ⟨uB, hB, kB⟩ := lw_B (P := P) (w := w) (base := base) (f := f) (cdv := cdv) (outer := outer) (Hc := H) (E := E) T z15 G_law_spoil z24 G_law_all T_law_deed G_law_deed z17 G_law_change hr
    refine ⟨_, (pss_cons (ps_asg (pe_call G_law_parts (hr.mono (by decide)) rfl z18.m z18.F.kp z18.b .nil pass0 (pa_consN (pv 0) (pa_consN pe_int (pa_consN (pe_lst (pa_consN pe_int (pa_consN pe_int pa_nil))) pa_nil)))) (pg_lst rfl (pgs_cons (pg_name (i := 1) sc_law.nd rfl (Or.inl rfl)) (pgs_cons (pg_name (i := 2) sc_law.nd rfl (Or.inl rfl)) pgs_nil))))
      (pss_cons (ps_set (i := 1) sc_law.nd rfl (Or.inl rfl) (pe_op op_add (pv 1) pe_int))
      (pss_cons (ps_set (i := 3) sc_law.nd rfl (Or.inl rfl) (pe_call G_law_names (hr.mono (by decide)) rfl T_law_names.m T_law_names.F.kp T_law_names.b .nil pass0 (pa_consN (pv 2) pa_nil)))
      (pss_cons (ps_set (i := 4) sc_law.nd rfl (Or.inl rfl) (pe_lst (pa_consN (pe_make z0.mks z26 (hr.mono (by decide)) rfl z0.mg z0.b .nil pass0 (pa_consN (pv 1) pa_nil)) (pa_consN (pe_make z0.mks z26 (hr.mono (by decide)) rfl z0.mg z0.b .nil pass0 (pa_consN (pv 1) pa_nil)) pa_nil))))
      (pss_cons (ps_set (i := 5) sc_law.nd rfl (Or.inl rfl) (pe_lst (pa_consN (pe_make z0.mks z26 (hr.mono (by decide)) rfl z0.mg z0.b .nil pass0 (pa_consN (pv 1) pa_nil)) (pa_consN (pe_make z0.mks z26 (hr.mono (by decide)) rfl z0.mg z0.b .nil pass0 (pa_consN (pv 1) pa_nil)) pa_nil))))
      (pss_cons (ps_for PassesOwn.never rfl (pi_range2 rfl T.b_range (pa_consN pe_int (pa_consN (pe_callB (call_min2 rfl) rfl T.b_min (by decide +kernel) (pa_consN pe_int (pa_consN (pe_callB call_len_seq rfl T.b_len (by decide +kernel) (pa_consN (pv 0) pa_nil)) pa_nil))) pa_nil))) (pg_name (i := 6) sc_law.nd rfl (Or.inl rfl))
        hB)
      (pss_one (ps_ret pe_bl)))))))), ?_⟩
    refine ⟨_, rfl, (by show 2 ≤ sizeLine; omega), fun L hL => ?_⟩
    have y1 := Same.put (o := .lst [V.int 20, V.int 999983]) hL
    have eL : upd H L (.lst [V.int 20, V.int 999983]) L = some (.lst (([20, 999983] : List Int).map V.int)) := upd_same
    generalize upd H L (.lst [V.int 20, V.int 999983]) = H1 at y1 eL ⊢
    refine ⟨a, ns, 1, L, [20, 999983], rfl, y1.seq hq, hn63, by decide, by decide, eL, by decide, by decide, fun r H2 rs0 hr0 s2 hR er => ?_⟩
    obtain ⟨n0, nm, rfl⟩ := list2 hR.len
    have b0 : 0 ≤ n0 ∧ n0 < 20 := hR.bd 0 20 rfl
    have b1 : 0 ≤ nm ∧ nm < 999983 := hR.bd 1 999983 rfl
    refine ⟨r, _, rfl, SqL.of er, rfl, _, _, rfl, _, _, rfl, rfl, ?_⟩
    have s02 := y1.trans s2
    refine ⟨_, rfl, _, _, rfl, rfl, _, rfl, nm, rfl, b1.1, by omega, fun nh H3 ss hnh s3 hss hok enh => ?_⟩
    obtain ⟨n, hnn⟩ : ∃ n : Nat, n0 + 1 = (n : Int) := ⟨(n0 + 1).toNat, by omega⟩
    have s03 := s02.trans s3
    have q3 := s03.seq hq
    refine ⟨_, rfl, fun p1 dx1 hp1 hdx1 hpx1 => ⟨p1, dx1, n, by rw [← hnn]; rfl, by omega, upd_same, fun lc1 ow1 le1 rs1 H4 hlc1 how1 hle1 M1 kk1 => ⟨rfl, ?_⟩⟩⟩
    have sx1 : Same H3 (upd (upd H3 dx1 (.own p1)) p1 (.ins FC dx1 [])) := fun b o e => by rw [upd_ne (ne_of_none e hp1), upd_ne (ne_of_none e hdx1)]; exact e
    have u1 : Same H3 H4 := fun b o e => kk1 _ _ (sx1 _ _ e) (ne_of_none e hp1)
    have E1 : FlE FC H4 ⟨p1, lc1, ow1, le1⟩ (S0 n) := ⟨rs1, [], M1⟩
    have x1 : H3 lc1 = none ∧ H3 ow1 = none ∧ H3 le1 = none := ⟨sx1.free hlc1, sx1.free how1, sx1.free hle1⟩
    refine ⟨_, rfl, fun p2 dx2 hp2 hdx2 hpx2 => ⟨p2, dx2, n, by rw [← hnn]; rfl, by omega, upd_same, fun lc2 ow2 le2 rs2 H5 hlc2 how2 hle2 M2 kk2 => ⟨rfl, ?_⟩⟩⟩
    have sx2 : Same H4 (upd (upd H4 dx2 (.own p2)) p2 (.ins FC dx2 [])) := fun b o e => by rw [upd_ne (ne_of_none e hp2), upd_ne (ne_of_none e hdx2)]; exact e
    have u2 : Same H4 H5 := fun b o e => kk2 _ _ (sx2 _ _ e) (ne_of_none e hp2)
    have E2 : FlE FC H5 ⟨p2, lc2, ow2, le2⟩ (S0 n) := ⟨rs2, [], M2⟩
    have x2 : H4 lc2 = none ∧ H4 ow2 = none ∧ H4 le2 = none := ⟨sx2.free hlc2, sx2.free how2, sx2.free hle2⟩
    refine ⟨(by show 2 ≤ sizeLine; omega), fun fl hfl => ?_⟩
    have z6 := Same.put (o := .lst [V.ref p1, V.ref p2]) hfl
    have efl : upd H5 fl (.lst [V.ref p1, V.ref p2]) fl = some (.lst [V.ref p1, V.ref p2]) := upd_same
    generalize upd H5 fl (.lst [V.ref p1, V.ref p2]) = H6 at z6 efl ⊢
    refine ⟨_, rfl, fun p3 dx3 hp3 hdx3 hpx3 => ⟨p3, dx3, n, by rw [← hnn]; rfl, by omega, upd_same, fun lc3 ow3 le3 rs3 H7 hlc3 how3 hle3 M3 kk3 => ⟨rfl, ?_⟩⟩⟩
    have sx3 : Same H6 (upd (upd H6 dx3 (.own p3)) p3 (.ins FC dx3 [])) := fun b o e => by rw [upd_ne (ne_of_none e hp3), upd_ne (ne_of_none e hdx3)]; exact e
    have u3 : Same H6 H7 := fun b o e => kk3 _ _ (sx3 _ _ e) (ne_of_none e hp3)
    have E3 : FlE FC H7 ⟨p3, lc3, ow3, le3⟩ (S0 n) := ⟨rs3, [], M3⟩
    have x3 : H6 lc3 = none ∧ H6 ow3 = none ∧ H6 le3 = none := ⟨sx3.free hlc3, sx3.free how3, sx3.free hle3⟩
    refine ⟨_, rfl, fun p4 dx4 hp4 hdx4 hpx4 => ⟨p4, dx4, n, by rw [← hnn]; rfl, by omega, upd_same, fun lc4 ow4 le4 rs4 H8 hlc4 how4 hle4 M4 kk4 => ⟨rfl, ?_⟩⟩⟩
    have sx4 : Same H7 (upd (upd H7 dx4 (.own p4)) p4 (.ins FC dx4 [])) := fun b o e => by rw [upd_ne (ne_of_none e hp4), upd_ne (ne_of_none e hdx4)]; exact e
    have u4 : Same H7 H8 := fun b o e => kk4 _ _ (sx4 _ _ e) (ne_of_none e hp4)
    have E4 : FlE FC H8 ⟨p4, lc4, ow4, le4⟩ (S0 n) := ⟨rs4, [], M4⟩
    have x4 : H7 lc4 = none ∧ H7 ow4 = none ∧ H7 le4 = none := ⟨sx4.free hlc4, sx4.free how4, sx4.free hle4⟩
    refine ⟨(by show 2 ≤ sizeLine; omega), fun pn hpn => ?_⟩
    have z9 := Same.put (o := .lst [V.ref p3, V.ref p4]) hpn
    have epn : upd H8 pn (.lst [V.ref p3, V.ref p4]) pn = some (.lst [V.ref p3, V.ref p4]) := upd_same
    generalize upd H8 pn (.lst [V.ref p3, V.ref p4]) = H9 at z9 epn ⊢
    have t35 := u1.trans u2
    have t36 := t35.trans z6
    have t37 := t36.trans u3
    have t38 := t37.trans u4
    have t39 := t38.trans z9
    have t46 := u2.trans z6
    have t47 := t46.trans u3
    have t68 := u3.trans u4
    have t58 := z6.trans t68
    have E16 := E1.same t46
    have E26 := E2.same z6
    have E17 := E16.same u3
    have E27 := E26.same u3
    have apt : AptA (zOf ⟨p1, lc1, ow1, le1⟩ ⟨p2, lc2, ow2, le2⟩ ⟨p3, lc3, ow3, le3⟩ ⟨p4, lc4, ow4, le4⟩) := z_apt (apt_new E1 x2.1 x2.2.1 x2.2.2) (apt_new E16 x3.1 x3.2.1 x3.2.2) (apt_new E17 x4.1 x4.2.1 x4.2.2) (apt_new E26 x3.1 x3.2.1 x3.2.2) (apt_new E27 x4.1 x4.2.1 x4.2.2) (apt_new E3 x4.1 x4.2.1 x4.2.2)
    have hfr : ∀ b w, w < 2 → H3 (zOf ⟨p1, lc1, ow1, le1⟩ ⟨p2, lc2, ow2, le2⟩ ⟨p3, lc3, ow3, le3⟩ ⟨p4, lc4, ow4, le4⟩ b w).lc = none ∧ H3 (zOf ⟨p1, lc1, ow1, le1⟩ ⟨p2, lc2, ow2, le2⟩ ⟨p3, lc3, ow3, le3⟩ ⟨p4, lc4, ow4, le4⟩ b w).ow = none ∧ H3 (zOf ⟨p1, lc1, ow1, le1⟩ ⟨p2, lc2, ow2, le2⟩ ⟨p3, lc3, ow3, le3⟩ ⟨p4, lc4, ow4, le4⟩ b w).le = none := fun b w _ => z_all (R := fun A => H3 A.lc = none ∧ H3 A.ow = none ∧ H3 A.le = none) x1 ⟨u1.free x2.1, u1.free x2.2.1, u1.free x2.2.2⟩ ⟨t36.free x3.1, t36.free x3.2.1, t36.free x3.2.2⟩ ⟨t37.free x4.1, t37.free x4.2.1, t37.free x4.2.2⟩ b w
    have lcn : ∀ {H : Hp} {A : FA} {x : Addr}, FlE FC H A (S0 n) → H x = none → x ≠ A.lc := fun h hx => by
      obtain ⟨_, _, MB⟩ := h
      exact (ne_of_none MB.co hx).symm
    have hnf : ∀ b w, w < 2 → fl ≠ (zOf ⟨p1, lc1, ow1, le1⟩ ⟨p2, lc2, ow2, le2⟩ ⟨p3, lc3, ow3, le3⟩ ⟨p4, lc4, ow4, le4⟩ b w).lc ∧ pn ≠ (zOf ⟨p1, lc1, ow1, le1⟩ ⟨p2, lc2, ow2, le2⟩ ⟨p3, lc3, ow3, le3⟩ ⟨p4, lc4, ow4, le4⟩ b w).lc := fun b w _ => z_all (R := fun A => fl ≠ A.lc ∧ pn ≠ A.lc) ⟨lcn (E1.same u2) hfl, lcn (E17.same u4) hpn⟩ ⟨lcn E2 hfl, lcn (E27.same u4) hpn⟩ ⟨ne_of_none efl x3.1, lcn (E3.same u4) hpn⟩ ⟨ne_of_none (u3 _ _ efl) x4.1, lcn E4 hpn⟩ b w
    have I0 : Iv FC n ss 0 H9 (zOf ⟨p1, lc1, ow1, le1⟩ ⟨p2, lc2, ow2, le2⟩ ⟨p3, lc3, ow3, le3⟩ ⟨p4, lc4, ow4, le4⟩) (fun _ => S0 n) := ⟨fun b w _ => z_all (R := fun A => FlE FC H9 A (S0 n)) ((E17.same u4).same z9) ((E27.same u4).same z9) ((E3.same u4).same z9) (E4.same z9) b w, fun _ _ => s0_ok n, (fun _ _ f hf => by cases hf), fun _ _ => Nat.le_refl _⟩
    have efl9 := z9 _ _ (t68 _ _ efl)
    generalize hZ : zOf ⟨p1, lc1, ow1, le1⟩ ⟨p2, lc2, ow2, le2⟩ ⟨p3, lc3, ow3, le3⟩ ⟨p4, lc4, ow4, le4⟩ = Z at apt hfr hnf I0
    have eZ1 : [V.ref p1, V.ref p2] = [V.ref (Z false 0).p, V.ref (Z false 1).p] := by rw [← hZ]; rfl
    have eZ2 : [V.ref p3, V.ref p4] = [V.ref (Z true 0).p, V.ref (Z true 1).p] := by rw [← hZ]; rfl
    rw [eZ1] at efl9
    rw [eZ2] at epn
    refine ⟨_, rfl, a, _, rfl, .inl (t39.seq q3), _, _, rfl, 2, _, rfl, ⟨by decide, by decide, ?_, ?_⟩, ?_⟩
    · rw [List.length_map]; split <;> omega
    · rw [List.length_map]; split <;> omega
    obtain ⟨m, hm⟩ : ∃ m : Int, (if (((ns.map V.int).length : Nat) : Int) < 22 then (((ns.map V.int).length : Nat) : Int) else 22) = m := ⟨_, rfl⟩
    have hm22 : m ≤ 22 := by rw [← hm]; split <;> omega
    rw [hm]
    refine for_range (lo := 2) (n := (m - 2).toNat) (fun i σ Hx => ∃ (v6 v7 v8 v9 v10 v11 v12 v13 v14 : Option V) (S : Nat → FS), σ = [some (.ref a), some (.int (n : Int)), some (.int nm), some (.ref nh), some (.ref fl), some (.ref pn), v6, v7, v8, v9, v10, v11, v12, v13, v14] ∧ Same H3 Hx ∧ Hx fl = some (.lst [.ref (Z false 0).p, .ref (Z false 1).p]) ∧ Hx pn = some (.lst [.ref (Z true 0).p, .ref (Z true 1).p]) ∧ Iv FC n ss i Hx Z S)
      ⟨_, _, _, _, _, _, _, _, _, _, by rw [← hnn]; rfl, t39, efl9, epn, I0⟩ ?_ ?_
    · rintro i σ Hx hi ⟨v6, v7, v8, v9, v10, v11, v12, v13, v14, S, rfl, sx, ef, ep, I⟩
      have hi20 : i < 20 := by omega
      exact kB _ _ _ _ _ _ _ _ _ _ a nh fl pn ns (2 + (i : Int)) n i ss Z S H3 Hx (by omega) (by omega) (by omega) (by omega) (by omega) hok hss hn63 q3 enh sx ef ep I apt hfr hnf fun v7 v8 v9 v10 v11 v12 v13 v14 H' S' s' f' p' I' => ⟨_, _, _, _, _, _, _, _, _, S', rfl, s', f', p', I'⟩
    · rintro σ Hx ⟨v6, v7, v8, v9, v10, v11, v12, v13, v14, S, rfl, sx, ef, ep, I⟩
      exact q Hx
end
end K79

set_option Elab.async false
set_option linter.all false
set_option maxRecDepth 100000
set_option maxHeartbeats 4000000
namespace K79
open PySem L2
theorem all_mk {l : PySem.W.OpenLaw} {w : World} {K : PySem.W.Frag} {h : Heap} {mg : Str → Option Value} {fz : Addr} {tk : Tok} (X : K.In h) (G : h.Ns mainGlobals mg) (hfa : mg "law" = some (.ref fz))
    {f0 : Addr} {od0 an0 : Option Addr} {sl0 : Array (Option Value)} {oc0 kV0 dc0 pm0 cd0 ct0 : Value}
    {f1 : Addr} {od1 an1 : Option Addr} {sl1 : Array (Option Value)} {oc1 kV1 dc1 pm1 cd1 ct1 : Value}
    {f2 : Addr} {od2 an2 : Option Addr} {sl2 : Array (Option Value)} {oc2 kV2 dc2 pm2 cd2 ct2 : Value}
    {f3 : Addr} {od3 an3 : Option Addr} {sl3 : Array (Option Value)} {oc3 kV3 dc3 pm3 cd3 ct3 : Value}
    {f4 : Addr} {od4 an4 : Option Addr} {sl4 : Array (Option Value)} {oc4 kV4 dc4 pm4 cd4 ct4 : Value}
    {f5 : Addr} {od5 an5 : Option Addr} {sl5 : Array (Option Value)} {oc5 kV5 dc5 pm5 cd5 ct5 : Value}
    {f6 : Addr} {od6 an6 : Option Addr} {sl6 : Array (Option Value)} {oc6 kV6 dc6 pm6 cd6 ct6 : Value}
    {f7 : Addr} {od7 an7 : Option Addr} {sl7 : Array (Option Value)} {oc7 kV7 dc7 pm7 cd7 ct7 : Value}
    {f8 : Addr} {od8 an8 : Option Addr} {sl8 : Array (Option Value)} {oc8 kV8 dc8 pm8 cd8 ct8 : Value}
    {f9 : Addr} {od9 an9 : Option Addr} {sl9 : Array (Option Value)} {oc9 kV9 dc9 pm9 cd9 ct9 : Value}
    {f10 : Addr} {od10 an10 : Option Addr} {sl10 : Array (Option Value)} {oc10 kV10 dc10 pm10 cd10 ct10 : Value}
    (a0 : PySem.W.nsIn K mainGlobals "blocks_for" = some (some (.ref f0))) (l0 : K.lookup f0 = some ⟨oc0, od0, .func (PySem.W.fnOf "blocks_for" "blocks_for" (defArgs s_blocks_for) (defBody s_blocks_for) (defScope s_blocks_for) .none kV0 dc0 pm0 an0 cd0 ct0), sl0⟩) (c0 : PySem.W.codeIn K cd0 "blocks_for" = true) (k0 : PySem.W.keepIn K (.ref f0) = true)
    (a1 : PySem.W.nsIn K mainGlobals "_law_cell" = some (some (.ref f1))) (l1 : K.lookup f1 = some ⟨oc1, od1, .func (PySem.W.fnOf "_law_cell" "_law_cell" (defArgs s_law_cell) (defBody s_law_cell) (defScope s_law_cell) .none kV1 dc1 pm1 an1 cd1 ct1), sl1⟩) (c1 : PySem.W.codeIn K cd1 "_law_cell" = true) (k1 : PySem.W.keepIn K (.ref f1) = true)
    (a2 : PySem.W.nsIn K mainGlobals "_law_mixed" = some (some (.ref f2))) (l2 : K.lookup f2 = some ⟨oc2, od2, .func (PySem.W.fnOf "_law_mixed" "_law_mixed" (defArgs s_law_mixed) (defBody s_law_mixed) (defScope s_law_mixed) .none kV2 dc2 pm2 an2 cd2 ct2), sl2⟩) (c2 : PySem.W.codeIn K cd2 "_law_mixed" = true) (k2 : PySem.W.keepIn K (.ref f2) = true)
    (a3 : PySem.W.nsIn K mainGlobals "_law_parts" = some (some (.ref f3))) (l3 : K.lookup f3 = some ⟨oc3, od3, .func (PySem.W.fnOf "_law_parts" "_law_parts" (defArgs s_law_parts) (defBody s_law_parts) (defScope s_law_parts) .none kV3 dc3 pm3 an3 cd3 ct3), sl3⟩) (c3 : PySem.W.codeIn K cd3 "_law_parts" = true) (k3 : PySem.W.keepIn K (.ref f3) = true)
    (a4 : PySem.W.nsIn K mainGlobals "_law_names" = some (some (.ref f4))) (l4 : K.lookup f4 = some ⟨oc4, od4, .func (PySem.W.fnOf "_law_names" "_law_names" (defArgs s_law_names) (defBody s_law_names) (defScope s_law_names) .none kV4 dc4 pm4 an4 cd4 ct4), sl4⟩) (c4 : PySem.W.codeIn K cd4 "_law_names" = true) (k4 : PySem.W.keepIn K (.ref f4) = true)
    (a5 : PySem.W.nsIn K mainGlobals "_law_filled" = some (some (.ref f5))) (l5 : K.lookup f5 = some ⟨oc5, od5, .func (PySem.W.fnOf "_law_filled" "_law_filled" (defArgs s_law_filled) (defBody s_law_filled) (defScope s_law_filled) .none kV5 dc5 pm5 an5 cd5 ct5), sl5⟩) (c5 : PySem.W.codeIn K cd5 "_law_filled" = true) (k5 : PySem.W.keepIn K (.ref f5) = true)
    (a6 : PySem.W.nsIn K mainGlobals "_law_change" = some (some (.ref f6))) (l6 : K.lookup f6 = some ⟨oc6, od6, .func (PySem.W.fnOf "_law_change" "_law_change" (defArgs s_law_change) (defBody s_law_change) (defScope s_law_change) .none kV6 dc6 pm6 an6 cd6 ct6), sl6⟩) (c6 : PySem.W.codeIn K cd6 "_law_change" = true) (k6 : PySem.W.keepIn K (.ref f6) = true)
    (a7 : PySem.W.nsIn K mainGlobals "_law_deed" = some (some (.ref f7))) (l7 : K.lookup f7 = some ⟨oc7, od7, .func (PySem.W.fnOf "_law_deed" "_law_deed" (defArgs s_law_deed) (defBody s_law_deed) (defScope s_law_deed) .none kV7 dc7 pm7 an7 cd7 ct7), sl7⟩) (c7 : PySem.W.codeIn K cd7 "_law_deed" = true) (k7 : PySem.W.keepIn K (.ref f7) = true)
    (a8 : PySem.W.nsIn K mainGlobals "_law_all" = some (some (.ref f8))) (l8 : K.lookup f8 = some ⟨oc8, od8, .func (PySem.W.fnOf "_law_all" "_law_all" (defArgs s_law_all) (defBody s_law_all) (defScope s_law_all) .none kV8 dc8 pm8 an8 cd8 ct8), sl8⟩) (c8 : PySem.W.codeIn K cd8 "_law_all" = true) (k8 : PySem.W.keepIn K (.ref f8) = true)
    (a9 : PySem.W.nsIn K mainGlobals "_law_spoil" = some (some (.ref f9))) (l9 : K.lookup f9 = some ⟨oc9, od9, .func (PySem.W.fnOf "_law_spoil" "_law_spoil" (defArgs s_law_spoil) (defBody s_law_spoil) (defScope s_law_spoil) .none kV9 dc9 pm9 an9 cd9 ct9), sl9⟩) (c9 : PySem.W.codeIn K cd9 "_law_spoil" = true) (k9 : PySem.W.keepIn K (.ref f9) = true)
    (a10 : PySem.W.nsIn K mainGlobals "law" = some (some (.ref f10))) (l10 : K.lookup f10 = some ⟨oc10, od10, .func (PySem.W.fnOf "law" "law" (defArgs s_law) (defBody s_law) (defScope s_law) .none kV10 dc10 pm10 an10 cd10 ct10), sl10⟩) (c10 : PySem.W.codeIn K cd10 "law" = true) (k10 : PySem.W.keepIn K (.ref f10) = true)
    {C_Floor : Addr} (aC_Floor : PySem.W.nsIn K mainGlobals "Floor" = some (some (.ref C_Floor)))
    {f_Floor___init__ : Addr} {od_Floor___init__ an_Floor___init__ : Option Addr} {sl_Floor___init__ : Array (Option Value)} {oc_Floor___init__ kV_Floor___init__ dc_Floor___init__ pm_Floor___init__ cd_Floor___init__ ct_Floor___init__ : Value}
    (a_Floor___init__ : PySem.W.findIn K (.ref C_Floor) "__init__" = some (some (.ref f_Floor___init__))) (i_Floor___init__ : PySem.W.isFn K (.ref f_Floor___init__) = true) (l_Floor___init__ : K.lookup f_Floor___init__ = some ⟨oc_Floor___init__, od_Floor___init__, .func (PySem.W.fnOf "__init__" "Floor.__init__" (defArgs s_Floor___init__) (defBody s_Floor___init__) (defScope s_Floor___init__) .none kV_Floor___init__ dc_Floor___init__ pm_Floor___init__ an_Floor___init__ cd_Floor___init__ ct_Floor___init__), sl_Floor___init__⟩) (c_Floor___init__ : PySem.W.codeIn K cd_Floor___init__ "Floor.__init__" = true) (k_Floor___init__ : PySem.W.keepIn K (.ref f_Floor___init__) = true)
    {f_Floor_look_for : Addr} {od_Floor_look_for an_Floor_look_for : Option Addr} {sl_Floor_look_for : Array (Option Value)} {oc_Floor_look_for kV_Floor_look_for dc_Floor_look_for pm_Floor_look_for cd_Floor_look_for ct_Floor_look_for : Value}
    (a_Floor_look_for : PySem.W.findIn K (.ref C_Floor) "look_for" = some (some (.ref f_Floor_look_for))) (i_Floor_look_for : PySem.W.isFn K (.ref f_Floor_look_for) = true) (l_Floor_look_for : K.lookup f_Floor_look_for = some ⟨oc_Floor_look_for, od_Floor_look_for, .func (PySem.W.fnOf "look_for" "Floor.look_for" (defArgs s_Floor_look_for) (defBody s_Floor_look_for) (defScope s_Floor_look_for) .none kV_Floor_look_for dc_Floor_look_for pm_Floor_look_for an_Floor_look_for cd_Floor_look_for ct_Floor_look_for), sl_Floor_look_for⟩) (c_Floor_look_for : PySem.W.codeIn K cd_Floor_look_for "Floor.look_for" = true) (k_Floor_look_for : PySem.W.keepIn K (.ref f_Floor_look_for) = true)
    {f_Floor_free_blocks : Addr} {od_Floor_free_blocks an_Floor_free_blocks : Option Addr} {sl_Floor_free_blocks : Array (Option Value)} {oc_Floor_free_blocks kV_Floor_free_blocks dc_Floor_free_blocks pm_Floor_free_blocks cd_Floor_free_blocks ct_Floor_free_blocks : Value}
    (a_Floor_free_blocks : PySem.W.findIn K (.ref C_Floor) "free_blocks" = some (some (.ref f_Floor_free_blocks))) (i_Floor_free_blocks : PySem.W.isFn K (.ref f_Floor_free_blocks) = true) (l_Floor_free_blocks : K.lookup f_Floor_free_blocks = some ⟨oc_Floor_free_blocks, od_Floor_free_blocks, .func (PySem.W.fnOf "free_blocks" "Floor.free_blocks" (defArgs s_Floor_free_blocks) (defBody s_Floor_free_blocks) (defScope s_Floor_free_blocks) .none kV_Floor_free_blocks dc_Floor_free_blocks pm_Floor_free_blocks an_Floor_free_blocks cd_Floor_free_blocks ct_Floor_free_blocks), sl_Floor_free_blocks⟩) (c_Floor_free_blocks : PySem.W.codeIn K cd_Floor_free_blocks "Floor.free_blocks" = true) (k_Floor_free_blocks : PySem.W.keepIn K (.ref f_Floor_free_blocks) = true)
    {f_Floor_keep : Addr} {od_Floor_keep an_Floor_keep : Option Addr} {sl_Floor_keep : Array (Option Value)} {oc_Floor_keep kV_Floor_keep dc_Floor_keep pm_Floor_keep cd_Floor_keep ct_Floor_keep : Value}
    (a_Floor_keep : PySem.W.findIn K (.ref C_Floor) "keep" = some (some (.ref f_Floor_keep))) (i_Floor_keep : PySem.W.isFn K (.ref f_Floor_keep) = true) (l_Floor_keep : K.lookup f_Floor_keep = some ⟨oc_Floor_keep, od_Floor_keep, .func (PySem.W.fnOf "keep" "Floor.keep" (defArgs s_Floor_keep) (defBody s_Floor_keep) (defScope s_Floor_keep) .none kV_Floor_keep dc_Floor_keep pm_Floor_keep an_Floor_keep cd_Floor_keep ct_Floor_keep), sl_Floor_keep⟩) (c_Floor_keep : PySem.W.codeIn K cd_Floor_keep "Floor.keep" = true) (k_Floor_keep : PySem.W.keepIn K (.ref f_Floor_keep) = true)
    {f_Floor_drop : Addr} {od_Floor_drop an_Floor_drop : Option Addr} {sl_Floor_drop : Array (Option Value)} {oc_Floor_drop kV_Floor_drop dc_Floor_drop pm_Floor_drop cd_Floor_drop ct_Floor_drop : Value}
    (a_Floor_drop : PySem.W.findIn K (.ref C_Floor) "drop" = some (some (.ref f_Floor_drop))) (i_Floor_drop : PySem.W.isFn K (.ref f_Floor_drop) = true) (l_Floor_drop : K.lookup f_Floor_drop = some ⟨oc_Floor_drop, od_Floor_drop, .func (PySem.W.fnOf "drop" "Floor.drop" (defArgs s_Floor_drop) (defBody s_Floor_drop) (defScope s_Floor_drop) .none kV_Floor_drop dc_Floor_drop pm_Floor_drop an_Floor_drop cd_Floor_drop ct_Floor_drop), sl_Floor_drop⟩) (c_Floor_drop : PySem.W.codeIn K cd_Floor_drop "Floor.drop" = true) (k_Floor_drop : PySem.W.keepIn K (.ref f_Floor_drop) = true)
    {f_Floor_words_of : Addr} {od_Floor_words_of an_Floor_words_of : Option Addr} {sl_Floor_words_of : Array (Option Value)} {oc_Floor_words_of kV_Floor_words_of dc_Floor_words_of pm_Floor_words_of cd_Floor_words_of ct_Floor_words_of : Value}
    (a_Floor_words_of : PySem.W.findIn K (.ref C_Floor) "words_of" = some (some (.ref f_Floor_words_of))) (i_Floor_words_of : PySem.W.isFn K (.ref f_Floor_words_of) = true) (l_Floor_words_of : K.lookup f_Floor_words_of = some ⟨oc_Floor_words_of, od_Floor_words_of, .func (PySem.W.fnOf "words_of" "Floor.words_of" (defArgs s_Floor_words_of) (defBody s_Floor_words_of) (defScope s_Floor_words_of) .none kV_Floor_words_of dc_Floor_words_of pm_Floor_words_of an_Floor_words_of cd_Floor_words_of ct_Floor_words_of), sl_Floor_words_of⟩) (c_Floor_words_of : PySem.W.codeIn K cd_Floor_words_of "Floor.words_of" = true) (k_Floor_words_of : PySem.W.keepIn K (.ref f_Floor_words_of) = true)
    {f_Floor_names : Addr} {od_Floor_names an_Floor_names : Option Addr} {sl_Floor_names : Array (Option Value)} {oc_Floor_names kV_Floor_names dc_Floor_names pm_Floor_names cd_Floor_names ct_Floor_names : Value}
    (a_Floor_names : PySem.W.findIn K (.ref C_Floor) "names" = some (some (.ref f_Floor_names))) (i_Floor_names : PySem.W.isFn K (.ref f_Floor_names) = true) (l_Floor_names : K.lookup f_Floor_names = some ⟨oc_Floor_names, od_Floor_names, .func (PySem.W.fnOf "names" "Floor.names" (defArgs s_Floor_names) (defBody s_Floor_names) (defScope s_Floor_names) .none kV_Floor_names dc_Floor_names pm_Floor_names an_Floor_names cd_Floor_names ct_Floor_names), sl_Floor_names⟩) (c_Floor_names : PySem.W.codeIn K cd_Floor_names "Floor.names" = true) (k_Floor_names : PySem.W.keepIn K (.ref f_Floor_names) = true)
    {f_Floor_free : Addr} {od_Floor_free an_Floor_free : Option Addr} {sl_Floor_free : Array (Option Value)} {oc_Floor_free kV_Floor_free dc_Floor_free pm_Floor_free cd_Floor_free ct_Floor_free : Value}
    (a_Floor_free : PySem.W.findIn K (.ref C_Floor) "free" = some (some (.ref f_Floor_free))) (i_Floor_free : PySem.W.isFn K (.ref f_Floor_free) = true) (l_Floor_free : K.lookup f_Floor_free = some ⟨oc_Floor_free, od_Floor_free, .func (PySem.W.fnOf "free" "Floor.free" (defArgs s_Floor_free) (defBody s_Floor_free) (defScope s_Floor_free) .none kV_Floor_free dc_Floor_free pm_Floor_free an_Floor_free cd_Floor_free ct_Floor_free), sl_Floor_free⟩) (c_Floor_free : PySem.W.codeIn K cd_Floor_free "Floor.free" = true) (k_Floor_free : PySem.W.keepIn K (.ref f_Floor_free) = true)
    {f_Floor_blocks_of : Addr} {od_Floor_blocks_of an_Floor_blocks_of : Option Addr} {sl_Floor_blocks_of : Array (Option Value)} {oc_Floor_blocks_of kV_Floor_blocks_of dc_Floor_blocks_of pm_Floor_blocks_of cd_Floor_blocks_of ct_Floor_blocks_of : Value}
    (a_Floor_blocks_of : PySem.W.findIn K (.ref C_Floor) "blocks_of" = some (some (.ref f_Floor_blocks_of))) (i_Floor_blocks_of : PySem.W.isFn K (.ref f_Floor_blocks_of) = true) (l_Floor_blocks_of : K.lookup f_Floor_blocks_of = some ⟨oc_Floor_blocks_of, od_Floor_blocks_of, .func (PySem.W.fnOf "blocks_of" "Floor.blocks_of" (defArgs s_Floor_blocks_of) (defBody s_Floor_blocks_of) (defScope s_Floor_blocks_of) .none kV_Floor_blocks_of dc_Floor_blocks_of pm_Floor_blocks_of an_Floor_blocks_of cd_Floor_blocks_of ct_Floor_blocks_of), sl_Floor_blocks_of⟩) (c_Floor_blocks_of : PySem.W.codeIn K cd_Floor_blocks_of "Floor.blocks_of" = true) (k_Floor_blocks_of : PySem.W.keepIn K (.ref f_Floor_blocks_of) = true)
    {f_Floor_block : Addr} {od_Floor_block an_Floor_block : Option Addr} {sl_Floor_block : Array (Option Value)} {oc_Floor_block kV_Floor_block dc_Floor_block pm_Floor_block cd_Floor_block ct_Floor_block : Value}
    (a_Floor_block : PySem.W.findIn K (.ref C_Floor) "block" = some (some (.ref f_Floor_block))) (i_Floor_block : PySem.W.isFn K (.ref f_Floor_block) = true) (l_Floor_block : K.lookup f_Floor_block = some ⟨oc_Floor_block, od_Floor_block, .func (PySem.W.fnOf "block" "Floor.block" (defArgs s_Floor_block) (defBody s_Floor_block) (defScope s_Floor_block) .none kV_Floor_block dc_Floor_block pm_Floor_block an_Floor_block cd_Floor_block ct_Floor_block), sl_Floor_block⟩) (c_Floor_block : PySem.W.codeIn K cd_Floor_block "Floor.block" = true) (k_Floor_block : PySem.W.keepIn K (.ref f_Floor_block) = true)
    (pg_Floor : PySem.W.plainGet K C_Floor Str.empty = true) (hd_Floor : PySem.W.hasDictIn K C_Floor = true) (po_Floor : PySem.W.plainOver K C_Floor = true) (sa_Floor : PySem.W.findIn K (.ref C_Floor) "__setattr__" = some (some (.builtin "object.__setattr__"))) (mk_Floor : PySem.W.makesIn K C_Floor = true) (kc_Floor : PySem.W.keepIn K (.ref C_Floor) = true)
    (n_Floor_contents : PySem.W.findIn K (.ref C_Floor) "contents" = some none)
    (n_Floor_owned : PySem.W.findIn K (.ref C_Floor) "owned" = some none)
    (n_Floor_lengths : PySem.W.findIn K (.ref C_Floor) "lengths" = some none)
    {E_TownError : Addr} (ae_TownError : PySem.W.nsIn K mainGlobals "TownError" = some (some (.ref E_TownError)))
    {E_NoRoom : Addr} (ae_NoRoom : PySem.W.nsIn K mainGlobals "NoRoom" = some (some (.ref E_NoRoom)))
    {E_NoFile : Addr} (ae_NoFile : PySem.W.nsIn K mainGlobals "NoFile" = some (some (.ref E_NoFile)))
    (xc_TownError : PySem.W.excIn K E_TownError bmV "ValueError.__new__" = true) (xk_TownError : PySem.W.ktsIn K E_TownError "BaseException" = true) (xu_TownError : (Value.ref E_TownError :: xcMro K E_TownError).contains (.ref E_TownError) = true)
    (xc_NoRoom : PySem.W.excIn K E_NoRoom bmV "ValueError.__new__" = true) (xk_NoRoom : PySem.W.ktsIn K E_NoRoom "BaseException" = true) (xu_NoRoom : (Value.ref E_NoRoom :: xcMro K E_NoRoom).contains (.ref E_TownError) = true)
    (xc_NoFile : PySem.W.excIn K E_NoFile bmV "ValueError.__new__" = true) (xk_NoFile : PySem.W.ktsIn K E_NoFile "BaseException" = true) (xu_NoFile : (Value.ref E_NoFile :: xcMro K E_NoFile).contains (.ref E_TownError) = true)
    {tk_BLOCK : Tok} (fw_BLOCK : PySem.W.nsIn K mainGlobals "BLOCK" = some (some (.int 16 tk_BLOCK)))
    (z_len : PySem.W.nsIn K mainGlobals "len" = some none)
    (z_range : PySem.W.nsIn K mainGlobals "range" = some none)
    (z_list : PySem.W.nsIn K mainGlobals "list" = some none)
    (z_isinstance : PySem.W.nsIn K mainGlobals "isinstance" = some none)
    (z_int : PySem.W.nsIn K mainGlobals "int" = some none)
    (z_bool : PySem.W.nsIn K mainGlobals "bool" = some none)
    (z_enumerate : PySem.W.nsIn K mainGlobals "enumerate" = some none)
    (z_all : PySem.W.nsIn K mainGlobals "all" = some none)
    (z_abs : PySem.W.nsIn K mainGlobals "abs" = some none)
    (z_max : PySem.W.nsIn K mainGlobals "max" = some none)
    (z_min : PySem.W.nsIn K mainGlobals "min" = some none)
    (z_sorted : PySem.W.nsIn K mainGlobals "sorted" = some none)
    : ∃ fd : FuncData, (∀ (s : Shared) (v : Value), BindsTo s fd ⟨[v], []⟩ [("_law_script", v)]) ∧ ∀ base : Heap, K.In base → base.Ns mainGlobals mg → FnOk l.prog w K mg base CX0 7 fz fd ["_law_script"] (sp_law K) := by
  have e := hfa.symm.trans (PySem.W.mg_of X G a10)
  cases e
  have T : Bt mg := ⟨PySem.W.mg_none_of X G z_len, PySem.W.mg_none_of X G z_range, PySem.W.mg_none_of X G z_list, PySem.W.mg_none_of X G z_isinstance, PySem.W.mg_none_of X G z_int, PySem.W.mg_none_of X G z_bool, PySem.W.mg_none_of X G z_enumerate, PySem.W.mg_none_of X G z_all, PySem.W.mg_none_of X G z_abs, PySem.W.mg_none_of X G z_max, PySem.W.mg_none_of X G z_min, PySem.W.mg_none_of X G z_sorted⟩
  have C : Ct K mg := ⟨⟨_, PySem.W.mg_of X G fw_BLOCK⟩⟩
  have F0 := fun_mk (st := s_blocks_for) l0 c0 k0
  have b0 := F0.binds (ps := ["words"]) fun _ _ _ _ _ _ us hl => match us, hl with | [_], _ => rfl
  have F1 := fun_mk (st := s_law_cell) l1 c1 k1
  have b1 := F1.binds (ps := ["_law_script", "_law_k"]) fun _ _ _ _ _ _ us hl => match us, hl with | [_, _], _ => rfl
  have F2 := fun_mk (st := s_law_mixed) l2 c2 k2
  have b2 := F2.binds (ps := ["_law_cell_here", "_law_k"]) fun _ _ _ _ _ _ us hl => match us, hl with | [_, _], _ => rfl
  have F3 := fun_mk (st := s_law_parts) l3 c3 k3
  have b3 := F3.binds (ps := ["_law_script", "_law_k", "_law_sizes"]) fun _ _ _ _ _ _ us hl => match us, hl with | [_, _, _], _ => rfl
  have F4 := fun_mk (st := s_law_names) l4 c4 k4
  have b4 := F4.binds (ps := ["_law_number"]) fun _ _ _ _ _ _ us hl => match us, hl with | [_], _ => rfl
  have F5 := fun_mk (st := s_law_filled) l5 c5 k5
  have b5 := F5.binds (ps := ["_law_count", "_law_first", "_law_step"]) fun _ _ _ _ _ _ us hl => match us, hl with | [_, _, _], _ => rfl
  have F6 := fun_mk (st := s_law_change) l6 c6 k6
  have b6 := F6.binds (ps := ["_law_floor", "_law_what", "_law_name", "_law_words"]) fun _ _ _ _ _ _ us hl => match us, hl with | [_, _, _, _], _ => rfl
  have F7 := fun_mk (st := s_law_deed) l7 c7 k7
  have b7 := F7.binds (ps := ["_law_script", "_law_k", "_law_names_here"]) fun _ _ _ _ _ _ us hl => match us, hl with | [_, _, _], _ => rfl
  have F8 := fun_mk (st := s_law_all) l8 c8 k8
  have b8 := F8.binds (ps := ["_law_floor", "_law_blocks"]) fun _ _ _ _ _ _ us hl => match us, hl with | [_, _], _ => rfl
  have F9 := fun_mk (st := s_law_spoil) l9 c9 k9
  have b9 := F9.binds (ps := ["_law_floor", "_law_blocks"]) fun _ _ _ _ _ _ us hl => match us, hl with | [_, _], _ => rfl
  have F10 := fun_mk (st := s_law) l10 c10 k10
  have F_Floor___init__ := fun_mk (st := s_Floor___init__) l_Floor___init__ c_Floor___init__ k_Floor___init__
  have b_Floor___init__ := F_Floor___init__.binds (ps := ["self", "blocks"]) fun _ _ _ _ _ _ us hl => match us, hl with | [_, _], _ => rfl
  have F_Floor_look_for := fun_mk (st := s_Floor_look_for) l_Floor_look_for c_Floor_look_for k_Floor_look_for
  have b_Floor_look_for := F_Floor_look_for.binds (ps := ["self", "name"]) fun _ _ _ _ _ _ us hl => match us, hl with | [_, _], _ => rfl
  have F_Floor_free_blocks := fun_mk (st := s_Floor_free_blocks) l_Floor_free_blocks c_Floor_free_blocks k_Floor_free_blocks
  have b_Floor_free_blocks := F_Floor_free_blocks.binds (ps := ["self"]) fun _ _ _ _ _ _ us hl => match us, hl with | [_], _ => rfl
  have F_Floor_keep := fun_mk (st := s_Floor_keep) l_Floor_keep c_Floor_keep k_Floor_keep
  have b_Floor_keep := F_Floor_keep.binds (ps := ["self", "name", "words"]) fun _ _ _ _ _ _ us hl => match us, hl with | [_, _, _], _ => rfl
  have F_Floor_drop := fun_mk (st := s_Floor_drop) l_Floor_drop c_Floor_drop k_Floor_drop
  have b_Floor_drop := F_Floor_drop.binds (ps := ["self", "name"]) fun _ _ _ _ _ _ us hl => match us, hl with | [_, _], _ => rfl
  have F_Floor_words_of := fun_mk (st := s_Floor_words_of) l_Floor_words_of c_Floor_words_of k_Floor_words_of
  have b_Floor_words_of := F_Floor_words_of.binds (ps := ["self", "name"]) fun _ _ _ _ _ _ us hl => match us, hl with | [_, _], _ => rfl
  have F_Floor_names := fun_mk (st := s_Floor_names) l_Floor_names c_Floor_names k_Floor_names
  have b_Floor_names := F_Floor_names.binds (ps := ["self"]) fun _ _ _ _ _ _ us hl => match us, hl with | [_], _ => rfl
  have F_Floor_free := fun_mk (st := s_Floor_free) l_Floor_free c_Floor_free k_Floor_free
  have b_Floor_free := F_Floor_free.binds (ps := ["self"]) fun _ _ _ _ _ _ us hl => match us, hl with | [_], _ => rfl
  have F_Floor_blocks_of := fun_mk (st := s_Floor_blocks_of) l_Floor_blocks_of c_Floor_blocks_of k_Floor_blocks_of
  have b_Floor_blocks_of := F_Floor_blocks_of.binds (ps := ["self", "name"]) fun _ _ _ _ _ _ us hl => match us, hl with | [_, _], _ => rfl
  have F_Floor_block := fun_mk (st := s_Floor_block) l_Floor_block c_Floor_block k_Floor_block
  have b_Floor_block := F_Floor_block.binds (ps := ["self", "number"]) fun _ _ _ _ _ _ us hl => match us, hl with | [_, _], _ => rfl
  have z0 : Mc K mg C_Floor f_Floor___init__ _ := ⟨⟨pg_Floor, hd_Floor, po_Floor, sa_Floor⟩, ⟨mk_Floor, a_Floor___init__, i_Floor___init__, kc_Floor⟩, F_Floor___init__, b_Floor___init__, PySem.W.mg_of X G aC_Floor, n_Floor_contents, n_Floor_owned, n_Floor_lengths⟩
  exact ⟨PySem.W.fnOf "law" "law" (defArgs s_law) (defBody s_law) (defScope s_law) .none kV10 dc10 pm10 an10 cd10 ct10, fun s v => .of_eq rfl, fun base _ _ => ok_law F10 T C ⟨F0, PySem.W.mg_of X G a0, b0⟩ ⟨F1, PySem.W.mg_of X G a1, b1⟩ ⟨F2, PySem.W.mg_of X G a2, b2⟩ ⟨F3, PySem.W.mg_of X G a3, b3⟩ ⟨F4, PySem.W.mg_of X G a4, b4⟩ ⟨F5, PySem.W.mg_of X G a5, b5⟩ ⟨F6, PySem.W.mg_of X G a6, b6⟩ ⟨F7, PySem.W.mg_of X G a7, b7⟩ ⟨F8, PySem.W.mg_of X G a8, b8⟩ ⟨F9, PySem.W.mg_of X G a9, b9⟩ z0 ⟨F_Floor_look_for, ⟨a_Floor_look_for, i_Floor_look_for, k_Floor_look_for⟩, b_Floor_look_for⟩ ⟨F_Floor_free_blocks, ⟨a_Floor_free_blocks, i_Floor_free_blocks, k_Floor_free_blocks⟩, b_Floor_free_blocks⟩ ⟨F_Floor_keep, ⟨a_Floor_keep, i_Floor_keep, k_Floor_keep⟩, b_Floor_keep⟩ ⟨F_Floor_drop, ⟨a_Floor_drop, i_Floor_drop, k_Floor_drop⟩, b_Floor_drop⟩ ⟨F_Floor_words_of, ⟨a_Floor_words_of, i_Floor_words_of, k_Floor_words_of⟩, b_Floor_words_of⟩ ⟨F_Floor_names, ⟨a_Floor_names, i_Floor_names, k_Floor_names⟩, b_Floor_names⟩ ⟨F_Floor_free, ⟨a_Floor_free, i_Floor_free, k_Floor_free⟩, b_Floor_free⟩ ⟨F_Floor_blocks_of, ⟨a_Floor_blocks_of, i_Floor_blocks_of, k_Floor_blocks_of⟩, b_Floor_blocks_of⟩ ⟨F_Floor_block, ⟨a_Floor_block, i_Floor_block, k_Floor_block⟩, b_Floor_block⟩ ⟨PySem.W.mg_of X G ae_TownError, xc_TownError, xk_TownError, xu_TownError⟩ ⟨PySem.W.mg_of X G ae_NoRoom, xc_NoRoom, xk_NoRoom, xu_NoRoom⟩ ⟨PySem.W.mg_of X G ae_NoFile, xc_NoFile, xk_NoFile, xu_NoFile⟩⟩
theorem walk {l : PySem.W.OpenLaw} {q : Program} {loose : List Str} {XP : (Str → Option Value) → Heap → Prop} {YP : World → Heap → Prop} {d : DefRec} {K : Params → PySem.W.Frag} (hn : l.most = some 63) (hdf : d.params.defaults = [])
    (hY : ∀ (w : World) (h : Heap), YP w h → (K w.params).In h)
    (F : ∀ (w : World) (mg : Str → Option Value) (fa : Addr) (h : Heap), (K w.params).In h → h.Ns mainGlobals mg → mg d.name = some (.ref fa) →
      ∃ fd : FuncData, (∀ (s : Shared) (u : Value), BindsTo s fd ⟨[u], []⟩ [("_law_script", u)]) ∧ ∀ base : Heap, (K w.params).In base → base.Ns mainGlobals mg → FnOk l.prog w (K w.params) mg base CX0 7 fa fd ["_law_script"] (sp_law (K w.params))) :
    PySem.W.WalkO q loose XP YP l.row.toRowW d [] (fun f vs => PySem.call f vs) :=
  L2.walk_of (n := 63) (k := 7) (x := "_law_script") (CX := fun _ => CX0) (sp := fun w => sp_law (K w.params)) hn (by decide) hdf ⟨rfl, by decide, by decide⟩ hY F (fun _ _ a ns hl _ hS => ⟨a, ns, rfl, hS, hl, fun _ => rfl⟩) fun _ _ _ _ _ z => z
end K79
namespace PySem.W.Fast
def tw3211601886492341670:=()
def tw17755064316357550237:=()
def tw16667627313327246639:=()
def tw4450734625036721921:=()
def tw17111700430061872169:=()
def tw14749420285649964989:=()
def tw10539831158851434223:=()
def tw7769044015785914586:=()
def tw12454780486048213159:=()
def tw14190778183537895202:=()
def tw2600760149960645309:=()
def tw18076580952354641044:=()
def tw15861947779679176604:=()
def tw17412423691170217835:=()
def tw8237332698371751735:=()
def tw4535163610310497548:=()
def tw17694077256408576342:=()
def tw10705090480556924480:=()
def tw16902694158855971927:=()
def tw15021734071099801710:=()
def tw17498249620432647558:=()
def tw12905464085745141411:=()
def tw4441612783974246122:=()
def tw15495191687908001572:=()
def tw3460774039882007993:=()
def tw12740919817163349259:=()
def tw1504793224542177885:=()
def tw10622421072691766484:=()
def tw15766104116143462701:=()
def tw9978287985896016358:=()
def tw1897762712095164152:=()
def tw17654298457534343938:=()
def tw12857630685315926416:=()
def tw4582733208521703126:=()
def tw2585452402309582490:=()
def tw4484624221884160499:=()
def tw18288489013776491459:=()
def tw18149177213544646787:=()
def tw16019318765803971333:=()
def tw9782646723461185933:=()
def tw12885083798823894732:=()
def tw1313290264137222382:=()
def tw7762071919686996230:=()
def tw16891407692225050725:=()
def tw6691589509196114852:=()
def tw1633712079270392291:=()
def tw1546222245757572147:=()
def tw16412442817788486555:=()
def tw10232848435607440145:=()
def tw15820440496939183017:=()
def tw15614933128770257555:=()
def tw18003301505518693862:=()
def tw12308360761099582521:=()
def tw17507672308210425600:=()
def tw15548238933738231706:=()
def tw7426104914835232899:=()
def tw13092556291976277369:=()
def tw4277302019185426327:=()
def tw808038225490914116:=()
def tw17953810776171400939:=()
def tw10631214516222532855:=()
def tw662457358970203544:=()
def tw9193296799632903998:=()
def tw14550198257502102477:=()
def tw2576759351040937531:=()
def tw17281025454277308789:=()
def tw12511791228226111502:=()
def tw52516849044643529:=()
def tw6958033482029053562:=()
def tw7374622926965260947:=()
def tw6224284935361413001:=()
def tw2541736841255128312:=()
def tw10394579888416496223:=()
def tw1382454242391371089:=()
def tw10990103975582334478:=()
def tw4680579636159034648:=()
def tw2468523478793983138:=()
def tw1542611319006370548:=()
def tw15634403802164098786:=()
def tw2169020300847067665:=()
def tw6172264073571452999:=()
def tw7367806808084331220:=()
def tw9996000139357826953:=()
def tw15148884062605126492:=()
def tw17394088868332496876:=()
def tw1545433796486286266:=()
def tw17352889225721798450:=()
def tw16658917924419206001:=()
def tw1473952947899158290:=()
def tw1679460335087538037:=()
def tw2338781546139110409:=()
def tw7810192927865271523:=()
def tw11789203138980233589:=()
def tw13971651848416299229:=()
def tw67165425570943829:=()
def tw1000869793415970850:=()
def tw17382139369567300602:=()
def tw2354122482181933167:=()
def tw16262335579913750454:=()
def tw8294657164815383563:=()
def tw8825207622854055193:=()
def tw9275251911789599362:=()
def tw4941705993956843213:=()
def tw17231783391560640788:=()
def tw17654518837436791901:=()
def tw475760999359713776:=()
def tw7484343206352883760:=()
def tw14294056290935021399:=()
def tw1447935786761869832:=()
def tw3578935351664556476:=()
def tw1611336790215844797:=()
def tw642705739496938416:=()
def tw9087098370587412438:=()
def tw16751635173989065941:=()
def tw7453107626559974308:=()
def tw11681297656071755044:=()
def tw753282778660200581:=()
def tw15420325714970047286:=()
def tw6820780947002265265:=()
def tw13145707728028326212:=()
def tw8527914668853567153:=()
def tw9157917701204498519:=()
def tw6257934428148489221:=()
def tw6513641424571847839:=()
def tw2850969330348129095:=()
def tw11729884380321433461:=()
def tw385007043256489033:=()
def tw9186802214715505046:=()
def tw16130499866826005235:=()
def tw15017983175799184587:=()
def tw6030773160727188717:=()
def tw17571106251984150977:=()
def tw1813762461476443928:=()
def tw17122071173119061920:=()
def tw16899087673776774670:=()
def tw5591425546118180120:=()
def tw6502566589305543699:=()
def tw16764794074022904567:=()
def tw6829921383842227506:=()
def tw17881380839294639400:=()
def tw10715511321652240794:=()
def tw10248180992955883982:=()
def tw9658045052067630494:=()
def tw5540552197362033494:=()
def tw11866422389491428364:=()
def tw17053739124175538076:=()
def tw4374954425187429227:=()
def tw4985097736063627177:=()
def tw5551373386552914759:=()
def tw7979647419295293706:=()
def tw18158382361489400468:=()
def tw10466480702964870112:=()
def tw17319422290276115339:=()
def tw14531294291244849304:=()
def tw936405576465668476:=()
def tw15734828046568256040:=()
def tw5648107794353735629:=()
def tw9911539937174963275:=()
def tw16702599557552631499:=()
def tw23112326674744797:=()
def tw12706695872241908600:=()
def tw5808214873601821795:=()
def tw12855997282298818025:=()
def tw10965422572521160525:=()
def tw14583199585928394954:=()
def tw17673155127224085726:=()
def tw14723494254755156048:=()
def tw604102633572887754:=()
def tw14016150553321615479:=()
def tw10159723980047423024:=()
def tw12839481792096989528:=()
def tw9241368733168503990:=()
def tw2272698233805346442:=()
def tw3703374893110355184:=()
def tw2781151378673245959:=()
def tw15332748045857292070:=()
def tw17795423636376881202:=()
def tw11409124075701637115:=()
def tw7571101244263064298:=()
def tw15189072638668014595:=()
def tw11200873771877434986:=()
def tw17786676950852449422:=()
def tw9549817057405474057:=()
def tw7193867999553221687:=()
def tw5935508180520408304:=()
def tw6221576273055023866:=()
def tw7061306458412334003:=()
def tw18225261780254186716:=()
def tw13226463283364006907:=()
def tw18129727122331935718:=()
def tw3245671541148388720:=()
def tw1232011067271476971:=()
def tw12326383419829971518:=()
def tw1232090310782160853:=()
def tw14759763771343986203:=()
def tw4060655429031267252:=()
def tw12973105259305848635:=()
def tw12876644135677074918:=()
def tw12833294812557375389:=()
def tw18347695124353177259:=()
def tw16440391123507421756:=()
def tw10598598003821233694:=()
def tw17935647944309918946:=()
def tw7170813328553761547:=()
def tw17511160728084556513:=()
def tw11384078329969053635:=()
def tw13317357825784819027:=()
def tw9962508180943921692:=()
def tw1170054842969301485:=()
def tw17664337570219388081:=()
def tw1082256792771982803:=()
def tw14809145083598362333:=()
def tw17399255948989971664:=()
def tw7884753572844643180:=()
end PySem.W.Fast
open PySem PySem.W PyProof.Rows
set_option maxRecDepth 100000 in
set_option maxHeartbeats 0 in
theorem PySem.Challenge.cw_gatetown_k79_floors_apart_holds : PySem.Challenge.rw_gatetown_k79_floors_apart.Holds := by
  w_on; o_law; k_head; (case hw => w_witness2)
  k_fill
  refine K79.walk (l := PySem.Challenge.rw_gatetown_k79_floors_apart) rfl rfl (fun w h Y => PySem.W.kIn_of Y) ?F
  case F =>
    intro w mg fa h KX G hmg
    refine' K79.all_mk (tk := 0) KX G hmg ?a0 ?l0 ?c0 ?k0 ?a1 ?l1 ?c1 ?k1 ?a2 ?l2 ?c2 ?k2 ?a3 ?l3 ?c3 ?k3 ?a4 ?l4 ?c4 ?k4 ?a5 ?l5 ?c5 ?k5 ?a6 ?l6 ?c6 ?k6 ?a7 ?l7 ?c7 ?k7 ?a8 ?l8 ?c8 ?k8 ?a9 ?l9 ?c9 ?k9 ?a10 ?l10 ?c10 ?k10 ?aC_Floor ?a_Floor___init__ ?i_Floor___init__ ?l_Floor___init__ ?c_Floor___init__ ?k_Floor___init__ ?a_Floor_look_for ?i_Floor_look_for ?l_Floor_look_for ?c_Floor_look_for ?k_Floor_look_for ?a_Floor_free_blocks ?i_Floor_free_blocks ?l_Floor_free_blocks ?c_Floor_free_blocks ?k_Floor_free_blocks ?a_Floor_keep ?i_Floor_keep ?l_Floor_keep ?c_Floor_keep ?k_Floor_keep ?a_Floor_drop ?i_Floor_drop ?l_Floor_drop ?c_Floor_drop ?k_Floor_drop ?a_Floor_words_of ?i_Floor_words_of ?l_Floor_words_of ?c_Floor_words_of ?k_Floor_words_of ?a_Floor_names ?i_Floor_names ?l_Floor_names ?c_Floor_names ?k_Floor_names ?a_Floor_free ?i_Floor_free ?l_Floor_free ?c_Floor_free ?k_Floor_free ?a_Floor_blocks_of ?i_Floor_blocks_of ?l_Floor_blocks_of ?c_Floor_blocks_of ?k_Floor_blocks_of ?a_Floor_block ?i_Floor_block ?l_Floor_block ?c_Floor_block ?k_Floor_block ?pg_Floor ?hd_Floor ?po_Floor ?sa_Floor ?mk_Floor ?kc_Floor ?n_Floor_contents ?n_Floor_owned ?n_Floor_lengths ?ae_TownError ?ae_NoRoom ?ae_NoFile ?xc_TownError ?xk_TownError ?xu_TownError ?xc_NoRoom ?xk_NoRoom ?xu_NoRoom ?xc_NoFile ?xk_NoFile ?xu_NoFile ?fw_BLOCK ?z_len ?z_range ?z_list ?z_isinstance ?z_int ?z_bool ?z_enumerate ?z_all ?z_abs ?z_max ?z_min ?z_sorted
    (case a0 => k_is)
    (case l0 => k_is)
    (case c0 => k_is)
    (case k0 => k_is)
    (case a1 => k_is)
    (case l1 => k_is)
    (case c1 => k_is)
    (case k1 => k_is)
    (case a2 => k_is)
    (case l2 => k_is)
    (case c2 => k_is)
    (case k2 => k_is)
    (case a3 => k_is)
    (case l3 => k_is)
    (case c3 => k_is)
    (case k3 => k_is)
    (case a4 => k_is)
    (case l4 => k_is)
    (case c4 => k_is)
    (case k4 => k_is)
    (case a5 => k_is)
    (case l5 => k_is)
    (case c5 => k_is)
    (case k5 => k_is)
    (case a6 => k_is)
    (case l6 => k_is)
    (case c6 => k_is)
    (case k6 => k_is)
    (case a7 => k_is)
    (case l7 => k_is)
    (case c7 => k_is)
    (case k7 => k_is)
    (case a8 => k_is)
    (case l8 => k_is)
    (case c8 => k_is)
    (case k8 => k_is)
    (case a9 => k_is)
    (case l9 => k_is)
    (case c9 => k_is)
    (case k9 => k_is)
    (case a10 => k_is)
    (case l10 => k_is)
    (case c10 => k_is)
    (case k10 => k_is)
    (case aC_Floor => k_is)
    (case a_Floor___init__ => k_is)
    (case i_Floor___init__ => k_is)
    (case l_Floor___init__ => k_is)
    (case c_Floor___init__ => k_is)
    (case k_Floor___init__ => k_is)
    (case a_Floor_look_for => k_is)
    (case i_Floor_look_for => k_is)
    (case l_Floor_look_for => k_is)
    (case c_Floor_look_for => k_is)
    (case k_Floor_look_for => k_is)
    (case a_Floor_free_blocks => k_is)
    (case i_Floor_free_blocks => k_is)
    (case l_Floor_free_blocks => k_is)
    (case c_Floor_free_blocks => k_is)
    (case k_Floor_free_blocks => k_is)
    (case a_Floor_keep => k_is)
    (case i_Floor_keep => k_is)
    (case l_Floor_keep => k_is)
    (case c_Floor_keep => k_is)
    (case k_Floor_keep => k_is)
    (case a_Floor_drop => k_is)
    (case i_Floor_drop => k_is)
    (case l_Floor_drop => k_is)
    (case c_Floor_drop => k_is)
    (case k_Floor_drop => k_is)
    (case a_Floor_words_of => k_is)
    (case i_Floor_words_of => k_is)
    (case l_Floor_words_of => k_is)
    (case c_Floor_words_of => k_is)
    (case k_Floor_words_of => k_is)
    (case a_Floor_names => k_is)
    (case i_Floor_names => k_is)
    (case l_Floor_names => k_is)
    (case c_Floor_names => k_is)
    (case k_Floor_names => k_is)
    (case a_Floor_free => k_is)
    (case i_Floor_free => k_is)
    (case l_Floor_free => k_is)
    (case c_Floor_free => k_is)
    (case k_Floor_free => k_is)
    (case a_Floor_blocks_of => k_is)
    (case i_Floor_blocks_of => k_is)
    (case l_Floor_blocks_of => k_is)
    (case c_Floor_blocks_of => k_is)
    (case k_Floor_blocks_of => k_is)
    (case a_Floor_block => k_is)
    (case i_Floor_block => k_is)
    (case l_Floor_block => k_is)
    (case c_Floor_block => k_is)
    (case k_Floor_block => k_is)
    (case pg_Floor => k_is)
    (case hd_Floor => k_is)
    (case po_Floor => k_is)
    (case sa_Floor => k_is)
    (case mk_Floor => k_is)
    (case kc_Floor => k_is)
    (case n_Floor_contents => k_is)
    (case n_Floor_owned => k_is)
    (case n_Floor_lengths => k_is)
    (case ae_TownError => k_is)
    (case ae_NoRoom => k_is)
    (case ae_NoFile => k_is)
    (case xc_TownError => k_exc)
    (case xk_TownError => first | k_is | kernel_rfl | rfl)
    (case xu_TownError => first | k_is | kernel_rfl | rfl)
    (case xc_NoRoom => k_exc)
    (case xk_NoRoom => first | k_is | kernel_rfl | rfl)
    (case xu_NoRoom => first | k_is | kernel_rfl | rfl)
    (case xc_NoFile => k_exc)
    (case xk_NoFile => first | k_is | kernel_rfl | rfl)
    (case xu_NoFile => first | k_is | kernel_rfl | rfl)
    (case fw_BLOCK => k_is)
    (case z_len => k_is)
    (case z_range => k_is)
    (case z_list => k_is)
    (case z_isinstance => k_is)
    (case z_int => k_is)
    (case z_bool => k_is)
    (case z_enumerate => k_is)
    (case z_all => k_is)
    (case z_abs => k_is)
    (case z_max => k_is)
    (case z_min => k_is)
    (case z_sorted => k_is)
